/- Ahead of the program's layer 11: a header's reading in the program's order; runs under way; which blocks an opening may have turned. Nothing of the program is named here. -/
import Derived.Test.YtaalbaiglkadlaaGreatID
import Derived.Test.YtaalbaiglkadlaaGreatIOpen0
namespace Go.Proofs.YtaalbaiglkadlaaGreat
open Go.RowKit Go.Lib

theorem bindP_assoc {α β γ : Type} (P : Ps α) (f : α → Ps β) (g : β → Ps γ) : bindP (bindP P f) g = bindP P fun a => bindP (f a) g := by
  funext B T i
  unfold bindP
  cases P B T i with
  | error e => rfl
  | ok x => rfl
theorem pureP_bind {α β : Type} (a : α) (g : α → Ps β) : bindP (pureP a) g = g a := rfl
/-- A header, without what is asked of the symbol that ends. -/
def head3 (a b : Nat) (fl : List Nat) : Ps (List Int × List Int) := bindP (chkP (goodB (fl.map fun (x : Nat) => (x : Int))) 4) fun _ => bindP (runsP fl (a + 257 + (b + 1)) 400 []) fun out => pureP (out.take (a + 257), out.drop (a + 257))
def head2 (a b k : Nat) : Ps (List Int × List Int) := bindP (chkP (decide (a + 257 ≤ 286) && decide (b + 1 ≤ 30)) 3) fun _ => bindP (firstP (k + 4) 0 (List.replicate 19 0)) (head3 a b)
def headP : Ps (List Int × List Int) := bindP (rdP 5) fun a => bindP (rdP 5) fun b => bindP (rdP 4) fun k => head2 a b k
/-- What is asked of the symbol that ends. -/
def stopK (ab : List Int × List Int) : Ps Unit := chkP (decide (ab.1.getD 256 0 ≠ 0)) 4
theorem lens4_head (a : Nat) : lens4 a = fun out => bindP (pureP (out.take (a + 257), out.drop (a + 257))) fun ab => bindP (stopK ab) fun _ => pureP ab := by
  funext out
  rw [pureP_bind]
  unfold lens4 stopK
  have e : (out.take (a + 257)).getD 256 0 = out.getD 256 0 := by
    rw [List.getD_eq_getElem?_getD, List.getD_eq_getElem?_getD, List.getElem?_take, if_pos (by omega)]
  rw [e]
theorem lens_head : lensP = bindP headP fun ab => bindP (stopK ab) fun _ => pureP ab := by
  rw [lens_split]
  unfold headP
  simp only [bindP_assoc]
  congr 1; funext a; congr 1; funext b; congr 1; funext k
  unfold lens2 head2
  simp only [bindP_assoc]
  congr 1; funext _; congr 1; funext fl
  unfold lens3 head3
  simp only [bindP_assoc, lens4_head]
/-- The tokens of a block, by lengths, in the program's order. -/
def codedP (limit : Int) (out : List Nat) (ab : List Int × List Int) : Ps (List Nat) := bindP (chkP (goodB ab.1 && goodB ab.2) 4) fun _ => bindP (stopK ab) fun _ => pourP (ab.1.map Int.toNat) (ab.2.map Int.toNat) limit 1000000 out
theorem chk_swap {α : Type} (b c : Bool) (P : Ps α) : (bindP (chkP b 4) fun _ => bindP (chkP c 4) fun _ => P) = bindP (chkP c 4) fun _ => bindP (chkP b 4) fun _ => P := by
  cases b <;> cases c <;> rfl
theorem lens_coded (limit : Int) (out : List Nat) : (bindP lensP fun ab => bindP (chkP (goodB ab.1 && goodB ab.2) 4) fun _ => pourP (ab.1.map Int.toNat) (ab.2.map Int.toNat) limit 1000000 out) = bindP headP (codedP limit out) := by
  rw [lens_head, bindP_assoc]
  congr 1; funext ab
  rw [bindP_assoc]
  unfold codedP stopK
  rw [chk_swap]
  rfl
theorem plain_stop : stopK ((plainL.map fun (x : Nat) => (x : Int)), (plainD.map fun (x : Nat) => (x : Int))) = pureP () := by
  unfold stopK chkP
  rw [if_pos (by decide +kernel)]
/-- A block's head is read: what is behind. -/
def kindP (limit : Int) (out : List Nat) (kind : Nat) : Ps (List Nat) := if kind = 0 then rawP limit out else if kind = 3 then failP 3 else if kind = 1 then codedP limit out ((plainL.map fun (x : Nat) => (x : Int)), (plainD.map fun (x : Nat) => (x : Int))) else bindP headP (codedP limit out)
theorem block_kind (limit : Int) (out : List Nat) (last kind : Nat) : blockK limit out last kind = bindP (kindP limit out kind) fun o => pureP (last, o) := by
  unfold blockK kindP
  by_cases h0 : kind = 0
  · rw [if_pos h0, if_pos h0]
  rw [if_neg h0, if_neg h0]
  by_cases h3 : kind = 3
  · rw [if_pos h3, if_pos h3]
    rfl
  rw [if_neg h3, if_neg h3]
  unfold codesP
  by_cases h1 : kind = 1
  · rw [if_pos h1, if_pos h1, pureP_bind]
    unfold codedP
    rw [plain_stop]
    simp only [bindP_assoc]
    rfl
  · rw [if_neg h1, if_neg h1, ← lens_coded]
    simp only [bindP_assoc]
section
variable {s : ByteArray} {i x1 q1 x2 q2 x3 q3 : Nat} {b1 b2 b3 : Bool}
/-- Three numbers: all of them there, or too short. -/
theorem head_heads (r1 : RdRel 5 i s false x1 q1 b1) (r2 : RdRel 5 q1 s b1 x2 q2 b2) (r3 : RdRel 4 q2 s b2 x3 q3 b3) :
    (b3 = true ∧ headP (srcB s) (8 * s.size) i = .error 2) ∨ (b3 = false ∧ headP (srcB s) (8 * s.size) i = head2 x1 x2 x3 (srcB s) (8 * s.size) q3) := by
  unfold headP
  rcases r1 with ⟨_, rfl, h1⟩ | ⟨_, rfl, h1⟩ | ⟨h, _⟩
  · rcases r2 with ⟨_, rfl, h2⟩ | ⟨_, rfl, h2⟩ | ⟨h, _⟩
    · rcases r3 with ⟨_, rfl, h3⟩ | ⟨_, rfl, h3⟩ | ⟨h, _⟩
      · exact .inr ⟨rfl, by rw [bindP_ok h1, bindP_ok h2, bindP_ok h3]⟩
      · exact .inl ⟨rfl, by rw [bindP_ok h1, bindP_ok h2, bindP_err h3]⟩
      · cases h
    · rcases r3 with ⟨h, _⟩ | ⟨h, _⟩ | ⟨_, rfl⟩
      · cases h
      · cases h
      · exact .inl ⟨rfl, by rw [bindP_ok h1, bindP_err h2]⟩
    · cases h
  · rcases r2 with ⟨h, _⟩ | ⟨h, _⟩ | ⟨_, rfl⟩
    · cases h
    · cases h
    rcases r3 with ⟨h, _⟩ | ⟨h, _⟩ | ⟨_, rfl⟩
    · cases h
    · cases h
    exact .inl ⟨rfl, bindP_err h1⟩
  · cases h
end
section
variable {a b k : Nat} {B : Nat → Nat} {T i : Nat}
theorem head2_bad (h : ¬ (a ≤ 29 ∧ b ≤ 29)) : head2 a b k B T i = .error 3 := by
  unfold head2
  refine bindP_err ?_
  have e : (decide (a + 257 ≤ 286) && decide (b + 1 ≤ 30)) = false := by
    cases hh : (decide (a + 257 ≤ 286) && decide (b + 1 ≤ 30)) with
    | false => rfl
    | true =>
      rw [Bool.and_eq_true, decide_eq_true_eq, decide_eq_true_eq] at hh
      omega
  rw [e]
  rfl
theorem head2_ok (h : a ≤ 29) (h2 : b ≤ 29) : head2 a b k B T i = bindP (firstP (k + 4) 0 (List.replicate 19 0)) (head3 a b) B T i := by
  unfold head2
  rw [bindP_ok (a := ()) (j := i)]
  rw [decide_eq_true (show a + 257 ≤ 286 by omega), decide_eq_true (show b + 1 ≤ 30 by omega)]
  rfl
theorem head3_bad {fl : List Nat} (h : goodB (fl.map fun (x : Nat) => (x : Int)) = false) : head3 a b fl B T i = .error 4 := by
  unfold head3
  refine bindP_err ?_
  rw [h]
  rfl
theorem head3_ok {fl : List Nat} (h : goodB (fl.map fun (x : Nat) => (x : Int)) = true) : head3 a b fl B T i = bindP (runsP fl (a + 257 + (b + 1)) 400 []) (fun out => pureP (out.take (a + 257), out.drop (a + 257))) B T i := by
  unfold head3
  rw [bindP_ok (a := ()) (j := i)]
  rw [h]
  rfl
end

/-- Runs under way: those that were read, for how many lengths they stand. -/
def WayR (hl : List Nat) (N : Nat) (B : Nat → Nat) (T : Nat) (R : Except Int (List Int × Nat)) (rs : List (Int × Int)) (S i : Nat) : Prop :=
  (∃ f out, out.length = S ∧ S ≤ N ∧ N < f + S ∧ rs.length ≤ S ∧ (rs = [] ↔ out = []) ∧ runsP hl N f out B T i = R ∧ ∀ rest, unF (N : Int) [] (rs ++ rest) = unF (N : Int) out rest) ∨
  (N < S ∧ S ≤ N + 138 ∧ rs.length ≤ N + 1 ∧ unF (N : Int) [] rs = none ∧ R = .error 3)
section
variable {hl : List Nat} {N S i x j e j2 : Nat} {B : Nat → Nat} {T : Nat} {R : Except Int (List Int × Nat)} {rs : List (Int × Int)}
theorem way_start (hN : N ≤ 316) (h : runsP hl N 400 [] B T i = R) : WayR hl N B T R [] 0 i :=
  .inl ⟨400, [], rfl, Nat.zero_le _, by omega, Nat.le_refl _, ⟨fun _ => rfl, fun _ => rfl⟩, h, fun _ => rfl⟩
theorem WayR.short (h : WayR hl N B T R rs S i) : rs.length ≤ N + 1 ∧ S ≤ N + 138 := by
  rcases h with ⟨f, out, _, h2, _, h4, _⟩ | ⟨_, h2, h3, _⟩ <;> omega
theorem WayR.sym_err {er : Int} (h : WayR hl N B T R rs S i) (hS : S < N) (hs : symP hl B T i = .error er) : R = .error er := by
  rcases h with ⟨f, out, h1, h2, h3, h4, h5, h6, h7⟩ | ⟨h1, _⟩
  · obtain ⟨f, rfl⟩ : ∃ k, f = k + 1 := ⟨f - 1, by omega⟩
    rw [← h6]
    exact runs_err (by omega) hs
  · omega
theorem WayR.rd_err {er : Int} (h : WayR hl N B T R rs S i) (hS : S < N) (hs : symP hl B T i = .ok (x, j)) (hr : rdP (xBits (x : Int)) B T j = .error er) : R = .error er := by
  rcases h with ⟨f, out, h1, h2, h3, h4, h5, h6, h7⟩ | ⟨h1, _⟩
  · obtain ⟨f, rfl⟩ : ∃ k, f = k + 1 := ⟨f - 1, by omega⟩
    rw [← h6]
    exact runs_short (by omega) hs hr
  · omega
theorem WayR.none16 (h : WayR hl N B T R rs S i) (hS : S < N) (hs : symP hl B T i = .ok (x, j)) (hr : rdP (xBits (x : Int)) B T j = .ok (e, j2)) (hx : x = 16) (h0 : rs = []) : R = .error 3 := by
  rcases h with ⟨f, out, h1, h2, h3, h4, h5, h6, h7⟩ | ⟨h1, _⟩
  · obtain ⟨f, rfl⟩ : ∃ k, f = k + 1 := ⟨f - 1, by omega⟩
    rw [← h6]
    refine runs_form (by omega) hs hr (runB_no _ _ _ fun g => g.1 ⟨?_, h5.1 h0⟩)
    show (x : Int) = 16
    omega
  · omega
theorem WayR.next (h : WayR hl N B T R rs S i) (hS : S < N) (hs : symP hl B T i = .ok (x, j)) (hr : rdP (xBits (x : Int)) B T j = .ok (e, j2)) (hx : x ≤ 18) (h0 : ¬ (x = 16 ∧ rs = [])) (K : Nat) (hK : timesR ((x : Int), (e : Int)) = (K : Int)) (hK1 : 1 ≤ K) (hK2 : K ≤ 138) (he : e < 2 ^ xBits (x : Int)) : WayR hl N B T R (rs ++ [((x : Int), (e : Int))]) (S + K) j2 := by
  rcases h with ⟨f, out, h1, h2, h3, h4, h5, h6, h7⟩ | ⟨h1, _⟩
  · obtain ⟨f, rfl⟩ : ∃ k, f = k + 1 := ⟨f - 1, by omega⟩
    have he2 : (e : Int) < ((2 ^ xBits (x : Int) : Nat) : Int) := by omega
    by_cases hfit : S + K ≤ N
    · have hb : runB (N : Int) out ((x : Int), (e : Int)) = true := by
        rw [runB_iff]
        refine ⟨fun g => h0 ⟨by have := g.1; dsimp only at this; omega, h5.2 g.2⟩, by dsimp only; omega, by dsimp only; omega, by dsimp only; omega, he2, ?_⟩
        rw [hK]
        omega
      refine .inl ⟨f, out ++ List.replicate K (valR out (x : Int)), ?_, hfit, by omega, ?_, ?_, ?_, fun rest => ?_⟩
      · rw [List.length_append, List.length_replicate, h1]
      · rw [List.length_append]
        show rs.length + 1 ≤ _
        omega
      · constructor
        · intro g
          simp at g
        · intro g
          have g2 := congrArg List.length g
          rw [List.length_append, List.length_replicate] at g2
          have g3 : out.length + K = 0 := g2
          omega
      · rw [← h6]
        exact (runs_next (by omega) hs hr hb K hK _ rfl).symm
      · rw [List.append_assoc, h7]
        show unF (N : Int) out (((x : Int), (e : Int)) :: rest) = _
        conv => lhs; unfold unF
        rw [if_pos hb, hK, Int.toNat_natCast]
    · have hb : runB (N : Int) out ((x : Int), (e : Int)) = false := by
        refine runB_no _ _ _ fun g => ?_
        have g2 := g.2.2.2.2.2
        rw [hK] at g2
        omega
      refine .inr ⟨by omega, by omega, ?_, ?_, ?_⟩
      · rw [List.length_append]
        show rs.length + 1 ≤ _
        omega
      · rw [h7]
        unfold unF
        rw [if_neg (by rw [hb]; decide)]
      · rw [← h6]
        exact runs_form (by omega) hs hr hb
  · omega
theorem WayR.done (h : WayR hl N B T R rs S i) (hS : ¬ S < N) : (unF (N : Int) [] rs = none ∧ R = .error 3) ∨ (∃ out, unF (N : Int) [] rs = some out ∧ out.length = N ∧ R = .ok (out, i)) := by
  rcases h with ⟨f, out, h1, h2, h3, h4, h5, h6, h7⟩ | ⟨h1, _, _, h4, h5⟩
  · obtain ⟨f, rfl⟩ : ∃ k, f = k + 1 := ⟨f - 1, by omega⟩
    refine .inr ⟨out, ?_, by omega, ?_⟩
    · have := h7 []
      rw [List.append_nil] at this
      rw [this]
      unfold unF
      rw [if_pos (by omega)]
    · rw [← h6]
      exact runs_end (by omega)
  · exact .inl ⟨h4, h5⟩
end

/-- A step of an opening: but for its box O, its reader p and the row that v had, nothing old has turned; the row that v' has is v's, or new. -/
structure Mv (O p : Nat) (v v' : Value) (w w' : World) : Prop where
  os : w'.os = w.os
  tape : w'.tape = w.tape
  output : w'.output = w.output
  size : w.heap.size ≤ w'.heap.size
  block : ∀ k, k < w.heap.size → k ≠ O → k ≠ p → v.ownBlock ≠ some k → w'.heap[k]? = w.heap[k]?
  own : v'.ownBlock = v.ownBlock ∨ ∀ k, v'.ownBlock = some k → w.heap.size ≤ k
section
variable {O p b : Nat} {v v1 v2 v' : Value} {a w w' c W : World}
theorem Mv.refl (O p : Nat) (v : Value) (w : World) : Mv O p v v w w := ⟨rfl, rfl, rfl, Nat.le_refl _, fun _ _ _ _ _ => rfl, .inl rfl⟩
theorem Mv.trans (h : Mv O p v v1 a w) (k : Mv O p v1 v2 w c) : Mv O p v v2 a c := by
  refine ⟨k.os.trans h.os, k.tape.trans h.tape, k.output.trans h.output, Nat.le_trans h.size k.size, fun i hi hO hp hv => ?_, ?_⟩
  · rw [k.block i (Nat.lt_of_lt_of_le hi h.size) hO hp ?_, h.block i hi hO hp hv]
    rcases h.own with e | e
    · rw [e]; exact hv
    · intro e2; have := e i e2; omega
  · rcases k.own with e | e
    · rw [e]; exact h.own
    · exact .inr fun i hi => Nat.le_trans h.size (e i hi)
theorem Mv.ofTurn (t : Turn p w w') : Mv O p v v w w' := ⟨t.os, t.tape, t.output, t.size, fun k hk _ hp _ => t.block k hk hp, .inl rfl⟩
theorem Mv.ofBelow (t : Below w.heap.size w w') : Mv O p v v w w' := ⟨t.os, t.tape, t.output, t.size, fun k hk _ _ _ => t.block k hk, .inl rfl⟩
theorem Mv.grown (hg : w.grownBy w' v.ownBlock) (hf : v'.ownBlock = v.ownBlock ∨ ∀ k, v'.ownBlock = some k → w.heap.size ≤ k) : Mv O p v v' w w' := ⟨hg.os, hg.tape, hg.output, hg.size, fun k hk _ _ hv => hg.block k hk (fun e => hv e.symm), hf⟩
theorem Mv.box (h : Mv O p v v' w w') (o : Nat) (x : Value) : Mv O p v v' w (w'.setCell ⟨O, o, none⟩ x) := by
  refine ⟨h.os, h.tape, h.output, by simp [World.setCell]; exact h.size, fun k hk hO hp hv => ?_, h.own⟩
  rw [Below.heap_setCell _ _ _ _ hO]
  exact h.block k hk hO hp hv
theorem Mv.bel (h : Mv O p v v' w w') (b : Below W.heap.size W w) (hO : W.heap.size ≤ O) (hp : W.heap.size ≤ p) (hv : ∀ k, v.ownBlock = some k → W.heap.size ≤ k) : Below W.heap.size W w' :=
  ⟨h.os.trans b.os, h.tape.trans b.tape, h.output.trans b.output, Nat.le_trans b.size h.size, fun k hk => (h.block k (Nat.lt_of_lt_of_le hk b.size) (by omega) (by omega) (fun e => by have := hv k e; omega)).trans (b.block k hk)⟩
/-- A block that an opening does not turn. -/
def FreeO (O p : Nat) (v : Value) (w : World) (b : Nat) : Prop := b < w.heap.size ∧ b ≠ O ∧ b ≠ p ∧ v.ownBlock ≠ some b
theorem FreeO.step (h : FreeO O p v w b) (s : Mv O p v v' w w') : FreeO O p v' w' b := by
  refine ⟨Nat.lt_of_lt_of_le h.1 s.size, h.2.1, h.2.2.1, ?_⟩
  rcases s.own with e | e
  · rw [e]; exact h.2.2.2
  · intro e2
    have := e b e2
    have := h.1
    omega
theorem FreeO.cell (h : FreeO O p v w b) (s : Mv O p v v' w w') (o : Nat) : w'.cell? ⟨b, o, none⟩ = w.cell? ⟨b, o, none⟩ :=
  World.cell?_of_block (a := ⟨b, o, none⟩) (s.block b h.1 h.2.1 h.2.2.1 h.2.2.2)
/-- Numbers that an opening does not turn. -/
structure KO (O p : Nat) (v : Value) (w : World) (a : Option Addr) (l : List Nat) : Prop where
  arg : ArgN w a l
  free : ∀ b off, a = some ⟨b, off, none⟩ → FreeO O p v w b
theorem KO.step {x : Option Addr} {l : List Nat} (h : KO O p v w x l) (s : Mv O p v v' w w') : KO O p v' w' x l := by
  refine ⟨fun i y hx => ?_, fun b off e => (h.free b off e).step s⟩
  obtain ⟨b, off, h1, h2, h3⟩ := h.arg i y hx
  exact ⟨b, off, h1, Nat.lt_of_lt_of_le h2 s.size, by rw [(h.free b off h1).cell s]; exact h3⟩
theorem ko_new {x : Option Addr} {S : List Nat} {w2 : World} (ha : ArgN w' x S) (hn : ∀ b off, x = some ⟨b, off, none⟩ → w.heap.size ≤ b ∧ b < w'.heap.size) (hO : O < w.heap.size) (hp : p < w.heap.size) (hv : ∀ k, v.ownBlock = some k → k < w.heap.size) (b : Below w'.heap.size w' w2) : KO O p v w2 x S := by
  refine ⟨ha.below b (Nat.le_refl _), fun g off e => ?_⟩
  obtain ⟨h1, h2⟩ := hn g off e
  exact ⟨Nat.lt_of_lt_of_le h2 b.size, by omega, by omega, fun e => by have := hv g e; omega⟩
end

end Go.Proofs.YtaalbaiglkadlaaGreat
