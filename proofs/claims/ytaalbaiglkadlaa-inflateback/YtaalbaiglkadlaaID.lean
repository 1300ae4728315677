import Derived.Test.YtaalbaiglkadlaaIC
import Derived.Test.YtaalbaiglkadlaaRA
import Derived.Laws.Tables
/- Ahead of the document's 'lengths' of layer 11: its reading by steps, what there is on the way. -/
namespace Go.Proofs.Ytaalbaiglkadlaa
open Go.RowKit Go.Lib

theorem Turn.belowT {p B : Nat} {W w w' : World} (t : Turn p W w) (b : Below B w w') (hB : W.heap.size ≤ B) : Turn p W w' :=
  ⟨b.os.trans t.os, b.tape.trans t.tape, b.output.trans t.output, Nat.le_trans t.size b.size, fun k hk hp => (b.block k (by omega)).trans (t.block k hk hp)⟩
theorem Turn.grown {p B n : Nat} {W w w' : World} {v : Value} {e : TypeId} {cs : List Value} (t : Turn p W w) (hg : w.grownBy w' v.ownBlock) (ho : w.ownsRow B e 1 v n cs) (hB : W.heap.size ≤ B) : Turn p W w' :=
  ⟨hg.os.trans t.os, hg.tape.trans t.tape, hg.output.trans t.output, Nat.le_trans t.size hg.size, fun k hk hp => (hg.block k (Nat.lt_of_lt_of_le hk t.size) (fun e2 => by have := (ho.lt k e2.symm).1; omega)).trans (t.block k hk hp)⟩

/-- A reader, that went wrong or not. -/
def RdS (T : TypeId) (w : World) (p : Nat) (s : ByteArray) (q : Nat) (bad : Bool) : Prop := if bad = true then ∃ i, i ≤ 8 * s.size ∧ RdAt T w p s i true else RdAt T w p s q false
section
variable {T : TypeId} {w w' : World} {p q : Nat} {s : ByteArray} {bad : Bool}
theorem RdS.at_ (h : RdS T w p s q bad) : ∃ i, RdAt T w p s i bad := by
  unfold RdS at h
  cases bad with
  | true => obtain ⟨i, _, h⟩ := h; exact ⟨i, h⟩
  | false => exact ⟨q, h⟩
theorem RdS.c2 (h : RdS T w p s q bad) : w.cell? ⟨p, 2, none⟩ = some (.bool bad) := by
  obtain ⟨i, h⟩ := h.at_
  exact h.c2
theorem RdS.lt (h : RdS T w p s q bad) : p < w.heap.size := by
  obtain ⟨i, h⟩ := h.at_
  exact (Array.getElem?_eq_some_iff.1 h).1
theorem RdS.same (h : RdS T w p s q bad) (hb : w'.heap[p]? = w.heap[p]?) : RdS T w' p s q bad := by
  unfold RdS at h ⊢
  unfold RdAt at h ⊢
  rw [hb]
  exact h
end
/-- What a reading of k bits gives. -/
def RdRel (k q : Nat) (s : ByteArray) (bad : Bool) (x q' : Nat) (bad' : Bool) : Prop :=
  (bad = false ∧ bad' = false ∧ rdP k (srcB s) (8 * s.size) q = .ok (x, q')) ∨ (bad = false ∧ bad' = true ∧ rdP k (srcB s) (8 * s.size) q = .error 2) ∨ (bad = true ∧ bad' = true)
theorem qrd_all (k p q : Nat) (s : ByteArray) (bad : Bool) (hk : k ≤ 30) (hq : q ≤ 8 * s.size) (hs : s.size ≤ 1000000) : ∃ (x q' : Nat) (bad' : Bool), x < 2 ^ k ∧ q' ≤ 8 * s.size ∧ RdRel k q s bad x q' bad' ∧
    ∀ W, RdS 56 W p s q bad → Calls Try.prog 19 #[.pointer (some ⟨p, 0, none⟩), .int .i64 (k : Nat)] W fun e w' => e = .returned (.int .i64 (x : Nat)) ∧ Only p W w' ∧ RdS 56 w' p s q' bad' := by
  have hpos : 0 < 2 ^ k := Nat.pow_pos (by decide)
  cases bad with
  | true =>
    refine ⟨0, q, true, hpos, hq, .inr (.inr ⟨rfl, rfl⟩), fun W h => ?_⟩
    obtain ⟨i, hi, h⟩ := h
    refine (qbits_no p s i true (k : Int) W k (takenI_nat k hk) h hi (.inl rfl) (by omega)).mono ?_
    rintro e w' ⟨rfl, h1, h2⟩
    exact ⟨rfl, h2, h1⟩
  | false =>
    by_cases hr : q + k ≤ 8 * s.size
    · refine ⟨numLo (srcB s) q k, q + k, false, ?_, hr, .inl ⟨rfl, rfl, by unfold rdP; rw [if_pos hr]⟩, fun W h => ?_⟩
      · have hlt := (numI_lt s q k).2
        rw [numI_lo] at hlt
        have e2 : ((2 ^ k : Nat) : Int) = (2 : Int) ^ k := by rw [Int.natCast_pow]; rfl
        omega
      · refine (qbits_ok p s q (k : Int) W k (takenI_nat k hk) h hr (by omega)).mono ?_
        rintro e w' ⟨rfl, h1, h2⟩
        rw [numI_lo]
        exact ⟨rfl, h2, h1⟩
    · refine ⟨0, q, true, hpos, hq, .inr (.inl ⟨rfl, rfl, by unfold rdP; rw [if_neg hr]⟩), fun W h => ?_⟩
      refine (qbits_no p s q false (k : Int) W k (takenI_nat k hk) h hq (.inr (by omega)) (by omega)).mono ?_
      rintro e w' ⟨rfl, h1, h2⟩
      exact ⟨rfl, h2, h1⟩

/-- The reading of lengths, by steps. -/
def lens4 (a : Nat) (out : List Int) : Ps (List Int × List Int) := bindP (chkP (decide (out.getD 256 0 ≠ 0)) 4) fun _ => pureP (out.take (a + 257), out.drop (a + 257))
def lens3 (a b : Nat) (fl : List Nat) : Ps (List Int × List Int) := bindP (chkP (goodB (fl.map fun (x : Nat) => (x : Int))) 4) fun _ => bindP (runsP fl (a + 257 + (b + 1)) 400 []) (lens4 a)
def lens2 (a b k : Nat) : Ps (List Int × List Int) := bindP (chkP (decide (a + 257 ≤ 286) && decide (b + 1 ≤ 30)) 3) fun _ => bindP (firstP (k + 4) 0 (List.replicate 19 0)) (lens3 a b)
theorem lens_split : lensP = bindP (rdP 5) fun a => bindP (rdP 5) fun b => bindP (rdP 4) fun k => lens2 a b k := rfl
section
variable {s : ByteArray} {i x1 q1 x2 q2 x3 q3 : Nat} {b1 b2 b3 : Bool}
/-- Three numbers: all of them there, or too short. -/
theorem lens_heads (r1 : RdRel 5 i s false x1 q1 b1) (r2 : RdRel 5 q1 s b1 x2 q2 b2) (r3 : RdRel 4 q2 s b2 x3 q3 b3) :
    (b3 = true ∧ lensP (srcB s) (8 * s.size) i = .error 2) ∨ (b3 = false ∧ lensP (srcB s) (8 * s.size) i = lens2 x1 x2 x3 (srcB s) (8 * s.size) q3) := by
  rw [lens_split]
  rcases r1 with ⟨_, rfl, h1⟩ | ⟨_, rfl, h1⟩ | ⟨h, _⟩
  · rcases r2 with ⟨_, rfl, h2⟩ | ⟨_, rfl, h2⟩ | ⟨h, _⟩
    · rcases r3 with ⟨_, rfl, h3⟩ | ⟨_, rfl, h3⟩ | ⟨h, _⟩
      · exact .inr ⟨rfl, by rw [bindP_ok h1, bindP_ok h2, bindP_ok h3]⟩
      · exact .inl ⟨rfl, by rw [bindP_ok h1, bindP_ok h2, bindP_err h3]⟩
      · cases h
    · rcases r3 with ⟨h, _⟩ | ⟨h, _⟩ | ⟨_, rfl⟩
      · cases h
      · cases h
      · exact .inl ⟨rfl, by rw [bindP_ok h1, bindP_err h2]⟩
    · cases h
  · rcases r2 with ⟨h, _⟩ | ⟨h, _⟩ | ⟨_, rfl⟩
    · cases h
    · cases h
    rcases r3 with ⟨h, _⟩ | ⟨h, _⟩ | ⟨_, rfl⟩
    · cases h
    · cases h
    exact .inl ⟨rfl, bindP_err h1⟩
  · cases h
end
section
variable {a b k : Nat} {B : Nat → Nat} {T i : Nat}
theorem lens2_bad (h : ¬ (a ≤ 29 ∧ b ≤ 29)) : lens2 a b k B T i = .error 3 := by
  unfold lens2
  refine bindP_err ?_
  have e : (decide (a + 257 ≤ 286) && decide (b + 1 ≤ 30)) = false := by
    cases hh : (decide (a + 257 ≤ 286) && decide (b + 1 ≤ 30)) with
    | false => rfl
    | true =>
      rw [Bool.and_eq_true, decide_eq_true_eq, decide_eq_true_eq] at hh
      omega
  rw [e]
  rfl
theorem lens2_ok (h : a ≤ 29) (h2 : b ≤ 29) : lens2 a b k B T i = bindP (firstP (k + 4) 0 (List.replicate 19 0)) (lens3 a b) B T i := by
  unfold lens2
  rw [bindP_ok (a := ()) (j := i)]
  rw [decide_eq_true (show a + 257 ≤ 286 by omega), decide_eq_true (show b + 1 ≤ 30 by omega)]
  rfl
theorem lens3_bad {fl : List Nat} (h : goodB (fl.map fun (x : Nat) => (x : Int)) = false) : lens3 a b fl B T i = .error 4 := by
  unfold lens3
  refine bindP_err ?_
  rw [h]
  rfl
theorem lens3_ok {fl : List Nat} (h : goodB (fl.map fun (x : Nat) => (x : Int)) = true) : lens3 a b fl B T i = bindP (runsP fl (a + 257 + (b + 1)) 400 []) (lens4 a) B T i := by
  unfold lens3
  rw [bindP_ok (a := ()) (j := i)]
  rw [h]
  rfl
theorem lens4_bad {out : List Int} (h : out.getD 256 0 = 0) : lens4 a out B T i = .error 4 := by
  unfold lens4
  refine bindP_err ?_
  rw [decide_eq_false (fun g => g h)]
  rfl
theorem lens4_ok {out : List Int} (h : out.getD 256 0 ≠ 0) : lens4 a out B T i = .ok ((out.take (a + 257), out.drop (a + 257)), i) := by
  unfold lens4
  rw [bindP_ok (a := ()) (j := i)]
  · rfl
  · rw [decide_eq_true h]
    rfl
end

/-- The first lengths under way. -/
def FirstSt (s : ByteArray) (R0 : Except Int (List Nat × Nat)) (n j : Nat) (l : List Nat) (q : Nat) (bad : Bool) : Prop := (bad = false ∧ firstP (n - j) j l (srcB s) (8 * s.size) q = R0) ∨ (bad = true ∧ R0 = .error 2)
theorem FirstSt.next {s : ByteArray} {R0 : Except Int (List Nat × Nat)} {n j q q' x : Nat} {l : List Nat} {bad bad' : Bool} (h : FirstSt s R0 n j l q bad) (hj : j < n) (r : RdRel 3 q s bad x q' bad') : FirstSt s R0 n (j + 1) (l.set (orderL.getD j 0) x) q' bad' := by
  rcases h with ⟨rfl, h⟩ | ⟨rfl, h⟩
  · rw [show n - j = (n - (j + 1)) + 1 by omega] at h
    have h : bindP (rdP 3) (fun x => firstP (n - (j + 1)) (j + 1) (l.set (orderL.getD j 0) x)) (srcB s) (8 * s.size) q = R0 := h
    rcases r with ⟨_, rfl, e⟩ | ⟨_, rfl, e⟩ | ⟨e, _⟩
    · rw [bindP_ok e] at h
      exact .inl ⟨rfl, h⟩
    · rw [bindP_err e] at h
      exact .inr ⟨rfl, h.symm⟩
    · cases e
  · rcases r with ⟨e, _⟩ | ⟨e, _⟩ | ⟨_, rfl⟩
    · cases e
    · cases e
    · exact .inr ⟨rfl, h⟩
theorem FirstSt.done {s : ByteArray} {R0 : Except Int (List Nat × Nat)} {n q : Nat} {l : List Nat} (h : FirstSt s R0 n n l q false) : R0 = .ok (l, q) := by
  rcases h with ⟨_, h⟩ | ⟨h, _⟩
  · rw [Nat.sub_self] at h
    exact h.symm
  · cases h
theorem FirstSt.short {s : ByteArray} {R0 : Except Int (List Nat × Nat)} {n j q : Nat} {l : List Nat} (h : FirstSt s R0 n j l q true) : R0 = .error 2 := by
  rcases h with ⟨h, _⟩ | ⟨_, h⟩
  · cases h
  · exact h
theorem order_cell : ∀ j, j < 19 → orderCs[j]? = some (.int .i64 (orderL.getD j 0 : Nat)) ∧ orderL.getD j 0 < 19 := by
  intro j hj
  match j, hj with
  | 0, _ | 1, _ | 2, _ | 3, _ | 4, _ | 5, _ | 6, _ | 7, _ | 8, _ | 9, _ | 10, _ | 11, _ | 12, _ | 13, _ | 14, _ | 15, _ | 16, _ | 17, _ | 18, _ => exact ⟨rfl, by decide⟩
  | n + 19, hj => exact absurd hj (by omega)
theorem natCs_set (l : List Nat) (q x : Nat) : (natCs l).set q (.int .i64 (x : Nat)) = natCs (l.set q x) := by
  unfold natCs
  rw [List.map_set]
/-- The reader, the first lengths, their order. -/
structure FL (T : TypeId) (w W : World) (p : Nat) (s : ByteArray) (F O : Nat) (cs : List Value) (l : List Nat) (q : Nat) (bad : Bool) : Prop where
  rd : RdS T w p s q bad
  tn : Turn p W w
  fa : w.heap[F]? = some (.cells (natCs l).toArray 87 (0, 0))
  oa : w.heap[O]? = some (.cells cs.toArray 87 (0, 0))
  wf : W.heap.size ≤ F
  wo : W.heap.size ≤ O
  fo : F ≠ O
  wp : p < W.heap.size
  ln : l.length = 19
section
variable {T : TypeId} {w w' W : World} {p F O q q' : Nat} {s : ByteArray} {cs : List Value} {l : List Nat} {bad bad' : Bool}
theorem FL.read (h : FL T w W p s F O cs l q bad) (o : Only p w w') (r : RdS T w' p s q' bad') : FL T w' W p s F O cs l q' bad' := by
  have hF := (Array.getElem?_eq_some_iff.1 h.fa).1
  have hO := (Array.getElem?_eq_some_iff.1 h.oa).1
  have h1 := h.wf
  have h2 := h.wo
  have h3 := h.wp
  exact ⟨r, h.tn.trans o.turn, (o.block F (by omega)).trans h.fa, (o.block O (by omega)).trans h.oa, h1, h2, h.fo, h3, h.ln⟩
theorem FL.put (h : FL T w W p s F O cs l q bad) (z x : Nat) : FL T (w.setCell ⟨F, z, none⟩ (.int .i64 (x : Nat))) W p s F O cs (l.set z x) q bad := by
  have h1 := h.wf
  have h2 := h.wo
  have h3 := h.wp
  refine ⟨h.rd.same ?_, h.tn.belowT ((Below.refl F w).setCell (p := ⟨F, z, none⟩) (Nat.le_refl _) _) h1, ?_, ?_, h1, h2, h.fo, h3, by rw [List.length_set]; exact h.ln⟩
  · exact Below.heap_setCell _ _ _ _ (show p ≠ F by omega)
  · rw [heap_setCell_same _ _ _ _ _ _ _ h.fa, List.setIfInBounds_toArray, natCs_set]
  · rw [Below.heap_setCell _ _ _ _ (fun e => h.fo e.symm)]
    exact h.oa
theorem FL.cell (h : FL T w W p s F O cs l q bad) (z : Nat) (hz : z < 19) : w.cell? ⟨F, z, none⟩ = some (.int .i64 (l.getD z 0 : Nat)) ∧ w.frozen? ⟨F, z, none⟩ = false := by
  constructor
  · rw [cell_of_row _ _ z _ _ (0, 0) h.fa, List.getElem?_toArray]
    unfold natCs
    rw [List.getElem?_map, getD_some l z (by rw [h.ln]; exact hz)]
    rfl
  · simp [World.frozen?, h.fa]
theorem FL.ord (h : FL T w W p s F O cs l q bad) (z : Nat) (v : Value) (hz : cs[z]? = some v) : w.cell? ⟨O, z, none⟩ = some v := by
  rw [cell_of_row _ _ z _ _ (0, 0) h.oa, List.getElem?_toArray]
  exact hz
theorem FL.arg (h : FL T w W p s F O cs l q bad) : ArgZ w (some ⟨F, 0, none⟩) (l.map fun (x : Nat) => (x : Int)) := by
  intro j x hx
  rw [List.getElem?_map] at hx
  cases hl : l[j]? with
  | none => rw [hl] at hx; cases hx
  | some y =>
    rw [hl] at hx
    injection hx with hx
    subst hx
    refine ⟨F, 0, rfl, (Array.getElem?_eq_some_iff.1 h.fa).1, ?_⟩
    rw [Nat.zero_add, cell_of_row _ _ j _ _ (0, 0) h.fa, List.getElem?_toArray]
    unfold natCs
    rw [List.getElem?_map, hl]
    rfl
end

/-- Lengths under way: a reader, a row, a code. -/
structure LF (T : TypeId) (w W : World) (p : Nat) (s : ByteArray) (i : Nat) (out : List Int) (v : Value) (a : Option Addr) (Q : Nat) (cs : List Value) (S : List Nat) : Prop where
  rd : RdAt T w p s i false
  tn : Turn p W w
  own : w.ownsRow W.heap.size 3 1 v out.length (intCs out)
  ka : KN p v w a S
  qa : w.heap[Q]? = some (.cells cs.toArray 66 (0, 0))
  fq : FreeB p v w Q
  ne : v.ownBlock ≠ some p
section
variable {T : TypeId} {w w' W : World} {p i j : Nat} {s : ByteArray} {out o : List Int} {v v' : Value} {a : Option Addr} {Q : Nat} {cs : List Value} {S : List Nat}
theorem LF.read (h : LF T w W p s i out v a Q cs S) (t : Turn p w w') (r : RdAt T w' p s j false) : LF T w' W p s j out v a Q cs S := by
  refine ⟨r, h.tn.trans t, ?_, h.ka.step t.step, (t.block Q h.fq.1 h.fq.2.1).trans h.qa, h.fq.step t.step, h.ne⟩
  refine ⟨h.own.1, ?_⟩
  have hlt := h.own.lt
  rcases h.own.2 with h2 | ⟨g, cap, cur, e, hg, hh, r2⟩
  · exact .inl h2
  · have hgl := hlt g (by rw [e]; rfl)
    have hgp : g ≠ p := fun e2 => h.ne (by rw [e, ← e2]; rfl)
    exact .inr ⟨g, cap, cur, e, hg, (t.block g hgl.2 hgp).trans hh, r2⟩
theorem LF.alloc (h : LF T w W p s i out v a Q cs S) (ob : Obj) : LF T (w.alloc ob) W p s i out v a Q cs S := by
  have hp : p < w.heap.size := (Array.getElem?_eq_some_iff.1 h.rd).1
  have st : Step p v v w (w.alloc ob) := Step.ofBelow ((Below.refl _ w).alloc (Nat.le_refl _) ob)
  refine ⟨?_, h.tn.alloc ob, h.own.alloc ob, h.ka.step st, ?_, h.fq.step st, h.ne⟩
  · unfold RdAt
    rw [heap_alloc_old _ _ _ hp]
    exact h.rd
  · rw [heap_alloc_old _ _ _ h.fq.1]
    exact h.qa
theorem LF.grow (h : LF T w W p s i out v a Q cs S) (ho : w'.ownsRow W.heap.size 3 1 v' o.length (intCs o)) (hg : w.grownBy w' v.ownBlock) (hf : v'.ownBlock = v.ownBlock ∨ ∀ k, v'.ownBlock = some k → w.heap.size ≤ k) : LF T w' W p s i o v' a Q cs S := by
  have hp : p < w.heap.size := (Array.getElem?_eq_some_iff.1 h.rd).1
  have st : Step p v v' w w' := grown_step hg hf
  refine ⟨?_, h.tn.grown hg h.own (Nat.le_refl _), ho, h.ka.step st, (st.block Q h.fq.1 h.fq.2.1 (fun e => h.fq.2.2 e.symm)).trans h.qa, h.fq.step st, ?_⟩
  · unfold RdAt
    rw [hg.block p hp (fun e => h.ne e.symm)]
    exact h.rd
  · rcases hf with e | e
    · rw [e]; exact h.ne
    · intro e2
      have := e p e2
      omega
end
theorem LF.start {T : TypeId} {w w1 W : World} {p i : Nat} {s : ByteArray} {a : Option Addr} {S : List Nat} {cap n : Nat} (r : RdAt T w p s i false) (t : Turn p W w) (b : Below w.heap.size w w1) (ho : w1.ownsRow w.heap.size 3 1 (.slice a n cap) S.length (natCs S)) (hn : S.length = n) (cs : List Value) :
    LF T (w1.alloc (.cells cs.toArray 66)) W p s i [] (.slice none 0 0) a w1.heap.size cs S := by
  have hp : p < w.heap.size := (Array.getElem?_eq_some_iff.1 r).1
  have hsz := b.size
  have hal : (w1.alloc (.cells cs.toArray 66)).heap.size = w1.heap.size + 1 := by show (w1.heap.push _).size = _; simp
  have b2 : Below w.heap.size w (w1.alloc (.cells cs.toArray 66)) := b.alloc hsz _
  subst hn
  refine ⟨?_, t.belowT b2 t.size, World.ownsRow_nil _ _ _ _, ⟨?_, fun g off e => ?_⟩, heap_alloc_at _ _ rfl, ⟨by omega, by omega, fun e => by cases e⟩, fun e => by cases e⟩
  · unfold RdAt
    rw [b2.block p hp]
    exact r
  · exact (own_arg (ho.alloc _) rfl)
  · subst e
    have hg := ho.lt g
    rcases len_form ho with ⟨e1, _⟩ | ⟨g2, c2, e1⟩
    · cases e1
    · injection e1 with e1 _ _
      injection e1 with e1
      injection e1 with e1 e2
      subst e1
      subst e2
      have := hg rfl
      exact ⟨by omega, by omega, fun e => by cases e⟩

section
variable {hl : List Nat} {N f : Nat} {out : List Int} {B : Nat → Nat} {T i x j e j2 : Nat}
theorem runs_end (h : N ≤ out.length) : runsP hl N (f + 1) out B T i = .ok (out, i) := by
  unfold runsP
  rw [if_pos h]
  rfl
theorem runs_err {er : Int} (h : ¬ N ≤ out.length) (hs : symP hl B T i = .error er) : runsP hl N (f + 1) out B T i = .error er := by
  unfold runsP
  rw [if_neg h]
  exact bindP_err hs
theorem runs_short {er : Int} (h : ¬ N ≤ out.length) (hs : symP hl B T i = .ok (x, j)) (hr : rdP (xBits (x : Int)) B T j = .error er) : runsP hl N (f + 1) out B T i = .error er := by
  unfold runsP
  rw [if_neg h, bindP_ok hs]
  exact bindP_err hr
theorem runs_form (h : ¬ N ≤ out.length) (hs : symP hl B T i = .ok (x, j)) (hr : rdP (xBits (x : Int)) B T j = .ok (e, j2)) (hb : runB (N : Int) out ((x : Int), (e : Int)) = false) : runsP hl N (f + 1) out B T i = .error 3 := by
  unfold runsP
  rw [if_neg h, bindP_ok hs, bindP_ok hr, hb]
  rfl
theorem runs_next (h : ¬ N ≤ out.length) (hs : symP hl B T i = .ok (x, j)) (hr : rdP (xBits (x : Int)) B T j = .ok (e, j2)) (hb : runB (N : Int) out ((x : Int), (e : Int)) = true) (K : Nat) (hK : timesR ((x : Int), (e : Int)) = (K : Int)) (y : Int) (hy : valR out (x : Int) = y) :
    runsP hl N (f + 1) out B T i = runsP hl N f (out ++ List.replicate K y) B T j2 := by
  conv => lhs; unfold runsP
  rw [if_neg h, bindP_ok hs, bindP_ok hr, hb, hK, hy, Int.toNat_natCast]
  rfl
end
theorem runB_no (n : Int) (out : List Int) (r : Int × Int) (h : ¬ (¬ (r.1 = 16 ∧ out = []) ∧ 0 ≤ r.1 ∧ r.1 ≤ 18 ∧ 0 ≤ r.2 ∧ r.2 < ((2 ^ xBits r.1 : Nat) : Int) ∧ timesR r ≤ n - (out.length : Int))) : runB n out r = false := by
  cases hb : runB n out r with
  | false => rfl
  | true => exact absurd ((runB_iff n out r).1 hb) h
theorem lastI_at (out : List Int) (h : out ≠ []) : out[out.length - 1]? = some (out.getLastD 0) := by
  obtain ⟨o, x, rfl⟩ : ∃ o x, out = o ++ [x] := ⟨out.dropLast, out.getLast h, (List.dropLast_concat_getLast h).symm⟩
  simp
theorem qbits7_same (s : Int) (w : World) : Calls Try.prog 50 #[.int .i64 s] w fun e w' => e = .returned (.int .i64 (xBits s : Nat)) ∧ w = w' :=
  (qbits_any s w).mono fun _ _ h => ⟨h.1, h.2.symm⟩
theorem argZ_take {w : World} {a : Option Addr} {l : List Int} (h : ArgZ w a l) (k : Nat) : ArgZ w a (l.take k) := by
  intro i x hx
  rw [List.getElem?_take] at hx
  split at hx
  · exact h i x hx
  · cases hx
theorem argZ_drop {w : World} {b off : Nat} {l : List Int} (h : ArgZ w (some ⟨b, off, none⟩) l) (i : Nat) : ArgZ w (some ⟨b, off + i, none⟩) (l.drop i) := by
  intro j x hx
  rw [List.getElem?_drop] at hx
  obtain ⟨b2, off2, e, h2, h3⟩ := h _ _ hx
  injection e with e
  injection e with e1 e2
  subst e1
  subst e2
  exact ⟨b, off + i, rfl, h2, by rw [Nat.add_assoc]; exact h3⟩
theorem Try.rowElem : Try.prog.elem 59 = 3 := by kernel_rfl
theorem Try.rowUnder : Try.prog.underlying 59 = some (.slice (Try.prog.elem 59)) := by rw [Try.rowElem]; exact Try.underlying59
theorem size_row (w : World) : (sizeOf (Try.prog.elem 59)).run Try.prog w = .ok 1 w := by
  obtain ⟨i1, ki, _, kz1, _⟩ := info_parts Try.infoInt
  rw [Try.rowElem]
  simp [sizeOf, typeInfo, ki, kz1]
theorem sliceZ_to (a : Option Addr) (n c k : Nat) (z : Int) (hz : z = (k : Nat)) (hk : k ≤ c) (w : World) : (Instr.slice 59 (.slice a n c) none (some (.int .i64 z)) none).run Try.prog w = .ok (.slice a k c) w := by
  subst hz
  rw [run_slice_h (P := Try.prog) w 59 a n c Try.rowUnder .i64 (k : Int) (by omega) (by omega), size_row]
  cases a with
  | none => simp [Result.andThen, sliced]
  | some x => simp [Result.andThen, sliced, Addr.add]
theorem sliceZ_from (g n c k : Nat) (z : Int) (hz : z = (k : Nat)) (hk : k ≤ n) (hkc : k < c) (w : World) : (Instr.slice 59 (.slice (some ⟨g, 0, none⟩) n c) (some (.int .i64 z)) none none).run Try.prog w = .ok (.slice (some ⟨g, 0 + k, none⟩) (n - k) (c - k)) w := by
  subst hz
  rw [run_slice_l (P := Try.prog) w 59 (some ⟨g, 0, none⟩) n c Try.rowUnder .i64 (k : Int) (by omega) (by omega), size_row]
  simp only [Result.andThen, sliced, Int.toNat_natCast]
  rw [if_neg (by omega)]
  simp [Addr.add]
  first | done | exact fun h => h.symm
/-- What lengths give: two rows, and a reader behind them; or an error. -/
def LensPost (T : TypeId) (R : Except Int ((List Int × List Int) × Nat)) (W : World) (p : Nat) (s : ByteArray) (e : Ending) (w' : World) : Prop := Turn p W w' ∧
  ((∃ x y j a1 c1 a2 c2, R = .ok ((x, y), j) ∧ e = .returned (.tuple #[.slice a1 x.length c1, .slice a2 y.length c2, .int .i64 0]) ∧ j ≤ 8 * s.size ∧ x.length ≤ 286 ∧ y.length ≤ 30 ∧ ArgZ w' a1 x ∧ ArgZ w' a2 y ∧ RdAt T w' p s j false) ∨
   (∃ er, R = .error er ∧ er ≠ 0 ∧ e = .returned (.tuple #[.slice none 0 0, .slice none 0 0, .int .i64 er])))

end Go.Proofs.Ytaalbaiglkadlaa

/- Contract of the document's 'lengths' of layer 11. -/
namespace Go.Proofs.Ytaalbaiglkadlaa
open Go.RowKit Go.Lib

theorem zero19 : natCs (List.replicate 19 0) = List.replicate 19 (Value.int .i64 0) := by
  unfold natCs
  rw [List.map_replicate]
  rfl
theorem Try.zeroFirst (w : World) : (zeroValue 87).run Try.prog w = .ok (.agg (natCs (List.replicate 19 0)).toArray) w := by
  rw [zero19]
  have h : (Try.prog.info? 87).map (·.zero) = some (some (.agg (List.replicate 19 (.int .i64 0)).toArray)) := by kernel_rfl
  cases hq : Try.prog.info? 87 with
  | none => rw [hq] at h; cases h
  | some i =>
    rw [hq] at h
    have hz : i.zero = some (.agg (List.replicate 19 (.int .i64 0)).toArray) := by simpa using h
    simp [zeroValue, typeInfo, hq, hz]
theorem maps_back (l : List Nat) : (l.map fun (x : Nat) => (x : Int)).map Int.toNat = l := by
  rw [List.map_map]
  exact (List.map_congr_left (fun x _ => Int.toNat_natCast x)).trans (List.map_id l)

set_option maxRecDepth 20000 in
set_option maxHeartbeats 16000000 in
theorem qlens_any (p : Nat) (s : ByteArray) (i : Nat) (W : World) (h : RdAt 56 W p s i false) (hi : i ≤ 8 * s.size) (hs : s.size ≤ 100000) :
    Calls Try.prog 22 #[.pointer (some ⟨p, 0, none⟩)] W fun e w' => LensPost 56 (lensP (srcB s) (8 * s.size) i) W p s e w' := by
  have HPW := hide (show p < W.heap.size by unfold RdAt at h; exact (Array.getElem?_eq_some_iff.1 h).1)
  have HS0 := hide (show RdS 56 W p s i false from h)
  obtain ⟨x1, q1, b1, hx1, hq1, hr1, HC1⟩ := qrd_all 5 p i s false (by decide) hi (by omega)
  obtain ⟨x2, q2, b2, hx2, hq2, hr2, HC2⟩ := qrd_all 5 p q1 s b1 (by decide) hq1 (by omega)
  obtain ⟨x3, q3, b3, hx3, hq3, hr3, HC3⟩ := qrd_all 4 p q2 s b2 (by decide) hq2 (by omega)
  have HHD := hide (lens_heads hr1 hr2 hr3)
  obtain ⟨R, hR⟩ : ∃ R, lensP (srcB s) (8 * s.size) i = R := ⟨_, rfl⟩
  rw [hR] at HHD ⊢
  have HERR := hide (fun (e : Int) (he : e ≠ 0) (hr : R = .error e) (w' : World) (t : Turn p W w') => (show LensPost 56 R W p s (.returned (.tuple #[.slice none 0 0, .slice none 0 0, .int .i64 e])) w' from ⟨t, .inr ⟨e, hr, he, rfl⟩⟩))
  have HC1 := hide (HC1 W h)
  have HC2 := hide HC2
  have HC3 := hide HC3
  have HZ := hide Try.zeroFirst
  have HZN := hide (show (natCs (List.replicate 19 0)).length = 19 from rfl)
  obtain ⟨i1, ki, kz0, kz1, kz2⟩ := info_parts Try.infoInt
  have hx1 : x1 < 32 := hx1
  have hx2 : x2 < 32 := hx2
  have hx3 : x3 < 16 := hx3
  clear hr1 hr2 hr3 hR h hq1 hq2 hi
  go_enter Try.func22, Try.ntmps22
  go_wp2_with fail
  refine HC1.out.mono ?_
  rintro e w1 ⟨rfl, ho1, hr1⟩
  have HT1 := hide ho1.turn
  have HC2 := hide (HC2.out w1 hr1)
  clear ho1 hr1 HC1
  go_wp2_with fail
  refine HC2.out.mono ?_
  rintro e w2 ⟨rfl, ho2, hr2⟩
  have HT2 := hide (HT1.out.trans ho2.turn)
  have HC3 := hide (HC3.out w2 hr2)
  clear ho2 hr2 HC2 HT1
  go_wp2_with fail
  refine HC3.out.mono ?_
  rintro e w3 ⟨rfl, ho3, hr3⟩
  have HT3 := hide (HT2.out.trans ho3.turn)
  have HR3 := hide hr3
  have _c2 := hr3.c2
  clear ho3 hr3 HC3 HT2
  rcases HHD.out with ⟨rfl, hh⟩ | ⟨rfl, hh⟩
  · have HG := hide (HERR.out 2 (by decide) hh w3 HT3.out)
    clear hh HHD
    go_wp2
    go_ret3
    exact HG.out
  have HH := hide hh
  clear hh HHD
  by_cases hab : x1 ≤ 29 ∧ x2 ≤ 29
  case neg =>
    have HG := hide (HERR.out 3 (by decide) (HH.out.trans (lens2_bad hab)) w3 HT3.out)
    by_cases h1 : x1 ≤ 29
    · have z1 : decide (286 < (x1 : Int) + 257) = false := decide_eq_false (by omega)
      have z2 : decide (30 < (x2 : Int) + 1) = true := decide_eq_true (by omega)
      clear hab
      go_wp2
      go_ret3
      exact HG.out
    · have z1 : decide (286 < (x1 : Int) + 257) = true := decide_eq_true (by omega)
      clear hab
      go_wp2
      go_ret3
      exact HG.out
  obtain ⟨ha, hb⟩ := hab
  have HH := hide (HH.out.trans (lens2_ok ha hb))
  have z1 : decide (286 < (x1 : Int) + 257) = false := decide_eq_false (by omega)
  have z2 : decide (30 < (x2 : Int) + 1) = false := decide_eq_false (by omega)
  obtain ⟨R0, hR0⟩ : ∃ R0, firstP (x3 + 4) 0 (List.replicate 19 0) (srcB s) (8 * s.size) q3 = R0 := ⟨_, rfl⟩
  have HERR0 := hide (fun (e : Int) (hr : R0 = .error e) => (show R = .error e by rw [HH.out]; exact bindP_err (by rw [hR0]; exact hr)))
  have HOK0 := hide (fun (fl : List Nat) (q : Nat) (hr : R0 = .ok (fl, q)) => (show R = lens3 x1 x2 fl (srcB s) (8 * s.size) q by rw [HH.out]; exact bindP_ok (by rw [hR0]; exact hr)))
  have HF0 := hide (show FirstSt s R0 (x3 + 4) 0 (List.replicate 19 0) q3 false from .inl ⟨rfl, hR0⟩)
  clear hR0 HH
  have HOC := hide order_cell
  have HON := hide (show orderCs.length = 19 from rfl)
  have HOO := hide orderCs_one
  have hzr := Try.zeroFirst
  have HQO := hide (fun w => qorder_any w)
  have HST0 := hide (fun w => order_store w (natCs (List.replicate 19 0)) orderCs rfl rfl orderCs_one)
  obtain ⟨l0, hl0⟩ : ∃ l0, List.replicate 19 0 = l0 := ⟨_, rfl⟩
  have HL0 := hide (show l0.length = 19 by rw [← hl0]; rfl)
  rw [hl0] at hzr HF0 HST0 HZN
  clear hl0 HZ
  generalize orderCs = oc at *
  have HL00 := HL0
  have HZC := hide HZN.out
  obtain ⟨Z, hZ⟩ : ∃ Z, natCs l0 = Z := ⟨_, rfl⟩
  have HZE := hide hZ
  simp only [hZ] at hzr HST0
  rw [hZ] at HZN
  clear hZ
  have B3 := hide ((Below.refl w3.heap.size w3).alloc (Nat.le_refl _) (.cells Z.toArray 87))
  have HFW := hide (heap_alloc_at w3 (.cells Z.toArray 87) rfl)
  have HSF := hide (show (w3.alloc (.cells Z.toArray 87)).heap.size = w3.heap.size + 1 by show (w3.heap.push _).size = _; simp)
  go_wp2_with fail
  refine (HQO.out _).mono ?_
  rintro e w4 ⟨rfl, hb4⟩
  have hst := HST0.out w4
  have HFL := hide (show FL 56 (w4.alloc (.cells oc.toArray 87)) W p s w3.heap.size w4.heap.size oc l0 q3 false by
    have hsz := hb4.size
    rw [HSF.out] at hsz
    have hpw := HPW.out
    have h3 := HT3.out.size
    have bA : Below w3.heap.size w3 w4 := B3.out.trans (hb4.mono (by rw [HSF.out]; omega))
    have bB : Below w3.heap.size w3 (w4.alloc (.cells oc.toArray 87)) := bA.alloc (by omega) _
    refine ⟨HR3.out.same (bB.block p (by omega)), HT3.out.belowT bB h3, ?_, heap_alloc_at _ _ rfl, h3, by omega, by omega, hpw, HL0.out⟩
    rw [heap_alloc_old _ _ _ (by omega), hb4.block _ (by rw [HSF.out]; omega), HZE.out]
    exact HFW.out)
  obtain ⟨F, hF⟩ : ∃ F, w3.heap.size = F := ⟨_, rfl⟩
  rw [hF] at HFL
  try simp only [hF]
  clear B3 HFW HSF hb4 hF HR3 HT3 HST0
  go_wp2
  try (generalize hw5 : w4.alloc (.cells oc.toArray 87) = w5 at *; clear hw5)
  obtain ⟨O, hO⟩ : ∃ O, w4.heap.size = O := ⟨_, rfl⟩
  rw [hO] at HFL
  try simp only [hO]
  clear hO hst hzr
  go_loopw [10] (fun iv wr => ∃ j l q b, iv = .int .i64 (j : Nat) ∧ j ≤ x3 + 4 ∧ q ≤ 8 * s.size ∧ Hid (FL 56 wr W p s F O oc l q b) ∧ Hid (FirstSt s R0 (x3 + 4) j l q b)) (fun iv _ => x3 + 4 - (intOf iv).toNat)
  case atStart => exact ⟨0, l0, q3, false, rfl, Nat.zero_le _, hq3, HFL, HF0⟩
  case round =>
    clear HFL HF0
    obtain ⟨j, l, q, b, rfl, hj, hq, HFL, HFS⟩ := hrel
    by_cases hlt : j < x3 + 4
    · have zj : (j : Int) < (x3 : Int) + 4 := by omega
      obtain ⟨hoc, ho19⟩ := HOC.out j (by omega)
      have _c1 := HFL.out.ord j _ hoc
      obtain ⟨x, q', b', hx, hq', hrr, HC⟩ := qrd_all 3 p q s b (by decide) hq (by omega)
      have HC := hide HC
      have HFN := hide (HFS.out.next hlt hrr)
      have HQ := hide hq'
      have HLT := hide hlt
      obtain ⟨o, ho⟩ : ∃ o, orderL.getD j 0 = o := ⟨_, rfl⟩
      rw [ho] at _c1 ho19 HFN hoc
      have HOJ := hide hoc
      have zo : (o : Int) < 19 := by omega
      have zj19 : (j : Int) < 19 := by omega
      have hfo : F ≠ O := HFL.out.fo
      have hof : O ≠ F := fun e => hfo e.symm
      have hFc := HFL.out.cell o ho19
      have _c3 := hFc.1
      have _f3 := hFc.2
      have HWD := hide (show RdS 56 (wr.drewN 1) p s q b from HFL.out.rd)
      clear hoc hrr hq' ho hFc hlt hx
      go_wp2_with fail
      go_region_held3 (fun w' => w'.cell? ⟨O, j, none⟩ = some (.int .i64 (o : Int))) (go_keep) (first
        | (go_at_call 19; refine (HC.out _ HWD.out).mono ?_; rintro e w13 ⟨rfl, ho13, hr13⟩; have HF13 := hide ((show FL 56 (wr.drewN 1) W p s F O oc l q b from ⟨HFL.out.rd, HFL.out.tn.drewN 1, HFL.out.fa, HFL.out.oa, HFL.out.wf, HFL.out.wo, HFL.out.fo, HFL.out.wp, HFL.out.ln⟩).read ho13 hr13); have _k1 := HF13.out.ord j _ HOJ.out; have _k2 := (HF13.out.cell o ho19).1; have _k3 := (HF13.out.cell o ho19).2; clear ho13 hr13))
      have HF14 := hide (HF13.out.put o x)
      clear _k1 _k2 _k3 HF13 _c1 _c3 _f3 HWD HC HFL HFS
      go_wp2
      go_roundw
      case rel => exact ⟨j + 1, l.set o x, q', b', by go_num, HLT.out, HQ.out, HF14, HFN⟩
      case measure => exact meas_oneW j (x3 + 4) HLT.out
    · have hje : j = x3 + 4 := by omega
      subst hje
      have _c2 := HFL.out.rd.c2
      have zj : ¬ ((x3 + 4 : Nat) : Int) < (x3 : Int) + 4 := by omega
      cases b with
      | true =>
        have HG := hide (HERR.out 2 (by decide) (HERR0.out 2 HFS.out.short) wr HFL.out.tn)
        clear HFS HFL
        go_wp2
        go_ret3
        exact HG.out
      | false =>
        have HG0 := hide HFL.out.rd
        have HRD := hide (show RdAt 56 wr p s q false from HFL.out.rd)
        have HTN := hide HFL.out.tn
        have HLN := hide HFL.out.ln
        have HH3 := hide (HOK0.out _ _ HFS.out.done)
        have HQB := hide (qbuild_any (l.map fun (x : Nat) => (x : Int)) (some ⟨F, 0, none⟩) 19 wr HFL.out.arg (by rw [List.length_map, HFL.out.ln]; omega))
        rw [List.length_map, HFL.out.ln] at HQB
        have hzc := Try.zeroCode
        have hZ1 := codeCs_one (fun _ => 0) (.slice none 0 0) rfl
        have hZn := codeCs_length (fun _ => 0) (.slice none 0 0)
        have HZCV := hide (show codeV (fun _ => 0) (.slice none 0 0) = .agg (codeCs (fun _ => 0) (.slice none 0 0)).toArray from rfl)
        obtain ⟨Z2, hZ2⟩ : ∃ Z, codeCs (fun _ => 0) (.slice none 0 0) = Z := ⟨_, rfl⟩
        simp only [hZ2] at hzc hZ1 hZn HZCV
        have HZ1 := hide hZ1
        have HZn := hide hZn
        clear hZ2 hZ1 hZn HFL HFS HERR0 HOK0 HOC HON HOO HG0
        go_wp2_with fail
        refine HQB.out.mono ?_
        rintro e w6 ⟨r, rfl, hbr, hb6⟩
        clear HQB
        rcases hbr with ⟨hg, rfl⟩ | ⟨hg, v6, rfl, hown⟩
        · have HG := hide (HERR.out 4 (by decide) (HH3.out.trans (lens3_bad hg)) (w6.alloc (.cells Z2.toArray 66)) ((HTN.out.belowT hb6 HTN.out.size).alloc _))
          have hst := code_store w6 Z2 Z2 HZn.out HZn.out HZ1.out
          rw [HZCV.out]
          clear hg hb6
          go_wp2
          go_ret3
          exact HG.out
        · rw [maps_back] at hown
          rw [maps_back]
          have hcs1 := codeCs_one (cn l) v6 (own_oneCell hown)
          have hcsn := codeCs_length (cn l) v6
          obtain ⟨aS, nS, cS, rfl⟩ : ∃ a n c, v6 = .slice a n c := by
            rcases len_form hown with ⟨e1, e2⟩ | ⟨g, c, e1⟩
            · exact ⟨none, 0, 0, e1⟩
            · exact ⟨_, _, c, e1⟩
          obtain ⟨hnS, hnil⟩ : (symTo l 16).length = nS ∧ True := by
            rcases len_form hown with ⟨e1, e2⟩ | ⟨g, c, e1⟩
            · injection e1 with _ e3 _
              exact ⟨e2.trans e3.symm, trivial⟩
            · injection e1 with _ e3 _
              exact ⟨e3.symm, trivial⟩
          have HLF0 := hide (fun cs => LF.start HRD.out HTN.out hb6 hown hnS cs)
          have HNX := hide (fun w v i (k : KN p v w aS (symTo l 16)) (r : RdAt 56 w p s i false) (hi : i ≤ 8 * s.size) => qnext_any l aS cS nS p s i w hnS k.arg (fun b off e => (k.free b off e).2.1) (by rw [HLN.out]; omega) r hi (by omega))
          have HH4 := hide (HH3.out.trans (lens3_ok hg))
          unfold codeV at HNX ⊢
          have HCSF := hide (HLF0.out (codeCs (cn l) (.slice aS nS cS)))
          have HSCF := hide (code_store w6 Z2 (codeCs (cn l) (.slice aS nS cS)) HZn.out hcsn hcs1)
          have HCSN := hide hcsn
          clear hcs1 hcsn HLF0 hown hb6 hg HH3 hnS hnil HRD HTN
          generalize codeCs (cn l) (.slice aS nS cS) = cs at *
          have hst := HSCF.out
          have HSZ := hide (show (Try.prog.info? 66).map (·.size) = some cs.length by rw [HCSN.out]; exact Try.sizeCode)
          obtain ⟨N, hN⟩ : ∃ N, x1 + 257 + (x2 + 1) = N := ⟨_, rfl⟩
          have ZN : (x1 : Int) + 257 + ((x2 : Int) + 1) = (N : Int) := by omega
          have hN9 : N ≤ 316 := by omega
          have HN258 := hide (show x1 + 258 ≤ N ∧ N ≤ x1 + 257 + 30 by omega)
          rw [hN] at HH4
          obtain ⟨RR, hRR⟩ : ∃ RR, runsP l N 400 [] (srcB s) (8 * s.size) q = RR := ⟨_, rfl⟩
          have HRR := hide hRR
          have HERR2 := hide (fun (e : Int) (hr : RR = .error e) => (show R = .error e by rw [HH4.out]; exact bindP_err (by rw [hRR]; exact hr)))
          have HOK2 := hide (fun (o : List Int) (j : Nat) (hr : RR = .ok (o, j)) => (show R = lens4 x1 o (srcB s) (8 * s.size) j by rw [HH4.out]; exact bindP_ok (by rw [hRR]; exact hr)))
          obtain ⟨S, hS⟩ : ∃ S, symTo l 16 = S := ⟨_, rfl⟩
          rw [hS] at HCSF
          simp only [hS] at HNX
          clear hRR HH4 hN hS HSCF _c2 zj
          go_wp2
          try (generalize hw7 : w6.alloc (.cells cs.toArray 66) = w7 at *; clear hw7)
          obtain ⟨Q, hQ⟩ : ∃ Q, w6.heap.size = Q := ⟨_, rfl⟩
          rw [hQ] at HCSF
          try simp only [hQ]
          clear hQ hst hzc
          go_loopg [13] N (fun gk vv wr => ∃ i out f a c, vv = .slice a (out : List Int).length c ∧ i ≤ 8 * s.size ∧ out.length ≤ N ∧ N - out.length ≤ gk ∧ 400 ≤ f + out.length ∧ Hid (runsP l N f out (srcB s) (8 * s.size) i = RR) ∧ Hid (LF 56 wr W p s i out (.slice a out.length c) aS Q cs S))
          case atStart => exact ⟨q, [], 400, none, 0, rfl, hq, Nat.zero_le _, by simp, Nat.le_refl _, HRR, HCSF⟩
          case round =>
            clear HCSF HRR
            obtain ⟨i, out, f, a0, c0, rfl, hi8, hoN, hgk, hfu, HE, HL⟩ := hrel
            obtain ⟨f, rfl⟩ : ∃ k, f = k + 1 := ⟨f - 1, by omega⟩
            obtain ⟨L, hL⟩ : ∃ L, out.length = L := ⟨_, rfl⟩
            have HLL := hide hL
            rw [hL] at HL hoN hgk hfu ⊢
            have HGK := hide hgk
            have HFU := hide hfu
            clear hL hgk hfu
            by_cases hLN : L < N
            · have zLN : (L : Int) < (N : Int) := by omega
              have HNN := hide (show ¬ N ≤ out.length by rw [HLL.out]; omega)
              have HRG := hide (code_range HL.out.qa)
              go_wp2_with (first
                | (refine wpList_load_mid rfl 66 (Operand.tmp 11) rfl Q 0 rfl cs _ HRG.out Try.underlying66 rfl HSZ.out ?_))
              refine (HNX.out wr _ i HL.out.ka HL.out.rd hi8).mono ?_
              rintro e w3 ⟨ht3, ⟨x, j, hx, hij, hj8, hxl, rfl, hr3⟩ | ⟨hx, rfl, i', hi', hr3⟩ | ⟨hx, rfl, i', hi', hr3⟩⟩
              · have HL3 := hide (HL.out.read ht3 hr3)
                have HX := hide hx
                rw [HLN.out] at hxl
                have hxb : xBits (x : Int) ≤ 7 := by
                  unfold xBits
                  split
                  · omega
                  split
                  · omega
                  split
                  · omega
                  omega
                obtain ⟨x4, q4, b4, hx4, hq4, hrr4, HC4⟩ := qrd_all (xBits (x : Int)) p j s false (by omega) hj8 (by omega)
                have HC4 := hide (HC4 w3 HL3.out.rd)
                have HQX := hide (fun w => (qbits7_same (x : Int) w))
                have HX4 := hide hx4
                have HJ2 := hide hq4
                have hx128 : x4 < 128 := by
                  have : (2 : Nat) ^ xBits (x : Int) ≤ 2 ^ 7 := Nat.pow_le_pow_right (by decide) hxb
                  omega
                have HRR4 := hide hrr4
                clear HL ht3 hr3 hx HRG hrr4 hx4 hq4
                obtain ⟨xb, hxe⟩ : ∃ xb, xBits (x : Int) = xb := ⟨_, rfl⟩
                have HXE := hide hxe
                rw [hxe] at HC4 hxb
                simp only [hxe] at HQX
                clear hxe
                go_wp2_with fail
                refine (HQX.out _).mono ?_
                rintro e w4 ⟨rfl, rfl⟩
                go_wp2_with fail
                refine HC4.out.mono ?_
                rintro e w5 ⟨rfl, ho5, hr5⟩
                have _c5 := hr5.c2
                rcases HRR4.out with ⟨_, rfl, h4⟩ | ⟨_, rfl, h4⟩ | ⟨h4, _⟩
                · have HL5 := hide (HL3.out.read ho5.turn (show RdAt 56 w5 p s q4 false from hr5))
                  have HFORM := hide (fun hn => HERR2.out 3 (by rw [← HE.out]; exact runs_form HNN.out HX.out h4 (runB_no (N : Int) out ((x : Int), (x4 : Int)) hn)))
                  have HNX0 := hide (fun (h16 : ¬ ((x : Int) = 16 ∧ out = [])) (K : Nat) (hK : timesR ((x : Int), (x4 : Int)) = (K : Int)) (y : Int) (hy : valR out (x : Int) = y) (hle : timesR ((x : Int), (x4 : Int)) ≤ (N : Int) - (out.length : Int)) => (show runsP l N f (out ++ List.replicate K y) (srcB s) (8 * s.size) q4 = RR by
                    rw [← HE.out]
                    exact (runs_next HNN.out HX.out h4 ((runB_iff (N : Int) out ((x : Int), (x4 : Int))).2 ⟨h16, by dsimp only; omega, by dsimp only; omega, by dsimp only; omega, by dsimp only; have := HX4.out; omega, hle⟩) K hK y hy).symm))
                  have HXX := hide h4
                  clear h4 HRR4 ho5 hr5 HL3 HQX HC4
                  by_cases c16 : x = 16
                  · subst c16
                    by_cases hL0 : L = 0
                    · subst hL0
                      have HG := hide (HERR.out 3 (by decide) (HFORM.out (fun g => g.1 ⟨rfl, List.length_eq_zero_iff.1 HLL.out⟩)) w5 HL5.out.tn)
                      clear HFORM HNX0
                      go_wp2
                      go_ret3
                      exact HG.out
                    · have hne : out ≠ [] := fun e => hL0 (by rw [← HLL.out, e]; rfl)
                      have HNEXT := hide (HNX0.out (fun g => hne g.2))
                      have hla := lastI_at out hne
                      rw [HLL.out] at hla
                      obtain ⟨val, hval⟩ : ∃ y, out.getLastD 0 = y := ⟨_, rfl⟩
                      rw [hval] at hla
                      have HVL := hide (show valR out ((16 : Nat) : Int) = val by rw [← hval]; exact vl16 out)
                      obtain ⟨K, hK⟩ : ∃ K, 3 + x4 = K := ⟨_, rfl⟩
                      have zK : (3 : Int) + (x4 : Int) = (K : Int) := by omega
                      have HTM := hide (show timesR (((16 : Nat) : Int), (x4 : Int)) = (K : Int) by rw [← zK]; exact tm16 _)
                      have HK1 := hide (show 1 ≤ K by omega)
                      have hK9 : K ≤ 140 := by omega
                      obtain ⟨aa, cc, ea, hz, _⟩ := own_argI HL5.out.own rfl
                      injection ea with ea1 ea2 ea3
                      subst ea1
                      subst ea3
                      obtain ⟨b6, off6, rfl, hb6, _c6⟩ := hz _ _ hla
                      have ew6 : (L : Int) - 1 = ((L - 1 : Nat) : Int) := by omega
                      have zl6 : ((L - 1 : Nat) : Int) < L := by omega
                      have bL0 : ((L : Int) == 0) = false := by simp; omega
                      generalize L - 1 = L1 at *
                      clear hne hla hval hK hz ea2 hb6 HNX0 hL0
                      by_cases hform : (N : Int) - (L : Int) < (K : Int)
                      · have zl : decide ((N : Int) - (L : Int) < (K : Int)) = true := decide_eq_true hform
                        have HG := hide (HERR.out 3 (by decide) (HFORM.out (fun g => by have g6 := g.2.2.2.2.2; rw [HTM.out, HLL.out] at g6; omega)) w5 HL5.out.tn)
                        clear hform HFORM HNEXT HTM HVL
                        go_wp2
                        go_ret3
                        exact HG.out
                      · have zl : decide ((N : Int) - (L : Int) < (K : Int)) = false := decide_eq_false hform
                        have hKN : L + K ≤ N := by omega
                        have HE2 := hide (HNEXT.out K HTM.out val HVL.out (by rw [HTM.out, HLL.out]; omega))
                        clear hform HFORM HNEXT HTM HVL
                        go_wp2
                        rename World => wq
                        go_loopw [13, 18] (fun vv kv wt => ∃ r o a9 c9, vv = .slice a9 (o : List Int).length c9 ∧ kv = .int .i64 (r : Nat) ∧ r ≤ K ∧ o.length + r = L + K ∧ Hid (o ++ List.replicate r val = out ++ List.replicate K val) ∧ Hid (LF 56 wt W p s q4 o (.slice a9 o.length c9) aS Q cs S)) (fun _ kv _ => (intOf kv).toNat)
                        case atStart => exact ⟨K, out, _, c0, by rw [HLL.out], rfl, Nat.le_refl _, by rw [HLL.out], hide rfl, by rw [HLL.out]; exact HL5⟩
                        case round =>
                          obtain ⟨r, o, a9, c9, rfl, rfl, hrK, hol, HOR, HL7⟩ := hrel
                          obtain ⟨M, hM⟩ : ∃ M, o.length = M := ⟨_, rfl⟩
                          have HMM := hide hM
                          rw [hM] at hol ⊢
                          have HOL := hide hol
                          have hM9 : M ≤ 400 := by omega
                          clear hol
                          by_cases hr0 : 0 < r
                          · obtain ⟨t, rfl⟩ : ∃ t, r = t + 1 := ⟨r - 1, by omega⟩
                            have zr : (0 : Int) < ((t + 1 : Nat) : Int) := by omega
                            have er : ((t + 1 : Nat) : Int) - 1 = (t : Int) := by omega
                            have ht9 : t ≤ 400 := by omega
                            have HOW := hide HL7.out.own
                            rw [hM] at HOW
                            have X1 := hide (show M + 1 ≤ maxLen by unfold maxLen; omega)
                            have X2 := hide (show (M + 1) * 8 ≤ 140737488355328 by omega)
                            have HSZ7 := hide HL7.out.tn.size
                            have HL2 := hide (show (o ++ [val]).length = M + 1 by rw [List.length_append, hM]; rfl)
                            have HPA := hide (fun ob => HL7.out.alloc ob)
                            simp only [hM] at HPA
                            have HTK := hide (show t ≤ K by omega)
                            have HOR2 := hide (show (o ++ [val]) ++ List.replicate t val = out ++ List.replicate K val by rw [← HOR.out, List.append_assoc]; rfl)
                            clear hM HOR HL7 hr0 hrK
                            go_wp2_with (first
                              | (at_builtin; refine wpList_append_fresh _ rfl _ _ 59 rfl W.heap.size 3 i1 (.int .i64 0) 1 8 Try.underlying59 ki kz0 kz1 kz2 rfl (by decide) (.slice a9 M c9) _ _ rfl (HOW.out.alloc _) _ 1 1 [.int .i64 val] rfl rfl (cell_one_new _ _ _) (one_int _) X1.out X2.out (size_alloc_le HSZ7.out) ?_; intro v8 w8 o8 g8 f8; rw [show [Value.int .i64 val] = intCs [val] from rfl, intCs_append] at o8; have HP8 := hide ((HPA.out _).grow (o := o ++ [val]) (by rw [HL2.out]; exact o8) g8 f8); clear o8 g8 f8))
                            obtain ⟨a8, c8, e8, _, _⟩ := own_argI HP8.out.own rfl
                            subst e8
                            go_roundw
                            case rel => exact ⟨t, o ++ [val], a8, c8, rfl, by go_num, HTK.out, by rw [HL2.out]; have := HOL.out; omega, HOR2, HP8⟩
                            case measure => first | (simp [intOf]; done) | (simp [intOf]; omega)
                          · obtain rfl : r = 0 := by omega
                            have HEN := hide (show runsP l N f o (srcB s) (8 * s.size) q4 = RR by
                              have h := HOR.out
                              rw [List.replicate_zero, List.append_nil] at h
                              rw [h]
                              exact HE2.out)
                            go_wp2
                            go_roundg (N - (L + K))
                            case measure => have := HGK.out; have := HK1.out; omega
                            case rel => exact ⟨q4, o, f, a9, c9, by rw [HMM.out], HJ2.out, by have := HOL.out; rw [HMM.out]; omega, by have := HOL.out; rw [HMM.out]; omega, by have := HFU.out; have := HOL.out; have := HK1.out; rw [HMM.out]; omega, HEN, HL7⟩
                  · by_cases c17 : x = 17
                    · subst c17
                      have HNEXT := hide (HNX0.out (fun g => by have := g.1; omega))
                      obtain ⟨val, hval⟩ : ∃ y : Int, y = 0 := ⟨_, rfl⟩
                      have HVL := hide (show valR out ((17 : Nat) : Int) = val by rw [hval]; exact vl17 out)
                      obtain ⟨K, hK⟩ : ∃ K, 3 + x4 = K := ⟨_, rfl⟩
                      have zK : (3 : Int) + (x4 : Int) = (K : Int) := by omega
                      have HTM := hide (show timesR (((17 : Nat) : Int), (x4 : Int)) = (K : Int) by rw [← zK]; exact tm17 _)
                      have HK1 := hide (show 1 ≤ K by omega)
                      have hK9 : K ≤ 140 := by omega
                      subst hval
                      clear hK HNX0 c16
                      by_cases hform : (N : Int) - (L : Int) < (K : Int)
                      · have zl : decide ((N : Int) - (L : Int) < (K : Int)) = true := decide_eq_true hform
                        have HG := hide (HERR.out 3 (by decide) (HFORM.out (fun g => by have g6 := g.2.2.2.2.2; rw [HTM.out, HLL.out] at g6; omega)) w5 HL5.out.tn)
                        clear hform HFORM HNEXT HTM HVL
                        go_wp2
                        go_ret3
                        exact HG.out
                      · have zl : decide ((N : Int) - (L : Int) < (K : Int)) = false := decide_eq_false hform
                        have hKN : L + K ≤ N := by omega
                        have HE2 := hide (HNEXT.out K HTM.out 0 HVL.out (by rw [HTM.out, HLL.out]; omega))
                        clear hform HFORM HNEXT HTM HVL
                        go_wp2
                        rename World => wq
                        go_loopw [13, 18] (fun vv kv wt => ∃ r o a9 c9, vv = .slice a9 (o : List Int).length c9 ∧ kv = .int .i64 (r : Nat) ∧ r ≤ K ∧ o.length + r = L + K ∧ Hid (o ++ List.replicate r 0 = out ++ List.replicate K 0) ∧ Hid (LF 56 wt W p s q4 o (.slice a9 o.length c9) aS Q cs S)) (fun _ kv _ => (intOf kv).toNat)
                        case atStart => exact ⟨K, out, _, c0, by rw [HLL.out], rfl, Nat.le_refl _, by rw [HLL.out], hide rfl, by rw [HLL.out]; exact HL5⟩
                        case round =>
                          obtain ⟨r, o, a9, c9, rfl, rfl, hrK, hol, HOR, HL7⟩ := hrel
                          obtain ⟨M, hM⟩ : ∃ M, o.length = M := ⟨_, rfl⟩
                          have HMM := hide hM
                          rw [hM] at hol ⊢
                          have HOL := hide hol
                          have hM9 : M ≤ 400 := by omega
                          clear hol
                          by_cases hr0 : 0 < r
                          · obtain ⟨t, rfl⟩ : ∃ t, r = t + 1 := ⟨r - 1, by omega⟩
                            have zr : (0 : Int) < ((t + 1 : Nat) : Int) := by omega
                            have er : ((t + 1 : Nat) : Int) - 1 = (t : Int) := by omega
                            have ht9 : t ≤ 400 := by omega
                            have HOW := hide HL7.out.own
                            rw [hM] at HOW
                            have X1 := hide (show M + 1 ≤ maxLen by unfold maxLen; omega)
                            have X2 := hide (show (M + 1) * 8 ≤ 140737488355328 by omega)
                            have HSZ7 := hide HL7.out.tn.size
                            have HL2 := hide (show (o ++ [0]).length = M + 1 by rw [List.length_append, hM]; rfl)
                            have HPA := hide (fun ob => HL7.out.alloc ob)
                            simp only [hM] at HPA
                            have HTK := hide (show t ≤ K by omega)
                            have HOR2 := hide (show (o ++ [0]) ++ List.replicate t 0 = out ++ List.replicate K 0 by rw [← HOR.out, List.append_assoc]; rfl)
                            clear hM HOR HL7 hr0 hrK
                            go_wp2_with (first
                              | (at_builtin; refine wpList_append_fresh _ rfl _ _ 59 rfl W.heap.size 3 i1 (.int .i64 0) 1 8 Try.underlying59 ki kz0 kz1 kz2 rfl (by decide) (.slice a9 M c9) _ _ rfl (HOW.out.alloc _) _ 1 1 [.int .i64 0] rfl rfl (cell_one_new _ _ _) (one_int _) X1.out X2.out (size_alloc_le HSZ7.out) ?_; intro v8 w8 o8 g8 f8; rw [show [Value.int .i64 0] = intCs [0] from rfl, intCs_append] at o8; have HP8 := hide ((HPA.out _).grow (o := o ++ [0]) (by rw [HL2.out]; exact o8) g8 f8); clear o8 g8 f8))
                            obtain ⟨a8, c8, e8, _, _⟩ := own_argI HP8.out.own rfl
                            subst e8
                            go_roundw
                            case rel => exact ⟨t, o ++ [0], a8, c8, rfl, by go_num, HTK.out, by rw [HL2.out]; have := HOL.out; omega, HOR2, HP8⟩
                            case measure => first | (simp [intOf]; done) | (simp [intOf]; omega)
                          · obtain rfl : r = 0 := by omega
                            have HEN := hide (show runsP l N f o (srcB s) (8 * s.size) q4 = RR by
                              have h := HOR.out
                              rw [List.replicate_zero, List.append_nil] at h
                              rw [h]
                              exact HE2.out)
                            go_wp2
                            go_roundg (N - (L + K))
                            case measure => have := HGK.out; have := HK1.out; omega
                            case rel => exact ⟨q4, o, f, a9, c9, by rw [HMM.out], HJ2.out, by have := HOL.out; rw [HMM.out]; omega, by have := HOL.out; rw [HMM.out]; omega, by have := HFU.out; have := HOL.out; have := HK1.out; rw [HMM.out]; omega, HEN, HL7⟩
                    · by_cases c18 : x = 18
                      · subst c18
                        have HNEXT := hide (HNX0.out (fun g => by have := g.1; omega))
                        have HVL := hide (show valR out ((18 : Nat) : Int) = 0 from vl18 out)
                        obtain ⟨K, hK⟩ : ∃ K, 11 + x4 = K := ⟨_, rfl⟩
                        have zK : (11 : Int) + (x4 : Int) = (K : Int) := by omega
                        have HTM := hide (show timesR (((18 : Nat) : Int), (x4 : Int)) = (K : Int) by rw [← zK]; exact tm18 _)
                        have HK1 := hide (show 1 ≤ K by omega)
                        have hK9 : K ≤ 140 := by omega
                        clear hK HNX0 c16 c17
                        by_cases hform : (N : Int) - (L : Int) < (K : Int)
                        · have zl : decide ((N : Int) - (L : Int) < (K : Int)) = true := decide_eq_true hform
                          have HG := hide (HERR.out 3 (by decide) (HFORM.out (fun g => by have g6 := g.2.2.2.2.2; rw [HTM.out, HLL.out] at g6; omega)) w5 HL5.out.tn)
                          clear hform HFORM HNEXT HTM HVL
                          go_wp2
                          go_ret3
                          exact HG.out
                        · have zl : decide ((N : Int) - (L : Int) < (K : Int)) = false := decide_eq_false hform
                          have hKN : L + K ≤ N := by omega
                          have HE2 := hide (HNEXT.out K HTM.out 0 HVL.out (by rw [HTM.out, HLL.out]; omega))
                          clear hform HFORM HNEXT HTM HVL
                          go_wp2
                          rename World => wq
                          go_loopw [13, 18] (fun vv kv wt => ∃ r o a9 c9, vv = .slice a9 (o : List Int).length c9 ∧ kv = .int .i64 (r : Nat) ∧ r ≤ K ∧ o.length + r = L + K ∧ Hid (o ++ List.replicate r 0 = out ++ List.replicate K 0) ∧ Hid (LF 56 wt W p s q4 o (.slice a9 o.length c9) aS Q cs S)) (fun _ kv _ => (intOf kv).toNat)
                          case atStart => exact ⟨K, out, _, c0, by rw [HLL.out], rfl, Nat.le_refl _, by rw [HLL.out], hide rfl, by rw [HLL.out]; exact HL5⟩
                          case round =>
                            obtain ⟨r, o, a9, c9, rfl, rfl, hrK, hol, HOR, HL7⟩ := hrel
                            obtain ⟨M, hM⟩ : ∃ M, o.length = M := ⟨_, rfl⟩
                            have HMM := hide hM
                            rw [hM] at hol ⊢
                            have HOL := hide hol
                            have hM9 : M ≤ 400 := by omega
                            clear hol
                            by_cases hr0 : 0 < r
                            · obtain ⟨t, rfl⟩ : ∃ t, r = t + 1 := ⟨r - 1, by omega⟩
                              have zr : (0 : Int) < ((t + 1 : Nat) : Int) := by omega
                              have er : ((t + 1 : Nat) : Int) - 1 = (t : Int) := by omega
                              have ht9 : t ≤ 400 := by omega
                              have HOW := hide HL7.out.own
                              rw [hM] at HOW
                              have X1 := hide (show M + 1 ≤ maxLen by unfold maxLen; omega)
                              have X2 := hide (show (M + 1) * 8 ≤ 140737488355328 by omega)
                              have HSZ7 := hide HL7.out.tn.size
                              have HL2 := hide (show (o ++ [0]).length = M + 1 by rw [List.length_append, hM]; rfl)
                              have HPA := hide (fun ob => HL7.out.alloc ob)
                              simp only [hM] at HPA
                              have HTK := hide (show t ≤ K by omega)
                              have HOR2 := hide (show (o ++ [0]) ++ List.replicate t 0 = out ++ List.replicate K 0 by rw [← HOR.out, List.append_assoc]; rfl)
                              clear hM HOR HL7 hr0 hrK
                              go_wp2_with (first
                                | (at_builtin; refine wpList_append_fresh _ rfl _ _ 59 rfl W.heap.size 3 i1 (.int .i64 0) 1 8 Try.underlying59 ki kz0 kz1 kz2 rfl (by decide) (.slice a9 M c9) _ _ rfl (HOW.out.alloc _) _ 1 1 [.int .i64 0] rfl rfl (cell_one_new _ _ _) (one_int _) X1.out X2.out (size_alloc_le HSZ7.out) ?_; intro v8 w8 o8 g8 f8; rw [show [Value.int .i64 0] = intCs [0] from rfl, intCs_append] at o8; have HP8 := hide ((HPA.out _).grow (o := o ++ [0]) (by rw [HL2.out]; exact o8) g8 f8); clear o8 g8 f8))
                              obtain ⟨a8, c8, e8, _, _⟩ := own_argI HP8.out.own rfl
                              subst e8
                              go_roundw
                              case rel => exact ⟨t, o ++ [0], a8, c8, rfl, by go_num, HTK.out, by rw [HL2.out]; have := HOL.out; omega, HOR2, HP8⟩
                              case measure => first | (simp [intOf]; done) | (simp [intOf]; omega)
                            · obtain rfl : r = 0 := by omega
                              have HEN := hide (show runsP l N f o (srcB s) (8 * s.size) q4 = RR by
                                have h := HOR.out
                                rw [List.replicate_zero, List.append_nil] at h
                                rw [h]
                                exact HE2.out)
                              go_wp2
                              go_roundg (N - (L + K))
                              case measure => have := HGK.out; have := HK1.out; omega
                              case rel => exact ⟨q4, o, f, a9, c9, by rw [HMM.out], HJ2.out, by have := HOL.out; rw [HMM.out]; omega, by have := HOL.out; rw [HMM.out]; omega, by have := HFU.out; have := HOL.out; have := HK1.out; rw [HMM.out]; omega, HEN, HL7⟩
                      · have HNEXT := hide (HNX0.out (fun g => by have := g.1; omega))
                        have hpl := plain_run (x : Int) (by omega) (by omega) (by omega)
                        have HVL := hide (hpl.2.2 out)
                        have HTM := hide (show timesR ((x : Int), (x4 : Int)) = ((1 : Nat) : Int) from hpl.2.1 _)
                        have HK1 := hide (show 1 ≤ 1 by omega)
                        have b16 : ((x : Int) == 16) = false := by simp; omega
                        have b17 : ((x : Int) == 17) = false := by simp; omega
                        have b18 : ((x : Int) == 18) = false := by simp; omega
                        clear hpl HNX0 c16 c17 c18
                        by_cases hform : (N : Int) - (L : Int) < 1
                        · have zl : decide ((N : Int) - (L : Int) < 1) = true := decide_eq_true hform
                          have HG := hide (HERR.out 3 (by decide) (HFORM.out (fun g => by have g6 := g.2.2.2.2.2; rw [HTM.out, HLL.out] at g6; omega)) w5 HL5.out.tn)
                          clear hform HFORM HNEXT HTM HVL
                          go_wp2
                          go_ret3
                          exact HG.out
                        · have zl : decide ((N : Int) - (L : Int) < 1) = false := decide_eq_false hform
                          have hKN : L + 1 ≤ N := by omega
                          have HE2 := hide (HNEXT.out 1 HTM.out (x : Int) HVL.out (by rw [HTM.out, HLL.out]; omega))
                          clear hform HFORM HNEXT HTM HVL
                          go_wp2
                          rename World => wq
                          go_loopw [13, 18] (fun vv kv wt => ∃ r o a9 c9, vv = .slice a9 (o : List Int).length c9 ∧ kv = .int .i64 (r : Nat) ∧ r ≤ 1 ∧ o.length + r = L + 1 ∧ Hid (o ++ List.replicate r (x : Int) = out ++ List.replicate 1 (x : Int)) ∧ Hid (LF 56 wt W p s q4 o (.slice a9 o.length c9) aS Q cs S)) (fun _ kv _ => (intOf kv).toNat)
                          case atStart => exact ⟨1, out, _, c0, by rw [HLL.out], rfl, Nat.le_refl _, by rw [HLL.out], hide rfl, by rw [HLL.out]; exact HL5⟩
                          case round =>
                            obtain ⟨r, o, a9, c9, rfl, rfl, hrK, hol, HOR, HL7⟩ := hrel
                            obtain ⟨M, hM⟩ : ∃ M, o.length = M := ⟨_, rfl⟩
                            have HMM := hide hM
                            rw [hM] at hol ⊢
                            have HOL := hide hol
                            have hM9 : M ≤ 400 := by omega
                            clear hol
                            by_cases hr0 : 0 < r
                            · obtain ⟨t, rfl⟩ : ∃ t, r = t + 1 := ⟨r - 1, by omega⟩
                              have zr : (0 : Int) < ((t + 1 : Nat) : Int) := by omega
                              have er : ((t + 1 : Nat) : Int) - 1 = (t : Int) := by omega
                              have ht9 : t ≤ 400 := by omega
                              have HOW := hide HL7.out.own
                              rw [hM] at HOW
                              have X1 := hide (show M + 1 ≤ maxLen by unfold maxLen; omega)
                              have X2 := hide (show (M + 1) * 8 ≤ 140737488355328 by omega)
                              have HSZ7 := hide HL7.out.tn.size
                              have HL2 := hide (show (o ++ [(x : Int)]).length = M + 1 by rw [List.length_append, hM]; rfl)
                              have HPA := hide (fun ob => HL7.out.alloc ob)
                              simp only [hM] at HPA
                              have HTK := hide (show t ≤ 1 by omega)
                              have HOR2 := hide (show (o ++ [(x : Int)]) ++ List.replicate t (x : Int) = out ++ List.replicate 1 (x : Int) by rw [← HOR.out, List.append_assoc]; rfl)
                              clear hM HOR HL7 hr0 hrK
                              go_wp2_with (first
                                | (at_builtin; refine wpList_append_fresh _ rfl _ _ 59 rfl W.heap.size 3 i1 (.int .i64 0) 1 8 Try.underlying59 ki kz0 kz1 kz2 rfl (by decide) (.slice a9 M c9) _ _ rfl (HOW.out.alloc _) _ 1 1 [.int .i64 (x : Int)] rfl rfl (cell_one_new _ _ _) (one_int _) X1.out X2.out (size_alloc_le HSZ7.out) ?_; intro v8 w8 o8 g8 f8; rw [show [Value.int .i64 (x : Int)] = intCs [(x : Int)] from rfl, intCs_append] at o8; have HP8 := hide ((HPA.out _).grow (o := o ++ [(x : Int)]) (by rw [HL2.out]; exact o8) g8 f8); clear o8 g8 f8))
                              obtain ⟨a8, c8, e8, _, _⟩ := own_argI HP8.out.own rfl
                              subst e8
                              go_roundw
                              case rel => exact ⟨t, o ++ [(x : Int)], a8, c8, rfl, by go_num, HTK.out, by rw [HL2.out]; have := HOL.out; omega, HOR2, HP8⟩
                              case measure => first | (simp [intOf]; done) | (simp [intOf]; omega)
                            · obtain rfl : r = 0 := by omega
                              have HEN := hide (show runsP l N f o (srcB s) (8 * s.size) q4 = RR by
                                have h := HOR.out
                                rw [List.replicate_zero, List.append_nil] at h
                                rw [h]
                                exact HE2.out)
                              go_wp2
                              go_roundg (N - (L + 1))
                              case measure => have := HGK.out; have := HK1.out; omega
                              case rel => exact ⟨q4, o, f, a9, c9, by rw [HMM.out], HJ2.out, by have := HOL.out; rw [HMM.out]; omega, by have := HOL.out; rw [HMM.out]; omega, by have := HFU.out; have := HOL.out; have := HK1.out; rw [HMM.out]; omega, HEN, HL7⟩
                · have HG := hide (HERR.out 2 (by decide) (HERR2.out 2 (by rw [← HE.out]; exact runs_short HNN.out HX.out h4)) w5 (HL3.out.tn.trans ho5.turn))
                  clear h4 HRR4 ho5 hr5 HL3 HQX HC4
                  go_wp2
                  go_ret3
                  exact HG.out
                · cases h4
              · have HG := hide (HERR.out 2 (by decide) (HERR2.out 2 (by rw [← HE.out]; exact runs_err HNN.out hx)) w3 (HL.out.tn.trans ht3))
                clear ht3 hr3 hx HRG
                go_wp2
                go_ret3
                exact HG.out
              · have HG := hide (HERR.out 4 (by decide) (HERR2.out 4 (by rw [← HE.out]; exact runs_err HNN.out hx)) w3 (HL.out.tn.trans ht3))
                clear ht3 hr3 hx HRG
                go_wp2
                go_ret3
                exact HG.out
            · have hLe : L = N := by omega
              have zLN : ¬ (L : Int) < (N : Int) := by omega
              have HO := hide (HOK2.out out i (HE.out.symm.trans (runs_end (by rw [HLL.out]; omega))))
              obtain ⟨hN1, hN2⟩ := HN258.out
              obtain ⟨g, cq, e0⟩ := own_slice HL.out.own (by rw [HLL.out]; omega)
              injection e0 with e1 e2 e3
              subst e1
              subst e3
              clear e2
              have ho := HL.out.own
              rw [HLL.out] at ho
              have hcap := own_cap ho
              obtain ⟨y, hy⟩ : ∃ y, out[256]? = some y := ⟨_, List.getElem?_eq_getElem (by rw [HLL.out]; omega)⟩
              have _c6 : wr.cell? ⟨g, 256, none⟩ = some (.int .i64 y) := by
                rw [ho.cellAt 256 (by omega)]
                unfold intCs
                rw [List.getElem?_map, hy]
                rfl
              have hgd : out.getD 256 0 = y := by rw [List.getD_eq_getElem?_getD, hy]; rfl
              have zL6 : (256 : Int) < L := by omega
              by_cases y0 : y = 0
              · have HG := hide (HERR.out 4 (by decide) (HO.out.trans (lens4_bad (hgd.trans y0))) wr HL.out.tn)
                subst y0
                clear ho hcap hy hgd hLe hN1 hN2 HL HE
                go_wp2
                go_ret3
                exact HG.out
              · have yb : (y == 0) = false := by simp; exact y0
                obtain ⟨a9, ca9, ea, hz, _⟩ := own_argI HL.out.own rfl
                injection ea with ea1 ea2 ea3
                subst ea1
                clear ea2 ea3
                have HG := hide (fun q => (show LensPost 56 R W p s (.returned (.tuple #[.slice (some ⟨g, 0, none⟩) (x1 + 257) c0, .slice (some ⟨g, x1 + 257, none⟩) (L - (x1 + 257)) (c0 - (x1 + 257)), .int .i64 0])) (wr.drewN q) from
                  ⟨HL.out.tn.drewN q, .inl ⟨out.take (x1 + 257), out.drop (x1 + 257), i, some ⟨g, 0, none⟩, c0, some ⟨g, x1 + 257, none⟩, c0 - (x1 + 257), HO.out.trans (lens4_ok (by rw [hgd]; exact y0)), by rw [List.length_take, List.length_drop, HLL.out, Nat.min_eq_left (by omega)], hi8, by rw [List.length_take]; omega, by rw [List.length_drop, HLL.out]; omega, argZ_take hz _, by have h := argZ_drop hz (x1 + 257); rw [Nat.zero_add] at h; exact h, HL.out.rd⟩⟩))
                have hs1 := sliceZ_to (some ⟨g, 0, none⟩) L c0 (x1 + 257) ((x1 : Int) + 257) (by omega) (by omega)
                have hs2 := sliceZ_from g L c0 (x1 + 257) ((x1 : Int) + 257) (by omega) (by omega) (by omega)
                clear ho hcap hy hgd hLe hN1 hN2 HL HE hz y0
                go_wp2_with fail
                go_quiet (fail)
                go_wp2
                go_ret3
                exact HG.out _

end Go.Proofs.Ytaalbaiglkadlaa
