import Derived.Test.YtaalbaiglkadlaaGreatID
import Derived.Test.YtaalbaiglkadlaaGreatBitsA
import Derived.Test.YtaalbaiglkadlaaGreatKB
import Derived.Test.YtaalbaiglkadlaaGreatIOpen0
import Derived.Test.YtaalbaiglkadlaaGreatIOpen
import Derived.Deep.AppendLies
/- The program's reader, gone wrong or not: contracts of one form, for layer 11. -/
namespace Go.Proofs.YtaalbaiglkadlaaGreat
open Go.RowKit Go.Lib

/-- k bits by any reader, gone wrong or not. -/
theorem rd_all (k p q : Nat) (s : ByteArray) (bad : Bool) (hk : k ≤ 30) (hq : q ≤ 8 * s.size) (hs : s.size ≤ 1000000) : ∃ (x q' : Nat) (bad' : Bool), x < 2 ^ k ∧ q' ≤ 8 * s.size ∧ RdRel k q s bad x q' bad' ∧
    ∀ W, RdS 43 W p s q bad → Calls Tryz.prog 13 #[.pointer (some ⟨p, 0, none⟩), .int .i64 (k : Nat)] W fun e w' => e = .returned (.int .i64 (x : Nat)) ∧ Only p W w' ∧ RdS 43 w' p s q' bad' := by
  have hpos : 0 < 2 ^ k := Nat.pow_pos (by decide)
  cases bad with
  | true =>
    refine ⟨0, q, true, hpos, hq, .inr (.inr ⟨rfl, rfl⟩), fun W h => ?_⟩
    obtain ⟨i, hi, h⟩ := h
    refine (rbits_no p s i true (k : Int) W k (takenI_nat k hk) h hi (.inl rfl) (by omega)).mono ?_
    rintro e w' ⟨rfl, h1, h2⟩
    exact ⟨rfl, h2, h1⟩
  | false =>
    by_cases hr : q + k ≤ 8 * s.size
    · refine ⟨numLo (srcB s) q k, q + k, false, ?_, hr, .inl ⟨rfl, rfl, by unfold rdP; rw [if_pos hr]⟩, fun W h => ?_⟩
      · have hlt := (numI_lt s q k).2
        rw [numI_lo] at hlt
        have e2 : ((2 ^ k : Nat) : Int) = (2 : Int) ^ k := by rw [Int.natCast_pow]; rfl
        omega
      · refine (rbits_ok p s q (k : Int) W k (takenI_nat k hk) h hr (by omega)).mono ?_
        rintro e w' ⟨rfl, h1, h2⟩
        rw [numI_lo]
        exact ⟨rfl, h2, h1⟩
    · refine ⟨0, q, true, hpos, hq, .inr (.inl ⟨rfl, rfl, by unfold rdP; rw [if_neg hr]⟩), fun W h => ?_⟩
      refine (rbits_no p s q false (k : Int) W k (takenI_nat k hk) h hq (.inr (by omega)) (by omega)).mono ?_
      rintro e w' ⟨rfl, h1, h2⟩
      exact ⟨rfl, h2, h1⟩
/-- One bit by any reader, gone wrong or not. -/
theorem rd1_all (p q : Nat) (s : ByteArray) (bad : Bool) (hq : q ≤ 8 * s.size) (hs : s.size ≤ 1000000) : ∃ (x q' : Nat) (bad' : Bool), x < 2 ∧ q' ≤ 8 * s.size ∧ RdRel 1 q s bad x q' bad' ∧
    ∀ W, RdS 43 W p s q bad → Calls Tryz.prog 23 #[.pointer (some ⟨p, 0, none⟩)] W fun e w' => e = .returned (.int .i64 (x : Nat)) ∧ Only p W w' ∧ RdS 43 w' p s q' bad' := by
  cases bad with
  | true =>
    refine ⟨0, q, true, by decide, hq, .inr (.inr ⟨rfl, rfl⟩), fun W h => ?_⟩
    obtain ⟨i, hi, h⟩ := h
    refine (rbit_bad p s i W h).mono ?_
    rintro e w' ⟨rfl, h1, h2⟩
    exact ⟨rfl, h2, ⟨i, hi, h1⟩⟩
  | false =>
    by_cases hr : q / 8 < s.size
    · refine ⟨numLo (srcB s) q 1, q + 1, false, ?_, by omega, .inl ⟨rfl, rfl, by unfold rdP; rw [if_pos (by omega)]⟩, fun W h => ?_⟩
      · have hlt := (numI_lt s q 1).2
        rw [numI_lo] at hlt
        omega
      · refine (rbit_ok p s q W h hr (by omega)).mono ?_
        rintro e w' ⟨rfl, h1, h2⟩
        refine ⟨?_, h2, h1⟩
        rw [← numI_lo]
        show _ = Ending.returned (.int .i64 (0 + bitI s (q + 0) * 2 ^ 0))
        rw [Int.zero_add, Nat.add_zero, Int.pow_zero, Int.mul_one]
    · refine ⟨0, q, true, by decide, hq, .inr (.inl ⟨rfl, rfl, by unfold rdP; rw [if_neg (by omega)]⟩), fun W h => ?_⟩
      refine (rbit_end p s q W h (by omega)).mono ?_
      rintro e w' ⟨rfl, h1, h2⟩
      exact ⟨rfl, h2, ⟨q, hq, h1⟩⟩
/-- What the reading of a symbol by the program's layer 5 leaves: the symbol, or -1. -/
def SymPost (ls : List Nat) (p : Nat) (s : ByteArray) (i : Nat) (W : World) (e : Ending) (w' : World) : Prop := Turn p W w' ∧
  ((∃ x j, symP ls (srcB s) (8 * s.size) i = .ok (x, j) ∧ i < j ∧ j ≤ 8 * s.size ∧ x < ls.length ∧ e = .returned (.int .i64 (x : Nat)) ∧ RdAt 43 w' p s j false) ∨
   (symP ls (srcB s) (8 * s.size) i = .error 2 ∧ ∃ y : Int, y < 0 ∧ e = .returned (.int .i64 y) ∧ ∃ i', i' ≤ 8 * s.size ∧ RdAt 43 w' p s i' true) ∨
   (symP ls (srcB s) (8 * s.size) i = .error 4 ∧ ∃ y : Int, y < 0 ∧ e = .returned (.int .i64 y) ∧ ∃ i', i' ≤ 8 * s.size ∧ RdAt 43 w' p s i' false))
theorem sym_all (ls : List Nat) (a : Option Addr) (c m : Nat) (p : Nat) (s : ByteArray) (i : Nat) (W : World) (hm : (symTo ls 16).length = m) (harg : ArgN W a (symTo ls 16)) (hne : ∀ b off, a = some ⟨b, off, none⟩ → b ≠ p) (hls : ls.length ≤ 1000)
    (h : RdAt 43 W p s i false) (hi : i ≤ 8 * s.size) (hs : s.size ≤ 1000000) :
    Calls Tryz.prog 74 #[.pointer (some ⟨p, 0, none⟩), codeV (cn ls) (.slice a m c)] W fun e w' => SymPost ls p s i W e w' := by
  refine (read_any ls a c m p s i W hm harg hne hls h hi hs).mono ?_
  rintro e w' ⟨x, u, bad, rfl, HX, HR, HT⟩
  have hX := HX.out
  have hR := HR.out
  have hT := HT.out
  clear HX HR HT
  have hsy := symP_res ls (srcB s) (8 * s.size) i hi hX
  refine ⟨hT, ?_⟩
  have hu : i + u ≤ 8 * s.size := by
    rcases hX with ⟨k, _, h2, _, rfl, _⟩ | ⟨_, _, rfl, _⟩ <;> omega
  by_cases h0 : 0 ≤ x
  · rw [if_pos h0] at hsy
    left
    rcases hX with ⟨k, h1, h2, rfl, rfl, rfl⟩ | ⟨_, rfl, _⟩
    · refine ⟨symAt ls (bitsF s i) u, i + u, ?_, by have := h1.lo; omega, by omega, h1.sym.1, rfl, hR⟩
      rw [hsy, Int.toNat_natCast]
    · omega
  · rw [if_neg h0] at hsy
    cases bad with
    | true =>
      rw [if_pos rfl] at hsy
      exact .inr (.inl ⟨hsy, x, by omega, rfl, i + u, hu, hR⟩)
    | false =>
      rw [if_neg (by decide)] at hsy
      exact .inr (.inr ⟨hsy, x, by omega, rfl, i + u, hu, hR⟩)

end Go.Proofs.YtaalbaiglkadlaaGreat

/- Ahead of the program's layer 11: a header's reading in the program's order; runs under way; which blocks an opening may have turned. Nothing of the program is named here. -/
namespace Go.Proofs.YtaalbaiglkadlaaGreat
open Go.RowKit Go.Lib

theorem bindP_assoc {α β γ : Type} (P : Ps α) (f : α → Ps β) (g : β → Ps γ) : bindP (bindP P f) g = bindP P fun a => bindP (f a) g := by
  funext B T i
  unfold bindP
  cases P B T i with
  | error e => rfl
  | ok x => rfl
theorem pureP_bind {α β : Type} (a : α) (g : α → Ps β) : bindP (pureP a) g = g a := rfl
/-- A header, without what is asked of the symbol that ends. -/
def head3 (a b : Nat) (fl : List Nat) : Ps (List Int × List Int) := bindP (chkP (goodB (fl.map fun (x : Nat) => (x : Int))) 4) fun _ => bindP (runsP fl (a + 257 + (b + 1)) 400 []) fun out => pureP (out.take (a + 257), out.drop (a + 257))
def head2 (a b k : Nat) : Ps (List Int × List Int) := bindP (chkP (decide (a + 257 ≤ 286) && decide (b + 1 ≤ 30)) 3) fun _ => bindP (firstP (k + 4) 0 (List.replicate 19 0)) (head3 a b)
def headP : Ps (List Int × List Int) := bindP (rdP 5) fun a => bindP (rdP 5) fun b => bindP (rdP 4) fun k => head2 a b k
/-- What is asked of the symbol that ends. -/
def stopK (ab : List Int × List Int) : Ps Unit := chkP (decide (ab.1.getD 256 0 ≠ 0)) 4
theorem lens4_head (a : Nat) : lens4 a = fun out => bindP (pureP (out.take (a + 257), out.drop (a + 257))) fun ab => bindP (stopK ab) fun _ => pureP ab := by
  funext out
  rw [pureP_bind]
  unfold lens4 stopK
  have e : (out.take (a + 257)).getD 256 0 = out.getD 256 0 := by
    rw [List.getD_eq_getElem?_getD, List.getD_eq_getElem?_getD, List.getElem?_take, if_pos (by omega)]
  rw [e]
theorem lens_head : lensP = bindP headP fun ab => bindP (stopK ab) fun _ => pureP ab := by
  rw [lens_split]
  unfold headP
  simp only [bindP_assoc]
  congr 1; funext a; congr 1; funext b; congr 1; funext k
  unfold lens2 head2
  simp only [bindP_assoc]
  congr 1; funext _; congr 1; funext fl
  unfold lens3 head3
  simp only [bindP_assoc, lens4_head]
/-- The tokens of a block, by lengths, in the program's order. -/
def codedP (limit : Int) (out : List Nat) (ab : List Int × List Int) : Ps (List Nat) := bindP (chkP (goodB ab.1 && goodB ab.2) 4) fun _ => bindP (stopK ab) fun _ => pourP (ab.1.map Int.toNat) (ab.2.map Int.toNat) limit 1000000 out
theorem chk_swap {α : Type} (b c : Bool) (P : Ps α) : (bindP (chkP b 4) fun _ => bindP (chkP c 4) fun _ => P) = bindP (chkP c 4) fun _ => bindP (chkP b 4) fun _ => P := by
  cases b <;> cases c <;> rfl
theorem lens_coded (limit : Int) (out : List Nat) : (bindP lensP fun ab => bindP (chkP (goodB ab.1 && goodB ab.2) 4) fun _ => pourP (ab.1.map Int.toNat) (ab.2.map Int.toNat) limit 1000000 out) = bindP headP (codedP limit out) := by
  rw [lens_head, bindP_assoc]
  congr 1; funext ab
  rw [bindP_assoc]
  unfold codedP stopK
  rw [chk_swap]
  rfl
theorem plain_stop : stopK ((plainL.map fun (x : Nat) => (x : Int)), (plainD.map fun (x : Nat) => (x : Int))) = pureP () := by
  unfold stopK chkP
  rw [if_pos (by decide +kernel)]
/-- A block's head is read: what is behind. -/
def kindP (limit : Int) (out : List Nat) (kind : Nat) : Ps (List Nat) := if kind = 0 then rawP limit out else if kind = 3 then failP 3 else if kind = 1 then codedP limit out ((plainL.map fun (x : Nat) => (x : Int)), (plainD.map fun (x : Nat) => (x : Int))) else bindP headP (codedP limit out)
theorem block_kind (limit : Int) (out : List Nat) (last kind : Nat) : blockK limit out last kind = bindP (kindP limit out kind) fun o => pureP (last, o) := by
  unfold blockK kindP
  by_cases h0 : kind = 0
  · rw [if_pos h0, if_pos h0]
  rw [if_neg h0, if_neg h0]
  by_cases h3 : kind = 3
  · rw [if_pos h3, if_pos h3]
    rfl
  rw [if_neg h3, if_neg h3]
  unfold codesP
  by_cases h1 : kind = 1
  · rw [if_pos h1, if_pos h1, pureP_bind]
    unfold codedP
    rw [plain_stop]
    simp only [bindP_assoc]
    rfl
  · rw [if_neg h1, if_neg h1, ← lens_coded]
    simp only [bindP_assoc]
section
variable {s : ByteArray} {i x1 q1 x2 q2 x3 q3 : Nat} {b1 b2 b3 : Bool}
/-- Three numbers: all of them there, or too short. -/
theorem head_heads (r1 : RdRel 5 i s false x1 q1 b1) (r2 : RdRel 5 q1 s b1 x2 q2 b2) (r3 : RdRel 4 q2 s b2 x3 q3 b3) :
    (b3 = true ∧ headP (srcB s) (8 * s.size) i = .error 2) ∨ (b3 = false ∧ headP (srcB s) (8 * s.size) i = head2 x1 x2 x3 (srcB s) (8 * s.size) q3) := by
  unfold headP
  rcases r1 with ⟨_, rfl, h1⟩ | ⟨_, rfl, h1⟩ | ⟨h, _⟩
  · rcases r2 with ⟨_, rfl, h2⟩ | ⟨_, rfl, h2⟩ | ⟨h, _⟩
    · rcases r3 with ⟨_, rfl, h3⟩ | ⟨_, rfl, h3⟩ | ⟨h, _⟩
      · exact .inr ⟨rfl, by rw [bindP_ok h1, bindP_ok h2, bindP_ok h3]⟩
      · exact .inl ⟨rfl, by rw [bindP_ok h1, bindP_ok h2, bindP_err h3]⟩
      · cases h
    · rcases r3 with ⟨h, _⟩ | ⟨h, _⟩ | ⟨_, rfl⟩
      · cases h
      · cases h
      · exact .inl ⟨rfl, by rw [bindP_ok h1, bindP_err h2]⟩
    · cases h
  · rcases r2 with ⟨h, _⟩ | ⟨h, _⟩ | ⟨_, rfl⟩
    · cases h
    · cases h
    rcases r3 with ⟨h, _⟩ | ⟨h, _⟩ | ⟨_, rfl⟩
    · cases h
    · cases h
    exact .inl ⟨rfl, bindP_err h1⟩
  · cases h
end
section
variable {a b k : Nat} {B : Nat → Nat} {T i : Nat}
theorem head2_bad (h : ¬ (a ≤ 29 ∧ b ≤ 29)) : head2 a b k B T i = .error 3 := by
  unfold head2
  refine bindP_err ?_
  have e : (decide (a + 257 ≤ 286) && decide (b + 1 ≤ 30)) = false := by
    cases hh : (decide (a + 257 ≤ 286) && decide (b + 1 ≤ 30)) with
    | false => rfl
    | true =>
      rw [Bool.and_eq_true, decide_eq_true_eq, decide_eq_true_eq] at hh
      omega
  rw [e]
  rfl
theorem head2_ok (h : a ≤ 29) (h2 : b ≤ 29) : head2 a b k B T i = bindP (firstP (k + 4) 0 (List.replicate 19 0)) (head3 a b) B T i := by
  unfold head2
  rw [bindP_ok (a := ()) (j := i)]
  rw [decide_eq_true (show a + 257 ≤ 286 by omega), decide_eq_true (show b + 1 ≤ 30 by omega)]
  rfl
theorem head3_bad {fl : List Nat} (h : goodB (fl.map fun (x : Nat) => (x : Int)) = false) : head3 a b fl B T i = .error 4 := by
  unfold head3
  refine bindP_err ?_
  rw [h]
  rfl
theorem head3_ok {fl : List Nat} (h : goodB (fl.map fun (x : Nat) => (x : Int)) = true) : head3 a b fl B T i = bindP (runsP fl (a + 257 + (b + 1)) 400 []) (fun out => pureP (out.take (a + 257), out.drop (a + 257))) B T i := by
  unfold head3
  rw [bindP_ok (a := ()) (j := i)]
  rw [h]
  rfl
end

/-- Runs under way: those that were read, for how many lengths they stand. -/
def WayR (hl : List Nat) (N : Nat) (B : Nat → Nat) (T : Nat) (R : Except Int (List Int × Nat)) (rs : List (Int × Int)) (S i : Nat) : Prop :=
  (∃ f out, out.length = S ∧ S ≤ N ∧ N < f + S ∧ rs.length ≤ S ∧ (rs = [] ↔ out = []) ∧ runsP hl N f out B T i = R ∧ ∀ rest, unF (N : Int) [] (rs ++ rest) = unF (N : Int) out rest) ∨
  (N < S ∧ S ≤ N + 138 ∧ rs.length ≤ N + 1 ∧ unF (N : Int) [] rs = none ∧ R = .error 3)
section
variable {hl : List Nat} {N S i x j e j2 : Nat} {B : Nat → Nat} {T : Nat} {R : Except Int (List Int × Nat)} {rs : List (Int × Int)}
theorem way_start (hN : N ≤ 316) (h : runsP hl N 400 [] B T i = R) : WayR hl N B T R [] 0 i :=
  .inl ⟨400, [], rfl, Nat.zero_le _, by omega, Nat.le_refl _, ⟨fun _ => rfl, fun _ => rfl⟩, h, fun _ => rfl⟩
theorem WayR.short (h : WayR hl N B T R rs S i) : rs.length ≤ N + 1 ∧ S ≤ N + 138 := by
  rcases h with ⟨f, out, _, h2, _, h4, _⟩ | ⟨_, h2, h3, _⟩ <;> omega
theorem WayR.sym_err {er : Int} (h : WayR hl N B T R rs S i) (hS : S < N) (hs : symP hl B T i = .error er) : R = .error er := by
  rcases h with ⟨f, out, h1, h2, h3, h4, h5, h6, h7⟩ | ⟨h1, _⟩
  · obtain ⟨f, rfl⟩ : ∃ k, f = k + 1 := ⟨f - 1, by omega⟩
    rw [← h6]
    exact runs_err (by omega) hs
  · omega
theorem WayR.rd_err {er : Int} (h : WayR hl N B T R rs S i) (hS : S < N) (hs : symP hl B T i = .ok (x, j)) (hr : rdP (xBits (x : Int)) B T j = .error er) : R = .error er := by
  rcases h with ⟨f, out, h1, h2, h3, h4, h5, h6, h7⟩ | ⟨h1, _⟩
  · obtain ⟨f, rfl⟩ : ∃ k, f = k + 1 := ⟨f - 1, by omega⟩
    rw [← h6]
    exact runs_short (by omega) hs hr
  · omega
theorem WayR.none16 (h : WayR hl N B T R rs S i) (hS : S < N) (hs : symP hl B T i = .ok (x, j)) (hr : rdP (xBits (x : Int)) B T j = .ok (e, j2)) (hx : x = 16) (h0 : rs = []) : R = .error 3 := by
  rcases h with ⟨f, out, h1, h2, h3, h4, h5, h6, h7⟩ | ⟨h1, _⟩
  · obtain ⟨f, rfl⟩ : ∃ k, f = k + 1 := ⟨f - 1, by omega⟩
    rw [← h6]
    refine runs_form (by omega) hs hr (runB_no _ _ _ fun g => g.1 ⟨?_, h5.1 h0⟩)
    show (x : Int) = 16
    omega
  · omega
theorem WayR.next (h : WayR hl N B T R rs S i) (hS : S < N) (hs : symP hl B T i = .ok (x, j)) (hr : rdP (xBits (x : Int)) B T j = .ok (e, j2)) (hx : x ≤ 18) (h0 : ¬ (x = 16 ∧ rs = [])) (K : Nat) (hK : timesR ((x : Int), (e : Int)) = (K : Int)) (hK1 : 1 ≤ K) (hK2 : K ≤ 138) (he : e < 2 ^ xBits (x : Int)) : WayR hl N B T R (rs ++ [((x : Int), (e : Int))]) (S + K) j2 := by
  rcases h with ⟨f, out, h1, h2, h3, h4, h5, h6, h7⟩ | ⟨h1, _⟩
  · obtain ⟨f, rfl⟩ : ∃ k, f = k + 1 := ⟨f - 1, by omega⟩
    have he2 : (e : Int) < ((2 ^ xBits (x : Int) : Nat) : Int) := by omega
    by_cases hfit : S + K ≤ N
    · have hb : runB (N : Int) out ((x : Int), (e : Int)) = true := by
        rw [runB_iff]
        refine ⟨fun g => h0 ⟨by have := g.1; dsimp only at this; omega, h5.2 g.2⟩, by dsimp only; omega, by dsimp only; omega, by dsimp only; omega, he2, ?_⟩
        rw [hK]
        omega
      refine .inl ⟨f, out ++ List.replicate K (valR out (x : Int)), ?_, hfit, by omega, ?_, ?_, ?_, fun rest => ?_⟩
      · rw [List.length_append, List.length_replicate, h1]
      · rw [List.length_append]
        show rs.length + 1 ≤ _
        omega
      · constructor
        · intro g
          simp at g
        · intro g
          have g2 := congrArg List.length g
          rw [List.length_append, List.length_replicate] at g2
          have g3 : out.length + K = 0 := g2
          omega
      · rw [← h6]
        exact (runs_next (by omega) hs hr hb K hK _ rfl).symm
      · rw [List.append_assoc, h7]
        show unF (N : Int) out (((x : Int), (e : Int)) :: rest) = _
        conv => lhs; unfold unF
        rw [if_pos hb, hK, Int.toNat_natCast]
    · have hb : runB (N : Int) out ((x : Int), (e : Int)) = false := by
        refine runB_no _ _ _ fun g => ?_
        have g2 := g.2.2.2.2.2
        rw [hK] at g2
        omega
      refine .inr ⟨by omega, by omega, ?_, ?_, ?_⟩
      · rw [List.length_append]
        show rs.length + 1 ≤ _
        omega
      · rw [h7]
        unfold unF
        rw [if_neg (by rw [hb]; decide)]
      · rw [← h6]
        exact runs_form (by omega) hs hr hb
  · omega
theorem WayR.done (h : WayR hl N B T R rs S i) (hS : ¬ S < N) : (unF (N : Int) [] rs = none ∧ R = .error 3) ∨ (∃ out, unF (N : Int) [] rs = some out ∧ out.length = N ∧ R = .ok (out, i)) := by
  rcases h with ⟨f, out, h1, h2, h3, h4, h5, h6, h7⟩ | ⟨h1, _, _, h4, h5⟩
  · obtain ⟨f, rfl⟩ : ∃ k, f = k + 1 := ⟨f - 1, by omega⟩
    refine .inr ⟨out, ?_, by omega, ?_⟩
    · have := h7 []
      rw [List.append_nil] at this
      rw [this]
      unfold unF
      rw [if_pos (by omega)]
    · rw [← h6]
      exact runs_end (by omega)
  · exact .inl ⟨h4, h5⟩
end

/-- A step of an opening: but for its box O, its reader p and the row that v had, nothing old has turned; the row that v' has is v's, or new. -/
structure Mv (O p : Nat) (v v' : Value) (w w' : World) : Prop where
  os : w'.os = w.os
  tape : w'.tape = w.tape
  output : w'.output = w.output
  size : w.heap.size ≤ w'.heap.size
  block : ∀ k, k < w.heap.size → k ≠ O → k ≠ p → v.ownBlock ≠ some k → w'.heap[k]? = w.heap[k]?
  own : v'.ownBlock = v.ownBlock ∨ ∀ k, v'.ownBlock = some k → w.heap.size ≤ k
section
variable {O p b : Nat} {v v1 v2 v' : Value} {a w w' c W : World}
theorem Mv.refl (O p : Nat) (v : Value) (w : World) : Mv O p v v w w := ⟨rfl, rfl, rfl, Nat.le_refl _, fun _ _ _ _ _ => rfl, .inl rfl⟩
theorem Mv.trans (h : Mv O p v v1 a w) (k : Mv O p v1 v2 w c) : Mv O p v v2 a c := by
  refine ⟨k.os.trans h.os, k.tape.trans h.tape, k.output.trans h.output, Nat.le_trans h.size k.size, fun i hi hO hp hv => ?_, ?_⟩
  · rw [k.block i (Nat.lt_of_lt_of_le hi h.size) hO hp ?_, h.block i hi hO hp hv]
    rcases h.own with e | e
    · rw [e]; exact hv
    · intro e2; have := e i e2; omega
  · rcases k.own with e | e
    · rw [e]; exact h.own
    · exact .inr fun i hi => Nat.le_trans h.size (e i hi)
theorem Mv.ofTurn (t : Turn p w w') : Mv O p v v w w' := ⟨t.os, t.tape, t.output, t.size, fun k hk _ hp _ => t.block k hk hp, .inl rfl⟩
theorem Mv.ofBelow (t : Below w.heap.size w w') : Mv O p v v w w' := ⟨t.os, t.tape, t.output, t.size, fun k hk _ _ _ => t.block k hk, .inl rfl⟩
theorem Mv.grown (hg : w.grownBy w' v.ownBlock) (hf : v'.ownBlock = v.ownBlock ∨ ∀ k, v'.ownBlock = some k → w.heap.size ≤ k) : Mv O p v v' w w' := ⟨hg.os, hg.tape, hg.output, hg.size, fun k hk _ _ hv => hg.block k hk (fun e => hv e.symm), hf⟩
theorem Mv.box (h : Mv O p v v' w w') (o : Nat) (x : Value) : Mv O p v v' w (w'.setCell ⟨O, o, none⟩ x) := by
  refine ⟨h.os, h.tape, h.output, by simp [World.setCell]; exact h.size, fun k hk hO hp hv => ?_, h.own⟩
  rw [Below.heap_setCell _ _ _ _ hO]
  exact h.block k hk hO hp hv
theorem Mv.bel (h : Mv O p v v' w w') (b : Below W.heap.size W w) (hO : W.heap.size ≤ O) (hp : W.heap.size ≤ p) (hv : ∀ k, v.ownBlock = some k → W.heap.size ≤ k) : Below W.heap.size W w' :=
  ⟨h.os.trans b.os, h.tape.trans b.tape, h.output.trans b.output, Nat.le_trans b.size h.size, fun k hk => (h.block k (Nat.lt_of_lt_of_le hk b.size) (by omega) (by omega) (fun e => by have := hv k e; omega)).trans (b.block k hk)⟩
/-- A block that an opening does not turn. -/
def FreeO (O p : Nat) (v : Value) (w : World) (b : Nat) : Prop := b < w.heap.size ∧ b ≠ O ∧ b ≠ p ∧ v.ownBlock ≠ some b
theorem FreeO.step (h : FreeO O p v w b) (s : Mv O p v v' w w') : FreeO O p v' w' b := by
  refine ⟨Nat.lt_of_lt_of_le h.1 s.size, h.2.1, h.2.2.1, ?_⟩
  rcases s.own with e | e
  · rw [e]; exact h.2.2.2
  · intro e2
    have := e b e2
    have := h.1
    omega
theorem FreeO.cell (h : FreeO O p v w b) (s : Mv O p v v' w w') (o : Nat) : w'.cell? ⟨b, o, none⟩ = w.cell? ⟨b, o, none⟩ :=
  World.cell?_of_block (a := ⟨b, o, none⟩) (s.block b h.1 h.2.1 h.2.2.1 h.2.2.2)
/-- Numbers that an opening does not turn. -/
structure KO (O p : Nat) (v : Value) (w : World) (a : Option Addr) (l : List Nat) : Prop where
  arg : ArgN w a l
  free : ∀ b off, a = some ⟨b, off, none⟩ → FreeO O p v w b
theorem KO.step {x : Option Addr} {l : List Nat} (h : KO O p v w x l) (s : Mv O p v v' w w') : KO O p v' w' x l := by
  refine ⟨fun i y hx => ?_, fun b off e => (h.free b off e).step s⟩
  obtain ⟨b, off, h1, h2, h3⟩ := h.arg i y hx
  exact ⟨b, off, h1, Nat.lt_of_lt_of_le h2 s.size, by rw [(h.free b off h1).cell s]; exact h3⟩
theorem ko_new {x : Option Addr} {S : List Nat} {w2 : World} (ha : ArgN w' x S) (hn : ∀ b off, x = some ⟨b, off, none⟩ → w.heap.size ≤ b ∧ b < w'.heap.size) (hO : O < w.heap.size) (hp : p < w.heap.size) (hv : ∀ k, v.ownBlock = some k → k < w.heap.size) (b : Below w'.heap.size w' w2) : KO O p v w2 x S := by
  refine ⟨ha.below b (Nat.le_refl _), fun g off e => ?_⟩
  obtain ⟨h1, h2⟩ := hn g off e
  exact ⟨Nat.lt_of_lt_of_le h2 b.size, by omega, by omega, fun e => by have := hv g e; omega⟩
end

end Go.Proofs.YtaalbaiglkadlaaGreat

/- The program's layer 11: an opening's box; its room, its next number, its next symbol, what stands above a least one. -/
namespace Go.Proofs.YtaalbaiglkadlaaGreat
open Go.RowKit Go.Lib

/-- The cells of an opening: its reader, its reader's bits, its bytes, its limit. -/
def boxCs (p : Nat) (v : Value) (limit : Int) : List Value := [.pointer (some ⟨p, 0, none⟩), .func (.func 13) #[.pointer (some ⟨p, 0, none⟩)] #[], v, .int .i64 limit]
structure Bx (w : World) (O p : Nat) (v : Value) (limit : Int) : Prop where
  box : w.heap[O]? = some (.cells (boxCs p v limit).toArray 47 (0, 0))
  op : O ≠ p
section
variable {w w' : World} {O p : Nat} {v v' : Value} {limit : Int}
theorem Bx.lt (h : Bx w O p v limit) : O < w.heap.size := (Array.getElem?_eq_some_iff.1 h.box).1
theorem Bx.c0 (h : Bx w O p v limit) : w.cell? ⟨O, 0, none⟩ = some (.pointer (some ⟨p, 0, none⟩)) := by
  rw [cell_of_row _ _ 0 _ _ (0, 0) h.box, List.getElem?_toArray]; rfl
theorem Bx.c1 (h : Bx w O p v limit) : w.cell? ⟨O, 1, none⟩ = some (.func (.func 13) #[.pointer (some ⟨p, 0, none⟩)] #[]) := by
  rw [cell_of_row _ _ 1 _ _ (0, 0) h.box, List.getElem?_toArray]; rfl
theorem Bx.c2 (h : Bx w O p v limit) : w.cell? ⟨O, 2, none⟩ = some v := by
  rw [cell_of_row _ _ 2 _ _ (0, 0) h.box, List.getElem?_toArray]; rfl
theorem Bx.c3 (h : Bx w O p v limit) : w.cell? ⟨O, 3, none⟩ = some (.int .i64 limit) := by
  rw [cell_of_row _ _ 3 _ _ (0, 0) h.box, List.getElem?_toArray]; rfl
theorem Bx.frozen (h : Bx w O p v limit) (k : Nat) : w.frozen? ⟨O, k, none⟩ = false := by simp [World.frozen?, h.box]
theorem Bx.same (h : Bx w O p v limit) (e : w'.heap[O]? = w.heap[O]?) : Bx w' O p v limit := ⟨e.trans h.box, h.op⟩
theorem Bx.turn (h : Bx w O p v limit) (t : Turn p w w') : Bx w' O p v limit := h.same (t.block O h.lt h.op)
theorem Bx.below (h : Bx w O p v limit) (b : Below w.heap.size w w') : Bx w' O p v limit := h.same (b.block O h.lt)
theorem Bx.alloc (h : Bx w O p v limit) (ob : Obj) : Bx (w.alloc ob) O p v limit := h.same (heap_alloc_old _ _ _ h.lt)
theorem Bx.drewN (h : Bx w O p v limit) (n : Nat) : Bx (w.drewN n) O p v limit := ⟨h.box, h.op⟩
theorem Bx.put (h : Bx w O p v limit) (v' : Value) : Bx (w.setCell ⟨O, 2, none⟩ v') O p v' limit := by
  refine ⟨?_, h.op⟩
  rw [heap_setCell_same _ _ _ _ _ _ _ h.box, List.setIfInBounds_toArray]
  rfl
end

theorem wrap_intI (x : Int) (h1 : 0 ≤ x) (h2 : x ≤ 1099511627776) : wrap64 x = x ∧ IntKind.i64.wrap x = x := by
  constructor
  · unfold wrap64; omega
  · rw [IntKind.wrap_i64]; omega
theorem wrap_two (a b : Nat) (h : a + b ≤ 2000000) : wrap64 ((a : Int) + (b : Int)) = (a : Int) + (b : Int) ∧ IntKind.i64.wrap ((a : Int) + (b : Int)) = (a : Int) + (b : Int) := wrap_intI _ (by omega) (by omega)

set_option maxRecDepth 20000 in
set_option maxHeartbeats 4000000 in
theorem room11 (O p L c : Nat) (a : Option Addr) (limit : Int) (n : Nat) (W : World) (h : Bx W O p (.slice a L c) limit) (hL : L ≤ 1000000) (hn : n ≤ 100000) :
    Calls Tryz.prog 38 #[.pointer (some ⟨O, 0, none⟩), .int .i64 (n : Nat)] W fun e w' => e = .returned (.bool (decide ((L : Int) + (n : Int) ≤ limit))) ∧ ∃ m, w' = W.drewN m := by
  have _c2 := h.c2
  have _c3 := h.c3
  have ew := (wrap_two L n (by omega)).1
  have ew2 := (wrap_two L n (by omega)).2
  clear h
  go_enter Tryz.func38, Tryz.ntmps38
  go_wp2_with fail
  go_quiet (fail)
  go_wp2
  go_ret
  exact ⟨rfl, _, rfl⟩

/-- What the next number gives. -/
def NumPost (k p : Nat) (s : ByteArray) (i : Nat) (W : World) (e : Ending) (w' : World) : Prop := Only p W w' ∧
  ((∃ x, rdP k (srcB s) (8 * s.size) i = .ok (x, i + k) ∧ x < 2 ^ k ∧ i + k ≤ 8 * s.size ∧ e = .returned (.tuple #[.int .i64 (x : Nat), .int .i64 0]) ∧ RdAt 43 w' p s (i + k) false) ∨
   (rdP k (srcB s) (8 * s.size) i = .error 2 ∧ e = .returned (.tuple #[.int .i64 0, .int .i64 2])))

set_option maxRecDepth 20000 in
set_option maxHeartbeats 4000000 in
theorem number11 (O p : Nat) (v : Value) (limit : Int) (s : ByteArray) (i k : Nat) (W : World) (h : Bx W O p v limit) (hr : RdAt 43 W p s i false) (hk : k ≤ 30) (hi : i ≤ 8 * s.size) (hs : s.size ≤ 1000000) :
    Calls Tryz.prog 94 #[.pointer (some ⟨O, 0, none⟩), .int .i64 (k : Nat)] W fun e w' => NumPost k p s i W e w' := by
  obtain ⟨x, q, b, hx, hq, hrel, HC⟩ := rd_all k p i s false hk hi hs
  have HC := hide (HC W hr)
  have HB := hide h
  have _c0 := h.c0
  have _c1 := h.c1
  clear h hr
  rcases hrel with ⟨_, rfl, hk1⟩ | ⟨_, rfl, hk1⟩ | ⟨h9, _⟩
  · have hk2 := rdP_inv hk1
    have HKQ := hide hk2.2.2
    have HK1 := hide hk1
    have HK3 := hide hk2.1
    clear hk1 hk2
    go_enter Tryz.func94, Tryz.ntmps94
    go_wp2_with fail
    refine HC.out.mono ?_
    rintro e w1 ⟨rfl, ho, hr1⟩
    have HB1 := hide (HB.out.turn ho.turn)
    have _d0 := HB1.out.c0
    have _r2 := hr1.c2
    have HG := hide (show NumPost k p s i W (.returned (.tuple #[.int .i64 (x : Nat), .int .i64 0])) w1 from ⟨ho, .inl ⟨x, by rw [← HKQ.out]; exact HK1.out, hx, HK3.out, rfl, by rw [← HKQ.out]; exact hr1⟩⟩)
    clear ho hr1 _c0 _c1 HC HK1 HK3 HKQ
    go_wp2
    go_ret2
    exact HG.out
  · have HK1 := hide hk1
    clear hk1
    go_enter Tryz.func94, Tryz.ntmps94
    go_wp2_with fail
    refine HC.out.mono ?_
    rintro e w1 ⟨rfl, ho, hr1⟩
    have HB1 := hide (HB.out.turn ho.turn)
    have _d0 := HB1.out.c0
    have _r2 := hr1.c2
    have HG := hide (show NumPost k p s i W (.returned (.tuple #[.int .i64 0, .int .i64 2])) w1 from ⟨ho, .inr ⟨HK1.out, rfl⟩⟩)
    clear ho hr1 _c0 _c1 HC HK1
    go_wp2
    go_ret2
    exact HG.out
  · cases h9

/-- What the reading of a symbol leaves, in one form. -/
def SymX (ls : List Nat) (p : Nat) (s : ByteArray) (i : Nat) (y : Int) (w' : World) : Prop :=
  (∃ x j, symP ls (srcB s) (8 * s.size) i = .ok (x, j) ∧ i < j ∧ j ≤ 8 * s.size ∧ x < ls.length ∧ y = (x : Nat) ∧ RdAt 43 w' p s j false) ∨
  (symP ls (srcB s) (8 * s.size) i = .error 2 ∧ y < 0 ∧ ∃ i', RdAt 43 w' p s i' true) ∨
  (symP ls (srcB s) (8 * s.size) i = .error 4 ∧ y < 0 ∧ ∃ i', RdAt 43 w' p s i' false)
theorem sym_x (ls : List Nat) (a : Option Addr) (c m : Nat) (p : Nat) (s : ByteArray) (i : Nat) (W : World) (hm : (symTo ls 16).length = m) (harg : ArgN W a (symTo ls 16)) (hne : ∀ b off, a = some ⟨b, off, none⟩ → b ≠ p) (hls : ls.length ≤ 1000)
    (h : RdAt 43 W p s i false) (hi : i ≤ 8 * s.size) (hs : s.size ≤ 1000000) :
    Calls Tryz.prog 74 #[.pointer (some ⟨p, 0, none⟩), codeV (cn ls) (.slice a m c)] W fun e w' => ∃ y, e = .returned (.int .i64 y) ∧ Turn p W w' ∧ Hid (SymX ls p s i y w') := by
  refine (sym_all ls a c m p s i W hm harg hne hls h hi hs).mono ?_
  rintro e w' ⟨ht, ⟨x, j, h1, h2, h3, h4, rfl, h5⟩ | ⟨h1, y, h2, rfl, i', _, h3⟩ | ⟨h1, y, h2, rfl, i', _, h3⟩⟩
  · exact ⟨_, rfl, ht, .inl ⟨x, j, h1, h2, h3, h4, rfl, h5⟩⟩
  · exact ⟨_, rfl, ht, .inr (.inl ⟨h1, h2, i', h3⟩)⟩
  · exact ⟨_, rfl, ht, .inr (.inr ⟨h1, h2, i', h3⟩)⟩
/-- What the next symbol gives. -/
def SymR (ls : List Nat) (p : Nat) (s : ByteArray) (i : Nat) (W : World) (e : Ending) (w' : World) : Prop := Turn p W w' ∧
  ((∃ x j, symP ls (srcB s) (8 * s.size) i = .ok (x, j) ∧ i < j ∧ j ≤ 8 * s.size ∧ x < ls.length ∧ e = .returned (.tuple #[.int .i64 (x : Nat), .int .i64 0]) ∧ RdAt 43 w' p s j false) ∨
   (∃ er, symP ls (srcB s) (8 * s.size) i = .error er ∧ er ≠ 0 ∧ e = .returned (.tuple #[.int .i64 0, .int .i64 er])))

set_option maxRecDepth 20000 in
set_option maxHeartbeats 8000000 in
theorem symbol11 (O p : Nat) (v : Value) (limit : Int) (ls : List Nat) (a : Option Addr) (c m : Nat) (s : ByteArray) (i : Nat) (W : World) (hb : Bx W O p v limit) (hm : (symTo ls 16).length = m) (harg : ArgN W a (symTo ls 16)) (hne : ∀ b off, a = some ⟨b, off, none⟩ → b ≠ p) (hls : ls.length ≤ 1000)
    (h : RdAt 43 W p s i false) (hi : i ≤ 8 * s.size) (hs : s.size ≤ 1000000) :
    Calls Tryz.prog 53 #[.pointer (some ⟨O, 0, none⟩), codeV (cn ls) (.slice a m c)] W fun e w' => SymR ls p s i W e w' := by
  have hpW : p < W.heap.size := by unfold RdAt at h; exact (Array.getElem?_eq_some_iff.1 h).1
  have HRD := hide (sym_x ls a c m p s i ((W.alloc (.cells (codeCs (cn ls) (.slice a m c)).toArray 80)).drewN 1) hm (harg.below (below_drewN ((Below.refl W.heap.size W).alloc (Nat.le_refl _) _) 1) (Nat.le_refl _)) hne hls (by unfold RdAt at h ⊢; exact (heap_alloc_old _ _ _ hpW).trans h) hi hs)
  have HT0 := hide (((Turn.refl p W).alloc (.cells (codeCs (cn ls) (.slice a m c)).toArray 80)).drewN 1)
  have HN17 := hide (codeCs_length (cn ls) (.slice a m c))
  have HBX := hide (heap_alloc_at W (.cells (codeCs (cn ls) (.slice a m c)).toArray 80) rfl)
  have HB := hide (hb.alloc (.cells (codeCs (cn ls) (.slice a m c)).toArray 80))
  unfold codeV at HRD ⊢
  generalize codeCs (cn ls) (.slice a m c) = cs at *
  have HSZ := hide (show (Tryz.prog.info? 80).map (·.size) = some cs.length by rw [HN17.out]; exact Tryz.sizeCode)
  have _c0 := HB.out.c0
  have HPL := hide (show W.heap.size ≠ p by omega)
  clear h harg hm hne hb
  go_enter Tryz.func53, Tryz.ntmps53
  go_wp2_with fail
  have hrg := code_range HBX.out
  have hi := HSZ.out
  have hu := Tryz.underlying80
  refine wp_region_noPanic ?_
  refine wp_region_held_drew (S := (fun w' => w'.rangeAt W.heap.size 0 cs ∧ w'.cell? ⟨O, 0, none⟩ = some (.pointer (some ⟨p, 0, none⟩)))) (by kernel_rfl) ?_ (fun hHeld => ?_)
  · exact ⟨(World.rangeAt_drew _ _ _ _).2 hrg, (HB.out.drewN 1).c0⟩
  refine wpAnyH_take (i := 0) (oi := _) (v := ?_) rfl (by kernel_rfl) (by kernel_rfl) (by kernel_rfl) (fun _ _ _ h => h) (Or.inl ⟨by rfl, ?_⟩) hHeld ?_
  rotate_left
  · (intro w hSw; (try dsimp only at hSw); go_simp; try with_reducible rfl)
  (try simp only [Act.put, List.getElem_toArray, List.getElem_cons_zero, List.setIfInBounds_toArray, List.set_cons_zero, List.set_cons_succ])
  refine wpAnyH_take (i := 1) (oi := _) (v := ?_) rfl (by kernel_rfl) (by kernel_rfl) (by kernel_rfl) (fun _ _ _ h => h) (Or.inl ⟨by rfl, ?_⟩) hHeld ?_
  rotate_left
  · (intro w hSw; (try dsimp only at hSw); go_simp; try with_reducible rfl)
  (try simp only [Act.put, List.getElem_toArray, List.getElem_cons_zero, List.getElem_cons_succ, List.setIfInBounds_toArray, List.set_cons_zero, List.set_cons_succ])
  refine wpAnyH_take (i := 2) (oi := _) (v := ?_) rfl (by kernel_rfl) (by kernel_rfl) (by kernel_rfl) (fun _ _ _ h => h) (Or.inl ⟨by rfl, ?_⟩) hHeld ?_
  rotate_left
  · (intro w hSw; (try dsimp only at hSw); go_simp; try with_reducible rfl)
  (try simp only [Act.put, List.getElem_toArray, List.getElem_cons_zero, List.getElem_cons_succ, List.setIfInBounds_toArray, List.set_cons_zero, List.set_cons_succ])
  refine wpAnyH_take (i := 3) (oi := _) (v := ?_) rfl (by kernel_rfl) (by kernel_rfl) (by kernel_rfl) (fun _ _ _ h => h) (Or.inl ⟨by rfl, ?_⟩) hHeld ?_
  rotate_left
  · (intro w hSw; (try dsimp only at hSw); go_simp; try with_reducible rfl)
  (try simp only [Act.put, List.getElem_toArray, List.getElem_cons_zero, List.getElem_cons_succ, List.setIfInBounds_toArray, List.set_cons_zero, List.set_cons_succ])
  refine wpAnyH_take (i := 4) (oi := _) (v := _) rfl (by kernel_rfl) (by kernel_rfl) (by kernel_rfl) (fun _ _ _ h => h) (yieldsIf_load_mid (by rfl) _ _ rfl _ _ rfl cs _ (fun _ h => h.1) hu rfl hi) hHeld ?_
  (try simp only [Act.put, List.getElem_toArray, List.getElem_cons_zero, List.getElem_cons_succ, List.setIfInBounds_toArray, List.set_cons_zero, List.set_cons_succ])
  refine wpAnyH_ready (rs := [5]) (by kernel_rfl) (by simp) ?_
  refine AllReadyH.cons rfl (fun K hK => ?_) AllReadyH.nil
  go_simp
  refine HRD.out.mono ?_
  rintro e x1 ⟨y, rfl, ht, HX⟩
  have HB1 := hide ((HB.out.drewN 1).turn ht)
  have HT := hide (HT0.out.trans ht)
  have r : x1.rangeAt W.heap.size 0 cs ∧ x1.cell? ⟨O, 0, none⟩ = some (.pointer (some ⟨p, 0, none⟩)) := ⟨code_range ((ht.block _ (by show W.heap.size < (W.heap.push _).size; simp) HPL.out).trans HBX.out), HB1.out.c0⟩
  clear ht
  go_wp2_with fail
  refine hK.out _ _ ?_ (fun hNext => ?_)
  · exact r
  clear hK K hHeld
  have hHeld := hNext
  clear hNext
  (try simp only [Act.put, List.getElem_toArray, List.getElem_cons_zero, List.getElem_cons_succ, List.setIfInBounds_toArray, List.set_cons_zero, List.set_cons_succ])
  clear r
  refine wpAnyH_take (i := 6) (oi := _) (v := ?_) rfl (by kernel_rfl) (by kernel_rfl) (by kernel_rfl) (fun _ _ _ h => h) (Or.inl ⟨by rfl, ?_⟩) hHeld ?_
  rotate_left
  · (intro w hSw; (try dsimp only at hSw); go_simp; try with_reducible rfl)
  (try simp only [Act.put, List.getElem_toArray, List.getElem_cons_zero, List.getElem_cons_succ, List.setIfInBounds_toArray, List.set_cons_zero, List.set_cons_succ])
  refine wpAnyH_done (by kernel_rfl) ?_ _
  refine NoPanic.normal ?_
  clear hHeld hrg hi hu _c0
  have _d0 := HB1.out.c0
  rcases HX.out with ⟨x, j, h1, h2, h3, h4, rfl, h5⟩ | ⟨h1, h2, i', h5⟩ | ⟨h1, h2, i', h5⟩
  · have zx : decide ((x : Int) < 0) = false := decide_eq_false (by omega)
    have HG := hide (show SymR ls p s i W (.returned (.tuple #[.int .i64 (x : Nat), .int .i64 0])) x1 from ⟨HT.out, .inl ⟨x, j, h1, h2, h3, h4, rfl, h5⟩⟩)
    clear HX h1 h5 h2 h3 h4
    go_wp2
    go_ret2
    exact HG.out
  · have zx : ¬ (0 : Int) ≤ y := by omega
    have _r2 := h5.c2
    have HG := hide (show SymR ls p s i W (.returned (.tuple #[.int .i64 0, .int .i64 2])) x1 from ⟨HT.out, .inr ⟨2, h1, by decide, rfl⟩⟩)
    clear HX h1 h5
    go_wp2
    go_ret2
    exact HG.out
  · have zx : ¬ (0 : Int) ≤ y := by omega
    have _r2 := h5.c2
    have HG := hide (show SymR ls p s i W (.returned (.tuple #[.int .i64 0, .int .i64 4])) x1 from ⟨HT.out, .inr ⟨4, h1, by decide, rfl⟩⟩)
    clear HX h1 h5
    go_wp2
    go_ret2
    exact HG.out

end Go.Proofs.YtaalbaiglkadlaaGreat

/- The program's layer 11: an opening under way; a byte more, a match more. -/
namespace Go.Proofs.YtaalbaiglkadlaaGreat
open Go.RowKit Go.Lib

theorem OutSt.keep {T : TypeId} {w w' W : World} {p i : Nat} {s : ByteArray} {out : List Nat} {v : Value} (h : OutSt T w W p s i out v) (hp : w'.heap[p]? = w.heap[p]?) (hv : ∀ g, v.ownBlock = some g → w'.heap[g]? = w.heap[g]?) (b : Below W.heap.size W w') : OutSt T w' W p s i out v := by
  refine ⟨?_, ?_, b, h.new, h.ne⟩
  · unfold RdAt
    rw [hp]
    exact h.rd
  · refine ⟨h.own.1, ?_⟩
    rcases h.own.2 with h2 | ⟨g, cap, cur, e, hg, hh, r2⟩
    · exact .inl h2
    · exact .inr ⟨g, cap, cur, e, hg, (hv g (by rw [e]; rfl)).trans hh, r2⟩
/-- An opening under way: its reader, its bytes, its box. -/
structure OpSt (w W : World) (O p : Nat) (s : ByteArray) (i : Nat) (out : List Nat) (v : Value) (limit : Int) : Prop where
  st : OutSt 43 w W p s i out v
  bx : Bx w O p v limit
  on : W.heap.size ≤ O
  ov : v.ownBlock ≠ some O
section
variable {w w' W w4 : World} {O p i j : Nat} {s : ByteArray} {out o : List Nat} {v v4 : Value} {limit : Int}
theorem OpSt.read (h : OpSt w W O p s i out v limit) (t : Turn p w w') (r : RdAt 43 w' p s j false) : OpSt w' W O p s j out v limit := ⟨h.st.read t r, h.bx.turn t, h.on, h.ov⟩
theorem OpSt.bad (h : OpSt w W O p s i out v limit) (t : Turn p w w') : Below W.heap.size W w' := h.st.bad t
theorem OpSt.drewN (h : OpSt w W O p s i out v limit) (n : Nat) : OpSt (w.drewN n) W O p s i out v limit := h.read ((Turn.refl p w).drewN n) (by have := h.st.rd; unfold RdAt at this ⊢; exact this)
theorem OpSt.alloc (h : OpSt w W O p s i out v limit) (ob : Obj) : OpSt (w.alloc ob) W O p s i out v limit := ⟨h.st.alloc ob, h.bx.alloc ob, h.on, h.ov⟩
theorem OpSt.below (h : OpSt w W O p s i out v limit) (b : Below w.heap.size w w') : OpSt w' W O p s i out v limit := ⟨h.st.below b, h.bx.below b, h.on, h.ov⟩
theorem OpSt.slice (h : OpSt w W O p s i out v limit) : ∃ a c, v = .slice a out.length c := by
  rcases len_form h.st.own with ⟨e1, e2⟩ | ⟨g, c, e1⟩
  · exact ⟨none, 0, by rw [e1, e2]⟩
  · exact ⟨_, c, e1⟩
theorem OpSt.byte {a : Option Addr} {c : Nat} (h : OpSt w W O p s i out (.slice a out.length c) limit) (q : Nat) (hq : q < out.length) : ∃ g, a = some ⟨g, 0, none⟩ ∧ w.cell? ⟨g, q, none⟩ = some (.int .u8 (out.getD q 0 : Nat)) := by
  rcases len_form h.st.own with ⟨_, e2⟩ | ⟨g, c2, e1⟩
  · omega
  · injection e1 with e1 _ _
    subst e1
    refine ⟨g, rfl, ?_⟩
    rw [h.st.own.cellAt q (by omega)]
    unfold u8Cs
    rw [List.getElem?_map, List.getD_eq_getElem?_getD, List.getElem?_eq_getElem hq]
    rfl
theorem OpSt.old (h : OpSt w W O p s i out v limit) : O < w.heap.size ∧ p < w.heap.size ∧ (∀ k, v.ownBlock = some k → k < w.heap.size) ∧ ∀ k, v.ownBlock = some k → W.heap.size ≤ k :=
  ⟨h.bx.lt, (Array.getElem?_eq_some_iff.1 h.st.rd).1, fun k hk => (h.st.own.lt k hk).2, fun k hk => (h.st.own.lt k hk).1⟩
/-- The row grown, ahead of its laying into the box. -/
theorem OpSt.box4 (h : OpSt w W O p s i out v limit) (hg : w.grownBy w4 v.ownBlock) : Bx w4 O p v limit := h.bx.same (hg.block O h.bx.lt (fun e => h.ov e.symm))
/-- The row grown and laid into the box. -/
theorem OpSt.put (h : OpSt w W O p s i out v limit) (ho : w4.ownsRow W.heap.size 5 1 v4 o.length (u8Cs o)) (hg : w.grownBy w4 v.ownBlock) (hf : v4.ownBlock = v.ownBlock ∨ ∀ k, v4.ownBlock = some k → w.heap.size ≤ k) :
    OpSt (w4.setCell ⟨O, 2, none⟩ v4) W O p s i o v4 limit ∧ Mv O p v v4 w (w4.setCell ⟨O, 2, none⟩ v4) := by
  have hov : v4.ownBlock ≠ some O := by
    rcases hf with e | e
    · rw [e]; exact h.ov
    · intro e2
      have := e O e2
      have := h.bx.lt
      omega
  have hb := (h.st.grow ho hg hf).bel
  refine ⟨⟨(h.st.grow ho hg hf).keep ?_ (fun g hg2 => ?_) (hb.setCell (p := ⟨O, 2, none⟩) h.on _), (h.box4 hg).put v4, h.on, hov⟩, (Mv.grown hg hf).box 2 v4⟩
  · exact Below.heap_setCell _ _ _ _ (show p ≠ O from fun e => h.bx.op e.symm)
  · exact Below.heap_setCell _ _ _ _ (show g ≠ O from fun e => hov (by rw [hg2, e]))
end

theorem lies_own {v : Value} {g n c : Nat} {w : World} (h : v.ownBlock = some g ∨ g = w.heap.size) : (Value.slice (some ⟨g, 0, none⟩) n c).ownBlock = v.ownBlock ∨ ∀ k, (Value.slice (some ⟨g, 0, none⟩) n c).ownBlock = some k → w.heap.size ≤ k := by
  rcases h with e | e
  · exact .inl e.symm
  · refine .inr fun k hk => ?_
    have e2 : g = k := by injection hk
    omega
theorem at_alloc8 {w : World} {o : Obj} {v : Value} {g m : Nat} (h : v.ownBlock = some g ∨ g = w.heap.size + 1) : v.ownBlock = some g ∨ g = ((w.drewN m).alloc o).heap.size := by
  rcases h with h | h
  · exact .inl h
  · right
    rw [h]
    show w.heap.size + 1 = (w.heap.push o).size
    simp

/-- What a byte more leaves. -/
def LitPost (W0 W : World) (O p : Nat) (s : ByteArray) (i : Nat) (out : List Nat) (b : Nat) (v : Value) (limit : Int) (e : Ending) (w' : World) : Prop :=
  ((out.length : Int) < limit ∧ e = .returned (.int .i64 0) ∧ ∃ v', OpSt w' W0 O p s i (out ++ [b]) v' limit ∧ Mv O p v v' W w') ∨ (limit ≤ (out.length : Int) ∧ e = .returned (.int .i64 6) ∧ Below W0.heap.size W0 w')

set_option maxRecDepth 20000 in
set_option maxHeartbeats 8000000 in
theorem literal11 (W0 W : World) (O p : Nat) (s : ByteArray) (i : Nat) (out : List Nat) (b : Nat) (v : Value) (limit : Int) (h : OpSt W W0 O p s i out v limit) (hr : out = [] ∨ (out.length : Int) ≤ limit) (h2 : limit ≤ 1000000) :
    Calls Tryz.prog 54 #[.pointer (some ⟨O, 0, none⟩), .int .u8 (b : Nat)] W fun e w' => LitPost W0 W O p s i out b v limit e w' := by
  obtain ⟨a, c, rfl⟩ := h.slice
  obtain ⟨L, hL⟩ : ∃ L, out.length = L := ⟨_, rfl⟩
  have HL := hide hL
  have hL9 : L ≤ 1000000 := by
    rcases hr with e | e
    · rw [← hL, e]; exact Nat.zero_le _
    · omega
  rw [hL] at h ⊢
  have HP := hide h
  obtain ⟨i1, ki, kz0, kz1, kz2⟩ := info_parts Tryz.infoU8
  have HRM := hide (room11 O p L c a limit 1 W h.bx hL9 (by decide))
  clear h hr hL
  go_enter Tryz.func54, Tryz.ntmps54
  go_wp2_with fail
  refine HRM.out.mono ?_
  rintro e w1 ⟨rfl, m, rfl⟩
  clear HRM
  by_cases hl : (L : Int) < limit
  · have bl : decide ((L : Int) + 1 ≤ limit) = true := decide_eq_true (by omega)
    have HP1 := hide (HP.out.drewN m)
    have _c2 := HP1.out.bx.c2
    have HOW := hide HP1.out.st.own
    have HSZ := hide HP1.out.st.bel.size
    have X1 := hide (show L + 1 ≤ maxLen by unfold maxLen; omega)
    have X2 := hide (show (L + 1) * 1 ≤ 140737488355328 by omega)
    have HL2 := hide (show (out ++ [b]).length = L + 1 by rw [List.length_append, HL.out]; rfl)
    have HPA := hide (fun ob => (HP1.out.alloc ob))
    have HMA := hide (fun ob => ((Mv.ofBelow ((below_drewN (Below.refl W.heap.size W) m).alloc (Nat.le_refl _) ob)) : Mv O p (.slice a L c) (.slice a L c) W _))
    rw [HL.out] at HOW
    go_wp2_with (first
      | (at_builtin; (refine wpList_append_lies _ rfl _ _ 30 rfl W0.heap.size 5 i1 (.int .u8 0) 1 1 Tryz.underlying30 ki kz0 kz1 kz2 rfl (by decide) (.slice a L c) _ _ rfl (HOW.out.alloc _) ⟨W.heap.size, 0, none⟩ 1 1 [.int .u8 (b : Int)] rfl rfl (cell_one_new _ _ _) (one_u8 _) (by decide) X1.out X2.out (size_alloc_le HSZ.out) (W.heap.size + 1) (by simp) ?_; intro gn cn w4 o4 g4 h4 l4; rw [show [Value.int .u8 (b : Int)] = u8Cs [b] from rfl, u8Cs_append] at o4; have HX4 := hide ((HPA.out _).box4 g4); have _d2 := HX4.out.c2; have _f2 := HX4.out.frozen 2; have HP4 := hide ((HPA.out _).put (o := out ++ [b]) (by rw [HL2.out]; exact o4) g4 (lies_own (at_alloc8 h4))); clear o4 g4 h4 l4)))
    go_ret
    have hM := (HMA.out _).trans HP4.out.2
    exact .inl ⟨by rw [HL.out]; exact hl, rfl, _, HP4.out.1, hM⟩
  · have bl : decide ((L : Int) + 1 ≤ limit) = false := decide_eq_false (by omega)
    have HG := hide (show LitPost W0 W O p s i out b (.slice a L c) limit (.returned (.int .i64 6)) (W.drewN m) from .inr ⟨by rw [HL.out]; omega, rfl, below_drewN HP.out.st.bel m⟩)
    go_wp2
    go_ret
    exact HG.out

end Go.Proofs.YtaalbaiglkadlaaGreat
