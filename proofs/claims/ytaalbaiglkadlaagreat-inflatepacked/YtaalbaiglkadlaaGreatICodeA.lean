/- The program's reader, gone wrong or not: contracts of one form, for layer 11. -/
import Derived.Test.YtaalbaiglkadlaaGreatID
import Derived.Test.YtaalbaiglkadlaaGreatBitsA
import Derived.Test.YtaalbaiglkadlaaGreatKB
namespace Go.Proofs.YtaalbaiglkadlaaGreat
open Go.RowKit Go.Lib

/-- k bits by any reader, gone wrong or not. -/
theorem rd_all (k p q : Nat) (s : ByteArray) (bad : Bool) (hk : k ≤ 30) (hq : q ≤ 8 * s.size) (hs : s.size ≤ 1000000) : ∃ (x q' : Nat) (bad' : Bool), x < 2 ^ k ∧ q' ≤ 8 * s.size ∧ RdRel k q s bad x q' bad' ∧
    ∀ W, RdS 43 W p s q bad → Calls Tryz.prog 13 #[.pointer (some ⟨p, 0, none⟩), .int .i64 (k : Nat)] W fun e w' => e = .returned (.int .i64 (x : Nat)) ∧ Only p W w' ∧ RdS 43 w' p s q' bad' := by
  have hpos : 0 < 2 ^ k := Nat.pow_pos (by decide)
  cases bad with
  | true =>
    refine ⟨0, q, true, hpos, hq, .inr (.inr ⟨rfl, rfl⟩), fun W h => ?_⟩
    obtain ⟨i, hi, h⟩ := h
    refine (rbits_no p s i true (k : Int) W k (takenI_nat k hk) h hi (.inl rfl) (by omega)).mono ?_
    rintro e w' ⟨rfl, h1, h2⟩
    exact ⟨rfl, h2, h1⟩
  | false =>
    by_cases hr : q + k ≤ 8 * s.size
    · refine ⟨numLo (srcB s) q k, q + k, false, ?_, hr, .inl ⟨rfl, rfl, by unfold rdP; rw [if_pos hr]⟩, fun W h => ?_⟩
      · have hlt := (numI_lt s q k).2
        rw [numI_lo] at hlt
        have e2 : ((2 ^ k : Nat) : Int) = (2 : Int) ^ k := by rw [Int.natCast_pow]; rfl
        omega
      · refine (rbits_ok p s q (k : Int) W k (takenI_nat k hk) h hr (by omega)).mono ?_
        rintro e w' ⟨rfl, h1, h2⟩
        rw [numI_lo]
        exact ⟨rfl, h2, h1⟩
    · refine ⟨0, q, true, hpos, hq, .inr (.inl ⟨rfl, rfl, by unfold rdP; rw [if_neg hr]⟩), fun W h => ?_⟩
      refine (rbits_no p s q false (k : Int) W k (takenI_nat k hk) h hq (.inr (by omega)) (by omega)).mono ?_
      rintro e w' ⟨rfl, h1, h2⟩
      exact ⟨rfl, h2, h1⟩
/-- One bit by any reader, gone wrong or not. -/
theorem rd1_all (p q : Nat) (s : ByteArray) (bad : Bool) (hq : q ≤ 8 * s.size) (hs : s.size ≤ 1000000) : ∃ (x q' : Nat) (bad' : Bool), x < 2 ∧ q' ≤ 8 * s.size ∧ RdRel 1 q s bad x q' bad' ∧
    ∀ W, RdS 43 W p s q bad → Calls Tryz.prog 23 #[.pointer (some ⟨p, 0, none⟩)] W fun e w' => e = .returned (.int .i64 (x : Nat)) ∧ Only p W w' ∧ RdS 43 w' p s q' bad' := by
  cases bad with
  | true =>
    refine ⟨0, q, true, by decide, hq, .inr (.inr ⟨rfl, rfl⟩), fun W h => ?_⟩
    obtain ⟨i, hi, h⟩ := h
    refine (rbit_bad p s i W h).mono ?_
    rintro e w' ⟨rfl, h1, h2⟩
    exact ⟨rfl, h2, ⟨i, hi, h1⟩⟩
  | false =>
    by_cases hr : q / 8 < s.size
    · refine ⟨numLo (srcB s) q 1, q + 1, false, ?_, by omega, .inl ⟨rfl, rfl, by unfold rdP; rw [if_pos (by omega)]⟩, fun W h => ?_⟩
      · have hlt := (numI_lt s q 1).2
        rw [numI_lo] at hlt
        omega
      · refine (rbit_ok p s q W h hr (by omega)).mono ?_
        rintro e w' ⟨rfl, h1, h2⟩
        refine ⟨?_, h2, h1⟩
        rw [← numI_lo]
        show _ = Ending.returned (.int .i64 (0 + bitI s (q + 0) * 2 ^ 0))
        rw [Int.zero_add, Nat.add_zero, Int.pow_zero, Int.mul_one]
    · refine ⟨0, q, true, by decide, hq, .inr (.inl ⟨rfl, rfl, by unfold rdP; rw [if_neg (by omega)]⟩), fun W h => ?_⟩
      refine (rbit_end p s q W h (by omega)).mono ?_
      rintro e w' ⟨rfl, h1, h2⟩
      exact ⟨rfl, h2, ⟨q, hq, h1⟩⟩
/-- What the reading of a symbol by the program's layer 5 leaves: the symbol, or -1. -/
def SymPost (ls : List Nat) (p : Nat) (s : ByteArray) (i : Nat) (W : World) (e : Ending) (w' : World) : Prop := Turn p W w' ∧
  ((∃ x j, symP ls (srcB s) (8 * s.size) i = .ok (x, j) ∧ i < j ∧ j ≤ 8 * s.size ∧ x < ls.length ∧ e = .returned (.int .i64 (x : Nat)) ∧ RdAt 43 w' p s j false) ∨
   (symP ls (srcB s) (8 * s.size) i = .error 2 ∧ ∃ y : Int, y < 0 ∧ e = .returned (.int .i64 y) ∧ ∃ i', i' ≤ 8 * s.size ∧ RdAt 43 w' p s i' true) ∨
   (symP ls (srcB s) (8 * s.size) i = .error 4 ∧ ∃ y : Int, y < 0 ∧ e = .returned (.int .i64 y) ∧ ∃ i', i' ≤ 8 * s.size ∧ RdAt 43 w' p s i' false))
theorem sym_all (ls : List Nat) (a : Option Addr) (c m : Nat) (p : Nat) (s : ByteArray) (i : Nat) (W : World) (hm : (symTo ls 16).length = m) (harg : ArgN W a (symTo ls 16)) (hne : ∀ b off, a = some ⟨b, off, none⟩ → b ≠ p) (hls : ls.length ≤ 1000)
    (h : RdAt 43 W p s i false) (hi : i ≤ 8 * s.size) (hs : s.size ≤ 1000000) :
    Calls Tryz.prog 74 #[.pointer (some ⟨p, 0, none⟩), codeV (cn ls) (.slice a m c)] W fun e w' => SymPost ls p s i W e w' := by
  refine (read_any ls a c m p s i W hm harg hne hls h hi hs).mono ?_
  rintro e w' ⟨x, u, bad, rfl, HX, HR, HT⟩
  have hX := HX.out
  have hR := HR.out
  have hT := HT.out
  clear HX HR HT
  have hsy := symP_res ls (srcB s) (8 * s.size) i hi hX
  refine ⟨hT, ?_⟩
  have hu : i + u ≤ 8 * s.size := by
    rcases hX with ⟨k, _, h2, _, rfl, _⟩ | ⟨_, _, rfl, _⟩ <;> omega
  by_cases h0 : 0 ≤ x
  · rw [if_pos h0] at hsy
    left
    rcases hX with ⟨k, h1, h2, rfl, rfl, rfl⟩ | ⟨_, rfl, _⟩
    · refine ⟨symAt ls (bitsF s i) u, i + u, ?_, by have := h1.lo; omega, by omega, h1.sym.1, rfl, hR⟩
      rw [hsy, Int.toNat_natCast]
    · omega
  · rw [if_neg h0] at hsy
    cases bad with
    | true =>
      rw [if_pos rfl] at hsy
      exact .inr (.inl ⟨hsy, x, by omega, rfl, i + u, hu, hR⟩)
    | false =>
      rw [if_neg (by decide)] at hsy
      exact .inr (.inr ⟨hsy, x, by omega, rfl, i + u, hu, hR⟩)

end Go.Proofs.YtaalbaiglkadlaaGreat
