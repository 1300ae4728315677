/- Contracts of the Cursor's reading, more: number, U16, U32, U64. -/
import Derived.Test.YtbjjcjcobiokcaaFCur
namespace Go.Proofs.Ytbjjcjcobiokcaa
open Go.RowKit Go.Lib

theorem take_snocF (s : ByteArray) (k : Nat) (h : k < s.size) : s.data.toList.take (k + 1) = s.data.toList.take k ++ [s[k]] := by
  rw [List.take_succ_eq_append_getElem (by simpa using h)]; rfl

/-- The number of the first j bytes. -/
def numT (t : ByteArray) (j : Nat) : Nat := numB (t.data.toList.take j)

theorem numT_lt (t : ByteArray) (j : Nat) : numT t j < 2 ^ (8 * j) := by
  have h := numB_lt (t.data.toList.take j)
  have h2 : (t.data.toList.take j).length ≤ j := List.length_take_le _ _
  exact Nat.lt_of_lt_of_le h (Nat.pow_le_pow_right (by decide) (by omega))

theorem numT_succ (t : ByteArray) (j : Nat) (h : j < t.size) : numT t (j + 1) = numT t j + t[j].toNat * 2 ^ (8 * j) := by
  have hl : (t.data.toList.take j).length = j := by
    rw [List.length_take, Array.length_toList]
    have : t.data.size = t.size := rfl
    omega
  unfold numT
  rw [take_snocF t j h, numB_snoc, hl]

theorem numT_all (t : ByteArray) : numT t t.size = numB t.data.toList := by
  unfold numT
  rw [List.take_of_length_le (by rw [Array.length_toList]; exact Nat.le_refl _)]

theorem num_code (t : ByteArray) (j : Nat) (h : j < t.size) (h8 : t.size ≤ 8) :
    bits .or .i64 (wrap64 (numT t j)) (wrap64 ((t[j].toNat : Int) * 2 ^ (8 * j))) = wrap64 (numT t (j + 1)) := by
  rw [or_step (numT t j) t[j].toNat j (by omega) (numT_lt t j) t[j].toNat_lt, numT_succ t j h]

theorem wrap64_id (n : Nat) (h : n < 9223372036854775808) : wrap64 n = n := by unfold wrap64; omega

/-- What a number of bytes is, where it is below 2^63. -/
def numV (t : ByteArray) : Int := if numB t.data.toList < 9223372036854775808 then (numB t.data.toList : Int) else 0
def numBig (t : ByteArray) : Bool := decide (9223372036854775808 ≤ numB t.data.toList)

section
variable (p : Nat) (s t : ByteArray) (w : World) (k : Int) (i' : Int) (bad' : Bool)

set_option maxHeartbeats 400000 in
theorem cnumber_of (ht : t.size ≤ 8)
    (hT : Calls Try.prog 42 #[.pointer (some ⟨p, 0, none⟩), .int .i64 k] w fun e w1 => e = .returned (.string t) ∧ CurAt 29 w1 p s i' bad' ∧ Only p w w1) :
    Calls Try.prog 48 #[.pointer (some ⟨p, 0, none⟩), .int .i64 k] w fun e w' => e = .returned (.int .i64 (numV t)) ∧ CurAt 29 w' p s i' (bad' || numBig t) ∧ Only p w w' := by
  have HT := hide hT
  clear hT
  go_enter Try.func48, Try.ntmps48
  go_wp2_with fail
  refine HT.out.mono ?_
  rintro e w1 ⟨rfl, h1, o1⟩
  have _f2 := h1.fz 2
  have _c2 := h1.c2
  have H1 := hide h1
  have O1 := hide o1
  clear h1 o1
  go_wp2
  go_loop [6, 13] (fun v c => ∃ j : Nat, j ≤ t.size ∧ c = .int .i64 j ∧ v = .int .i64 (wrap64 (numT t j))) (fun _ c => t.size - (intOf c).toNat)
  case atStart => exact ⟨0, Nat.zero_le _, rfl, by simp [numT, numB, wrap64]⟩
  case round =>
    obtain ⟨j, hj, rfl, rfl⟩ := hrel
    by_cases hlt : j < t.size
    · have HC := hide (num_code t j hlt ht)
      have HX := hide (wrap64_id t[j].toNat (by have := t[j].toNat_lt; omega))
      go_wp2
      go_round
      case rel => exact ⟨j + 1, by omega, by go_num, by rw [← HC.out, HX.out]⟩
      case measure => simp [intOf]; omega
    · have hjt : j = t.size := by omega
      subst hjt
      rw [numT_all]
      have hb : numB t.data.toList < 18446744073709551616 := by
        have h := numB_lt t.data.toList
        have : (2 : Nat) ^ (8 * t.data.toList.length) ≤ 2 ^ 64 := Nat.pow_le_pow_right (by decide) (by rw [Array.length_toList]; exact Nat.mul_le_mul_left 8 ht)
        omega
      by_cases hlo : numB t.data.toList < 9223372036854775808
      · have HV := hide (show numV t = numB t.data.toList by unfold numV; rw [if_pos hlo])
        have HG := hide (show numBig t = false by unfold numBig; simp; omega)
        have hw : wrap64 (numB t.data.toList) = numB t.data.toList := wrap64_id _ hlo
        rw [hw]
        clear hw
        generalize numB t.data.toList = N at *
        go_wp2
        go_ret
        rw [HV.out, HG.out, Bool.or_false]
        exact ⟨rfl, H1.out, O1.out⟩
      · have HV := hide (show numV t = 0 by unfold numV; rw [if_neg hlo])
        have HG := hide (show numBig t = true by unfold numBig; simp; omega)
        have hw : wrap64 (numB t.data.toList) < 0 := by unfold wrap64; omega
        generalize wrap64 (numB t.data.toList) = N at *
        go_wp2
        go_ret
        rw [HV.out, HG.out, Bool.or_true]
        exact ⟨rfl, H1.out.setBad0, O1.out.trans (Only.setCell _ _ _ _)⟩
end

end Go.Proofs.Ytbjjcjcobiokcaa
