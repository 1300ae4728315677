/- Contracts of the Reader's methods, more: Bits. -/
import Derived.Test.YtlhffiepmhlmpaaBitsR
namespace Go.Proofs.Ytlhffiepmhlmpaa
open Go.RowKit

/-- The number of k bits from bit i on, the lowest first. -/
def numI (s : ByteArray) (i : Nat) : Nat → Int
  | 0 => 0
  | k + 1 => numI s i k + bitI s (i + k) * 2 ^ k

theorem numI_lt (s : ByteArray) (i k : Nat) : 0 ≤ numI s i k ∧ numI s i k < 2 ^ k := by
  induction k with
  | zero => simp [numI]
  | succ k ih =>
    have hp : (0 : Int) < 2 ^ k := Int.pow_pos (by decide)
    unfold numI
    rw [Int.pow_succ]
    rcases bitI_01 s (i + k) with h | h <;> rw [h] <;> omega

theorem pow_le30 (k : Nat) (h : k ≤ 30) : (0 : Int) < 2 ^ k ∧ (2 : Int) ^ k ≤ 1073741824 := by
  have h1 : (2 : Nat) ^ k ≤ 2 ^ 30 := Nat.pow_le_pow_right (by decide) h
  have e : (2 : Int) ^ k = ((2 ^ k : Nat) : Int) := by rw [Int.natCast_pow]; rfl
  have hp : 0 < (2 : Nat) ^ k := Nat.pow_pos (by decide)
  rw [e]; omega

theorem num_step (s : ByteArray) (i j : Nat) (hj : j < 30) : bits .or .i64 (numI s i j) (wrap64 (bitI s (i + j) * 2 ^ j)) = numI s i (j + 1) := by
  have hn := numI_lt s i j
  have hp := pow_le30 j (by omega)
  have e : (2 : Int) ^ j = ((2 ^ j : Nat) : Int) := by rw [Int.natCast_pow]; rfl
  show _ = numI s i j + bitI s (i + j) * 2 ^ j
  obtain ⟨a, ha⟩ : ∃ a : Nat, numI s i j = a := ⟨(numI s i j).toNat, by omega⟩
  obtain ⟨b, hb⟩ : ∃ b : Nat, bitI s (i + j) = b := ⟨(bitI s (i + j)).toNat, by have := bitI_01 s (i + j); omega⟩
  have hb1 : b ≤ 1 := by have := bitI_01 s (i + j); omega
  rw [ha, hb, e]
  rw [ha, e] at hn
  rw [e] at hp
  have hw : wrap64 ((b : Int) * ((2 ^ j : Nat) : Int)) = ((b * 2 ^ j : Nat) : Int) := by
    have : b * 2 ^ j ≤ 1 * 2 ^ j := Nat.mul_le_mul_right _ hb1
    rw [← Int.natCast_mul]
    unfold wrap64
    omega
  have hle : b * 2 ^ j ≤ 1 * 2 ^ j := Nat.mul_le_mul_right _ hb1
  rw [hw, or_i64_nat _ _ (by omega) (by omega), Nat.or_comm, nat_join j _ _ (Nat.mul_mod_left _ _) (by omega)]
  simp only [Int.natCast_add, Int.natCast_mul]
  omega

theorem takenI_bd (n : Int) : 0 ≤ takenI n ∧ takenI n ≤ 30 := by unfold takenI; split <;> (try split) <;> omega

set_option maxHeartbeats 400000 in
theorem rbits_ok (p : Nat) (s : ByteArray) (i : Nat) (n : Int) (w : World) (k : Nat) (hk : takenI n = (k : Int)) (h : RdAt 26 w p s i false) (hi : i + k ≤ 8 * s.size) (hs : s.size ≤ 1000000000000) :
    Calls Try.prog 10 #[.pointer (some ⟨p, 0, none⟩), .int .i64 n] w fun e w' => e = .returned (.int .i64 (numI s i k)) ∧ RdAt 26 w' p s (i + k) false ∧ Only p w w' := by
  have hk30 : k ≤ 30 := by have := takenI_bd n; omega
  have HK : Hid (takenI n = (k : Int)) := hk
  have H : Hid (RdAt 26 w p s i false) := h
  clear h hk
  go_enter Try.func10, Try.ntmps10
  go_wp2_with (first | (go_at_call 25; refine (taken_any _ _).mono ?_; rintro e w' ⟨rfl, rfl⟩; rw [HK.out]))
  go_loopw [5, 9] (fun v c wr => ∃ j : Nat, j ≤ k ∧ c = .int .i64 j ∧ v = .int .i64 (numI s i j) ∧ Hid (RdAt 26 wr p s (i + j) false) ∧ Hid (Only p w wr)) (fun _ c _ => k - (intOf c).toNat)
  case atStart => exact ⟨0, Nat.zero_le _, rfl, rfl, H, Only.refl _ _⟩
  case round =>
    obtain ⟨j, hj, rfl, rfl, HR, HO⟩ := hrel
    by_cases hlt : j < k
    · go_wp2_with (first | (go_at_call 8; refine (rbit_ok p s (i + j) _ HR.out (by omega) hs).mono ?_; rintro e w1 ⟨rfl, hr1, ho1⟩; have HR1 := hide hr1; have HO1 := hide ho1; clear hr1 ho1))
      go_roundw
      case rel =>
        refine ⟨j + 1, by omega, by go_num, ?_, HR1, HO.out.trans HO1.out⟩
        rw [num_step s i j (by omega)]
      case measure => simp [intOf]; omega
    · have _c2 := HR.out.c2
      have hjk : k = j := by omega
      have HJ := hide hjk
      clear hjk
      go_wp2
      go_ret
      rw [HJ.out]
      exact ⟨rfl, HR.out, HO.out⟩

set_option maxHeartbeats 400000 in
theorem rbits_no (p : Nat) (s : ByteArray) (i : Nat) (bad : Bool) (n : Int) (w : World) (k : Nat) (hk : takenI n = (k : Int)) (h : RdAt 26 w p s i bad) (hi : i ≤ 8 * s.size) (hno : bad = true ∨ 8 * s.size < i + k) (hs : s.size ≤ 1000000000000) :
    Calls Try.prog 10 #[.pointer (some ⟨p, 0, none⟩), .int .i64 n] w fun e w' => e = .returned (.int .i64 0) ∧ (∃ i', i' ≤ 8 * s.size ∧ RdAt 26 w' p s i' true) ∧ Only p w w' := by
  have hk30 : k ≤ 30 := by have := takenI_bd n; omega
  have HK : Hid (takenI n = (k : Int)) := hk
  have H : Hid (RdAt 26 w p s i bad) := h
  have HN := hide hno
  clear h hk hno
  go_enter Try.func10, Try.ntmps10
  go_wp2_with (first | (go_at_call 25; refine (taken_any _ _).mono ?_; rintro e w' ⟨rfl, rfl⟩; rw [HK.out]))
  go_loopw [5, 9] (fun v c wr => ∃ (j : Nat) (V : Int), j ≤ k ∧ c = .int .i64 j ∧ v = .int .i64 V ∧ Hid (bad = false ∧ i + j ≤ 8 * s.size ∧ RdAt 26 wr p s (i + j) false ∨ ∃ i', i' ≤ 8 * s.size ∧ RdAt 26 wr p s i' true) ∧ Hid (Only p w wr)) (fun _ c _ => k - (intOf c).toNat)
  case atStart =>
    refine ⟨0, 0, Nat.zero_le _, rfl, rfl, ?_, Only.refl _ _⟩
    cases bad
    · exact .inl ⟨rfl, by omega, H.out⟩
    · exact .inr ⟨i, hi, H.out⟩
  case round =>
    obtain ⟨j, V, hj, rfl, rfl, HR, HO⟩ := hrel
    by_cases hlt : j < k
    · rcases HR.out with ⟨hb, hle, hr⟩ | ⟨i', hle, hr⟩
      · by_cases hin : (i + j) / 8 < s.size
        · have HR0 := hide hr
          have HB := hide hb
          clear hr HR hb
          go_wp2_with (first | (go_at_call 8; refine (rbit_ok p s (i + j) _ HR0.out hin hs).mono ?_; rintro e w1 ⟨rfl, hr1, ho1⟩; have HR1 := hide hr1; have HO1 := hide ho1; clear hr1 ho1))
          go_roundw
          case rel => exact ⟨j + 1, _, by omega, by go_num, rfl, .inl ⟨HB.out, by omega, HR1⟩, HO.out.trans HO1.out⟩
          case measure => simp [intOf]; omega
        · have HR0 := hide hr
          clear hr HR hb
          go_wp2_with (first | (go_at_call 8; refine (rbit_end p s (i + j) _ HR0.out (by omega)).mono ?_; rintro e w1 ⟨rfl, hr1, ho1⟩; have HR1 := hide hr1; have HO1 := hide ho1; clear hr1 ho1))
          go_roundw
          case rel => exact ⟨j + 1, _, by omega, by go_num, rfl, .inr ⟨_, hle, HR1⟩, HO.out.trans HO1.out⟩
          case measure => simp [intOf]; omega
      · have HR0 := hide hr
        clear hr HR
        go_wp2_with (first | (go_at_call 8; refine (rbit_bad p s i' _ HR0.out).mono ?_; rintro e w1 ⟨rfl, hr1, ho1⟩; have HR1 := hide hr1; have HO1 := hide ho1; clear hr1 ho1))
        go_roundw
        case rel => exact ⟨j + 1, _, by omega, by go_num, rfl, .inr ⟨_, hle, HR1⟩, HO.out.trans HO1.out⟩
        case measure => simp [intOf]; omega
    · have hr : ∃ i', i' ≤ 8 * s.size ∧ RdAt 26 wr p s i' true := by
        rcases HR.out with ⟨hb, hle, hr⟩ | hr
        · rcases HN.out with h | h
          · rw [hb] at h; cases h
          · exact absurd h (by omega)
        · exact hr
      obtain ⟨i', hle, hr⟩ := hr
      have _c2 := hr.c2
      have HR0 := hide hr
      clear hr HR
      go_wp2
      go_ret
      exact ⟨rfl, ⟨i', hle, HR0.out⟩, HO.out⟩

set_option maxHeartbeats 400000 in
theorem ralign_any (p : Nat) (s : ByteArray) (i : Nat) (bad : Bool) (w : World) (h : RdAt 26 w p s i bad) (hi : i ≤ 8 * s.size) (hs : s.size ≤ 100000000000) :
    Calls Try.prog 12 #[.pointer (some ⟨p, 0, none⟩)] w fun e w' => e = .returned (.tuple #[]) ∧ RdAt 26 w' p s ((i + 7) / 8 * 8) bad ∧ Only p w w' := by
  have _c1 := h.c1
  have _f1 := h.fz 1
  have H := hide h
  clear h
  go_enter Try.func12, Try.ntmps12
  go_wp2_with (first | (go_at_call 26; refine (whole_any _ _ (by omega) (by omega)).mono ?_; rintro e w' ⟨rfl, rfl⟩))
  go_end0
  exact ⟨rfl, H.out.setAt 0 _ _ (by omega), Only.setCell _ _ _ _⟩

set_option maxHeartbeats 400000 in
theorem rused_any (p : Nat) (s : ByteArray) (i : Nat) (bad : Bool) (w : World) (h : RdAt 26 w p s i bad) (hi : i ≤ 8 * s.size) (hs : s.size ≤ 100000000000) :
    Calls Try.prog 16 #[.pointer (some ⟨p, 0, none⟩)] w fun e w' => e = .returned (.int .i64 (((i + 7) / 8 : Nat) : Int)) ∧ w = w' := by
  have _c1 := h.c1
  clear h
  go_enter Try.func16, Try.ntmps16
  go_wp2_with (first | (go_at_call 26; refine (whole_any _ _ (by omega) (by omega)).mono ?_; rintro e w' ⟨rfl, rfl⟩))
  go_ret
  exact ⟨retInt (by omega), rfl⟩

theorem rused_q (p : Nat) (s : ByteArray) (i : Nat) (bad : Bool) (w : World) (h : RdAt 26 w p s i bad) (hi : i ≤ 8 * s.size) (hs : s.size ≤ 100000000000) :
    Calls Try.prog 16 #[.pointer (some ⟨p, 0, none⟩)] w fun e w' => e = .returned (.int .i64 (((i + 7) / 8 : Nat) : Int)) ∧ w' = w :=
  (rused_any p s i bad w h hi hs).mono fun _ _ ⟨a, b⟩ => ⟨a, b.symm⟩

set_option maxHeartbeats 400000 in
theorem rtext_ok (p : Nat) (s : ByteArray) (i n : Nat) (w : World) (h : RdAt 26 w p s i false) (hi : (i + 7) / 8 + n ≤ s.size) (hs : s.size ≤ 100000000000) :
    Calls Try.prog 14 #[.pointer (some ⟨p, 0, none⟩), .int .i64 n] w fun e w' => e = .returned (.string (s.extract ((i + 7) / 8) ((i + 7) / 8 + n))) ∧ RdAt 26 w' p s (((i + 7) / 8 + n) * 8) false ∧ Only p w w' := by
  have H := hide h
  clear h
  go_enter Try.func14, Try.ntmps14
  go_wp2_with (first | (go_at_call 12; refine (ralign_any p s i false _ H.out (by omega) hs).mono ?_; rintro e w1 ⟨rfl, hr1, ho1⟩; have _c0 := hr1.c0; have _c1 := hr1.c1; have _c2 := hr1.c2; have _f1 := hr1.fz 1; have _f2 := hr1.fz 2; have HR1 := hide hr1; have HO1 := hide ho1; clear hr1 ho1))
  go_ret
  refine ⟨?_, HR1.out.setAt 0 _ _ (by omega), HO1.out.trans (Only.setCell _ _ _ _)⟩
  show Ending.returned (Value.string _) = _
  congr 3 <;> omega

set_option maxHeartbeats 400000 in
theorem rtext_no (p : Nat) (s : ByteArray) (i : Nat) (bad : Bool) (n : Int) (w : World) (h : RdAt 26 w p s i bad) (hi : i ≤ 8 * s.size) (hno : bad = true ∨ n < 0 ∨ (s.size : Int) < ((i + 7) / 8 : Nat) + n) (hs : s.size ≤ 100000000000) :
    Calls Try.prog 14 #[.pointer (some ⟨p, 0, none⟩), .int .i64 n] w fun e w' => e = .returned (.string ByteArray.empty) ∧ (∃ i', i' ≤ 8 * s.size ∧ RdAt 26 w' p s i' true) ∧ Only p w w' := by
  have H := hide h
  clear h
  have HN := hide hno
  clear hno
  cases hb : bad
  · rw [hb] at H HN
    have hn : n < 0 ∨ (s.size : Int) < ((i + 7) / 8 : Nat) + n := by
      rcases HN.out with h | h
      · cases h
      · exact h
    clear HN hb
    by_cases h0 : n < 0
    all_goals
      go_enter Try.func14, Try.ntmps14
      go_wp2_with (first | (go_at_call 12; refine (ralign_any p s i false _ H.out (by omega) hs).mono ?_; rintro e w1 ⟨rfl, hr1, ho1⟩; have _c0 := hr1.c0; have _c1 := hr1.c1; have _c2 := hr1.c2; have _f1 := hr1.fz 1; have _f2 := hr1.fz 2; have HR1 := hide hr1; have HO1 := hide ho1; clear hr1 ho1))
      go_ret
      exact ⟨rfl, ⟨_, by omega, HR1.out.setBad⟩, HO1.out.trans (Only.setCell _ _ _ _)⟩
  · rw [hb] at H
    clear HN hb
    go_enter Try.func14, Try.ntmps14
    go_wp2_with (first | (go_at_call 12; refine (ralign_any p s i true _ H.out (by omega) hs).mono ?_; rintro e w1 ⟨rfl, hr1, ho1⟩; have _c0 := hr1.c0; have _c1 := hr1.c1; have _c2 := hr1.c2; have _f1 := hr1.fz 1; have _f2 := hr1.fz 2; have HR1 := hide hr1; have HO1 := hide ho1; clear hr1 ho1))
    go_ret
    exact ⟨rfl, ⟨_, by omega, HR1.out.setBad⟩, HO1.out.trans (Only.setCell _ _ _ _)⟩

end Go.Proofs.Ytlhffiepmhlmpaa
