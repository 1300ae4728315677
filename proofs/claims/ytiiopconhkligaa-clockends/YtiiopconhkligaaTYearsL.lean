/- ClockYears, the walk. -/
import Derived.Test.YtiiopconhkligaaTSpec
namespace Go.Proofs.Ytiiopconhkligaa
open Go.RowKit

/-- The days of a year's first months. -/
def sumD (y : Int) : Nat → Int
  | 0 => 0
  | k + 1 => sumD y k + daysI y ((k : Int) + 1)
theorem sumD_le (y : Int) (k : Nat) : 0 ≤ sumD y k ∧ sumD y k ≤ 31 * k := by
  induction k with
  | zero => exact ⟨Int.le_refl _, Int.le_refl _⟩
  | succ k ih =>
    have := days_range y ((k : Int) + 1)
    show 0 ≤ sumD y k + daysI y ((k : Int) + 1) ∧ sumD y k + daysI y ((k : Int) + 1) ≤ _
    omega
theorem sumD_year (y : Int) : sumD y 12 = if leapI y = true then 366 else 365 := by
  have e : daysI y 2 = if leapI y = true then 29 else 28 := rfl
  show 0 + daysI y 1 + daysI y 2 + daysI y 3 + daysI y 4 + daysI y 5 + daysI y 6 + daysI y 7 + daysI y 8 + daysI y 9 + daysI y 10 + daysI y 11 + daysI y 12 = _
  rw [e]
  show 0 + 31 + _ + 31 + 30 + 31 + 30 + 31 + 31 + 30 + 31 + 30 + 31 = _
  split <;> rfl
theorem meas_one13 (j : Nat) (n : Nat) (h : j < n) : n - (intOf (.int .i64 ((j : Int) + 1))).toNat < n - (intOf (.int .i64 (j : Int))).toNat := by
  show n - ((j : Int) + 1).toNat < n - ((j : Int)).toNat
  omega

set_option maxRecDepth 20000 in
set_option maxHeartbeats 16000000 in
theorem clockYears_walk (S : TSpec) (yr : Nat) (hy : yr < 65536) (W : World) :
    Calls Try.prog 6 #[.int .u16 yr] W fun e w' => e = .returned (.bool true) ∧ Below W.heap.size W w' := by
  have HA := hide (fun w => awake13 S w)
  have HD := hide (fun (k : Nat) (hk : k < 13) w => S.days yr k w (by unfold I64; omega) (by unfold I64; omega))
  have HS := hide (sumD_year yr)
  have HL := hide (sumD_le yr)
  have HLP := hide (show leapI yr = (decide ((yr : Int) % 4 = 0) && (!decide ((yr : Int) % 100 = 0) || decide ((yr : Int) % 400 = 0))) from rfl)
  clear S
  go_enter Try.func6, Try.ntmps6
  go_wp2
  go_loopw [3, 4] (fun nv c wr => ∃ j : Nat, 1 ≤ j ∧ j ≤ 13 ∧ c = .int .i64 (j : Nat) ∧ (∃ z : Int, 0 ≤ z ∧ z ≤ 31 * j ∧ nv = .int .i64 z ∧ Hid (z = sumD yr (j - 1))) ∧ Hid (Below W.heap.size W wr)) (fun _ c _ => 13 - (intOf c).toNat)
  case atStart => exact ⟨1, by omega, by omega, rfl, ⟨0, by omega, by omega, rfl, hide rfl⟩, hide (Below.refl _ _)⟩
  case round =>
    obtain ⟨j, hj1, hj, rfl, ⟨z, z0, z1, rfl, HZ⟩, HBJ⟩ := hrel
    by_cases hlt : j ≤ 12
    · have zj : (j : Int) ≤ 12 := by omega
      have dj : decide ((j : Int) ≤ 12) = true := decide_eq_true zj
      have HDJ := hide (HD.out j (by omega))
      have rd := days_range yr j
      have HG := hide (show z + daysI yr j = sumD yr (j + 1 - 1) by
        rw [HZ.out]
        obtain ⟨i, rfl⟩ : ∃ i, j = i + 1 := ⟨j - 1, by omega⟩
        rfl)
      obtain ⟨D, hD⟩ : ∃ D, daysI yr j = D := ⟨_, rfl⟩
      rw [hD] at rd HG
      simp only [hD] at HDJ
      clear hD HZ
      go_wp2_with fail
      refine (HDJ.out _).mono ?_
      rintro e w1 ⟨rfl, b1⟩
      have B1 := hide b1
      clear b1
      go_wp2
      go_roundw
      case rel => exact ⟨j + 1, by omega, by omega, by go_num, ⟨z + D, by omega, by omega, rfl, HG⟩, hide (HBJ.out.trans (B1.out.mono HBJ.out.size))⟩
      case measure => exact meas_one13 j 13 (by omega)
    · have hj2 : j = 13 := by omega
      subst hj2
      have HZ := hide (show z = sumD yr 12 from HZ.out)
      clear HD HL
      by_cases a4 : (yr : Int) % 4 = 0
      · by_cases a100 : (yr : Int) % 100 = 0
        · by_cases a400 : (yr : Int) % 400 = 0
          · have hl : leapI yr = true := by rw [HLP.out, decide_eq_true a4, decide_eq_true a100, decide_eq_true a400]; rfl
            have hz : z = 366 := by rw [HZ.out, HS.out, hl]; rfl
            have k4 : ((yr : Int) % 4 == 0) = true := by simp; exact a4
            have k100 : ((yr : Int) % 100 == 0) = true := by simp; exact a100
            have k400 : ((yr : Int) % 400 == 0) = true := by simp; exact a400
            subst hz
            clear HS HLP HZ hl a4 a400 z0 z1
            go_wp2_with fail
            refine (HA.out _).mono ?_
            rintro e w1 ⟨rfl, b1⟩
            have B1 := hide b1
            clear b1
            go_wp2
            go_ret
            exact ⟨rfl, HBJ.out.trans (B1.out.mono HBJ.out.size)⟩
          · have hl : leapI yr = false := by rw [HLP.out, decide_eq_true a4, decide_eq_true a100, decide_eq_false a400]; rfl
            have hz : z = 365 := by rw [HZ.out, HS.out, hl]; rfl
            have k4 : ((yr : Int) % 4 == 0) = true := by simp; exact a4
            have k100 : ((yr : Int) % 100 == 0) = true := by simp; exact a100
            have k400 : ((yr : Int) % 400 == 0) = false := by simp; exact a400
            subst hz
            clear HS HLP HZ hl a4 a400 z0 z1
            go_wp2_with fail
            refine (HA.out _).mono ?_
            rintro e w1 ⟨rfl, b1⟩
            have B1 := hide b1
            clear b1
            go_wp2
            go_ret
            exact ⟨rfl, HBJ.out.trans (B1.out.mono HBJ.out.size)⟩
        · have a400 : ¬ (yr : Int) % 400 = 0 := by omega
          have hl : leapI yr = true := by rw [HLP.out, decide_eq_true a4, decide_eq_false a100, decide_eq_false a400]; rfl
          have hz : z = 366 := by rw [HZ.out, HS.out, hl]; rfl
          have k4 : ((yr : Int) % 4 == 0) = true := by simp; exact a4
          have k100 : ((yr : Int) % 100 == 0) = false := by simp; exact a100
          have k400 : ((yr : Int) % 400 == 0) = false := by simp; exact a400
          subst hz
          clear HS HLP HZ hl a4 a400 z0 z1
          go_wp2_with fail
          refine (HA.out _).mono ?_
          rintro e w1 ⟨rfl, b1⟩
          have B1 := hide b1
          clear b1
          go_wp2
          go_ret
          exact ⟨rfl, HBJ.out.trans (B1.out.mono HBJ.out.size)⟩
      · have a400 : ¬ (yr : Int) % 400 = 0 := by omega
        have a100 : ¬ (yr : Int) % 100 = 0 := by omega
        have hl : leapI yr = false := by rw [HLP.out, decide_eq_false a4, decide_eq_false a100, decide_eq_false a400]; rfl
        have hz : z = 365 := by rw [HZ.out, HS.out, hl]; rfl
        have k4 : ((yr : Int) % 4 == 0) = false := by simp; exact a4
        have k100 : ((yr : Int) % 100 == 0) = false := by simp; exact a100
        have k400 : ((yr : Int) % 400 == 0) = false := by simp; exact a400
        subst hz
        clear HS HLP HZ hl a4 a400 z0 z1
        go_wp2_with fail
        refine (HA.out _).mono ?_
        rintro e w1 ⟨rfl, b1⟩
        have B1 := hide b1
        clear b1
        go_wp2
        go_ret
        exact ⟨rfl, HBJ.out.trans (B1.out.mono HBJ.out.size)⟩

end Go.Proofs.Ytiiopconhkligaa
