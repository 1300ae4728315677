/- ClockEnds, the walk. -/
import Derived.Test.YtiiopconhkligaaTSpec
namespace Go.Proofs.Ytiiopconhkligaa
open Go.RowKit

theorem ends_a (y m : Int) (hy : 1980 ≤ y ∧ y ≤ 2107) (hm : 1 ≤ m ∧ m ≤ 12) : rightT ⟨y, m, daysI y m, 23, 59, 58⟩ = true := by
  have hr := days_range y m
  exact (rightT_iff _).2 ⟨hy, hm, ⟨by show 1 ≤ daysI y m; omega, Int.le_refl _⟩, ⟨by show (0 : Int) ≤ 23; decide, by show (23 : Int) ≤ 23; decide⟩, ⟨by show (0 : Int) ≤ 59; decide, by show (59 : Int) ≤ 59; decide⟩, ⟨by show (0 : Int) ≤ 58; decide, by show (58 : Int) ≤ 58; decide⟩, rfl⟩
theorem ends_b (y m : Int) : rightT ⟨y, m, daysI y m + 1, 0, 0, 0⟩ = false := by
  cases h : rightT ⟨y, m, daysI y m + 1, 0, 0, 0⟩ with
  | false => rfl
  | true => exact absurd ((rightT_iff _).1 h).2.2.1.2 (by show ¬ (daysI y m + 1 ≤ daysI y m); omega)
theorem ends_c (y m d : Int) (h : y < 1980 ∨ 2107 < y) : rightT ⟨y, m, d, 0, 0, 0⟩ = false := by
  cases h2 : rightT ⟨y, m, d, 0, 0, 0⟩ with
  | false => rfl
  | true => have := ((rightT_iff _).1 h2).1; dsimp only at this; omega

set_option maxRecDepth 20000 in
set_option maxHeartbeats 16000000 in
theorem clockEnds_walk (S : TSpec) (yr mn : Nat) (hy : yr < 256) (hm : mn < 256) (W : World) :
    Calls Try.prog 7 #[.int .u8 yr, .int .u8 mn] W fun e w' => e = .returned (.bool true) ∧ Below W.heap.size W w' := by
  have HA := hide (fun w => awake13 S w)
  obtain ⟨y, hy2⟩ : ∃ y : Nat, 1980 + yr % 128 = y := ⟨_, rfl⟩
  obtain ⟨m, hm2⟩ : ∃ m : Nat, 1 + mn % 12 = m := ⟨_, rfl⟩
  have zy : (1980 : Int) + (yr : Int) % 128 = (y : Int) := by omega
  have zm : (1 : Int) + (mn : Int) % 12 = (m : Int) := by omega
  have ry : 1980 ≤ (y : Int) ∧ (y : Int) ≤ 2107 := by omega
  have rm : 1 ≤ (m : Int) ∧ (m : Int) ≤ 12 := by omega
  have rd := days_range y m
  have ea := ends_a y m ry rm
  have eb := ends_b y m
  obtain ⟨n, hn⟩ : ∃ n, daysI y m = n := ⟨_, rfl⟩
  rw [hn] at ea eb rd
  have HD := hide (fun w => show Calls Try.prog 15 #[.int .i64 y, .int .i64 m] w fun e w' => e = .returned (.int .i64 n) ∧ Below w.heap.size w w' from hn ▸ S.days y m w (by unfold I64; omega) (by unfold I64; omega))
  have HR1 := hide (fun w => show Calls Try.prog 13 #[.agg #[.int .i64 y, .int .i64 m, .int .i64 n, .int .i64 23, .int .i64 59, .int .i64 58]] w fun e w' => e = .returned (.bool true) ∧ Below w.heap.size w w' from ea ▸ S.right ⟨y, m, n, 23, 59, 58⟩ w (by unfold TIn I64; dsimp only; omega))
  have HR2 := hide (fun w => show Calls Try.prog 13 #[.agg #[.int .i64 y, .int .i64 m, .int .i64 (n + 1), .int .i64 0, .int .i64 0, .int .i64 0]] w fun e w' => e = .returned (.bool false) ∧ Below w.heap.size w w' from eb ▸ S.right ⟨y, m, n + 1, 0, 0, 0⟩ w (by unfold TIn I64; dsimp only; omega))
  have HR3 := hide (fun w => show Calls Try.prog 13 #[.agg #[.int .i64 1979, .int .i64 m, .int .i64 1, .int .i64 0, .int .i64 0, .int .i64 0]] w fun e w' => e = .returned (.bool false) ∧ Below w.heap.size w w' from (ends_c 1979 m 1 (by omega)) ▸ S.right ⟨1979, m, 1, 0, 0, 0⟩ w (by unfold TIn I64; dsimp only; omega))
  have HR4 := hide (fun w => show Calls Try.prog 13 #[.agg #[.int .i64 2108, .int .i64 m, .int .i64 1, .int .i64 0, .int .i64 0, .int .i64 0]] w fun e w' => e = .returned (.bool false) ∧ Below w.heap.size w w' from (ends_c 2108 m 1 (by omega)) ▸ S.right ⟨2108, m, 1, 0, 0, 0⟩ w (by unfold TIn I64; dsimp only; omega))
  have d28 : decide (28 ≤ n) = true := decide_eq_true rd.1
  have d31 : decide (n ≤ 31) = true := decide_eq_true rd.2
  clear S ea eb hn hy2 hm2 ry rm
  go_enter Try.func7, Try.ntmps7
  go_wp2_with fail
  refine (HD.out _).mono ?_
  rintro e w1 ⟨rfl, b1⟩
  have B1 := hide b1
  clear b1
  go_wp2_with fail
  refine (HR1.out _).mono ?_
  rintro e w2 ⟨rfl, b2⟩
  have B2 := hide b2
  clear b2
  go_wp2_with fail
  refine (HR2.out _).mono ?_
  rintro e w3 ⟨rfl, b3⟩
  have B3 := hide b3
  clear b3
  go_wp2_with fail
  refine (HA.out _).mono ?_
  rintro e w4 ⟨rfl, b4⟩
  have B4 := hide b4
  clear b4
  go_wp2_with fail
  refine (HR3.out _).mono ?_
  rintro e w5 ⟨rfl, b5⟩
  have B5 := hide b5
  clear b5
  go_wp2_with fail
  refine (HR4.out _).mono ?_
  rintro e w6 ⟨rfl, b6⟩
  have B6 := hide b6
  clear b6
  go_wp2
  go_ret
  refine ⟨rfl, ?_⟩
  have c2 := B1.out.trans (B2.out.mono B1.out.size)
  have c3 := c2.trans (B3.out.mono c2.size)
  have c4 := c3.trans (B4.out.mono c3.size)
  have c5 := c4.trans (B5.out.mono c4.size)
  exact c5.trans (B6.out.mono c5.size)

end Go.Proofs.Ytiiopconhkligaa
