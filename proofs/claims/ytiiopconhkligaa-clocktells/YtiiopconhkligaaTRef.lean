/- Contracts of the document's layer 13. -/
import Derived.Test.YtiiopconhkligaaTSpec
namespace Go.Proofs.Ytiiopconhkligaa
open Go.RowKit

set_option maxHeartbeats 4000000 in
theorem qdays13 (y m : Int) (W : World) :
    Calls Try.prog 16 #[.int .i64 y, .int .i64 m] W fun e w' => e = .returned (.int .i64 (daysI y m)) ∧ W = w' := by
  by_cases m2 : m = 2
  · subst m2
    have HD := hide (show daysI y 2 = if leapI y = true then 29 else 28 from rfl)
    have HL := hide (show leapI y = (decide (y.tmod 4 = 0) && (!decide (y.tmod 100 = 0) || decide (y.tmod 400 = 0))) from rfl)
    rw [HD.out]
    clear HD
    by_cases a4 : y.tmod 4 = 0
    · by_cases a100 : y.tmod 100 = 0
      · by_cases a400 : y.tmod 400 = 0
        · have e4 : (y.tmod 4 == 0) = true := by simp; exact a4
          have e100 : (y.tmod 100 == 0) = true := by simp; exact a100
          have e400 : (y.tmod 400 == 0) = true := by simp; exact a400
          have HF := hide (show leapI y = true by rw [HL.out, decide_eq_true a4, decide_eq_true a100, decide_eq_true a400]; simp)
          rw [if_pos HF.out]
          clear HL HF
          go_enter Try.func16, Try.ntmps16
          go_wp2
          go_ret
          exact ⟨rfl, rfl⟩
        · have e4 : (y.tmod 4 == 0) = true := by simp; exact a4
          have e100 : (y.tmod 100 == 0) = true := by simp; exact a100
          have e400 : (y.tmod 400 == 0) = false := by simp; exact a400
          have HF := hide (show leapI y = false by rw [HL.out, decide_eq_true a4, decide_eq_true a100, decide_eq_false a400]; simp)
          rw [if_neg (by rw [HF.out]; decide)]
          clear HL HF
          go_enter Try.func16, Try.ntmps16
          go_wp2
          go_ret
          exact ⟨rfl, rfl⟩
      · have e4 : (y.tmod 4 == 0) = true := by simp; exact a4
        have e100 : (y.tmod 100 == 0) = false := by simp; exact a100
        have HF := hide (show leapI y = true by rw [HL.out, decide_eq_true a4, decide_eq_false a100]; simp)
        rw [if_pos HF.out]
        clear HL HF
        go_enter Try.func16, Try.ntmps16
        go_wp2
        go_ret
        exact ⟨rfl, rfl⟩
    · have e4 : (y.tmod 4 == 0) = false := by simp; exact a4
      have HF := hide (show leapI y = false by rw [HL.out, decide_eq_false a4]; simp)
      rw [if_neg (by rw [HF.out]; decide)]
      clear HL HF
      go_enter Try.func16, Try.ntmps16
      go_wp2
      go_ret
      exact ⟨rfl, rfl⟩
  · by_cases m4 : m = 4 ∨ m = 6 ∨ m = 9 ∨ m = 11
    · have HD := hide (show daysI y m = 30 by unfold daysI; rw [if_pos m4])
      rw [HD.out]
      clear HD
      rcases m4 with rfl | rfl | rfl | rfl
      all_goals (
        go_enter Try.func16, Try.ntmps16
        go_wp2
        go_ret
        exact ⟨rfl, rfl⟩)
    · have HD := hide (show daysI y m = 31 by unfold daysI; rw [if_neg m4, if_neg m2])
      rw [HD.out]
      clear HD
      have b2 : (m == 2) = false := by simp; exact m2
      have b4 : (m == 4) = false := by simp; omega
      have b6 : (m == 6) = false := by simp; omega
      have b9 : (m == 9) = false := by simp; omega
      have b11 : (m == 11) = false := by simp; omega
      clear m2 m4
      go_enter Try.func16, Try.ntmps16
      go_wp2
      go_ret
      exact ⟨rfl, rfl⟩

/-- A moment in its box, in any later world. -/
theorem tm_cells (W : World) (y mo d h mi s : Int) (u : Since0 (W.alloc (.cells #[.int .i64 y, .int .i64 mo, .int .i64 d, .int .i64 h, .int .i64 mi, .int .i64 s] 23))) :
    u.1.cell? ⟨W.heap.size, 0, none⟩ = some (.int .i64 y) ∧ u.1.cell? ⟨W.heap.size, 1, none⟩ = some (.int .i64 mo) ∧ u.1.cell? ⟨W.heap.size, 2, none⟩ = some (.int .i64 d) ∧ u.1.cell? ⟨W.heap.size, 3, none⟩ = some (.int .i64 h) ∧ u.1.cell? ⟨W.heap.size, 4, none⟩ = some (.int .i64 mi) ∧ u.1.cell? ⟨W.heap.size, 5, none⟩ = some (.int .i64 s) := by
  have hb : (W.alloc (.cells #[.int .i64 y, .int .i64 mo, .int .i64 d, .int .i64 h, .int .i64 mi, .int .i64 s] 23)).heap[W.heap.size]? = some (.cells #[.int .i64 y, .int .i64 mo, .int .i64 d, .int .i64 h, .int .i64 mi, .int .i64 s] 23 (0, 0)) := by show (W.heap.push _)[W.heap.size]? = _; simp
  have hlt : W.heap.size < (W.alloc (.cells #[.int .i64 y, .int .i64 mo, .int .i64 d, .int .i64 h, .int .i64 mi, .int .i64 s] 23)).heap.size := (Array.getElem?_eq_some_iff.1 hb).1
  refine ⟨?_, ?_, ?_, ?_, ?_, ?_⟩
  · rw [u.cell hlt, cell_of_row _ _ 0 _ _ (0, 0) hb]; rfl
  · rw [u.cell hlt, cell_of_row _ _ 1 _ _ (0, 0) hb]; rfl
  · rw [u.cell hlt, cell_of_row _ _ 2 _ _ (0, 0) hb]; rfl
  · rw [u.cell hlt, cell_of_row _ _ 3 _ _ (0, 0) hb]; rfl
  · rw [u.cell hlt, cell_of_row _ _ 4 _ _ (0, 0) hb]; rfl
  · rw [u.cell hlt, cell_of_row _ _ 5 _ _ (0, 0) hb]; rfl

set_option maxRecDepth 20000 in
set_option maxHeartbeats 16000000 in
theorem qright13 (t : Tm) (W : World) :
    Calls Try.prog 14 #[tmV t] W fun e w' => e = .returned (.bool (rightT t)) ∧ Below W.heap.size W w' := by
  obtain ⟨y, mo, d, h, mi, s⟩ := t
  have HQ := hide (fun w => (qdays13 y mo w).mono fun e w' g => (⟨g.1, g.2 ▸ Below.refl _ _⟩ : e = .returned (.int .i64 (daysI y mo)) ∧ Below w.heap.size w w'))
  have HCL := hide (tm_cells W y mo d h mi s)
  have HB := hide ((Below.refl _ W).alloc (Nat.le_refl _) (.cells #[.int .i64 y, .int .i64 mo, .int .i64 d, .int .i64 h, .int .i64 mi, .int .i64 s] 23))
  have hR := rightT_iff ⟨y, mo, d, h, mi, s⟩
  dsimp only at hR
  obtain ⟨A, hA⟩ : ∃ A, rightT ⟨y, mo, d, h, mi, s⟩ = A := ⟨_, rfl⟩
  obtain ⟨D, hD⟩ : ∃ D, daysI y mo = D := ⟨_, rfl⟩
  simp only [hD] at HQ hR
  rw [hA] at hR ⊢
  clear hA hD
  have HR := hide hR
  clear hR
  unfold tmV
  by_cases c0 : ¬ (1980 ≤ y)
  · have k0 : decide (1980 ≤ y) = false := decide_eq_false c0
    have hF : A = false := by
      cases A with
      | false => rfl
      | true => exact absurd (HR.out.1 rfl).1.1 c0
    subst hF
    clear c0
    clear HR
    go_enter Try.func14, Try.ntmps14
    go_wp2_with fail
    generalize hw0 : W.alloc (.cells #[.int .i64 y, .int .i64 mo, .int .i64 d, .int .i64 h, .int .i64 mi, .int .i64 s] 23) = w0 at *
    clear hw0
    have hu0 := fun u => (HCL.out u).1
    have hu1 := fun u => (HCL.out u).2.1
    have hu2 := fun u => (HCL.out u).2.2.1
    have hu3 := fun u => (HCL.out u).2.2.2.1
    have hu4 := fun u => (HCL.out u).2.2.2.2.1
    have hu5 := fun u => (HCL.out u).2.2.2.2.2
    have hne : Nonempty (Since0 w0) := ⟨⟨w0, Below.refl _ _⟩⟩
    try simp only [List.append]
    refine wp_region_below w0 (Below.refl _ _) (by kernel_rfl) (by kernel_rfl) ?_
    repeat (go_big_quiet_step ((rename_i u; exact calls_since u (HQ.out u.1))))
    refine wpQuiet_nil ?_
    intro _ hw'
    obtain ⟨u, rfl⟩ := hw'
    have HBU := hide (HB.out.trans (u.2.mono HB.out.size))
    clear hu0 hu1 hu2 hu3 hu4 hu5 hne
    go_wp2
    go_ret
    exact ⟨rfl, HBU.out⟩
  have c0 : 1980 ≤ y := Decidable.not_not.1 c0
  have k0 : decide (1980 ≤ y) = true := decide_eq_true c0
  by_cases c1 : ¬ (y ≤ 2107)
  · have k1 : decide (y ≤ 2107) = false := decide_eq_false c1
    have hF : A = false := by
      cases A with
      | false => rfl
      | true => exact absurd (HR.out.1 rfl).1.2 c1
    subst hF
    clear c1
    clear HR
    go_enter Try.func14, Try.ntmps14
    go_wp2_with fail
    generalize hw0 : W.alloc (.cells #[.int .i64 y, .int .i64 mo, .int .i64 d, .int .i64 h, .int .i64 mi, .int .i64 s] 23) = w0 at *
    clear hw0
    have hu0 := fun u => (HCL.out u).1
    have hu1 := fun u => (HCL.out u).2.1
    have hu2 := fun u => (HCL.out u).2.2.1
    have hu3 := fun u => (HCL.out u).2.2.2.1
    have hu4 := fun u => (HCL.out u).2.2.2.2.1
    have hu5 := fun u => (HCL.out u).2.2.2.2.2
    have hne : Nonempty (Since0 w0) := ⟨⟨w0, Below.refl _ _⟩⟩
    try simp only [List.append]
    refine wp_region_below w0 (Below.refl _ _) (by kernel_rfl) (by kernel_rfl) ?_
    repeat (go_big_quiet_step ((rename_i u; exact calls_since u (HQ.out u.1))))
    refine wpQuiet_nil ?_
    intro _ hw'
    obtain ⟨u, rfl⟩ := hw'
    have HBU := hide (HB.out.trans (u.2.mono HB.out.size))
    clear hu0 hu1 hu2 hu3 hu4 hu5 hne
    go_wp2
    go_ret
    exact ⟨rfl, HBU.out⟩
  have c1 : y ≤ 2107 := Decidable.not_not.1 c1
  have k1 : decide (y ≤ 2107) = true := decide_eq_true c1
  by_cases c2 : ¬ (1 ≤ mo)
  · have k2 : decide (1 ≤ mo) = false := decide_eq_false c2
    have hF : A = false := by
      cases A with
      | false => rfl
      | true => exact absurd (HR.out.1 rfl).2.1.1 c2
    subst hF
    clear c2
    clear HR
    go_enter Try.func14, Try.ntmps14
    go_wp2_with fail
    generalize hw0 : W.alloc (.cells #[.int .i64 y, .int .i64 mo, .int .i64 d, .int .i64 h, .int .i64 mi, .int .i64 s] 23) = w0 at *
    clear hw0
    have hu0 := fun u => (HCL.out u).1
    have hu1 := fun u => (HCL.out u).2.1
    have hu2 := fun u => (HCL.out u).2.2.1
    have hu3 := fun u => (HCL.out u).2.2.2.1
    have hu4 := fun u => (HCL.out u).2.2.2.2.1
    have hu5 := fun u => (HCL.out u).2.2.2.2.2
    have hne : Nonempty (Since0 w0) := ⟨⟨w0, Below.refl _ _⟩⟩
    try simp only [List.append]
    refine wp_region_below w0 (Below.refl _ _) (by kernel_rfl) (by kernel_rfl) ?_
    repeat (go_big_quiet_step ((rename_i u; exact calls_since u (HQ.out u.1))))
    refine wpQuiet_nil ?_
    intro _ hw'
    obtain ⟨u, rfl⟩ := hw'
    have HBU := hide (HB.out.trans (u.2.mono HB.out.size))
    clear hu0 hu1 hu2 hu3 hu4 hu5 hne
    go_wp2
    go_ret
    exact ⟨rfl, HBU.out⟩
  have c2 : 1 ≤ mo := Decidable.not_not.1 c2
  have k2 : decide (1 ≤ mo) = true := decide_eq_true c2
  by_cases c3 : ¬ (mo ≤ 12)
  · have k3 : decide (mo ≤ 12) = false := decide_eq_false c3
    have hF : A = false := by
      cases A with
      | false => rfl
      | true => exact absurd (HR.out.1 rfl).2.1.2 c3
    subst hF
    clear c3
    clear HR
    go_enter Try.func14, Try.ntmps14
    go_wp2_with fail
    generalize hw0 : W.alloc (.cells #[.int .i64 y, .int .i64 mo, .int .i64 d, .int .i64 h, .int .i64 mi, .int .i64 s] 23) = w0 at *
    clear hw0
    have hu0 := fun u => (HCL.out u).1
    have hu1 := fun u => (HCL.out u).2.1
    have hu2 := fun u => (HCL.out u).2.2.1
    have hu3 := fun u => (HCL.out u).2.2.2.1
    have hu4 := fun u => (HCL.out u).2.2.2.2.1
    have hu5 := fun u => (HCL.out u).2.2.2.2.2
    have hne : Nonempty (Since0 w0) := ⟨⟨w0, Below.refl _ _⟩⟩
    try simp only [List.append]
    refine wp_region_below w0 (Below.refl _ _) (by kernel_rfl) (by kernel_rfl) ?_
    repeat (go_big_quiet_step ((rename_i u; exact calls_since u (HQ.out u.1))))
    refine wpQuiet_nil ?_
    intro _ hw'
    obtain ⟨u, rfl⟩ := hw'
    have HBU := hide (HB.out.trans (u.2.mono HB.out.size))
    clear hu0 hu1 hu2 hu3 hu4 hu5 hne
    go_wp2
    go_ret
    exact ⟨rfl, HBU.out⟩
  have c3 : mo ≤ 12 := Decidable.not_not.1 c3
  have k3 : decide (mo ≤ 12) = true := decide_eq_true c3
  by_cases c4 : ¬ (1 ≤ d)
  · have k4 : decide (1 ≤ d) = false := decide_eq_false c4
    have hF : A = false := by
      cases A with
      | false => rfl
      | true => exact absurd (HR.out.1 rfl).2.2.1.1 c4
    subst hF
    clear c4
    clear HR
    go_enter Try.func14, Try.ntmps14
    go_wp2_with fail
    generalize hw0 : W.alloc (.cells #[.int .i64 y, .int .i64 mo, .int .i64 d, .int .i64 h, .int .i64 mi, .int .i64 s] 23) = w0 at *
    clear hw0
    have hu0 := fun u => (HCL.out u).1
    have hu1 := fun u => (HCL.out u).2.1
    have hu2 := fun u => (HCL.out u).2.2.1
    have hu3 := fun u => (HCL.out u).2.2.2.1
    have hu4 := fun u => (HCL.out u).2.2.2.2.1
    have hu5 := fun u => (HCL.out u).2.2.2.2.2
    have hne : Nonempty (Since0 w0) := ⟨⟨w0, Below.refl _ _⟩⟩
    try simp only [List.append]
    refine wp_region_below w0 (Below.refl _ _) (by kernel_rfl) (by kernel_rfl) ?_
    repeat (go_big_quiet_step ((rename_i u; exact calls_since u (HQ.out u.1))))
    refine wpQuiet_nil ?_
    intro _ hw'
    obtain ⟨u, rfl⟩ := hw'
    have HBU := hide (HB.out.trans (u.2.mono HB.out.size))
    clear hu0 hu1 hu2 hu3 hu4 hu5 hne
    go_wp2
    go_ret
    exact ⟨rfl, HBU.out⟩
  have c4 : 1 ≤ d := Decidable.not_not.1 c4
  have k4 : decide (1 ≤ d) = true := decide_eq_true c4
  by_cases c5 : ¬ (d ≤ D)
  · have k5 : decide (d ≤ D) = false := decide_eq_false c5
    have hF : A = false := by
      cases A with
      | false => rfl
      | true => exact absurd (HR.out.1 rfl).2.2.1.2 c5
    subst hF
    clear c5
    clear HR
    go_enter Try.func14, Try.ntmps14
    go_wp2_with fail
    generalize hw0 : W.alloc (.cells #[.int .i64 y, .int .i64 mo, .int .i64 d, .int .i64 h, .int .i64 mi, .int .i64 s] 23) = w0 at *
    clear hw0
    have hu0 := fun u => (HCL.out u).1
    have hu1 := fun u => (HCL.out u).2.1
    have hu2 := fun u => (HCL.out u).2.2.1
    have hu3 := fun u => (HCL.out u).2.2.2.1
    have hu4 := fun u => (HCL.out u).2.2.2.2.1
    have hu5 := fun u => (HCL.out u).2.2.2.2.2
    have hne : Nonempty (Since0 w0) := ⟨⟨w0, Below.refl _ _⟩⟩
    try simp only [List.append]
    refine wp_region_below w0 (Below.refl _ _) (by kernel_rfl) (by kernel_rfl) ?_
    repeat (go_big_quiet_step ((rename_i u; exact calls_since u (HQ.out u.1))))
    refine wpQuiet_nil ?_
    intro _ hw'
    obtain ⟨u, rfl⟩ := hw'
    have HBU := hide (HB.out.trans (u.2.mono HB.out.size))
    clear hu0 hu1 hu2 hu3 hu4 hu5 hne
    go_wp2
    go_ret
    exact ⟨rfl, HBU.out⟩
  have c5 : d ≤ D := Decidable.not_not.1 c5
  have k5 : decide (d ≤ D) = true := decide_eq_true c5
  by_cases c6 : ¬ (0 ≤ h)
  · have k6 : decide (0 ≤ h) = false := decide_eq_false c6
    have hF : A = false := by
      cases A with
      | false => rfl
      | true => exact absurd (HR.out.1 rfl).2.2.2.1.1 c6
    subst hF
    clear c6
    clear HR
    go_enter Try.func14, Try.ntmps14
    go_wp2_with fail
    generalize hw0 : W.alloc (.cells #[.int .i64 y, .int .i64 mo, .int .i64 d, .int .i64 h, .int .i64 mi, .int .i64 s] 23) = w0 at *
    clear hw0
    have hu0 := fun u => (HCL.out u).1
    have hu1 := fun u => (HCL.out u).2.1
    have hu2 := fun u => (HCL.out u).2.2.1
    have hu3 := fun u => (HCL.out u).2.2.2.1
    have hu4 := fun u => (HCL.out u).2.2.2.2.1
    have hu5 := fun u => (HCL.out u).2.2.2.2.2
    have hne : Nonempty (Since0 w0) := ⟨⟨w0, Below.refl _ _⟩⟩
    try simp only [List.append]
    refine wp_region_below w0 (Below.refl _ _) (by kernel_rfl) (by kernel_rfl) ?_
    repeat (go_big_quiet_step ((rename_i u; exact calls_since u (HQ.out u.1))))
    refine wpQuiet_nil ?_
    intro _ hw'
    obtain ⟨u, rfl⟩ := hw'
    have HBU := hide (HB.out.trans (u.2.mono HB.out.size))
    clear hu0 hu1 hu2 hu3 hu4 hu5 hne
    go_wp2
    go_ret
    exact ⟨rfl, HBU.out⟩
  have c6 : 0 ≤ h := Decidable.not_not.1 c6
  have k6 : decide (0 ≤ h) = true := decide_eq_true c6
  by_cases c7 : ¬ (h ≤ 23)
  · have k7 : decide (h ≤ 23) = false := decide_eq_false c7
    have hF : A = false := by
      cases A with
      | false => rfl
      | true => exact absurd (HR.out.1 rfl).2.2.2.1.2 c7
    subst hF
    clear c7
    clear HR
    go_enter Try.func14, Try.ntmps14
    go_wp2_with fail
    generalize hw0 : W.alloc (.cells #[.int .i64 y, .int .i64 mo, .int .i64 d, .int .i64 h, .int .i64 mi, .int .i64 s] 23) = w0 at *
    clear hw0
    have hu0 := fun u => (HCL.out u).1
    have hu1 := fun u => (HCL.out u).2.1
    have hu2 := fun u => (HCL.out u).2.2.1
    have hu3 := fun u => (HCL.out u).2.2.2.1
    have hu4 := fun u => (HCL.out u).2.2.2.2.1
    have hu5 := fun u => (HCL.out u).2.2.2.2.2
    have hne : Nonempty (Since0 w0) := ⟨⟨w0, Below.refl _ _⟩⟩
    try simp only [List.append]
    refine wp_region_below w0 (Below.refl _ _) (by kernel_rfl) (by kernel_rfl) ?_
    repeat (go_big_quiet_step ((rename_i u; exact calls_since u (HQ.out u.1))))
    refine wpQuiet_nil ?_
    intro _ hw'
    obtain ⟨u, rfl⟩ := hw'
    have HBU := hide (HB.out.trans (u.2.mono HB.out.size))
    clear hu0 hu1 hu2 hu3 hu4 hu5 hne
    go_wp2
    go_ret
    exact ⟨rfl, HBU.out⟩
  have c7 : h ≤ 23 := Decidable.not_not.1 c7
  have k7 : decide (h ≤ 23) = true := decide_eq_true c7
  by_cases c8 : ¬ (0 ≤ mi)
  · have k8 : decide (0 ≤ mi) = false := decide_eq_false c8
    have hF : A = false := by
      cases A with
      | false => rfl
      | true => exact absurd (HR.out.1 rfl).2.2.2.2.1.1 c8
    subst hF
    clear c8
    clear HR
    go_enter Try.func14, Try.ntmps14
    go_wp2_with fail
    generalize hw0 : W.alloc (.cells #[.int .i64 y, .int .i64 mo, .int .i64 d, .int .i64 h, .int .i64 mi, .int .i64 s] 23) = w0 at *
    clear hw0
    have hu0 := fun u => (HCL.out u).1
    have hu1 := fun u => (HCL.out u).2.1
    have hu2 := fun u => (HCL.out u).2.2.1
    have hu3 := fun u => (HCL.out u).2.2.2.1
    have hu4 := fun u => (HCL.out u).2.2.2.2.1
    have hu5 := fun u => (HCL.out u).2.2.2.2.2
    have hne : Nonempty (Since0 w0) := ⟨⟨w0, Below.refl _ _⟩⟩
    try simp only [List.append]
    refine wp_region_below w0 (Below.refl _ _) (by kernel_rfl) (by kernel_rfl) ?_
    repeat (go_big_quiet_step ((rename_i u; exact calls_since u (HQ.out u.1))))
    refine wpQuiet_nil ?_
    intro _ hw'
    obtain ⟨u, rfl⟩ := hw'
    have HBU := hide (HB.out.trans (u.2.mono HB.out.size))
    clear hu0 hu1 hu2 hu3 hu4 hu5 hne
    go_wp2
    go_ret
    exact ⟨rfl, HBU.out⟩
  have c8 : 0 ≤ mi := Decidable.not_not.1 c8
  have k8 : decide (0 ≤ mi) = true := decide_eq_true c8
  by_cases c9 : ¬ (mi ≤ 59)
  · have k9 : decide (mi ≤ 59) = false := decide_eq_false c9
    have hF : A = false := by
      cases A with
      | false => rfl
      | true => exact absurd (HR.out.1 rfl).2.2.2.2.1.2 c9
    subst hF
    clear c9
    clear HR
    go_enter Try.func14, Try.ntmps14
    go_wp2_with fail
    generalize hw0 : W.alloc (.cells #[.int .i64 y, .int .i64 mo, .int .i64 d, .int .i64 h, .int .i64 mi, .int .i64 s] 23) = w0 at *
    clear hw0
    have hu0 := fun u => (HCL.out u).1
    have hu1 := fun u => (HCL.out u).2.1
    have hu2 := fun u => (HCL.out u).2.2.1
    have hu3 := fun u => (HCL.out u).2.2.2.1
    have hu4 := fun u => (HCL.out u).2.2.2.2.1
    have hu5 := fun u => (HCL.out u).2.2.2.2.2
    have hne : Nonempty (Since0 w0) := ⟨⟨w0, Below.refl _ _⟩⟩
    try simp only [List.append]
    refine wp_region_below w0 (Below.refl _ _) (by kernel_rfl) (by kernel_rfl) ?_
    repeat (go_big_quiet_step ((rename_i u; exact calls_since u (HQ.out u.1))))
    refine wpQuiet_nil ?_
    intro _ hw'
    obtain ⟨u, rfl⟩ := hw'
    have HBU := hide (HB.out.trans (u.2.mono HB.out.size))
    clear hu0 hu1 hu2 hu3 hu4 hu5 hne
    go_wp2
    go_ret
    exact ⟨rfl, HBU.out⟩
  have c9 : mi ≤ 59 := Decidable.not_not.1 c9
  have k9 : decide (mi ≤ 59) = true := decide_eq_true c9
  by_cases c10 : ¬ (0 ≤ s)
  · have k10 : decide (0 ≤ s) = false := decide_eq_false c10
    have hF : A = false := by
      cases A with
      | false => rfl
      | true => exact absurd (HR.out.1 rfl).2.2.2.2.2.1.1 c10
    subst hF
    clear c10
    clear HR
    go_enter Try.func14, Try.ntmps14
    go_wp2_with fail
    generalize hw0 : W.alloc (.cells #[.int .i64 y, .int .i64 mo, .int .i64 d, .int .i64 h, .int .i64 mi, .int .i64 s] 23) = w0 at *
    clear hw0
    have hu0 := fun u => (HCL.out u).1
    have hu1 := fun u => (HCL.out u).2.1
    have hu2 := fun u => (HCL.out u).2.2.1
    have hu3 := fun u => (HCL.out u).2.2.2.1
    have hu4 := fun u => (HCL.out u).2.2.2.2.1
    have hu5 := fun u => (HCL.out u).2.2.2.2.2
    have hne : Nonempty (Since0 w0) := ⟨⟨w0, Below.refl _ _⟩⟩
    try simp only [List.append]
    refine wp_region_below w0 (Below.refl _ _) (by kernel_rfl) (by kernel_rfl) ?_
    repeat (go_big_quiet_step ((rename_i u; exact calls_since u (HQ.out u.1))))
    refine wpQuiet_nil ?_
    intro _ hw'
    obtain ⟨u, rfl⟩ := hw'
    have HBU := hide (HB.out.trans (u.2.mono HB.out.size))
    clear hu0 hu1 hu2 hu3 hu4 hu5 hne
    go_wp2
    go_ret
    exact ⟨rfl, HBU.out⟩
  have c10 : 0 ≤ s := Decidable.not_not.1 c10
  have k10 : decide (0 ≤ s) = true := decide_eq_true c10
  by_cases c11 : ¬ (s ≤ 58)
  · have k11 : decide (s ≤ 58) = false := decide_eq_false c11
    have hF : A = false := by
      cases A with
      | false => rfl
      | true => exact absurd (HR.out.1 rfl).2.2.2.2.2.1.2 c11
    subst hF
    clear c11
    clear HR
    go_enter Try.func14, Try.ntmps14
    go_wp2_with fail
    generalize hw0 : W.alloc (.cells #[.int .i64 y, .int .i64 mo, .int .i64 d, .int .i64 h, .int .i64 mi, .int .i64 s] 23) = w0 at *
    clear hw0
    have hu0 := fun u => (HCL.out u).1
    have hu1 := fun u => (HCL.out u).2.1
    have hu2 := fun u => (HCL.out u).2.2.1
    have hu3 := fun u => (HCL.out u).2.2.2.1
    have hu4 := fun u => (HCL.out u).2.2.2.2.1
    have hu5 := fun u => (HCL.out u).2.2.2.2.2
    have hne : Nonempty (Since0 w0) := ⟨⟨w0, Below.refl _ _⟩⟩
    try simp only [List.append]
    refine wp_region_below w0 (Below.refl _ _) (by kernel_rfl) (by kernel_rfl) ?_
    repeat (go_big_quiet_step ((rename_i u; exact calls_since u (HQ.out u.1))))
    refine wpQuiet_nil ?_
    intro _ hw'
    obtain ⟨u, rfl⟩ := hw'
    have HBU := hide (HB.out.trans (u.2.mono HB.out.size))
    clear hu0 hu1 hu2 hu3 hu4 hu5 hne
    go_wp2
    go_ret
    exact ⟨rfl, HBU.out⟩
  have c11 : s ≤ 58 := Decidable.not_not.1 c11
  have k11 : decide (s ≤ 58) = true := decide_eq_true c11
  by_cases c12 : ¬ (s.tmod 2 = 0)
  · have k12 : (s % 2 == 0) = false := by rw [← Int.tmod_eq_emod_of_nonneg c10]; simp; exact c12
    have hF : A = false := by
      cases A with
      | false => rfl
      | true => exact absurd (HR.out.1 rfl).2.2.2.2.2.2 c12
    subst hF
    clear c12
    clear HR
    go_enter Try.func14, Try.ntmps14
    go_wp2_with fail
    generalize hw0 : W.alloc (.cells #[.int .i64 y, .int .i64 mo, .int .i64 d, .int .i64 h, .int .i64 mi, .int .i64 s] 23) = w0 at *
    clear hw0
    have hu0 := fun u => (HCL.out u).1
    have hu1 := fun u => (HCL.out u).2.1
    have hu2 := fun u => (HCL.out u).2.2.1
    have hu3 := fun u => (HCL.out u).2.2.2.1
    have hu4 := fun u => (HCL.out u).2.2.2.2.1
    have hu5 := fun u => (HCL.out u).2.2.2.2.2
    have hne : Nonempty (Since0 w0) := ⟨⟨w0, Below.refl _ _⟩⟩
    try simp only [List.append]
    refine wp_region_below w0 (Below.refl _ _) (by kernel_rfl) (by kernel_rfl) ?_
    repeat (go_big_quiet_step ((rename_i u; exact calls_since u (HQ.out u.1))))
    refine wpQuiet_nil ?_
    intro _ hw'
    obtain ⟨u, rfl⟩ := hw'
    have HBU := hide (HB.out.trans (u.2.mono HB.out.size))
    clear hu0 hu1 hu2 hu3 hu4 hu5 hne
    go_wp2
    go_ret
    exact ⟨rfl, HBU.out⟩
  have c12 : s.tmod 2 = 0 := Decidable.not_not.1 c12
  have k12 : (s % 2 == 0) = true := by rw [← Int.tmod_eq_emod_of_nonneg c10]; simp; exact c12
  have hT : A = true := HR.out.2 ⟨⟨c0, c1⟩, ⟨c2, c3⟩, ⟨c4, c5⟩, ⟨c6, c7⟩, ⟨c8, c9⟩, ⟨c10, c11⟩, c12⟩
  subst hT
  clear c0 c1 c2 c3 c4 c5 c6 c7 c8 c9 c10 c11 c12
  clear HR
  go_enter Try.func14, Try.ntmps14
  go_wp2_with fail
  generalize hw0 : W.alloc (.cells #[.int .i64 y, .int .i64 mo, .int .i64 d, .int .i64 h, .int .i64 mi, .int .i64 s] 23) = w0 at *
  clear hw0
  have hu0 := fun u => (HCL.out u).1
  have hu1 := fun u => (HCL.out u).2.1
  have hu2 := fun u => (HCL.out u).2.2.1
  have hu3 := fun u => (HCL.out u).2.2.2.1
  have hu4 := fun u => (HCL.out u).2.2.2.2.1
  have hu5 := fun u => (HCL.out u).2.2.2.2.2
  have hne : Nonempty (Since0 w0) := ⟨⟨w0, Below.refl _ _⟩⟩
  try simp only [List.append]
  refine wp_region_below w0 (Below.refl _ _) (by kernel_rfl) (by kernel_rfl) ?_
  repeat (go_big_quiet_step ((rename_i u; exact calls_since u (HQ.out u.1))))
  refine wpQuiet_nil ?_
  intro _ hw'
  obtain ⟨u, rfl⟩ := hw'
  have HBU := hide (HB.out.trans (u.2.mono HB.out.size))
  clear hu0 hu1 hu2 hu3 hu4 hu5 hne
  go_wp2
  go_ret
  exact ⟨rfl, HBU.out⟩

end Go.Proofs.Ytiiopconhkligaa
