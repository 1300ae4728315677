/- Contracts of the document's layer 13: Pack, Open. -/
import Derived.Test.YtiiopconhkligaaTRef
namespace Go.Proofs.Ytiiopconhkligaa
open Go.RowKit

set_option maxRecDepth 20000 in
set_option maxHeartbeats 16000000 in
theorem qpack13 (t : Tm) (W : World) :
    Calls Try.prog 9 #[tmV t] W fun e w' => e = .returned (.tuple #[.int .i64 (if rightT t = true then dateT t else 0), .int .i64 (if rightT t = true then clockT t else 0), .bool (rightT t)]) ∧ Below W.heap.size W w' := by
  have HQ := hide (fun w => qright13 t w)
  obtain ⟨y, mo, d, h, mi, s⟩ := t
  have HB := hide ((Below.refl _ W).alloc (Nat.le_refl _) (.cells #[.int .i64 y, .int .i64 mo, .int .i64 d, .int .i64 h, .int .i64 mi, .int .i64 s] 23))
  have hR := rightT_iff ⟨y, mo, d, h, mi, s⟩
  unfold tmV at *
  by_cases hr : rightT ⟨y, mo, d, h, mi, s⟩ = true
  · rw [if_pos hr, if_pos hr, hr]
    rw [hr] at HQ
    obtain ⟨⟨y0, y1⟩, ⟨m0, m1⟩, ⟨d0, d1⟩, ⟨h0, h1⟩, ⟨i0, i1⟩, ⟨s0, s1⟩, s2⟩ := hR.1 hr
    have dd := (days_range y mo).2
    dsimp only at y0 y1 m0 m1 d0 d1 h0 h1 i0 i1 s0 s1 s2
    have d2 : d ≤ 31 := by omega
    have HV := hide (show dateT ⟨y, mo, d, h, mi, s⟩ = (y - 1980) * 512 + mo * 32 + d ∧ clockT ⟨y, mo, d, h, mi, s⟩ = h * 2048 + mi * 32 + s / 2 from ⟨rfl, by show h * 2048 + mi * 32 + s.tdiv 2 = _; rw [Int.tdiv_eq_ediv_of_nonneg s0]⟩)
    rw [HV.out.1, HV.out.2]
    clear hR hr HV dd d1 s2
    have HCL := hide (tm_cells W y mo d h mi s)
    go_enter Try.func9, Try.ntmps9
    go_wp2_with fail
    generalize hw0 : W.alloc (.cells #[.int .i64 y, .int .i64 mo, .int .i64 d, .int .i64 h, .int .i64 mi, .int .i64 s] 23) = w0 at *
    clear hw0
    refine (HQ.out _).mono ?_
    rintro e w1 ⟨rfl, b1⟩
    have B1 := hide b1
    clear b1
    go_wp2
    have hu0 := fun u : Since0 w1 => (HCL.out ⟨u.1, B1.out.trans (u.2.mono B1.out.size)⟩).1
    have hu1 := fun u : Since0 w1 => (HCL.out ⟨u.1, B1.out.trans (u.2.mono B1.out.size)⟩).2.1
    have hu2 := fun u : Since0 w1 => (HCL.out ⟨u.1, B1.out.trans (u.2.mono B1.out.size)⟩).2.2.1
    have hu3 := fun u : Since0 w1 => (HCL.out ⟨u.1, B1.out.trans (u.2.mono B1.out.size)⟩).2.2.2.1
    have hu4 := fun u : Since0 w1 => (HCL.out ⟨u.1, B1.out.trans (u.2.mono B1.out.size)⟩).2.2.2.2.1
    have hu5 := fun u : Since0 w1 => (HCL.out ⟨u.1, B1.out.trans (u.2.mono B1.out.size)⟩).2.2.2.2.2
    dsimp only at hu0 hu1 hu2 hu3 hu4 hu5
    have hne : Nonempty (Since0 w1) := ⟨⟨w1, Below.refl _ _⟩⟩
    try simp only [List.append]
    refine wp_region_below w1 (Below.refl _ _) (by kernel_rfl) (by kernel_rfl) ?_
    repeat (go_big_quiet_step (fail))
    refine wpQuiet_nil ?_
    intro _ hw'
    obtain ⟨u, rfl⟩ := hw'
    have HBU := hide (HB.out.trans ((B1.out.trans (u.2.mono B1.out.size)).mono HB.out.size))
    clear hu0 hu1 hu2 hu3 hu4 hu5 hne
    go_wp2
    go_ret3
    exact ⟨rfl, HBU.out⟩
  · have hr : rightT ⟨y, mo, d, h, mi, s⟩ = false := Bool.eq_false_iff.2 hr
    rw [if_neg (by rw [hr]; decide), if_neg (by rw [hr]; decide), hr]
    rw [hr] at HQ
    clear hR hr
    go_enter Try.func9, Try.ntmps9
    go_wp2_with fail
    generalize hw0 : W.alloc (.cells #[.int .i64 y, .int .i64 mo, .int .i64 d, .int .i64 h, .int .i64 mi, .int .i64 s] 23) = w0 at *
    clear hw0
    refine (HQ.out _).mono ?_
    rintro e w1 ⟨rfl, b1⟩
    have B1 := hide b1
    clear b1
    go_wp2
    go_ret3
    exact ⟨rfl, HB.out.trans (B1.out.mono HB.out.size)⟩

/-- A world behind two boxes of moments reads them as they were laid. -/
theorem two_boxes {W w1 : World} {a b : Array Value} {B : Nat}
    (h : Below ((W.alloc (.cells a B)).alloc (.cells b B)).heap.size ((W.alloc (.cells a B)).alloc (.cells b B)) w1) :
    w1.heap[W.heap.size]? = some (.cells a B (0, 0)) ∧ w1.heap[W.heap.size + 1]? = some (.cells b B (0, 0)) := by
  have hs : ((W.alloc (.cells a B)).alloc (.cells b B)).heap.size = W.heap.size + 2 := by
    show ((W.heap.push _).push _).size = _
    simp only [Array.size_push]
  constructor
  · rw [h.block _ (by omega)]
    show ((W.heap.push _).push _)[W.heap.size]? = _
    rw [Array.getElem?_push_lt (by simp only [Array.size_push]; omega)]
    simp
  · rw [h.block _ (by omega)]
    have e : (W.alloc (.cells a B)).heap.size = W.heap.size + 1 := by
      show (W.heap.push _).size = _
      simp only [Array.size_push]
    show ((W.alloc (.cells a B)).heap.push _)[W.heap.size + 1]? = _
    rw [← e]
    exact Array.getElem?_push_size

set_option maxRecDepth 20000 in
set_option maxHeartbeats 16000000 in
theorem qopen13 (d c : Int) (W : World) :
    Calls Try.prog 11 #[.int .i64 d, .int .i64 c] W fun e w' => e = .returned (.tuple #[tmV (if okO d c = true then openT d c else zeroT), .bool (okO d c)]) ∧ Below W.heap.size W w' := by
  have HQ := hide (fun t w => qright13 t w)
  have HI := hide (okO_iff d c)
  by_cases hin : (0 ≤ d ∧ d ≤ 65535) ∧ (0 ≤ c ∧ c ≤ 65535)
  · obtain ⟨⟨d0, d1⟩, c0, c1⟩ := hin
    have e : openT d c = ⟨1980 + d / 512, d / 32 % 16, d % 32, c / 2048, c / 32 % 64, c % 32 * 2⟩ := by
      unfold openT
      rw [Int.tdiv_eq_ediv_of_nonneg d0, Int.tdiv_eq_ediv_of_nonneg d0, Int.tmod_eq_emod_of_nonneg (show 0 ≤ d / 32 by omega), Int.tmod_eq_emod_of_nonneg d0, Int.tdiv_eq_ediv_of_nonneg c0, Int.tdiv_eq_ediv_of_nonneg c0, Int.tmod_eq_emod_of_nonneg (show 0 ≤ c / 32 by omega), Int.tmod_eq_emod_of_nonneg c0]
    have hO : okO d c = rightT ⟨1980 + d / 512, d / 32 % 16, d % 32, c / 2048, c / 32 % 64, c % 32 * 2⟩ := by
      rw [← e]
      cases h : rightT (openT d c) with
      | true => exact HI.out.2 ⟨⟨d0, d1⟩, ⟨c0, c1⟩, h⟩
      | false =>
        cases h2 : okO d c with
        | false => rfl
        | true => exact absurd (HI.out.1 h2).2.2 (by rw [h]; decide)
    rw [e]
    have HQ := hide (HQ.out ⟨1980 + d / 512, d / 32 % 16, d % 32, c / 2048, c / 32 % 64, c % 32 * 2⟩)
    rw [← hO] at HQ
    have HB := hide (((Below.refl W.heap.size W).alloc (Nat.le_refl _) (.cells #[.int .i64 0, .int .i64 0, .int .i64 0, .int .i64 0, .int .i64 0, .int .i64 0] 23)).alloc (Nat.le_of_lt (by show W.heap.size < (W.heap.push _).size; simp)) (.cells #[.int .i64 (1980 + d / 512), .int .i64 (d / 32 % 16), .int .i64 (d % 32), .int .i64 (c / 2048), .int .i64 (c / 32 % 64), .int .i64 (c % 32 * 2)] 23))
    clear HI e hO
    cases ho : okO d c with
    | true =>
      rw [ho] at HQ
      clear ho
      go_enter Try.func11, Try.ntmps11
      go_wp2_with fail
      refine (HQ.out _).mono ?_
      rintro e w1 ⟨rfl, b1⟩
      have hz := box_cells (two_boxes b1).1
      have hg := box_cells (two_boxes b1).2
      have f0 := frozen_box13 (two_boxes b1).1 0
      have f1 := frozen_box13 (two_boxes b1).1 1
      have f2 := frozen_box13 (two_boxes b1).1 2
      have f3 := frozen_box13 (two_boxes b1).1 3
      have f4 := frozen_box13 (two_boxes b1).1 4
      have f5 := frozen_box13 (two_boxes b1).1 5
      obtain ⟨z0, z1, z2, z3, z4, z5⟩ := hz
      obtain ⟨g0, g1, g2, g3, g4, g5⟩ := hg
      have B1 := hide b1
      have HZ := hide (two_boxes b1).1
      clear b1 HQ
      go_wp2
      refine bodyPost_ret (results_box13 rfl _ _ _ _ _ rfl (set_six _ _ _ _ _ _ _ _ _ _ _ _ _ _ _ HZ.out) Try.underlying23 rfl) rfl ?_
      exact ⟨rfl, (HB.out.trans (B1.out.mono HB.out.size)).setCell (Nat.le_refl _) _ |>.setCell (Nat.le_refl _) _ |>.setCell (Nat.le_refl _) _ |>.setCell (Nat.le_refl _) _ |>.setCell (Nat.le_refl _) _ |>.setCell (Nat.le_refl _) _⟩
    | false =>
      rw [ho] at HQ
      clear ho
      go_enter Try.func11, Try.ntmps11
      go_wp2_with fail
      refine (HQ.out _).mono ?_
      rintro e w1 ⟨rfl, b1⟩
      have hz := box_cells (two_boxes b1).1
      have f0 := frozen_box13 (two_boxes b1).1 0
      have f1 := frozen_box13 (two_boxes b1).1 1
      have f2 := frozen_box13 (two_boxes b1).1 2
      have f3 := frozen_box13 (two_boxes b1).1 3
      have f4 := frozen_box13 (two_boxes b1).1 4
      have f5 := frozen_box13 (two_boxes b1).1 5
      obtain ⟨z0, z1, z2, z3, z4, z5⟩ := hz
      have B1 := hide b1
      have HZ := hide (two_boxes b1).1
      clear b1 HQ
      go_wp2
      refine bodyPost_ret (results_box13 rfl _ _ _ _ _ rfl (set_six _ _ _ _ _ _ _ _ _ _ _ _ _ _ _ HZ.out) Try.underlying23 rfl) rfl ?_
      exact ⟨rfl, (HB.out.trans (B1.out.mono HB.out.size)).setCell (Nat.le_refl _) _ |>.setCell (Nat.le_refl _) _ |>.setCell (Nat.le_refl _) _ |>.setCell (Nat.le_refl _) _ |>.setCell (Nat.le_refl _) _ |>.setCell (Nat.le_refl _) _⟩
  · have hF : okO d c = false := by
      cases h : okO d c with
      | false => rfl
      | true => exact absurd ⟨((okO_iff d c).1 h).1, ((okO_iff d c).1 h).2.1⟩ hin
    rw [if_neg (by rw [hF]; decide), hF]
    have hin2 : ¬ (((0 ≤ d ∧ d ≤ 65535) ∧ 0 ≤ c) ∧ c ≤ 65535) := fun h => hin ⟨h.1.1, h.1.2, h.2⟩
    clear HI hF HQ hin
    go_enter Try.func11, Try.ntmps11
    go_wp2
    all_goals (
      refine bodyPost_ret (results_box13 rfl _ _ _ W.heap.size #[.int .i64 0, .int .i64 0, .int .i64 0, .int .i64 0, .int .i64 0, .int .i64 0] rfl (by show (W.heap.push _)[W.heap.size]? = _; simp) Try.underlying23 rfl) rfl ?_
      exact ⟨rfl, (Below.refl _ W).alloc (Nat.le_refl _) _⟩)

end Go.Proofs.Ytiiopconhkligaa
