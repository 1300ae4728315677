/- The code's contracts of layer 13: Days, Right, Pack, Open. -/
import Derived.Test.YtiiopconhkligaaTRef2
namespace Go.Proofs.Ytiiopconhkligaa
open Go.RowKit

theorem leap_told (y : Int) : leapI y = (decide (y.tmod 4 = 0) && (decide (y.tmod 400 = 0) || !decide (y.tmod 100 = 0))) := by
  unfold leapI
  cases decide (y.tmod 4 = 0) <;> cases decide (y.tmod 100 = 0) <;> cases decide (y.tmod 400 = 0) <;> rfl

set_option maxHeartbeats 4000000 in
theorem leap13 (y : Int) (W : World) :
    Calls Try.prog 19 #[.int .i64 y] W fun e w' => e = .returned (.bool (leapI y)) ∧ W = w' := by
  rw [leap_told]
  by_cases a4 : y.tmod 4 = 0
  · by_cases a400 : y.tmod 400 = 0
    · have e4 : (y.tmod 4 == 0) = true := by simp; exact a4
      have e400 : (y.tmod 400 == 0) = true := by simp; exact a400
      rw [decide_eq_true a4, decide_eq_true a400]
      clear a4 a400
      go_enter Try.func19, Try.ntmps19
      go_wp2
      go_ret
      exact ⟨rfl, rfl⟩
    · by_cases a100 : y.tmod 100 = 0
      · have e4 : (y.tmod 4 == 0) = true := by simp; exact a4
        have e400 : (y.tmod 400 == 0) = false := by simp; exact a400
        have e100 : (y.tmod 100 != 0) = false := by simp; exact a100
        rw [decide_eq_true a4, decide_eq_false a400, decide_eq_true a100]
        clear a4 a400 a100
        go_enter Try.func19, Try.ntmps19
        go_wp2
        go_ret
        exact ⟨rfl, rfl⟩
      · have e4 : (y.tmod 4 == 0) = true := by simp; exact a4
        have e400 : (y.tmod 400 == 0) = false := by simp; exact a400
        have e100 : (y.tmod 100 != 0) = true := by simp; exact a100
        rw [decide_eq_true a4, decide_eq_false a400, decide_eq_false a100]
        clear a4 a400 a100
        go_enter Try.func19, Try.ntmps19
        go_wp2
        go_ret
        exact ⟨rfl, rfl⟩
  · have e4 : (y.tmod 4 == 0) = false := by simp; exact a4
    rw [decide_eq_false a4]
    clear a4
    go_enter Try.func19, Try.ntmps19
    go_wp2
    go_ret
    exact ⟨rfl, rfl⟩

set_option maxHeartbeats 4000000 in
theorem days13 (y m : Int) (W : World) :
    Calls Try.prog 15 #[.int .i64 y, .int .i64 m] W fun e w' => e = .returned (.int .i64 (daysI y m)) ∧ W = w' := by
  by_cases m2 : m = 2
  · subst m2
    have HL := hide (fun w => leap13 y w)
    have HD := hide (show daysI y 2 = if leapI y = true then 29 else 28 from rfl)
    rw [HD.out]
    clear HD
    cases hl : leapI y with
    | true =>
      rw [hl] at HL
      rw [if_pos rfl]
      clear hl
      go_enter Try.func15, Try.ntmps15
      go_wp2_with fail
      refine (HL.out _).mono ?_
      rintro e w1 ⟨rfl, rfl⟩
      go_wp2
      go_ret
      exact ⟨rfl, rfl⟩
    | false =>
      rw [hl] at HL
      rw [if_neg (by decide)]
      clear hl
      go_enter Try.func15, Try.ntmps15
      go_wp2_with fail
      refine (HL.out _).mono ?_
      rintro e w1 ⟨rfl, rfl⟩
      go_wp2
      go_ret
      exact ⟨rfl, rfl⟩
  · by_cases m4 : m = 4 ∨ m = 6 ∨ m = 9 ∨ m = 11
    · have HD := hide (show daysI y m = 30 by unfold daysI; rw [if_pos m4])
      rw [HD.out]
      clear HD
      rcases m4 with rfl | rfl | rfl | rfl
      all_goals (
        go_enter Try.func15, Try.ntmps15
        go_wp2
        go_ret
        exact ⟨rfl, rfl⟩)
    · have HD := hide (show daysI y m = 31 by unfold daysI; rw [if_neg m4, if_neg m2])
      rw [HD.out]
      clear HD
      have b2 : (m == 2) = false := by simp; exact m2
      have b4 : (m == 4) = false := by simp; omega
      have b6 : (m == 6) = false := by simp; omega
      have b9 : (m == 9) = false := by simp; omega
      have b11 : (m == 11) = false := by simp; omega
      clear m2 m4
      go_enter Try.func15, Try.ntmps15
      go_wp2
      go_ret
      exact ⟨rfl, rfl⟩

/-- The two halves of what may be packed. -/
def dayT (t : Tm) : Bool := decide (1980 ≤ t.y) && (decide (t.y ≤ 2107) && (decide (1 ≤ t.mo) && (decide (t.mo ≤ 12) && (decide (1 ≤ t.d) && decide (t.d ≤ daysI t.y t.mo)))))
def clkT (t : Tm) : Bool := decide (0 ≤ t.h) && (decide (t.h ≤ 23) && (decide (0 ≤ t.mi) && (decide (t.mi ≤ 59) && (decide (0 ≤ t.s) && (decide (t.s ≤ 58) && decide (t.s.tmod 2 = 0))))))
theorem right_halves (t : Tm) : rightT t = (dayT t && clkT t) := by
  unfold rightT dayT clkT
  simp only [Bool.and_assoc]

set_option maxRecDepth 20000 in
set_option maxHeartbeats 16000000 in
theorem day13 (t : Tm) (W : World) :
    Calls Try.prog 17 #[tmV t] W fun e w' => e = .returned (.bool (dayT t)) ∧ Below W.heap.size W w' := by
  obtain ⟨y, mo, d, h, mi, s⟩ := t
  have HQ := hide (fun w => (days13 y mo w).mono fun e w' g => (⟨g.1, g.2 ▸ Below.refl _ _⟩ : e = .returned (.int .i64 (daysI y mo)) ∧ Below w.heap.size w w'))
  have HCL := hide (tm_cells W y mo d h mi s)
  have HB := hide ((Below.refl _ W).alloc (Nat.le_refl _) (.cells #[.int .i64 y, .int .i64 mo, .int .i64 d, .int .i64 h, .int .i64 mi, .int .i64 s] 23))
  have HR := hide (show dayT ⟨y, mo, d, h, mi, s⟩ = (decide (1980 ≤ y) && (decide (y ≤ 2107) && (decide (1 ≤ mo) && (decide (mo ≤ 12) && (decide (1 ≤ d) && decide (d ≤ daysI y mo)))))) from rfl)
  obtain ⟨A, hA⟩ : ∃ A, dayT ⟨y, mo, d, h, mi, s⟩ = A := ⟨_, rfl⟩
  obtain ⟨D, hD⟩ : ∃ D, daysI y mo = D := ⟨_, rfl⟩
  rw [hA] at HR ⊢
  rw [hD] at HR
  simp only [hD] at HQ
  clear hA hD
  unfold tmV
  by_cases c0 : 1980 ≤ y
  · by_cases c1 : y ≤ 2107
    · by_cases c2 : 1 ≤ mo
      · by_cases c3 : mo ≤ 12
        · by_cases c4 : 1 ≤ d
          · obtain rfl : A = decide (d ≤ D) := by rw [HR.out, decide_eq_true c0, decide_eq_true c1, decide_eq_true c2, decide_eq_true c3, decide_eq_true c4]; rfl
            clear HR
            obtain ⟨E, hE⟩ : ∃ E, decide (d ≤ D) = E := ⟨_, rfl⟩
            rw [hE]
            have k4 : decide (1 ≤ d) = true := decide_eq_true c4
            clear c4
            go_enter Try.func17, Try.ntmps17
            go_wp2_with fail
            generalize hw0 : W.alloc (.cells #[.int .i64 y, .int .i64 mo, .int .i64 d, .int .i64 h, .int .i64 mi, .int .i64 s] 23) = w0 at *
            clear hw0
            have hu0 := fun u => (HCL.out u).1
            have hu1 := fun u => (HCL.out u).2.1
            have hu2 := fun u => (HCL.out u).2.2.1
            have hne : Nonempty (Since0 w0) := ⟨⟨w0, Below.refl _ _⟩⟩
            try simp only [List.append]
            refine wp_region_below w0 (Below.refl _ _) (by kernel_rfl) (by kernel_rfl) ?_
            repeat (go_big_quiet_step ((rename_i u; exact calls_since u (HQ.out u.1))))
            refine wpQuiet_nil ?_
            intro _ hw'
            obtain ⟨u, rfl⟩ := hw'
            have HBU := hide (HB.out.trans (u.2.mono HB.out.size))
            clear hu0 hu1 hu2 hne
            go_wp2
            go_ret
            exact ⟨rfl, HBU.out⟩
          · obtain rfl : A = false := by rw [HR.out, decide_eq_false c4]; simp
            have k4 : decide (1 ≤ d) = false := decide_eq_false c4
            clear c4
            clear HR
            go_enter Try.func17, Try.ntmps17
            go_wp2_with fail
            generalize hw0 : W.alloc (.cells #[.int .i64 y, .int .i64 mo, .int .i64 d, .int .i64 h, .int .i64 mi, .int .i64 s] 23) = w0 at *
            clear hw0
            have hu0 := fun u => (HCL.out u).1
            have hu1 := fun u => (HCL.out u).2.1
            have hu2 := fun u => (HCL.out u).2.2.1
            have hne : Nonempty (Since0 w0) := ⟨⟨w0, Below.refl _ _⟩⟩
            try simp only [List.append]
            refine wp_region_below w0 (Below.refl _ _) (by kernel_rfl) (by kernel_rfl) ?_
            repeat (go_big_quiet_step ((rename_i u; exact calls_since u (HQ.out u.1))))
            refine wpQuiet_nil ?_
            intro _ hw'
            obtain ⟨u, rfl⟩ := hw'
            have HBU := hide (HB.out.trans (u.2.mono HB.out.size))
            clear hu0 hu1 hu2 hne
            go_wp2
            go_ret
            exact ⟨rfl, HBU.out⟩
        · obtain rfl : A = false := by rw [HR.out, decide_eq_false c3]; simp
          clear HR HQ HCL
          go_enter Try.func17, Try.ntmps17
          go_wp2
          go_ret
          exact ⟨rfl, HB.out⟩
      · obtain rfl : A = false := by rw [HR.out, decide_eq_false c2]; simp
        clear HR HQ HCL
        go_enter Try.func17, Try.ntmps17
        go_wp2
        go_ret
        exact ⟨rfl, HB.out⟩
    · obtain rfl : A = false := by rw [HR.out, decide_eq_false c1]; simp
      clear HR HQ HCL
      go_enter Try.func17, Try.ntmps17
      go_wp2
      go_ret
      exact ⟨rfl, HB.out⟩
  · obtain rfl : A = false := by rw [HR.out, decide_eq_false c0]; simp
    clear HR HQ HCL
    go_enter Try.func17, Try.ntmps17
    go_wp2
    go_ret
    exact ⟨rfl, HB.out⟩

set_option maxRecDepth 20000 in
set_option maxHeartbeats 16000000 in
theorem clk13 (t : Tm) (W : World) :
    Calls Try.prog 18 #[tmV t] W fun e w' => e = .returned (.bool (clkT t)) ∧ Below W.heap.size W w' := by
  obtain ⟨y, mo, d, h, mi, s⟩ := t
  have HB := hide ((Below.refl _ W).alloc (Nat.le_refl _) (.cells #[.int .i64 y, .int .i64 mo, .int .i64 d, .int .i64 h, .int .i64 mi, .int .i64 s] 23))
  have HR := hide (show clkT ⟨y, mo, d, h, mi, s⟩ = (decide (0 ≤ h) && (decide (h ≤ 23) && (decide (0 ≤ mi) && (decide (mi ≤ 59) && (decide (0 ≤ s) && (decide (s ≤ 58) && decide (s.tmod 2 = 0))))))) from rfl)
  obtain ⟨A, hA⟩ : ∃ A, clkT ⟨y, mo, d, h, mi, s⟩ = A := ⟨_, rfl⟩
  rw [hA] at HR ⊢
  clear hA
  unfold tmV
  by_cases c0 : 0 ≤ h
  · by_cases c1 : h ≤ 23
    · by_cases c2 : 0 ≤ mi
      · by_cases c3 : mi ≤ 59
        · by_cases c4 : 0 ≤ s
          · by_cases c5 : s ≤ 58
            · obtain rfl : A = decide (s.tmod 2 = 0) := by rw [HR.out, decide_eq_true c0, decide_eq_true c1, decide_eq_true c2, decide_eq_true c3, decide_eq_true c4, decide_eq_true c5]; rfl
              clear HR
              have k4 : decide (0 ≤ s) = true := decide_eq_true c4
              have k5 : decide (s < 60) = true := decide_eq_true (by omega)
              by_cases c6 : s.tmod 2 = 0
              · rw [decide_eq_true c6]
                have k6 : (s.tmod 2 == 0) = true := by simp; exact c6
                clear c6 c4 c5
                go_enter Try.func18, Try.ntmps18
                go_wp2
                go_ret
                exact ⟨rfl, HB.out⟩
              · rw [decide_eq_false c6]
                have k6 : (s.tmod 2 == 0) = false := by simp; exact c6
                clear c6 c4 c5
                go_enter Try.func18, Try.ntmps18
                go_wp2
                go_ret
                exact ⟨rfl, HB.out⟩
            · obtain rfl : A = false := by rw [HR.out, decide_eq_false c5]; simp
              clear HR
              have k4 : decide (0 ≤ s) = true := decide_eq_true c4
              by_cases c6 : s < 60
              · obtain rfl : s = 59 := by omega
                clear k4 c4 c5 c6
                go_enter Try.func18, Try.ntmps18
                go_wp2
                go_ret
                exact ⟨rfl, HB.out⟩
              · have k5 : decide (s < 60) = false := decide_eq_false c6
                clear c4 c5 c6
                go_enter Try.func18, Try.ntmps18
                go_wp2
                go_ret
                exact ⟨rfl, HB.out⟩
          · obtain rfl : A = false := by rw [HR.out, decide_eq_false c4]; simp
            clear HR
            have k4 : decide (0 ≤ s) = false := decide_eq_false c4
            clear c4
            go_enter Try.func18, Try.ntmps18
            go_wp2
            go_ret
            exact ⟨rfl, HB.out⟩
        · obtain rfl : A = false := by rw [HR.out, decide_eq_false c3]; simp
          clear HR
          go_enter Try.func18, Try.ntmps18
          go_wp2
          go_ret
          exact ⟨rfl, HB.out⟩
      · obtain rfl : A = false := by rw [HR.out, decide_eq_false c2]; simp
        clear HR
        go_enter Try.func18, Try.ntmps18
        go_wp2
        go_ret
        exact ⟨rfl, HB.out⟩
    · obtain rfl : A = false := by rw [HR.out, decide_eq_false c1]; simp
      clear HR
      go_enter Try.func18, Try.ntmps18
      go_wp2
      go_ret
      exact ⟨rfl, HB.out⟩
  · obtain rfl : A = false := by rw [HR.out, decide_eq_false c0]; simp
    clear HR
    go_enter Try.func18, Try.ntmps18
    go_wp2
    go_ret
    exact ⟨rfl, HB.out⟩

set_option maxRecDepth 20000 in
set_option maxHeartbeats 16000000 in
theorem right13 (t : Tm) (W : World) :
    Calls Try.prog 13 #[tmV t] W fun e w' => e = .returned (.bool (rightT t)) ∧ Below W.heap.size W w' := by
  rw [right_halves]
  have HD := hide (fun w => day13 t w)
  have HC := hide (fun w => clk13 t w)
  obtain ⟨A, hA⟩ : ∃ A, dayT t = A := ⟨_, rfl⟩
  obtain ⟨C, hC⟩ : ∃ C, clkT t = C := ⟨_, rfl⟩
  rw [hA, hC]
  simp only [hA] at HD
  simp only [hC] at HC
  clear hA hC
  obtain ⟨y, mo, d, h, mi, s⟩ := t
  have HB := hide ((Below.refl _ W).alloc (Nat.le_refl _) (.cells #[.int .i64 y, .int .i64 mo, .int .i64 d, .int .i64 h, .int .i64 mi, .int .i64 s] 23))
  have hb := box_new W #[.int .i64 y, .int .i64 mo, .int .i64 d, .int .i64 h, .int .i64 mi, .int .i64 s] 23
  have HX := hide hb
  clear hb
  unfold tmV at *
  cases A with
  | false =>
    go_enter Try.func13, Try.ntmps13
    go_wp2_with fail
    refine (HD.out _).mono ?_
    rintro e w1 ⟨rfl, b1⟩
    have B1 := hide b1
    clear b1
    go_wp2
    go_ret
    exact ⟨rfl, HB.out.trans (B1.out.mono HB.out.size)⟩
  | true =>
    go_enter Try.func13, Try.ntmps13
    go_wp2_with fail
    refine (HD.out _).mono ?_
    rintro e w1 ⟨rfl, b1⟩
    obtain ⟨z0, z1, z2, z3, z4, z5⟩ := box_cells (box_kept HX.out b1)
    have B1 := hide b1
    clear b1
    go_wp2_with fail
    refine (HC.out _).mono ?_
    rintro e w2 ⟨rfl, b2⟩
    have B2 := hide b2
    clear b2
    go_wp2
    go_ret
    have b1 := HB.out.trans (B1.out.mono HB.out.size)
    exact ⟨rfl, b1.trans (B2.out.mono b1.size)⟩

set_option maxRecDepth 20000 in
set_option maxHeartbeats 16000000 in
theorem pack13 (t : Tm) (W : World) :
    Calls Try.prog 8 #[tmV t] W fun e w' => e = .returned (.tuple #[.int .i64 (if rightT t = true then dateT t else 0), .int .i64 (if rightT t = true then clockT t else 0), .bool (rightT t)]) ∧ Below W.heap.size W w' := by
  have HQ := hide (fun w => right13 t w)
  obtain ⟨y, mo, d, h, mi, s⟩ := t
  have HB := hide ((Below.refl _ W).alloc (Nat.le_refl _) (.cells #[.int .i64 y, .int .i64 mo, .int .i64 d, .int .i64 h, .int .i64 mi, .int .i64 s] 23))
  have HX := hide (box_new W #[.int .i64 y, .int .i64 mo, .int .i64 d, .int .i64 h, .int .i64 mi, .int .i64 s] 23)
  have hR := rightT_iff ⟨y, mo, d, h, mi, s⟩
  unfold tmV at *
  by_cases hr : rightT ⟨y, mo, d, h, mi, s⟩ = true
  · rw [if_pos hr, if_pos hr, hr]
    rw [hr] at HQ
    obtain ⟨⟨y0, y1⟩, ⟨m0, m1⟩, ⟨d0, d1⟩, ⟨h0, h1⟩, ⟨i0, i1⟩, ⟨s0, s1⟩, s2⟩ := hR.1 hr
    have dd := (days_range y mo).2
    dsimp only at y0 y1 m0 m1 d0 d1 h0 h1 i0 i1 s0 s1 s2
    have d2 : d ≤ 31 := by omega
    have HV := hide (show dateT ⟨y, mo, d, h, mi, s⟩ = 512 * (y - 1980) + 32 * mo + d ∧ clockT ⟨y, mo, d, h, mi, s⟩ = 2048 * h + 32 * mi + s / 2 from ⟨by show (y - 1980) * 512 + mo * 32 + d = _; omega, by show h * 2048 + mi * 32 + s.tdiv 2 = _; rw [Int.tdiv_eq_ediv_of_nonneg s0]; omega⟩)
    rw [HV.out.1, HV.out.2]
    clear hR hr HV dd d1 s2
    go_enter Try.func8, Try.ntmps8
    go_wp2_with fail
    refine (HQ.out _).mono ?_
    rintro e w1 ⟨rfl, b1⟩
    obtain ⟨z0, z1, z2, z3, z4, z5⟩ := box_cells (box_kept HX.out b1)
    have B1 := hide b1
    clear b1
    go_wp2
    go_ret3
    exact ⟨rfl, HB.out.trans (B1.out.mono HB.out.size)⟩
  · have hr : rightT ⟨y, mo, d, h, mi, s⟩ = false := Bool.eq_false_iff.2 hr
    rw [if_neg (by rw [hr]; decide), if_neg (by rw [hr]; decide), hr]
    rw [hr] at HQ
    clear hR hr
    go_enter Try.func8, Try.ntmps8
    go_wp2_with fail
    refine (HQ.out _).mono ?_
    rintro e w1 ⟨rfl, b1⟩
    have B1 := hide b1
    clear b1
    go_wp2
    go_ret3
    exact ⟨rfl, HB.out.trans (B1.out.mono HB.out.size)⟩

/-- What the code puts together of a date and a clock, asked whether it may be. -/
def madeO (d c : Int) : Tm := ⟨1980 + d.tdiv 512, (d.tmod 512).tdiv 32, d.tmod 32, c.tdiv 2048, (c.tmod 2048).tdiv 32, c.tmod 32 * 2⟩
theorem made_in {d c : Int} (d0 : 0 ≤ d) (c0 : 0 ≤ c) : madeO d c = openT d c := by
  obtain ⟨d, rfl⟩ : ∃ n : Nat, d = n := ⟨d.toNat, by omega⟩
  obtain ⟨c, rfl⟩ : ∃ n : Nat, c = n := ⟨c.toNat, by omega⟩
  rw [openT_nat]
  show (⟨1980 + ((d / 512 : Nat) : Int), ((d % 512 / 32 : Nat) : Int), ((d % 32 : Nat) : Int), ((c / 2048 : Nat) : Int), ((c % 2048 / 32 : Nat) : Int), ((c % 32 : Nat) : Int) * 2⟩ : Tm) = _
  have e1 : d % 512 / 32 = d / 32 % 16 := by omega
  have e2 : c % 2048 / 32 = c / 32 % 64 := by omega
  rw [e1, e2]
theorem made_right (d c : Int) : rightT (madeO d c) = okO d c := by
  rw [Bool.eq_iff_iff, okO_iff]
  constructor
  · intro h
    have h0 := h
    rw [rightT_iff] at h
    obtain ⟨⟨y0, y1⟩, ⟨m0, m1⟩, ⟨d0, d1⟩, ⟨h0', h1⟩, ⟨i0, i1⟩, ⟨s0, s1⟩, s2⟩ := h
    dsimp only [madeO] at y0 y1 m0 h0' h1 i0 s0
    have hd : 0 ≤ d := by
      refine Int.not_lt.1 fun hn => ?_
      obtain ⟨n, rfl⟩ : ∃ n : Nat, d = -(n : Int) := ⟨(-d).toNat, by omega⟩
      rw [Int.neg_tmod, Int.neg_tdiv] at m0
      have : (0 : Int) ≤ ((n : Int).tmod 512).tdiv 32 := Int.tdiv_nonneg (Int.tmod_nonneg _ (by omega)) (by decide)
      omega
    have hc : 0 ≤ c := by
      refine Int.not_lt.1 fun hn => ?_
      obtain ⟨n, rfl⟩ : ∃ n : Nat, c = -(n : Int) := ⟨(-c).toNat, by omega⟩
      rw [Int.neg_tdiv] at h0'
      rw [Int.neg_tmod, Int.neg_tdiv] at i0
      rw [Int.neg_tmod] at s0
      have e1 : ((n / 2048 : Nat) : Int) = (n : Int).tdiv 2048 := rfl
      have e2 : ((n % 2048 / 32 : Nat) : Int) = ((n : Int).tmod 2048).tdiv 32 := rfl
      have e3 : ((n % 32 : Nat) : Int) = (n : Int).tmod 32 := rfl
      omega
    have e := made_in hd hc
    refine ⟨⟨hd, ?_⟩, ⟨hc, ?_⟩, by rw [← e]; exact h0⟩
    · rw [Int.tdiv_eq_ediv_of_nonneg hd] at y1
      omega
    · rw [Int.tdiv_eq_ediv_of_nonneg hc] at h1
      omega
  · rintro ⟨⟨d0, d1⟩, ⟨c0, c1⟩, h⟩
    rw [made_in d0 c0]
    exact h

theorem tdiv_in {x : Int} (h : I64 x) (k : Int) (hk : 32 ≤ k) : -300000000000000000 ≤ x.tdiv k ∧ x.tdiv k ≤ 300000000000000000 := by
  unfold I64 at h
  rcases Int.le_total 0 x with h0 | h0
  · rw [Int.tdiv_eq_ediv_of_nonneg h0]
    have a := Int.ediv_nonneg h0 (show 0 ≤ k by omega)
    have b : x / k ≤ x / 32 := by
      rw [Int.le_ediv_iff_mul_le (by decide)]
      have c := Int.ediv_mul_le x (show k ≠ 0 by omega)
      have e : x / k * 32 ≤ x / k * k := Int.mul_le_mul_of_nonneg_left hk a
      omega
    omega
  · obtain ⟨n, rfl⟩ : ∃ n : Int, x = -n := ⟨-x, by omega⟩
    rw [Int.neg_tdiv, Int.tdiv_eq_ediv_of_nonneg (show 0 ≤ n by omega)]
    have a := Int.ediv_nonneg (show 0 ≤ n by omega) (show 0 ≤ k by omega)
    have b : n / k ≤ n / 32 := by
      rw [Int.le_ediv_iff_mul_le (by decide)]
      have c := Int.ediv_mul_le n (show k ≠ 0 by omega)
      have e : n / k * 32 ≤ n / k * k := Int.mul_le_mul_of_nonneg_left hk a
      omega
    omega
theorem tmod_in (x k : Int) (hk : 0 < k) : -k < x.tmod k ∧ x.tmod k < k := by
  constructor
  · exact Int.lt_tmod_of_pos x hk
  · exact Int.tmod_lt_of_pos x hk

set_option maxRecDepth 20000 in
set_option maxHeartbeats 16000000 in
theorem open13 (d c : Int) (W : World) (id : I64 d) (ic : I64 c) :
    Calls Try.prog 10 #[.int .i64 d, .int .i64 c] W fun e w' => e = .returned (.tuple #[tmV (if okO d c = true then openT d c else zeroT), .bool (okO d c)]) ∧ Below W.heap.size W w' := by
  have HR := hide (fun w => right13 (madeO d c) w)
  rw [made_right] at HR
  have HZ := hide (box_new W #[.int .i64 0, .int .i64 0, .int .i64 0, .int .i64 0, .int .i64 0, .int .i64 0] 23)
  have q1 := tdiv_in id 512 (by decide)
  have q2 := tmod_in d 512 (by decide)
  have q3 := tmod_in d 32 (by decide)
  have q4 := tdiv_in ic 2048 (by decide)
  have q5 := tmod_in c 2048 (by decide)
  have q6 := tmod_in c 32 (by decide)
  have HV := hide (show tmV (if okO d c = true then openT d c else zeroT) = (if okO d c = true then tmV (madeO d c) else tmV zeroT) by
    by_cases h : okO d c = true
    · rw [if_pos h, if_pos h, made_in ((okO_iff d c).1 h).1.1 ((okO_iff d c).1 h).2.1.1]
    · rw [if_neg h, if_neg h])
  rw [HV.out]
  clear HV
  unfold I64 at id ic
  unfold tmV madeO zeroT at *
  dsimp only at *
  have HB := hide (((Below.refl W.heap.size W).alloc (Nat.le_refl _) (.cells #[.int .i64 0, .int .i64 0, .int .i64 0, .int .i64 0, .int .i64 0, .int .i64 0] 23)).alloc (Nat.le_of_lt (by show W.heap.size < (W.heap.push _).size; simp)) (.cells #[.int .i64 (1980 + d.tdiv 512), .int .i64 ((d.tmod 512).tdiv 32), .int .i64 (d.tmod 32), .int .i64 (c.tdiv 2048), .int .i64 ((c.tmod 2048).tdiv 32), .int .i64 (c.tmod 32 * 2)] 23))
  cases ho : okO d c with
  | true =>
    rw [ho] at HR
    rw [if_pos rfl]
    clear ho
    go_enter Try.func10, Try.ntmps10
    go_wp2_with fail
    refine (HR.out _).mono ?_
    rintro e w1 ⟨rfl, b1⟩
    obtain ⟨z0, z1, z2, z3, z4, z5⟩ := box_cells (two_boxes b1).1
    obtain ⟨g0, g1, g2, g3, g4, g5⟩ := box_cells (two_boxes b1).2
    have f0 := frozen_box13 (two_boxes b1).1 0
    have f1 := frozen_box13 (two_boxes b1).1 1
    have f2 := frozen_box13 (two_boxes b1).1 2
    have f3 := frozen_box13 (two_boxes b1).1 3
    have f4 := frozen_box13 (two_boxes b1).1 4
    have f5 := frozen_box13 (two_boxes b1).1 5
    have B1 := hide b1
    have HX := hide (two_boxes b1).1
    clear b1 HR HZ q1 q2 q3 q4 q5 q6
    go_wp2
    refine bodyPost_ret (results_box13 rfl _ _ _ _ _ rfl (set_six _ _ _ _ _ _ _ _ _ _ _ _ _ _ _ HX.out) Try.underlying23 rfl) rfl ?_
    exact ⟨rfl, (HB.out.trans (B1.out.mono HB.out.size)).setCell (Nat.le_refl _) _ |>.setCell (Nat.le_refl _) _ |>.setCell (Nat.le_refl _) _ |>.setCell (Nat.le_refl _) _ |>.setCell (Nat.le_refl _) _ |>.setCell (Nat.le_refl _) _⟩
  | false =>
    rw [ho] at HR
    rw [if_neg (by decide)]
    clear ho
    go_enter Try.func10, Try.ntmps10
    go_wp2_with fail
    refine (HR.out _).mono ?_
    rintro e w1 ⟨rfl, b1⟩
    obtain ⟨z0, z1, z2, z3, z4, z5⟩ := box_cells (two_boxes b1).1
    have f0 := frozen_box13 (two_boxes b1).1 0
    have f1 := frozen_box13 (two_boxes b1).1 1
    have f2 := frozen_box13 (two_boxes b1).1 2
    have f3 := frozen_box13 (two_boxes b1).1 3
    have f4 := frozen_box13 (two_boxes b1).1 4
    have f5 := frozen_box13 (two_boxes b1).1 5
    have B1 := hide b1
    have HX := hide (two_boxes b1).1
    clear b1 HR HZ q1 q2 q3 q4 q5 q6
    go_wp2
    refine bodyPost_ret (results_box13 rfl _ _ _ _ _ rfl (set_six _ _ _ _ _ _ _ _ _ _ _ _ _ _ _ HX.out) Try.underlying23 rfl) rfl ?_
    exact ⟨rfl, (HB.out.trans (B1.out.mono HB.out.size)).setCell (Nat.le_refl _) _ |>.setCell (Nat.le_refl _) _ |>.setCell (Nat.le_refl _) _ |>.setCell (Nat.le_refl _) _ |>.setCell (Nat.le_refl _) _ |>.setCell (Nat.le_refl _) _⟩

theorem tspec : TSpec where
  days y m W _ _ := (days13 y m W).mono fun _ _ g => ⟨g.1, g.2 ▸ Below.refl _ _⟩
  right t W _ := right13 t W
  pack t W _ := pack13 t W
  opens d c W id ic := open13 d c W id ic

end Go.Proofs.Ytiiopconhkligaa
