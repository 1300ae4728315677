/- ClockBack, the walk. -/
import Derived.Test.YtiiopconhkligaaTSpec
namespace Go.Proofs.Ytiiopconhkligaa
open Go.RowKit

set_option maxRecDepth 20000 in
set_option maxHeartbeats 16000000 in
theorem clockBack_tt (y mo d h mi s x1 x2 x3 x4 x5 x6 a b : Int) (dt tm : Nat) (hdt : dt < 65536) (htm : tm < 65536) (W : World)
    (HA : Hid (∀ w, Calls Try.prog 12 #[] w fun e w' => e = .returned (.bool true) ∧ Below w.heap.size w w'))
    (HP1 : Hid (∀ w, Calls Try.prog 8 #[.agg #[.int .i64 y, .int .i64 mo, .int .i64 d, .int .i64 h, .int .i64 mi, .int .i64 s]] w fun z w' => z = .returned (.tuple #[.int .i64 a, .int .i64 b, .bool true]) ∧ Below w.heap.size w w'))
    (HO1 : Hid (∀ w, Calls Try.prog 10 #[.int .i64 a, .int .i64 b] w fun z w' => z = .returned (.tuple #[.agg #[.int .i64 y, .int .i64 mo, .int .i64 d, .int .i64 h, .int .i64 mi, .int .i64 s], .bool true]) ∧ Below w.heap.size w w'))
    (HO2 : Hid (∀ w, Calls Try.prog 10 #[.int .i64 dt, .int .i64 tm] w fun z w' => z = .returned (.tuple #[.agg #[.int .i64 x1, .int .i64 x2, .int .i64 x3, .int .i64 x4, .int .i64 x5, .int .i64 x6], .bool true]) ∧ Below w.heap.size w w'))
    (HP2 : Hid (∀ w, Calls Try.prog 8 #[.agg #[.int .i64 x1, .int .i64 x2, .int .i64 x3, .int .i64 x4, .int .i64 x5, .int .i64 x6]] w fun z w' => z = .returned (.tuple #[.int .i64 dt, .int .i64 tm, .bool true]) ∧ Below w.heap.size w w'))
    (HR : Hid (∀ w, Calls Try.prog 13 #[.agg #[.int .i64 y, .int .i64 mo, .int .i64 d, .int .i64 h, .int .i64 mi, .int .i64 s]] w fun z w' => z = .returned (.bool true) ∧ Below w.heap.size w w')) :
    Calls Try.prog 4 #[.agg #[.int .i64 y, .int .i64 mo, .int .i64 d, .int .i64 h, .int .i64 mi, .int .i64 s], .int .u16 dt, .int .u16 tm] W fun e w' => e = .returned (.bool true) ∧ Below W.heap.size W w' := by
  go_enter Try.func4, Try.ntmps4
  go_wp2_with fail
  refine (HP1.out _).mono ?_
  rintro e w1 ⟨rfl, b1⟩
  have HT1 := hide (box_kept (box_new W _ _) b1)
  have B1 := hide b1
  clear b1
  go_wp2_with fail
  refine (HO1.out _).mono ?_
  rintro e w2 ⟨rfl, b2⟩
  have HT2 := hide (box_kept HT1.out b2)
  have B2 := hide b2
  clear b2
  have BE := hide ((Below.refl _ w2).alloc (Nat.le_refl _) (.cells #[.int .i64 y, .int .i64 mo, .int .i64 d, .int .i64 h, .int .i64 mi, .int .i64 s] 23))
  have HE2 := hide (box_new w2 #[.int .i64 y, .int .i64 mo, .int .i64 d, .int .i64 h, .int .i64 mi, .int .i64 s] 23)
  have HT2' := hide (box_alloc HT2.out (.cells #[.int .i64 y, .int .i64 mo, .int .i64 d, .int .i64 h, .int .i64 mi, .int .i64 s] 23))
  go_wp2_with fail
  generalize hv : w2.alloc (.cells #[.int .i64 y, .int .i64 mo, .int .i64 d, .int .i64 h, .int .i64 mi, .int .i64 s] 23) = v2 at *
  clear hv
  refine (HO2.out _).mono ?_
  rintro e w3 ⟨rfl, b3⟩
  have HT3 := hide (box_kept HT2'.out b3)
  have HE3 := hide (box_kept HE2.out b3)
  have B3 := hide b3
  clear b3
  have BF := hide ((Below.refl _ w3).alloc (Nat.le_refl _) (.cells #[.int .i64 x1, .int .i64 x2, .int .i64 x3, .int .i64 x4, .int .i64 x5, .int .i64 x6] 23))
  have HF3 := hide (box_new w3 #[.int .i64 x1, .int .i64 x2, .int .i64 x3, .int .i64 x4, .int .i64 x5, .int .i64 x6] 23)
  have HT3' := hide (box_alloc HT3.out (.cells #[.int .i64 x1, .int .i64 x2, .int .i64 x3, .int .i64 x4, .int .i64 x5, .int .i64 x6] 23))
  have HE3' := hide (box_alloc HE3.out (.cells #[.int .i64 x1, .int .i64 x2, .int .i64 x3, .int .i64 x4, .int .i64 x5, .int .i64 x6] 23))
  go_wp2_with fail
  generalize hv : w3.alloc (.cells #[.int .i64 x1, .int .i64 x2, .int .i64 x3, .int .i64 x4, .int .i64 x5, .int .i64 x6] 23) = v3 at *
  clear hv
  refine (HP2.out _).mono ?_
  rintro e w4 ⟨rfl, b4⟩
  have HT5 := hide (box_kept HT3'.out b4)
  have HE5 := hide (box_kept HE3'.out b4)
  have HF5 := hide (box_kept HF3.out b4)
  have B4 := hide b4
  clear b4 HT1 HT2 HT2' HT3 HT3' HE2 HE3 HE3' HF3
  obtain ⟨t0, t1, t2, t3, t4, t5⟩ := box_cells HT5.out
  obtain ⟨e0, e1, e2, e3, e4, e5⟩ := box_cells HE5.out
  go_wp2_with fail
  refine (HA.out _).mono ?_
  rintro e w5 ⟨rfl, b5⟩
  have HT6 := hide (box_kept HT5.out b5)
  have HE6 := hide (box_kept HE5.out b5)
  have B5 := hide b5
  clear b5 t0 t1 t2 t3 t4 t5 e0 e1 e2 e3 e4 e5 HT5 HE5
  obtain ⟨t0, t1, t2, t3, t4, t5⟩ := box_cells HT6.out
  obtain ⟨e0, e1, e2, e3, e4, e5⟩ := box_cells HE6.out
  go_wp2_with fail
  refine (HR.out _).mono ?_
  rintro e w6 ⟨rfl, b6⟩
  have HT7 := hide (box_kept HT6.out b6)
  have HE7 := hide (box_kept HE6.out b6)
  have B6 := hide b6
  clear b6 t0 t1 t2 t3 t4 t5 e0 e1 e2 e3 e4 e5 HT6 HE6
  obtain ⟨t0, t1, t2, t3, t4, t5⟩ := box_cells HT7.out
  obtain ⟨e0, e1, e2, e3, e4, e5⟩ := box_cells HE7.out
  go_wp2
  clear t0 t1 t2 t3 t4 t5 e0 e1 e2 e3 e4 e5
  go_ret
  refine ⟨rfl, ?_⟩
  have c0 := (Below.refl _ W).alloc (Nat.le_refl _) (.cells #[.int .i64 y, .int .i64 mo, .int .i64 d, .int .i64 h, .int .i64 mi, .int .i64 s] 23)
  have c1 := c0.trans (B1.out.mono c0.size)
  have c2 := c1.trans (B2.out.mono c1.size)
  have ce := c2.trans (BE.out.mono c2.size)
  have c3 := ce.trans (B3.out.mono ce.size)
  have cf := c3.trans (BF.out.mono c3.size)
  have c4 := cf.trans (B4.out.mono cf.size)
  have c5 := c4.trans (B5.out.mono c4.size)
  exact c5.trans (B6.out.mono c5.size)

set_option maxRecDepth 20000 in
set_option maxHeartbeats 16000000 in
theorem clockBack_tf (y mo d h mi s x1 x2 x3 x4 x5 x6 a b c e : Int) (fine : Bool) (dt tm : Nat) (hdt : dt < 65536) (htm : tm < 65536) (W : World)
    (HA : Hid (∀ w, Calls Try.prog 12 #[] w fun e w' => e = .returned (.bool true) ∧ Below w.heap.size w w'))
    (HP1 : Hid (∀ w, Calls Try.prog 8 #[.agg #[.int .i64 y, .int .i64 mo, .int .i64 d, .int .i64 h, .int .i64 mi, .int .i64 s]] w fun z w' => z = .returned (.tuple #[.int .i64 a, .int .i64 b, .bool true]) ∧ Below w.heap.size w w'))
    (HO1 : Hid (∀ w, Calls Try.prog 10 #[.int .i64 a, .int .i64 b] w fun z w' => z = .returned (.tuple #[.agg #[.int .i64 y, .int .i64 mo, .int .i64 d, .int .i64 h, .int .i64 mi, .int .i64 s], .bool true]) ∧ Below w.heap.size w w'))
    (HO2 : Hid (∀ w, Calls Try.prog 10 #[.int .i64 dt, .int .i64 tm] w fun z w' => z = .returned (.tuple #[.agg #[.int .i64 x1, .int .i64 x2, .int .i64 x3, .int .i64 x4, .int .i64 x5, .int .i64 x6], .bool false]) ∧ Below w.heap.size w w'))
    (HP2 : Hid (∀ w, Calls Try.prog 8 #[.agg #[.int .i64 x1, .int .i64 x2, .int .i64 x3, .int .i64 x4, .int .i64 x5, .int .i64 x6]] w fun z w' => z = .returned (.tuple #[.int .i64 c, .int .i64 e, .bool fine]) ∧ Below w.heap.size w w'))
    (HR : Hid (∀ w, Calls Try.prog 13 #[.agg #[.int .i64 y, .int .i64 mo, .int .i64 d, .int .i64 h, .int .i64 mi, .int .i64 s]] w fun z w' => z = .returned (.bool true) ∧ Below w.heap.size w w')) :
    Calls Try.prog 4 #[.agg #[.int .i64 y, .int .i64 mo, .int .i64 d, .int .i64 h, .int .i64 mi, .int .i64 s], .int .u16 dt, .int .u16 tm] W fun e w' => e = .returned (.bool true) ∧ Below W.heap.size W w' := by
  go_enter Try.func4, Try.ntmps4
  go_wp2_with fail
  refine (HP1.out _).mono ?_
  rintro e w1 ⟨rfl, b1⟩
  have HT1 := hide (box_kept (box_new W _ _) b1)
  have B1 := hide b1
  clear b1
  go_wp2_with fail
  refine (HO1.out _).mono ?_
  rintro e w2 ⟨rfl, b2⟩
  have HT2 := hide (box_kept HT1.out b2)
  have B2 := hide b2
  clear b2
  have BE := hide ((Below.refl _ w2).alloc (Nat.le_refl _) (.cells #[.int .i64 y, .int .i64 mo, .int .i64 d, .int .i64 h, .int .i64 mi, .int .i64 s] 23))
  have HE2 := hide (box_new w2 #[.int .i64 y, .int .i64 mo, .int .i64 d, .int .i64 h, .int .i64 mi, .int .i64 s] 23)
  have HT2' := hide (box_alloc HT2.out (.cells #[.int .i64 y, .int .i64 mo, .int .i64 d, .int .i64 h, .int .i64 mi, .int .i64 s] 23))
  go_wp2_with fail
  generalize hv : w2.alloc (.cells #[.int .i64 y, .int .i64 mo, .int .i64 d, .int .i64 h, .int .i64 mi, .int .i64 s] 23) = v2 at *
  clear hv
  refine (HO2.out _).mono ?_
  rintro e w3 ⟨rfl, b3⟩
  have HT3 := hide (box_kept HT2'.out b3)
  have HE3 := hide (box_kept HE2.out b3)
  have B3 := hide b3
  clear b3
  have BF := hide ((Below.refl _ w3).alloc (Nat.le_refl _) (.cells #[.int .i64 x1, .int .i64 x2, .int .i64 x3, .int .i64 x4, .int .i64 x5, .int .i64 x6] 23))
  have HF3 := hide (box_new w3 #[.int .i64 x1, .int .i64 x2, .int .i64 x3, .int .i64 x4, .int .i64 x5, .int .i64 x6] 23)
  have HT3' := hide (box_alloc HT3.out (.cells #[.int .i64 x1, .int .i64 x2, .int .i64 x3, .int .i64 x4, .int .i64 x5, .int .i64 x6] 23))
  have HE3' := hide (box_alloc HE3.out (.cells #[.int .i64 x1, .int .i64 x2, .int .i64 x3, .int .i64 x4, .int .i64 x5, .int .i64 x6] 23))
  go_wp2_with fail
  generalize hv : w3.alloc (.cells #[.int .i64 x1, .int .i64 x2, .int .i64 x3, .int .i64 x4, .int .i64 x5, .int .i64 x6] 23) = v3 at *
  clear hv
  refine (HP2.out _).mono ?_
  rintro e w4 ⟨rfl, b4⟩
  have HT5 := hide (box_kept HT3'.out b4)
  have HE5 := hide (box_kept HE3'.out b4)
  have HF5 := hide (box_kept HF3.out b4)
  have B4 := hide b4
  clear b4 HT1 HT2 HT2' HT3 HT3' HE2 HE3 HE3' HF3
  obtain ⟨t0, t1, t2, t3, t4, t5⟩ := box_cells HT5.out
  obtain ⟨e0, e1, e2, e3, e4, e5⟩ := box_cells HE5.out
  go_wp2_with fail
  refine (HA.out _).mono ?_
  rintro e w5 ⟨rfl, b5⟩
  have HT6 := hide (box_kept HT5.out b5)
  have HE6 := hide (box_kept HE5.out b5)
  have B5 := hide b5
  clear b5 t0 t1 t2 t3 t4 t5 e0 e1 e2 e3 e4 e5 HT5 HE5
  obtain ⟨t0, t1, t2, t3, t4, t5⟩ := box_cells HT6.out
  obtain ⟨e0, e1, e2, e3, e4, e5⟩ := box_cells HE6.out
  go_wp2_with fail
  refine (HR.out _).mono ?_
  rintro e w6 ⟨rfl, b6⟩
  have HT7 := hide (box_kept HT6.out b6)
  have HE7 := hide (box_kept HE6.out b6)
  have B6 := hide b6
  clear b6 t0 t1 t2 t3 t4 t5 e0 e1 e2 e3 e4 e5 HT6 HE6
  obtain ⟨t0, t1, t2, t3, t4, t5⟩ := box_cells HT7.out
  obtain ⟨e0, e1, e2, e3, e4, e5⟩ := box_cells HE7.out
  go_wp2
  clear t0 t1 t2 t3 t4 t5 e0 e1 e2 e3 e4 e5
  go_ret
  refine ⟨rfl, ?_⟩
  have c0 := (Below.refl _ W).alloc (Nat.le_refl _) (.cells #[.int .i64 y, .int .i64 mo, .int .i64 d, .int .i64 h, .int .i64 mi, .int .i64 s] 23)
  have c1 := c0.trans (B1.out.mono c0.size)
  have c2 := c1.trans (B2.out.mono c1.size)
  have ce := c2.trans (BE.out.mono c2.size)
  have c3 := ce.trans (B3.out.mono ce.size)
  have cf := c3.trans (BF.out.mono c3.size)
  have c4 := cf.trans (B4.out.mono cf.size)
  have c5 := c4.trans (B5.out.mono c4.size)
  exact c5.trans (B6.out.mono c5.size)

set_option maxRecDepth 20000 in
set_option maxHeartbeats 16000000 in
theorem clockBack_ft (y mo d h mi s u1 u2 u3 u4 u5 u6 x1 x2 x3 x4 x5 x6 a b : Int) (is : Bool) (dt tm : Nat) (hdt : dt < 65536) (htm : tm < 65536) (W : World)
    (HA : Hid (∀ w, Calls Try.prog 12 #[] w fun e w' => e = .returned (.bool true) ∧ Below w.heap.size w w'))
    (HP1 : Hid (∀ w, Calls Try.prog 8 #[.agg #[.int .i64 y, .int .i64 mo, .int .i64 d, .int .i64 h, .int .i64 mi, .int .i64 s]] w fun z w' => z = .returned (.tuple #[.int .i64 a, .int .i64 b, .bool false]) ∧ Below w.heap.size w w'))
    (HO1 : Hid (∀ w, Calls Try.prog 10 #[.int .i64 a, .int .i64 b] w fun z w' => z = .returned (.tuple #[.agg #[.int .i64 u1, .int .i64 u2, .int .i64 u3, .int .i64 u4, .int .i64 u5, .int .i64 u6], .bool is]) ∧ Below w.heap.size w w'))
    (HO2 : Hid (∀ w, Calls Try.prog 10 #[.int .i64 dt, .int .i64 tm] w fun z w' => z = .returned (.tuple #[.agg #[.int .i64 x1, .int .i64 x2, .int .i64 x3, .int .i64 x4, .int .i64 x5, .int .i64 x6], .bool true]) ∧ Below w.heap.size w w'))
    (HP2 : Hid (∀ w, Calls Try.prog 8 #[.agg #[.int .i64 x1, .int .i64 x2, .int .i64 x3, .int .i64 x4, .int .i64 x5, .int .i64 x6]] w fun z w' => z = .returned (.tuple #[.int .i64 dt, .int .i64 tm, .bool true]) ∧ Below w.heap.size w w'))
    (HR : Hid (∀ w, Calls Try.prog 13 #[.agg #[.int .i64 y, .int .i64 mo, .int .i64 d, .int .i64 h, .int .i64 mi, .int .i64 s]] w fun z w' => z = .returned (.bool false) ∧ Below w.heap.size w w')) :
    Calls Try.prog 4 #[.agg #[.int .i64 y, .int .i64 mo, .int .i64 d, .int .i64 h, .int .i64 mi, .int .i64 s], .int .u16 dt, .int .u16 tm] W fun e w' => e = .returned (.bool true) ∧ Below W.heap.size W w' := by
  go_enter Try.func4, Try.ntmps4
  go_wp2_with fail
  refine (HP1.out _).mono ?_
  rintro e w1 ⟨rfl, b1⟩
  have HT1 := hide (box_kept (box_new W _ _) b1)
  have B1 := hide b1
  clear b1
  go_wp2_with fail
  refine (HO1.out _).mono ?_
  rintro e w2 ⟨rfl, b2⟩
  have HT2 := hide (box_kept HT1.out b2)
  have B2 := hide b2
  clear b2
  have BE := hide ((Below.refl _ w2).alloc (Nat.le_refl _) (.cells #[.int .i64 u1, .int .i64 u2, .int .i64 u3, .int .i64 u4, .int .i64 u5, .int .i64 u6] 23))
  have HE2 := hide (box_new w2 #[.int .i64 u1, .int .i64 u2, .int .i64 u3, .int .i64 u4, .int .i64 u5, .int .i64 u6] 23)
  have HT2' := hide (box_alloc HT2.out (.cells #[.int .i64 u1, .int .i64 u2, .int .i64 u3, .int .i64 u4, .int .i64 u5, .int .i64 u6] 23))
  go_wp2_with fail
  generalize hv : w2.alloc (.cells #[.int .i64 u1, .int .i64 u2, .int .i64 u3, .int .i64 u4, .int .i64 u5, .int .i64 u6] 23) = v2 at *
  clear hv
  refine (HO2.out _).mono ?_
  rintro e w3 ⟨rfl, b3⟩
  have HT3 := hide (box_kept HT2'.out b3)
  have HE3 := hide (box_kept HE2.out b3)
  have B3 := hide b3
  clear b3
  have BF := hide ((Below.refl _ w3).alloc (Nat.le_refl _) (.cells #[.int .i64 x1, .int .i64 x2, .int .i64 x3, .int .i64 x4, .int .i64 x5, .int .i64 x6] 23))
  have HF3 := hide (box_new w3 #[.int .i64 x1, .int .i64 x2, .int .i64 x3, .int .i64 x4, .int .i64 x5, .int .i64 x6] 23)
  have HT3' := hide (box_alloc HT3.out (.cells #[.int .i64 x1, .int .i64 x2, .int .i64 x3, .int .i64 x4, .int .i64 x5, .int .i64 x6] 23))
  have HE3' := hide (box_alloc HE3.out (.cells #[.int .i64 x1, .int .i64 x2, .int .i64 x3, .int .i64 x4, .int .i64 x5, .int .i64 x6] 23))
  go_wp2_with fail
  generalize hv : w3.alloc (.cells #[.int .i64 x1, .int .i64 x2, .int .i64 x3, .int .i64 x4, .int .i64 x5, .int .i64 x6] 23) = v3 at *
  clear hv
  refine (HP2.out _).mono ?_
  rintro e w4 ⟨rfl, b4⟩
  have HT5 := hide (box_kept HT3'.out b4)
  have HE5 := hide (box_kept HE3'.out b4)
  have HF5 := hide (box_kept HF3.out b4)
  have B4 := hide b4
  clear b4 HT1 HT2 HT2' HT3 HT3' HE2 HE3 HE3' HF3
  obtain ⟨t0, t1, t2, t3, t4, t5⟩ := box_cells HT5.out
  obtain ⟨e0, e1, e2, e3, e4, e5⟩ := box_cells HE5.out
  go_wp2_with fail
  refine (HA.out _).mono ?_
  rintro e w5 ⟨rfl, b5⟩
  have HT6 := hide (box_kept HT5.out b5)
  have HE6 := hide (box_kept HE5.out b5)
  have B5 := hide b5
  clear b5 t0 t1 t2 t3 t4 t5 e0 e1 e2 e3 e4 e5 HT5 HE5
  obtain ⟨t0, t1, t2, t3, t4, t5⟩ := box_cells HT6.out
  obtain ⟨e0, e1, e2, e3, e4, e5⟩ := box_cells HE6.out
  go_wp2_with fail
  refine (HR.out _).mono ?_
  rintro e w6 ⟨rfl, b6⟩
  have HT7 := hide (box_kept HT6.out b6)
  have HE7 := hide (box_kept HE6.out b6)
  have B6 := hide b6
  clear b6 t0 t1 t2 t3 t4 t5 e0 e1 e2 e3 e4 e5 HT6 HE6
  obtain ⟨t0, t1, t2, t3, t4, t5⟩ := box_cells HT7.out
  obtain ⟨e0, e1, e2, e3, e4, e5⟩ := box_cells HE7.out
  go_wp2
  clear t0 t1 t2 t3 t4 t5 e0 e1 e2 e3 e4 e5
  go_ret
  refine ⟨rfl, ?_⟩
  have c0 := (Below.refl _ W).alloc (Nat.le_refl _) (.cells #[.int .i64 y, .int .i64 mo, .int .i64 d, .int .i64 h, .int .i64 mi, .int .i64 s] 23)
  have c1 := c0.trans (B1.out.mono c0.size)
  have c2 := c1.trans (B2.out.mono c1.size)
  have ce := c2.trans (BE.out.mono c2.size)
  have c3 := ce.trans (B3.out.mono ce.size)
  have cf := c3.trans (BF.out.mono c3.size)
  have c4 := cf.trans (B4.out.mono cf.size)
  have c5 := c4.trans (B5.out.mono c4.size)
  exact c5.trans (B6.out.mono c5.size)

set_option maxRecDepth 20000 in
set_option maxHeartbeats 16000000 in
theorem clockBack_ff (y mo d h mi s u1 u2 u3 u4 u5 u6 x1 x2 x3 x4 x5 x6 a b c e : Int) (is fine : Bool) (dt tm : Nat) (hdt : dt < 65536) (htm : tm < 65536) (W : World)
    (HA : Hid (∀ w, Calls Try.prog 12 #[] w fun e w' => e = .returned (.bool true) ∧ Below w.heap.size w w'))
    (HP1 : Hid (∀ w, Calls Try.prog 8 #[.agg #[.int .i64 y, .int .i64 mo, .int .i64 d, .int .i64 h, .int .i64 mi, .int .i64 s]] w fun z w' => z = .returned (.tuple #[.int .i64 a, .int .i64 b, .bool false]) ∧ Below w.heap.size w w'))
    (HO1 : Hid (∀ w, Calls Try.prog 10 #[.int .i64 a, .int .i64 b] w fun z w' => z = .returned (.tuple #[.agg #[.int .i64 u1, .int .i64 u2, .int .i64 u3, .int .i64 u4, .int .i64 u5, .int .i64 u6], .bool is]) ∧ Below w.heap.size w w'))
    (HO2 : Hid (∀ w, Calls Try.prog 10 #[.int .i64 dt, .int .i64 tm] w fun z w' => z = .returned (.tuple #[.agg #[.int .i64 x1, .int .i64 x2, .int .i64 x3, .int .i64 x4, .int .i64 x5, .int .i64 x6], .bool false]) ∧ Below w.heap.size w w'))
    (HP2 : Hid (∀ w, Calls Try.prog 8 #[.agg #[.int .i64 x1, .int .i64 x2, .int .i64 x3, .int .i64 x4, .int .i64 x5, .int .i64 x6]] w fun z w' => z = .returned (.tuple #[.int .i64 c, .int .i64 e, .bool fine]) ∧ Below w.heap.size w w'))
    (HR : Hid (∀ w, Calls Try.prog 13 #[.agg #[.int .i64 y, .int .i64 mo, .int .i64 d, .int .i64 h, .int .i64 mi, .int .i64 s]] w fun z w' => z = .returned (.bool false) ∧ Below w.heap.size w w')) :
    Calls Try.prog 4 #[.agg #[.int .i64 y, .int .i64 mo, .int .i64 d, .int .i64 h, .int .i64 mi, .int .i64 s], .int .u16 dt, .int .u16 tm] W fun e w' => e = .returned (.bool true) ∧ Below W.heap.size W w' := by
  go_enter Try.func4, Try.ntmps4
  go_wp2_with fail
  refine (HP1.out _).mono ?_
  rintro e w1 ⟨rfl, b1⟩
  have HT1 := hide (box_kept (box_new W _ _) b1)
  have B1 := hide b1
  clear b1
  go_wp2_with fail
  refine (HO1.out _).mono ?_
  rintro e w2 ⟨rfl, b2⟩
  have HT2 := hide (box_kept HT1.out b2)
  have B2 := hide b2
  clear b2
  have BE := hide ((Below.refl _ w2).alloc (Nat.le_refl _) (.cells #[.int .i64 u1, .int .i64 u2, .int .i64 u3, .int .i64 u4, .int .i64 u5, .int .i64 u6] 23))
  have HE2 := hide (box_new w2 #[.int .i64 u1, .int .i64 u2, .int .i64 u3, .int .i64 u4, .int .i64 u5, .int .i64 u6] 23)
  have HT2' := hide (box_alloc HT2.out (.cells #[.int .i64 u1, .int .i64 u2, .int .i64 u3, .int .i64 u4, .int .i64 u5, .int .i64 u6] 23))
  go_wp2_with fail
  generalize hv : w2.alloc (.cells #[.int .i64 u1, .int .i64 u2, .int .i64 u3, .int .i64 u4, .int .i64 u5, .int .i64 u6] 23) = v2 at *
  clear hv
  refine (HO2.out _).mono ?_
  rintro e w3 ⟨rfl, b3⟩
  have HT3 := hide (box_kept HT2'.out b3)
  have HE3 := hide (box_kept HE2.out b3)
  have B3 := hide b3
  clear b3
  have BF := hide ((Below.refl _ w3).alloc (Nat.le_refl _) (.cells #[.int .i64 x1, .int .i64 x2, .int .i64 x3, .int .i64 x4, .int .i64 x5, .int .i64 x6] 23))
  have HF3 := hide (box_new w3 #[.int .i64 x1, .int .i64 x2, .int .i64 x3, .int .i64 x4, .int .i64 x5, .int .i64 x6] 23)
  have HT3' := hide (box_alloc HT3.out (.cells #[.int .i64 x1, .int .i64 x2, .int .i64 x3, .int .i64 x4, .int .i64 x5, .int .i64 x6] 23))
  have HE3' := hide (box_alloc HE3.out (.cells #[.int .i64 x1, .int .i64 x2, .int .i64 x3, .int .i64 x4, .int .i64 x5, .int .i64 x6] 23))
  go_wp2_with fail
  generalize hv : w3.alloc (.cells #[.int .i64 x1, .int .i64 x2, .int .i64 x3, .int .i64 x4, .int .i64 x5, .int .i64 x6] 23) = v3 at *
  clear hv
  refine (HP2.out _).mono ?_
  rintro e w4 ⟨rfl, b4⟩
  have HT5 := hide (box_kept HT3'.out b4)
  have HE5 := hide (box_kept HE3'.out b4)
  have HF5 := hide (box_kept HF3.out b4)
  have B4 := hide b4
  clear b4 HT1 HT2 HT2' HT3 HT3' HE2 HE3 HE3' HF3
  obtain ⟨t0, t1, t2, t3, t4, t5⟩ := box_cells HT5.out
  obtain ⟨e0, e1, e2, e3, e4, e5⟩ := box_cells HE5.out
  go_wp2_with fail
  refine (HA.out _).mono ?_
  rintro e w5 ⟨rfl, b5⟩
  have HT6 := hide (box_kept HT5.out b5)
  have HE6 := hide (box_kept HE5.out b5)
  have B5 := hide b5
  clear b5 t0 t1 t2 t3 t4 t5 e0 e1 e2 e3 e4 e5 HT5 HE5
  obtain ⟨t0, t1, t2, t3, t4, t5⟩ := box_cells HT6.out
  obtain ⟨e0, e1, e2, e3, e4, e5⟩ := box_cells HE6.out
  go_wp2_with fail
  refine (HR.out _).mono ?_
  rintro e w6 ⟨rfl, b6⟩
  have HT7 := hide (box_kept HT6.out b6)
  have HE7 := hide (box_kept HE6.out b6)
  have B6 := hide b6
  clear b6 t0 t1 t2 t3 t4 t5 e0 e1 e2 e3 e4 e5 HT6 HE6
  obtain ⟨t0, t1, t2, t3, t4, t5⟩ := box_cells HT7.out
  obtain ⟨e0, e1, e2, e3, e4, e5⟩ := box_cells HE7.out
  go_wp2
  clear t0 t1 t2 t3 t4 t5 e0 e1 e2 e3 e4 e5
  go_ret
  refine ⟨rfl, ?_⟩
  have c0 := (Below.refl _ W).alloc (Nat.le_refl _) (.cells #[.int .i64 y, .int .i64 mo, .int .i64 d, .int .i64 h, .int .i64 mi, .int .i64 s] 23)
  have c1 := c0.trans (B1.out.mono c0.size)
  have c2 := c1.trans (B2.out.mono c1.size)
  have ce := c2.trans (BE.out.mono c2.size)
  have c3 := ce.trans (B3.out.mono ce.size)
  have cf := c3.trans (BF.out.mono c3.size)
  have c4 := cf.trans (B4.out.mono cf.size)
  have c5 := c4.trans (B5.out.mono c4.size)
  exact c5.trans (B6.out.mono c5.size)

end Go.Proofs.Ytiiopconhkligaa
