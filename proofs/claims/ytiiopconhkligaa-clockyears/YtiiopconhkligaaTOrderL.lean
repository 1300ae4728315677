/- ClockOrder, the walk. -/
import Derived.Test.YtiiopconhkligaaTSpec
namespace Go.Proofs.Ytiiopconhkligaa
open Go.RowKit

def lexI : List (Int × Int) → Int
  | [] => 0
  | (p, q) :: l => if p < q then -1 else if q < p then 1 else lexI l
def wantI (a0 a1 b0 b1 : Nat) : Int := if (b0 < a0 ∨ a0 = b0 ∧ b1 < a1) then 1 else if (a0 < b0 ∨ a0 = b0 ∧ a1 < b1) then -1 else 0
def pairsT (t u : Tm) : List (Int × Int) := [(t.y, u.y), (t.mo, u.mo), (t.d, u.d), (t.h, u.h), (t.mi, u.mi), (t.s, u.s)]
theorem lex_want (a0 a1 b0 b1 : Nat) : lexI (pairsT (openT a0 a1) (openT b0 b1)) = wantI a0 a1 b0 b1 := by
  rw [openT_nat, openT_nat]
  unfold pairsT wantI
  simp only [lexI]
  repeat' split
  all_goals omega

theorem meas_one13o (j : Nat) (n : Nat) (h : j < n) : n - (intOf (.int .i64 ((j : Int) + 1))).toNat < n - (intOf (.int .i64 (j : Int))).toNat := by
  show n - ((j : Int) + 1).toNat < n - ((j : Int)).toNat
  omega

theorem below_drewN13 {B : Nat} {a w : World} (h : Below B a w) (n : Nat) : Below B a (w.drewN n) := ⟨h.os, h.tape, h.output, h.size, h.block⟩

set_option maxRecDepth 20000 in
set_option maxHeartbeats 16000000 in
theorem clockOrder_no (x1 x2 x3 x4 x5 x6 y1 y2 y3 y4 y5 y6 : Int) (a0 a1 b0 b1 : Nat) (ha0 : a0 < 65536) (ha1 : a1 < 65536) (hb0 : b0 < 65536) (hb1 : b1 < 65536) (W : World) (q : Bool)
    (HA : Hid (∀ w, Calls Try.prog 12 #[] w fun e w' => e = .returned (.bool true) ∧ Below w.heap.size w w'))
    (HO1 : Hid (∀ w, Calls Try.prog 10 #[.int .i64 a0, .int .i64 a1] w fun z w' => z = .returned (.tuple #[.agg #[.int .i64 x1, .int .i64 x2, .int .i64 x3, .int .i64 x4, .int .i64 x5, .int .i64 x6], .bool false]) ∧ Below w.heap.size w w'))
    (HO2 : Hid (∀ w, Calls Try.prog 10 #[.int .i64 b0, .int .i64 b1] w fun z w' => z = .returned (.tuple #[.agg #[.int .i64 y1, .int .i64 y2, .int .i64 y3, .int .i64 y4, .int .i64 y5, .int .i64 y6], .bool q]) ∧ Below w.heap.size w w')) :
    Calls Try.prog 5 #[.agg #[.int .u16 a0, .int .u16 a1], .agg #[.int .u16 b0, .int .u16 b1]] W fun e w' => e = .returned (.bool true) ∧ Below W.heap.size W w' := by
  have hsz : (W.alloc (.cells #[.int .u16 a0, .int .u16 a1] 34)).heap.size = W.heap.size + 1 := by
    show (W.heap.push _).size = _
    simp
  have HBX := hide (hsz ▸ box_new (W.alloc (.cells #[.int .u16 a0, .int .u16 a1] 34)) #[.int .u16 b0, .int .u16 b1] 34)
  have HAX := hide (box_alloc (box_new W #[.int .u16 a0, .int .u16 a1] 34) (.cells #[.int .u16 b0, .int .u16 b1] 34))
  have HW := hide (((Below.refl W.heap.size W).alloc (Nat.le_refl _) (.cells #[.int .u16 a0, .int .u16 a1] 34)).alloc (by rw [hsz]; exact Nat.le_succ _) (.cells #[.int .u16 b0, .int .u16 b1] 34))
  clear hsz
  go_enter Try.func5, Try.ntmps5
  go_wp2_with fail
  refine (HO1.out _).mono ?_
  rintro e w1 ⟨rfl, b1'⟩
  have HB1 := hide (box_kept HBX.out b1')
  have HA1 := hide (box_kept HAX.out b1')
  have B1 := hide b1'
  clear b1'
  have g0 : w1.cell? ⟨W.heap.size + 1, 0, none⟩ = some (.int .u16 b0) := by rw [cell_of_row _ _ 0 _ _ (0, 0) HB1.out]; rfl
  have g1 : w1.cell? ⟨W.heap.size + 1, 1, none⟩ = some (.int .u16 b1) := by rw [cell_of_row _ _ 1 _ _ (0, 0) HB1.out]; rfl
  have gl := box_lt HB1.out
  have BE := hide ((Below.refl _ w1).alloc (Nat.le_refl _) (.cells #[.int .i64 x1, .int .i64 x2, .int .i64 x3, .int .i64 x4, .int .i64 x5, .int .i64 x6] 23))
  have HX1 := hide (box_new w1 #[.int .i64 x1, .int .i64 x2, .int .i64 x3, .int .i64 x4, .int .i64 x5, .int .i64 x6] 23)
  have HA1' := hide (box_alloc HA1.out (.cells #[.int .i64 x1, .int .i64 x2, .int .i64 x3, .int .i64 x4, .int .i64 x5, .int .i64 x6] 23))
  have HB1' := hide (box_alloc HB1.out (.cells #[.int .i64 x1, .int .i64 x2, .int .i64 x3, .int .i64 x4, .int .i64 x5, .int .i64 x6] 23))
  go_wp2_with fail
  clear g0 g1 gl
  generalize hv : w1.alloc (.cells #[.int .i64 x1, .int .i64 x2, .int .i64 x3, .int .i64 x4, .int .i64 x5, .int .i64 x6] 23) = v1 at *
  clear hv
  refine (HO2.out _).mono ?_
  rintro e w2 ⟨rfl, b2⟩
  have HA2 := hide (box_kept HA1'.out b2)
  have HB2 := hide (box_kept HB1'.out b2)
  have HX2 := hide (box_kept HX1.out b2)
  have B2 := hide b2
  clear b2
  have BF := hide ((Below.refl _ w2).alloc (Nat.le_refl _) (.cells #[.int .i64 y1, .int .i64 y2, .int .i64 y3, .int .i64 y4, .int .i64 y5, .int .i64 y6] 23))
  have HY3 := hide (box_new w2 #[.int .i64 y1, .int .i64 y2, .int .i64 y3, .int .i64 y4, .int .i64 y5, .int .i64 y6] 23)
  have HA3 := hide (box_alloc HA2.out (.cells #[.int .i64 y1, .int .i64 y2, .int .i64 y3, .int .i64 y4, .int .i64 y5, .int .i64 y6] 23))
  have HB3 := hide (box_alloc HB2.out (.cells #[.int .i64 y1, .int .i64 y2, .int .i64 y3, .int .i64 y4, .int .i64 y5, .int .i64 y6] 23))
  have HX3 := hide (box_alloc HX2.out (.cells #[.int .i64 y1, .int .i64 y2, .int .i64 y3, .int .i64 y4, .int .i64 y5, .int .i64 y6] 23))
  have HC := hide (show Below W.heap.size W (w2.alloc (.cells #[.int .i64 y1, .int .i64 y2, .int .i64 y3, .int .i64 y4, .int .i64 y5, .int .i64 y6] 23)) from by
    have c1 := HW.out.trans (B1.out.mono HW.out.size)
    have ce := c1.trans (BE.out.mono c1.size)
    have c2 := ce.trans (B2.out.mono ce.size)
    exact c2.trans (BF.out.mono c2.size))
  clear HA1 HB1 HX1 HA1' HB1' HA2 HB2 HX2 HBX HAX HW B1 BE B2 BF
  clear HA3 HB3 HX3 HY3
  go_wp2_with fail
  refine (HA.out _).mono ?_
  rintro e w4 ⟨rfl, b4⟩
  have B4 := hide b4
  clear b4
  go_wp2
  go_ret
  exact ⟨rfl, HC.out.trans (B4.out.mono HC.out.size)⟩

set_option maxRecDepth 20000 in
set_option maxHeartbeats 16000000 in
theorem clockOrder_no2 (x1 x2 x3 x4 x5 x6 y1 y2 y3 y4 y5 y6 : Int) (a0 a1 b0 b1 : Nat) (ha0 : a0 < 65536) (ha1 : a1 < 65536) (hb0 : b0 < 65536) (hb1 : b1 < 65536) (W : World)
    (HA : Hid (∀ w, Calls Try.prog 12 #[] w fun e w' => e = .returned (.bool true) ∧ Below w.heap.size w w'))
    (HO1 : Hid (∀ w, Calls Try.prog 10 #[.int .i64 a0, .int .i64 a1] w fun z w' => z = .returned (.tuple #[.agg #[.int .i64 x1, .int .i64 x2, .int .i64 x3, .int .i64 x4, .int .i64 x5, .int .i64 x6], .bool true]) ∧ Below w.heap.size w w'))
    (HO2 : Hid (∀ w, Calls Try.prog 10 #[.int .i64 b0, .int .i64 b1] w fun z w' => z = .returned (.tuple #[.agg #[.int .i64 y1, .int .i64 y2, .int .i64 y3, .int .i64 y4, .int .i64 y5, .int .i64 y6], .bool false]) ∧ Below w.heap.size w w')) :
    Calls Try.prog 5 #[.agg #[.int .u16 a0, .int .u16 a1], .agg #[.int .u16 b0, .int .u16 b1]] W fun e w' => e = .returned (.bool true) ∧ Below W.heap.size W w' := by
  have hsz : (W.alloc (.cells #[.int .u16 a0, .int .u16 a1] 34)).heap.size = W.heap.size + 1 := by
    show (W.heap.push _).size = _
    simp
  have HBX := hide (hsz ▸ box_new (W.alloc (.cells #[.int .u16 a0, .int .u16 a1] 34)) #[.int .u16 b0, .int .u16 b1] 34)
  have HAX := hide (box_alloc (box_new W #[.int .u16 a0, .int .u16 a1] 34) (.cells #[.int .u16 b0, .int .u16 b1] 34))
  have HW := hide (((Below.refl W.heap.size W).alloc (Nat.le_refl _) (.cells #[.int .u16 a0, .int .u16 a1] 34)).alloc (by rw [hsz]; exact Nat.le_succ _) (.cells #[.int .u16 b0, .int .u16 b1] 34))
  clear hsz
  go_enter Try.func5, Try.ntmps5
  go_wp2_with fail
  refine (HO1.out _).mono ?_
  rintro e w1 ⟨rfl, b1'⟩
  have HB1 := hide (box_kept HBX.out b1')
  have HA1 := hide (box_kept HAX.out b1')
  have B1 := hide b1'
  clear b1'
  have g0 : w1.cell? ⟨W.heap.size + 1, 0, none⟩ = some (.int .u16 b0) := by rw [cell_of_row _ _ 0 _ _ (0, 0) HB1.out]; rfl
  have g1 : w1.cell? ⟨W.heap.size + 1, 1, none⟩ = some (.int .u16 b1) := by rw [cell_of_row _ _ 1 _ _ (0, 0) HB1.out]; rfl
  have gl := box_lt HB1.out
  have BE := hide ((Below.refl _ w1).alloc (Nat.le_refl _) (.cells #[.int .i64 x1, .int .i64 x2, .int .i64 x3, .int .i64 x4, .int .i64 x5, .int .i64 x6] 23))
  have HX1 := hide (box_new w1 #[.int .i64 x1, .int .i64 x2, .int .i64 x3, .int .i64 x4, .int .i64 x5, .int .i64 x6] 23)
  have HA1' := hide (box_alloc HA1.out (.cells #[.int .i64 x1, .int .i64 x2, .int .i64 x3, .int .i64 x4, .int .i64 x5, .int .i64 x6] 23))
  have HB1' := hide (box_alloc HB1.out (.cells #[.int .i64 x1, .int .i64 x2, .int .i64 x3, .int .i64 x4, .int .i64 x5, .int .i64 x6] 23))
  go_wp2_with fail
  clear g0 g1 gl
  generalize hv : w1.alloc (.cells #[.int .i64 x1, .int .i64 x2, .int .i64 x3, .int .i64 x4, .int .i64 x5, .int .i64 x6] 23) = v1 at *
  clear hv
  refine (HO2.out _).mono ?_
  rintro e w2 ⟨rfl, b2⟩
  have HA2 := hide (box_kept HA1'.out b2)
  have HB2 := hide (box_kept HB1'.out b2)
  have HX2 := hide (box_kept HX1.out b2)
  have B2 := hide b2
  clear b2
  have BF := hide ((Below.refl _ w2).alloc (Nat.le_refl _) (.cells #[.int .i64 y1, .int .i64 y2, .int .i64 y3, .int .i64 y4, .int .i64 y5, .int .i64 y6] 23))
  have HY3 := hide (box_new w2 #[.int .i64 y1, .int .i64 y2, .int .i64 y3, .int .i64 y4, .int .i64 y5, .int .i64 y6] 23)
  have HA3 := hide (box_alloc HA2.out (.cells #[.int .i64 y1, .int .i64 y2, .int .i64 y3, .int .i64 y4, .int .i64 y5, .int .i64 y6] 23))
  have HB3 := hide (box_alloc HB2.out (.cells #[.int .i64 y1, .int .i64 y2, .int .i64 y3, .int .i64 y4, .int .i64 y5, .int .i64 y6] 23))
  have HX3 := hide (box_alloc HX2.out (.cells #[.int .i64 y1, .int .i64 y2, .int .i64 y3, .int .i64 y4, .int .i64 y5, .int .i64 y6] 23))
  have HC := hide (show Below W.heap.size W (w2.alloc (.cells #[.int .i64 y1, .int .i64 y2, .int .i64 y3, .int .i64 y4, .int .i64 y5, .int .i64 y6] 23)) from by
    have c1 := HW.out.trans (B1.out.mono HW.out.size)
    have ce := c1.trans (BE.out.mono c1.size)
    have c2 := ce.trans (B2.out.mono ce.size)
    exact c2.trans (BF.out.mono c2.size))
  clear HA1 HB1 HX1 HA1' HB1' HA2 HB2 HX2 HBX HAX HW B1 BE B2 BF
  clear HA3 HB3 HX3 HY3
  go_wp2_with fail
  refine (HA.out _).mono ?_
  rintro e w4 ⟨rfl, b4⟩
  have B4 := hide b4
  clear b4
  go_wp2
  go_ret
  exact ⟨rfl, HC.out.trans (B4.out.mono HC.out.size)⟩

set_option maxRecDepth 20000 in
set_option maxHeartbeats 16000000 in
theorem clockOrder_yes (x1 x2 x3 x4 x5 x6 y1 y2 y3 y4 y5 y6 : Int) (a0 a1 b0 b1 : Nat) (ha0 : a0 < 65536) (ha1 : a1 < 65536) (hb0 : b0 < 65536) (hb1 : b1 < 65536) (W : World) (hlex : lexI [(x1, y1), (x2, y2), (x3, y3), (x4, y4), (x5, y5), (x6, y6)] = wantI a0 a1 b0 b1)
    (HA : Hid (∀ w, Calls Try.prog 12 #[] w fun e w' => e = .returned (.bool true) ∧ Below w.heap.size w w'))
    (HO1 : Hid (∀ w, Calls Try.prog 10 #[.int .i64 a0, .int .i64 a1] w fun z w' => z = .returned (.tuple #[.agg #[.int .i64 x1, .int .i64 x2, .int .i64 x3, .int .i64 x4, .int .i64 x5, .int .i64 x6], .bool true]) ∧ Below w.heap.size w w'))
    (HO2 : Hid (∀ w, Calls Try.prog 10 #[.int .i64 b0, .int .i64 b1] w fun z w' => z = .returned (.tuple #[.agg #[.int .i64 y1, .int .i64 y2, .int .i64 y3, .int .i64 y4, .int .i64 y5, .int .i64 y6], .bool true]) ∧ Below w.heap.size w w')) :
    Calls Try.prog 5 #[.agg #[.int .u16 a0, .int .u16 a1], .agg #[.int .u16 b0, .int .u16 b1]] W fun e w' => e = .returned (.bool true) ∧ Below W.heap.size W w' := by
  have hsz : (W.alloc (.cells #[.int .u16 a0, .int .u16 a1] 34)).heap.size = W.heap.size + 1 := by
    show (W.heap.push _).size = _
    simp
  have HBX := hide (hsz ▸ box_new (W.alloc (.cells #[.int .u16 a0, .int .u16 a1] 34)) #[.int .u16 b0, .int .u16 b1] 34)
  have HAX := hide (box_alloc (box_new W #[.int .u16 a0, .int .u16 a1] 34) (.cells #[.int .u16 b0, .int .u16 b1] 34))
  have HW := hide (((Below.refl W.heap.size W).alloc (Nat.le_refl _) (.cells #[.int .u16 a0, .int .u16 a1] 34)).alloc (by rw [hsz]; exact Nat.le_succ _) (.cells #[.int .u16 b0, .int .u16 b1] 34))
  clear hsz
  go_enter Try.func5, Try.ntmps5
  go_wp2_with fail
  refine (HO1.out _).mono ?_
  rintro e w1 ⟨rfl, b1'⟩
  have HB1 := hide (box_kept HBX.out b1')
  have HA1 := hide (box_kept HAX.out b1')
  have B1 := hide b1'
  clear b1'
  have g0 : w1.cell? ⟨W.heap.size + 1, 0, none⟩ = some (.int .u16 b0) := by rw [cell_of_row _ _ 0 _ _ (0, 0) HB1.out]; rfl
  have g1 : w1.cell? ⟨W.heap.size + 1, 1, none⟩ = some (.int .u16 b1) := by rw [cell_of_row _ _ 1 _ _ (0, 0) HB1.out]; rfl
  have gl := box_lt HB1.out
  have BE := hide ((Below.refl _ w1).alloc (Nat.le_refl _) (.cells #[.int .i64 x1, .int .i64 x2, .int .i64 x3, .int .i64 x4, .int .i64 x5, .int .i64 x6] 23))
  have HX1 := hide (box_new w1 #[.int .i64 x1, .int .i64 x2, .int .i64 x3, .int .i64 x4, .int .i64 x5, .int .i64 x6] 23)
  have HA1' := hide (box_alloc HA1.out (.cells #[.int .i64 x1, .int .i64 x2, .int .i64 x3, .int .i64 x4, .int .i64 x5, .int .i64 x6] 23))
  have HB1' := hide (box_alloc HB1.out (.cells #[.int .i64 x1, .int .i64 x2, .int .i64 x3, .int .i64 x4, .int .i64 x5, .int .i64 x6] 23))
  go_wp2_with fail
  clear g0 g1 gl
  generalize hv : w1.alloc (.cells #[.int .i64 x1, .int .i64 x2, .int .i64 x3, .int .i64 x4, .int .i64 x5, .int .i64 x6] 23) = v1 at *
  clear hv
  refine (HO2.out _).mono ?_
  rintro e w2 ⟨rfl, b2⟩
  have HA2 := hide (box_kept HA1'.out b2)
  have HB2 := hide (box_kept HB1'.out b2)
  have HX2 := hide (box_kept HX1.out b2)
  have B2 := hide b2
  clear b2
  have BF := hide ((Below.refl _ w2).alloc (Nat.le_refl _) (.cells #[.int .i64 y1, .int .i64 y2, .int .i64 y3, .int .i64 y4, .int .i64 y5, .int .i64 y6] 23))
  have HY3 := hide (box_new w2 #[.int .i64 y1, .int .i64 y2, .int .i64 y3, .int .i64 y4, .int .i64 y5, .int .i64 y6] 23)
  have HA3 := hide (box_alloc HA2.out (.cells #[.int .i64 y1, .int .i64 y2, .int .i64 y3, .int .i64 y4, .int .i64 y5, .int .i64 y6] 23))
  have HB3 := hide (box_alloc HB2.out (.cells #[.int .i64 y1, .int .i64 y2, .int .i64 y3, .int .i64 y4, .int .i64 y5, .int .i64 y6] 23))
  have HX3 := hide (box_alloc HX2.out (.cells #[.int .i64 y1, .int .i64 y2, .int .i64 y3, .int .i64 y4, .int .i64 y5, .int .i64 y6] 23))
  have HC := hide (show Below W.heap.size W (w2.alloc (.cells #[.int .i64 y1, .int .i64 y2, .int .i64 y3, .int .i64 y4, .int .i64 y5, .int .i64 y6] 23)) from by
    have c1 := HW.out.trans (B1.out.mono HW.out.size)
    have ce := c1.trans (BE.out.mono c1.size)
    have c2 := ce.trans (B2.out.mono ce.size)
    exact c2.trans (BF.out.mono c2.size))
  clear HA1 HB1 HX1 HA1' HB1' HA2 HB2 HX2 HBX HAX HW B1 BE B2 BF
  have hs1 : (w2.alloc (.cells #[.int .i64 y1, .int .i64 y2, .int .i64 y3, .int .i64 y4, .int .i64 y5, .int .i64 y6] 23)).heap.size = w2.heap.size + 1 := by
    show (w2.heap.push _).size = _
    simp
  have hs2 : ((w2.alloc (.cells #[.int .i64 y1, .int .i64 y2, .int .i64 y3, .int .i64 y4, .int .i64 y5, .int .i64 y6] 23)).alloc (.cells #[.int .i64 x1, .int .i64 x2, .int .i64 x3, .int .i64 x4, .int .i64 x5, .int .i64 x6] 35)).heap.size = w2.heap.size + 1 + 1 := by
    show ((w2.alloc (.cells #[.int .i64 y1, .int .i64 y2, .int .i64 y3, .int .i64 y4, .int .i64 y5, .int .i64 y6] 23)).heap.push _).size = _
    rw [Array.size_push, hs1]
  have HM := hide (box_alloc (hs1 ▸ box_new (w2.alloc (.cells #[.int .i64 y1, .int .i64 y2, .int .i64 y3, .int .i64 y4, .int .i64 y5, .int .i64 y6] 23)) #[.int .i64 x1, .int .i64 x2, .int .i64 x3, .int .i64 x4, .int .i64 x5, .int .i64 x6] 35) (.cells #[.int .i64 y1, .int .i64 y2, .int .i64 y3, .int .i64 y4, .int .i64 y5, .int .i64 y6] 35))
  have HN := hide (hs2 ▸ box_new ((w2.alloc (.cells #[.int .i64 y1, .int .i64 y2, .int .i64 y3, .int .i64 y4, .int .i64 y5, .int .i64 y6] 23)).alloc (.cells #[.int .i64 x1, .int .i64 x2, .int .i64 x3, .int .i64 x4, .int .i64 x5, .int .i64 x6] 35)) #[.int .i64 y1, .int .i64 y2, .int .i64 y3, .int .i64 y4, .int .i64 y5, .int .i64 y6] 35)
  have HA5 := hide (box_alloc (box_alloc HA3.out (.cells #[.int .i64 x1, .int .i64 x2, .int .i64 x3, .int .i64 x4, .int .i64 x5, .int .i64 x6] 35)) (.cells #[.int .i64 y1, .int .i64 y2, .int .i64 y3, .int .i64 y4, .int .i64 y5, .int .i64 y6] 35))
  have HB5 := hide (box_alloc (box_alloc HB3.out (.cells #[.int .i64 x1, .int .i64 x2, .int .i64 x3, .int .i64 x4, .int .i64 x5, .int .i64 x6] 35)) (.cells #[.int .i64 y1, .int .i64 y2, .int .i64 y3, .int .i64 y4, .int .i64 y5, .int .i64 y6] 35))
  have HC5 := hide ((HC.out.alloc HC.out.size (.cells #[.int .i64 x1, .int .i64 x2, .int .i64 x3, .int .i64 x4, .int .i64 x5, .int .i64 x6] 35)).alloc (HC.out.alloc HC.out.size (.cells #[.int .i64 x1, .int .i64 x2, .int .i64 x3, .int .i64 x4, .int .i64 x5, .int .i64 x6] 35)).size (.cells #[.int .i64 y1, .int .i64 y2, .int .i64 y3, .int .i64 y4, .int .i64 y5, .int .i64 y6] 35))
  clear hs1 hs2
  obtain ⟨z0, z1, z2, z3, z4, z5⟩ := box_cells HX3.out
  obtain ⟨y0', y1', y2', y3', y4', y5'⟩ := box_cells HY3.out
  go_wp2
  clear z0 z1 z2 z3 z4 z5 y0' y1' y2' y3' y4' y5' HA3 HB3 HX3 HY3 HC
  generalize hv : (((w2.alloc (.cells #[.int .i64 y1, .int .i64 y2, .int .i64 y3, .int .i64 y4, .int .i64 y5, .int .i64 y6] 23)).alloc (.cells #[.int .i64 x1, .int .i64 x2, .int .i64 x3, .int .i64 x4, .int .i64 x5, .int .i64 x6] 35)).alloc (.cells #[.int .i64 y1, .int .i64 y2, .int .i64 y3, .int .i64 y4, .int .i64 y5, .int .i64 y6] 35)) = w5 at *
  clear hv
  have HMN := hide (show ∀ wr, Below w5.heap.size w5 wr → ∀ j : Nat, j < 6 → ∃ P Q, wr.cell? ⟨w2.heap.size + 1, j, none⟩ = some (.int .i64 P) ∧ wr.cell? ⟨w2.heap.size + 1 + 1, j, none⟩ = some (.int .i64 Q) ∧ lexI ([(x1, y1), (x2, y2), (x3, y3), (x4, y4), (x5, y5), (x6, y6)].drop j) = (if P < Q then -1 else if Q < P then 1 else lexI ([(x1, y1), (x2, y2), (x3, y3), (x4, y4), (x5, y5), (x6, y6)].drop (j + 1))) from by
    intro wr hb j hj
    have hm := box_cells (box_kept HM.out hb)
    have hn := box_cells (box_kept HN.out hb)
    obtain rfl | rfl | rfl | rfl | rfl | rfl : j = 0 ∨ j = 1 ∨ j = 2 ∨ j = 3 ∨ j = 4 ∨ j = 5 := by omega
    · exact ⟨x1, y1, hm.1, hn.1, rfl⟩
    · exact ⟨x2, y2, hm.2.1, hn.2.1, rfl⟩
    · exact ⟨x3, y3, hm.2.2.1, hn.2.2.1, rfl⟩
    · exact ⟨x4, y4, hm.2.2.2.1, hn.2.2.2.1, rfl⟩
    · exact ⟨x5, y5, hm.2.2.2.2.1, hn.2.2.2.2.1, rfl⟩
    · exact ⟨x6, y6, hm.2.2.2.2.2, hn.2.2.2.2.2, rfl⟩)
  have HL0 := hide (show lexI ([(x1, y1), (x2, y2), (x3, y3), (x4, y4), (x5, y5), (x6, y6)].drop 0) = wantI a0 a1 b0 b1 from hlex)
  have hE : lexI ([(x1, y1), (x2, y2), (x3, y3), (x4, y4), (x5, y5), (x6, y6)].drop 6) = 0 := rfl
  have HE := hide hE
  generalize [(x1, y1), (x2, y2), (x3, y3), (x4, y4), (x5, y5), (x6, y6)] = L at *
  clear hlex hE HM HN
  go_loopw [11, 12] (fun ov iv wr => ∃ (j : Nat) (o : Int), j ≤ 6 ∧ iv = .int .i64 (j : Nat) ∧ ov = .int .i64 o ∧ Hid ((o = 0 ∧ lexI (L.drop j) = wantI a0 a1 b0 b1) ∨ (o ≠ 0 ∧ o = wantI a0 a1 b0 b1)) ∧ Hid (Below w5.heap.size w5 wr)) (fun _ iv _ => 6 - (intOf iv).toNat)
  case atStart => exact ⟨0, 0, by omega, rfl, rfl, hide (.inl ⟨rfl, HL0.out⟩), hide (Below.refl _ _)⟩
  case round =>
    clear HL0
    obtain ⟨j, o, hj, rfl, rfl, HI, HBJ⟩ := hrel
    by_cases hlt : j < 6
    · have zj : (j : Int) < 6 := by omega
      have dj : decide ((j : Int) < 6) = true := decide_eq_true zj
      by_cases ho : o = 0
      · subst ho
        have HI := hide (HI.out.resolve_right (fun h => h.1 rfl)).2
        obtain ⟨P, Q, gP, gQ, hst⟩ := HMN.out _ HBJ.out j hlt
        have HST := hide (hst.symm.trans HI.out)
        clear hst
        by_cases h1 : P < Q
        · have d1 : decide (P < Q) = true := decide_eq_true h1
          have d2 : decide (Q < P) = false := decide_eq_false (by omega)
          have HG := hide (show (-1 : Int) = wantI a0 a1 b0 b1 by rw [← HST.out, if_pos h1])
          clear HST h1
          go_wp2_with fail
          go_quiet (fail)
          go_wp2_with fail
          go_quiet (fail)
          go_wp2
          go_roundw
          case rel => exact ⟨j + 1, -1, by omega, by go_num, rfl, hide (.inr ⟨by decide, HG.out⟩), by first | exact hide HBJ.out | exact hide (HBJ.out.drew) | exact hide (HBJ.out.drew.drew) | exact hide (below_drewN13 HBJ.out _) | exact hide (below_drewN13 (below_drewN13 HBJ.out _) _)⟩
          case measure => exact meas_one13o j 6 hlt
        · by_cases h2 : Q < P
          · have d1 : decide (P < Q) = false := decide_eq_false h1
            have d2 : decide (Q < P) = true := decide_eq_true h2
            have HG := hide (show (1 : Int) = wantI a0 a1 b0 b1 by rw [← HST.out, if_neg h1, if_pos h2])
            clear HST h1 h2
            go_wp2_with fail
            go_quiet (fail)
            go_wp2_with fail
            go_quiet (fail)
            go_wp2
            go_roundw
            case rel => exact ⟨j + 1, 1, by omega, by go_num, rfl, hide (.inr ⟨by decide, HG.out⟩), by first | exact hide HBJ.out | exact hide (HBJ.out.drew) | exact hide (HBJ.out.drew.drew) | exact hide (below_drewN13 HBJ.out _) | exact hide (below_drewN13 (below_drewN13 HBJ.out _) _)⟩
            case measure => exact meas_one13o j 6 hlt
          · have d1 : decide (P < Q) = false := decide_eq_false h1
            have d2 : decide (Q < P) = false := decide_eq_false h2
            have HG := hide (show lexI (L.drop (j + 1)) = wantI a0 a1 b0 b1 by rw [← HST.out, if_neg h1, if_neg h2])
            clear HST h1 h2
            go_wp2_with fail
            go_quiet (fail)
            go_wp2_with fail
            go_quiet (fail)
            go_wp2
            go_roundw
            case rel => exact ⟨j + 1, 0, by omega, by go_num, rfl, hide (.inl ⟨rfl, HG.out⟩), by first | exact hide HBJ.out | exact hide (HBJ.out.drew) | exact hide (HBJ.out.drew.drew) | exact hide (below_drewN13 HBJ.out _) | exact hide (below_drewN13 (below_drewN13 HBJ.out _) _)⟩
            case measure => exact meas_one13o j 6 hlt
      · have HO := hide (HI.out.resolve_left (fun h => ho h.1)).2
        have d0 : (o == 0) = false := by simp; exact ho
        have gA0 : wr.cell? ⟨W.heap.size, 0, none⟩ = some (.int .u16 a0) := by rw [cell_of_row _ _ 0 _ _ (0, 0) (box_kept HA5.out HBJ.out)]; rfl
        have gA1 : wr.cell? ⟨W.heap.size, 1, none⟩ = some (.int .u16 a1) := by rw [cell_of_row _ _ 1 _ _ (0, 0) (box_kept HA5.out HBJ.out)]; rfl
        have gB0 : wr.cell? ⟨W.heap.size + 1, 0, none⟩ = some (.int .u16 b0) := by rw [cell_of_row _ _ 0 _ _ (0, 0) (box_kept HB5.out HBJ.out)]; rfl
        have gB1 : wr.cell? ⟨W.heap.size + 1, 1, none⟩ = some (.int .u16 b1) := by rw [cell_of_row _ _ 1 _ _ (0, 0) (box_kept HB5.out HBJ.out)]; rfl
        clear HI HMN HE
        by_cases k0 : a0 < b0
        · have how : o = -1 := by rw [HO.out]; unfold wantI; (repeat' split) <;> omega
          subst how
          have _ : decide (((a0 : Nat) : Int) < ((b0 : Nat) : Int)) = true := by simp; omega
          have _ : decide (((b0 : Nat) : Int) < ((a0 : Nat) : Int)) = false := by simp; omega
          have _ : ((((a0 : Nat) : Int)) == ((b0 : Nat) : Int)) = false := by simp; omega
          clear HO
          go_wp2_with fail
          refine (HA.out _).mono ?_
          rintro e w7 ⟨rfl, b7⟩
          have B7 := hide b7
          clear b7
          go_wp2
          go_ret
          exact ⟨rfl, (HC5.out.trans (HBJ.out.mono HC5.out.size)).trans (B7.out.mono (HC5.out.trans (HBJ.out.mono HC5.out.size)).size)⟩
        by_cases k1 : b0 < a0
        · have how : o = 1 := by rw [HO.out]; unfold wantI; (repeat' split) <;> omega
          subst how
          have _ : decide (((a0 : Nat) : Int) < ((b0 : Nat) : Int)) = false := by simp; omega
          have _ : decide (((b0 : Nat) : Int) < ((a0 : Nat) : Int)) = true := by simp; omega
          have _ : ((((a0 : Nat) : Int)) == ((b0 : Nat) : Int)) = false := by simp; omega
          clear HO
          go_wp2_with fail
          refine (HA.out _).mono ?_
          rintro e w7 ⟨rfl, b7⟩
          have B7 := hide b7
          clear b7
          go_wp2
          go_ret
          exact ⟨rfl, (HC5.out.trans (HBJ.out.mono HC5.out.size)).trans (B7.out.mono (HC5.out.trans (HBJ.out.mono HC5.out.size)).size)⟩
        by_cases k2 : a1 < b1
        · have how : o = -1 := by rw [HO.out]; unfold wantI; (repeat' split) <;> omega
          subst how
          have _ : decide (((a0 : Nat) : Int) < ((b0 : Nat) : Int)) = false := by simp; omega
          have _ : decide (((b0 : Nat) : Int) < ((a0 : Nat) : Int)) = false := by simp; omega
          have _ : ((((a0 : Nat) : Int)) == ((b0 : Nat) : Int)) = true := by simp; omega
          have _ : decide (((a1 : Nat) : Int) < ((b1 : Nat) : Int)) = true := by simp; omega
          have _ : decide (((b1 : Nat) : Int) < ((a1 : Nat) : Int)) = false := by simp; omega
          clear HO
          go_wp2_with fail
          refine (HA.out _).mono ?_
          rintro e w7 ⟨rfl, b7⟩
          have B7 := hide b7
          clear b7
          go_wp2
          go_ret
          exact ⟨rfl, (HC5.out.trans (HBJ.out.mono HC5.out.size)).trans (B7.out.mono (HC5.out.trans (HBJ.out.mono HC5.out.size)).size)⟩
        by_cases k3 : b1 < a1
        · have how : o = 1 := by rw [HO.out]; unfold wantI; (repeat' split) <;> omega
          subst how
          have _ : decide (((a0 : Nat) : Int) < ((b0 : Nat) : Int)) = false := by simp; omega
          have _ : decide (((b0 : Nat) : Int) < ((a0 : Nat) : Int)) = false := by simp; omega
          have _ : ((((a0 : Nat) : Int)) == ((b0 : Nat) : Int)) = true := by simp; omega
          have _ : decide (((a1 : Nat) : Int) < ((b1 : Nat) : Int)) = false := by simp; omega
          have _ : decide (((b1 : Nat) : Int) < ((a1 : Nat) : Int)) = true := by simp; omega
          clear HO
          go_wp2_with fail
          refine (HA.out _).mono ?_
          rintro e w7 ⟨rfl, b7⟩
          have B7 := hide b7
          clear b7
          go_wp2
          go_ret
          exact ⟨rfl, (HC5.out.trans (HBJ.out.mono HC5.out.size)).trans (B7.out.mono (HC5.out.trans (HBJ.out.mono HC5.out.size)).size)⟩
        have how : o = 0 := by rw [HO.out]; unfold wantI; (repeat' split) <;> omega
        exact absurd how ho
    · have hj6 : j = 6 := by omega
      subst hj6
      have HO := hide (show o = wantI a0 a1 b0 b1 from by
        rcases HI.out with h | h
        · rw [h.1, ← h.2, HE.out]
        · exact h.2)
      have gA0 : wr.cell? ⟨W.heap.size, 0, none⟩ = some (.int .u16 a0) := by rw [cell_of_row _ _ 0 _ _ (0, 0) (box_kept HA5.out HBJ.out)]; rfl
      have gA1 : wr.cell? ⟨W.heap.size, 1, none⟩ = some (.int .u16 a1) := by rw [cell_of_row _ _ 1 _ _ (0, 0) (box_kept HA5.out HBJ.out)]; rfl
      have gB0 : wr.cell? ⟨W.heap.size + 1, 0, none⟩ = some (.int .u16 b0) := by rw [cell_of_row _ _ 0 _ _ (0, 0) (box_kept HB5.out HBJ.out)]; rfl
      have gB1 : wr.cell? ⟨W.heap.size + 1, 1, none⟩ = some (.int .u16 b1) := by rw [cell_of_row _ _ 1 _ _ (0, 0) (box_kept HB5.out HBJ.out)]; rfl
      clear HI HMN HE
      by_cases k0 : a0 < b0
      · have how : o = -1 := by rw [HO.out]; unfold wantI; (repeat' split) <;> omega
        subst how
        have _ : decide (((a0 : Nat) : Int) < ((b0 : Nat) : Int)) = true := by simp; omega
        have _ : decide (((b0 : Nat) : Int) < ((a0 : Nat) : Int)) = false := by simp; omega
        have _ : ((((a0 : Nat) : Int)) == ((b0 : Nat) : Int)) = false := by simp; omega
        clear HO
        go_wp2_with fail
        refine (HA.out _).mono ?_
        rintro e w7 ⟨rfl, b7⟩
        have B7 := hide b7
        clear b7
        go_wp2
        go_ret
        exact ⟨rfl, (HC5.out.trans (HBJ.out.mono HC5.out.size)).trans (B7.out.mono (HC5.out.trans (HBJ.out.mono HC5.out.size)).size)⟩
      by_cases k1 : b0 < a0
      · have how : o = 1 := by rw [HO.out]; unfold wantI; (repeat' split) <;> omega
        subst how
        have _ : decide (((a0 : Nat) : Int) < ((b0 : Nat) : Int)) = false := by simp; omega
        have _ : decide (((b0 : Nat) : Int) < ((a0 : Nat) : Int)) = true := by simp; omega
        have _ : ((((a0 : Nat) : Int)) == ((b0 : Nat) : Int)) = false := by simp; omega
        clear HO
        go_wp2_with fail
        refine (HA.out _).mono ?_
        rintro e w7 ⟨rfl, b7⟩
        have B7 := hide b7
        clear b7
        go_wp2
        go_ret
        exact ⟨rfl, (HC5.out.trans (HBJ.out.mono HC5.out.size)).trans (B7.out.mono (HC5.out.trans (HBJ.out.mono HC5.out.size)).size)⟩
      by_cases k2 : a1 < b1
      · have how : o = -1 := by rw [HO.out]; unfold wantI; (repeat' split) <;> omega
        subst how
        have _ : decide (((a0 : Nat) : Int) < ((b0 : Nat) : Int)) = false := by simp; omega
        have _ : decide (((b0 : Nat) : Int) < ((a0 : Nat) : Int)) = false := by simp; omega
        have _ : ((((a0 : Nat) : Int)) == ((b0 : Nat) : Int)) = true := by simp; omega
        have _ : decide (((a1 : Nat) : Int) < ((b1 : Nat) : Int)) = true := by simp; omega
        have _ : decide (((b1 : Nat) : Int) < ((a1 : Nat) : Int)) = false := by simp; omega
        clear HO
        go_wp2_with fail
        refine (HA.out _).mono ?_
        rintro e w7 ⟨rfl, b7⟩
        have B7 := hide b7
        clear b7
        go_wp2
        go_ret
        exact ⟨rfl, (HC5.out.trans (HBJ.out.mono HC5.out.size)).trans (B7.out.mono (HC5.out.trans (HBJ.out.mono HC5.out.size)).size)⟩
      by_cases k3 : b1 < a1
      · have how : o = 1 := by rw [HO.out]; unfold wantI; (repeat' split) <;> omega
        subst how
        have _ : decide (((a0 : Nat) : Int) < ((b0 : Nat) : Int)) = false := by simp; omega
        have _ : decide (((b0 : Nat) : Int) < ((a0 : Nat) : Int)) = false := by simp; omega
        have _ : ((((a0 : Nat) : Int)) == ((b0 : Nat) : Int)) = true := by simp; omega
        have _ : decide (((a1 : Nat) : Int) < ((b1 : Nat) : Int)) = false := by simp; omega
        have _ : decide (((b1 : Nat) : Int) < ((a1 : Nat) : Int)) = true := by simp; omega
        clear HO
        go_wp2_with fail
        refine (HA.out _).mono ?_
        rintro e w7 ⟨rfl, b7⟩
        have B7 := hide b7
        clear b7
        go_wp2
        go_ret
        exact ⟨rfl, (HC5.out.trans (HBJ.out.mono HC5.out.size)).trans (B7.out.mono (HC5.out.trans (HBJ.out.mono HC5.out.size)).size)⟩
      have how : o = 0 := by rw [HO.out]; unfold wantI; (repeat' split) <;> omega
      subst how
      have _ : decide (((a0 : Nat) : Int) < ((b0 : Nat) : Int)) = false := by simp; omega
      have _ : decide (((b0 : Nat) : Int) < ((a0 : Nat) : Int)) = false := by simp; omega
      have _ : ((((a0 : Nat) : Int)) == ((b0 : Nat) : Int)) = true := by simp; omega
      have _ : decide (((a1 : Nat) : Int) < ((b1 : Nat) : Int)) = false := by simp; omega
      have _ : decide (((b1 : Nat) : Int) < ((a1 : Nat) : Int)) = false := by simp; omega
      clear HO
      go_wp2_with fail
      refine (HA.out _).mono ?_
      rintro e w7 ⟨rfl, b7⟩
      have B7 := hide b7
      clear b7
      go_wp2
      go_ret
      exact ⟨rfl, (HC5.out.trans (HBJ.out.mono HC5.out.size)).trans (B7.out.mono (HC5.out.trans (HBJ.out.mono HC5.out.size)).size)⟩

theorem clockOrder_walk (S : TSpec) (a0 a1 b0 b1 : Nat) (ha0 : a0 < 65536) (ha1 : a1 < 65536) (hb0 : b0 < 65536) (hb1 : b1 < 65536) (W : World) :
    Calls Try.prog 5 #[.agg #[.int .u16 a0, .int .u16 a1], .agg #[.int .u16 b0, .int .u16 b1]] W fun e w' => e = .returned (.bool true) ∧ Below W.heap.size W w' := by
  have HA := hide (fun w => awake13 S w)
  have HO1 := hide (fun w => S.opens a0 a1 w (by unfold I64; omega) (by unfold I64; omega))
  have HO2 := hide (fun w => S.opens b0 b1 w (by unfold I64; omega) (by unfold I64; omega))
  cases hp : okO a0 a1 with
  | false =>
    simp only [hp, Bool.false_eq_true, if_false] at HO1
    exact clockOrder_no _ _ _ _ _ _ _ _ _ _ _ _ a0 a1 b0 b1 ha0 ha1 hb0 hb1 W _ HA HO1 HO2
  | true =>
    simp only [hp, if_true] at HO1
    cases hq : okO b0 b1 with
    | false =>
      simp only [hq, Bool.false_eq_true, if_false] at HO2
      exact clockOrder_no2 _ _ _ _ _ _ _ _ _ _ _ _ a0 a1 b0 b1 ha0 ha1 hb0 hb1 W HA HO1 HO2
    | true =>
      simp only [hq, if_true] at HO2
      exact clockOrder_yes _ _ _ _ _ _ _ _ _ _ _ _ a0 a1 b0 b1 ha0 ha1 hb0 hb1 W (lex_want a0 a1 b0 b1) HA HO1 HO2

end Go.Proofs.Ytiiopconhkligaa
