/- BlockLeast, the walk: the kind that is chosen has no more bits than any other one. -/
import Derived.Test.YtejckmmlbncgnaaBAwake
import Derived.Test.YtejckmmlbncgnaaBOpen
import Derived.Test.YtejckmmlbncgnaaBLeastM
namespace Go.Proofs.Ytejckmmlbncgnaa
open Go.RowKit Go.Lib

set_option maxRecDepth 20000 in
set_option maxHeartbeats 8000000 in
theorem least_small (C : BSpec) (s : ByteArray) (lv kk : Nat) (W : World) (hlv : lv < 256) (hkk : kk < 256) :
    Calls Try.prog 6 #[.string s, .int .u8 (lv : Int), .int .u8 (kk : Int)] W fun e w' => e = .returned (.bool true) ∧ Below W.heap.size W w' := by
  have HC := hide C
  obtain ⟨m, hm⟩ : ∃ m, s.size = m := ⟨_, rfl⟩
  have HM := hide hm
  have zm : ((s.size : Nat) : Int) = (m : Int) := by omega
  have zl : (lv : Int) ≤ 255 := by omega
  have zk : (kk : Int) ≤ 255 := by omega
  obtain ⟨lq, hlq⟩ : ∃ lq, lv % 10 = lq := ⟨_, rfl⟩
  have zq : (lv : Int) % 10 = (lq : Int) := by omega
  have hlq10 : lq < 10 := by omega
  clear C hm hlq
  by_cases h3 : 300 < m
  · have z3 : (300 : Int) < (m : Int) := by omega
    go_enter Try.func6, Try.ntmps6
    go_wp2_with fail
    refine (awake9_any HC.out _).mono ?_
    rintro e w9 ⟨rfl, b9⟩
    have B9 := hide b9
    clear b9
    go_wp2
    go_ret
    exact ⟨rfl, B9.out⟩
  · have z3 : ¬ (300 : Int) < (m : Int) := by omega
    have HTK := hide (qtokens_any s (lq : Int) W (by rw [HM.out]; omega))
    go_enter Try.func6, Try.ntmps6
    go_wp2_with fail
    refine HTK.out.mono ?_
    rintro e w1 ⟨a, cap, ts, rfl, htk, harg, hnil, b1⟩
    have HR := hide (toks_right s _ ts 0 htk)
    have hlen := Toks.length 0 ts htk
    rw [HM.out] at hlen
    have HL2 := hide (show (ts.map castT).length ≤ 2000 by rw [List.length_map]; omega)
    have HLE := hide (show (ts.map castT).length = ts.length by rw [List.length_map])
    have HA := hide harg
    have B1 := hide b1
    have HNIL := hide hnil
    have HSZ := hide (fun w kind (h : ArgT w a (ts.map castT)) (g1 : 0 ≤ kind) (g2 : kind ≤ 2) => HC.out.size (ts.map castT) a cap (m : Int) kind (kk : Int) w h HNIL.out HR.out HL2.out (by omega) (by omega) g1 g2)
    have HCZ := hide (fun w (h : ArgT w a (ts.map castT)) => HC.out.choose (ts.map castT) a cap (m : Int) (kk : Int) w h HNIL.out HR.out HL2.out (by omega) (by omega))
    simp only [HLE.out] at HSZ HCZ
    clear htk harg hnil b1 HTK
    generalize ts.length = n at *
    go_wp2_with fail
    refine (HCZ.out _ HA.out).mono ?_
    rintro e w2 ⟨c, rfl, hc, b2⟩
    have HCH := hide hc
    obtain ⟨hc1, hc2⟩ := choose_range hc
    have B2 := hide (B1.out.trans (b2.mono B1.out.size))
    have HA2 := hide (HA.out.below b2 (Nat.le_refl _))
    clear hc b2
    go_wp2_with fail
    refine (HSZ.out _ c HA2.out hc1 hc2).mono ?_
    rintro e w3 ⟨z, rfl, hz, b3⟩
    obtain ⟨g1, g2, g3⟩ := choose_least (by omega) (by omega) HCH.out hz
    have HG3 := hide g3
    have B3 := hide (B2.out.trans (b3.mono B2.out.size))
    have HA3 := hide (HA2.out.below b3 (Nat.le_refl _))
    clear hz b3 g3
    go_wp2
    go_loopw [10] (fun c wr => ∃ j : Nat, j ≤ 3 ∧ c = .int .i64 (j : Nat) ∧ Hid (Below w3.heap.size w3 wr)) (fun c _ => 3 - (intOf c).toNat)
    case atStart => exact ⟨0, by omega, rfl, hide (Below.refl _ _)⟩
    case round =>
      obtain ⟨j, hj, rfl, HBJ⟩ := hrel
      by_cases hlt : j < 3
      · have zj : (j : Int) < 3 := by omega
        have HA5 := hide (HA3.out.below HBJ.out (Nat.le_refl _))
        go_wp2_with fail
        refine (HSZ.out _ (j : Int) HA5.out (by omega) (by omega)).mono ?_
        rintro e w5 ⟨z2, rfl, hz, b5⟩
        have hle := HG3.out (j : Int) z2 (by omega) (by omega) hz
        have hzr := hz.range
        have B5 := hide (HBJ.out.trans (b5.mono HBJ.out.size))
        have hz0 : 0 ≤ z2 := by omega
        have hz1 : ¬ z2 < z := by omega
        clear hz b5
        go_wp2
        go_roundw
        case rel => exact ⟨j + 1, hlt, by go_num, B5⟩
        case measure => exact meas_oneW j 3 hlt
      · have hj3 : j = 3 := by omega
        subst hj3
        have BW := hide (B3.out.trans (HBJ.out.mono B3.out.size))
        go_wp2_with fail
        refine (awake9_any HC.out _).mono ?_
        rintro e w7 ⟨rfl, b7⟩
        have BF := hide (BW.out.trans (b7.mono BW.out.size))
        clear b7
        go_wp2
        go_ret
        exact ⟨rfl, BF.out⟩

set_option maxRecDepth 20000 in
theorem least_law (C : BSpec) (w : World) (s : ByteArray) (_ws : s.size ≤ maxLen) (x : Int) (wx : (Lit.int .u8 x).wf = true) (y : Int) (wy : (Lit.int .u8 y).wf = true) :
    Calls Try.prog 6 #[.string s, .int .u8 x, .int .u8 y] w fun e w' => e = .returned (.bool true) ∧ Below w.heap.size w w' := by
  have hx := bounds_u8 wx
  have hy := bounds_u8 wy
  obtain ⟨m, rfl⟩ := Int.eq_ofNat_of_zero_le hx.1
  obtain ⟨q, rfl⟩ := Int.eq_ofNat_of_zero_le hy.1
  exact least_small C s m q w (by omega) (by omega)

end Go.Proofs.Ytejckmmlbncgnaa
