/- Contract of the code of layer 9: a header is written. -/
import Derived.Test.YtpgkmbakohfpkaaBCodeE
import Derived.Deep.RegionHeld3
namespace Go.Proofs.Ytpgkmbakohfpkaa
open Go.RowKit Go.Lib

theorem toldC_get (hl : List Nat) (i : Nat) (h : i < ordN hl 19) : (cutL (toldL hl) 4)[i]? = some (hl.getD (orderL.getD i 0) 0) := by
  have h19 := ordN_le hl 19
  have h2 := getD_some (cutL (toldL hl) 4) i (by rw [told_len]; exact h)
  rw [h2, cutL_get, toldL_get hl i (by omega)]
/-- What a header's writing comes to. -/
def HeadWPost (W : World) (n m : Nat) (rs : List (Int × Int)) (hl : List Nat) (p : Nat) (v : Value) (bs : List Bool) (e : Ending) (w' : World) : Prop := e = .returned (.tuple #[]) ∧ ∃ v', Wr w' p v' (bs ++ headBits n m rs hl) ∧ Step p v v' W w'

set_option maxRecDepth 20000 in
set_option maxHeartbeats 8000000 in
theorem headw9 (n m t ct j cf cl : Nat) (rs : List (Int × Int)) (hl : List Nat) (gt gf gl : Option Addr) (p : Nat) (v : Value) (bs : List Bool) (W : World) (hw : Wr W p v bs) (hbs : bs.length ≤ 600000) (kt : KN p v W gt (cutL (toldL hl) 4)) (kf : KR p v W gf rs) (kl : KN p v W gl hl) (ht : ordN hl 19 = t) (hj : rs.length = j) (hro : ∀ r ∈ rs, 0 ≤ r.1 ∧ r.1 ≤ 18) (hj2 : j ≤ 400) (hll : hl.length = 19) (hmk : MakesC hl) (hn : 257 ≤ n) (hn2 : n ≤ 286) (hm : 1 ≤ m) (hm2 : m ≤ 30) :
    Calls Try.prog 34 #[.agg #[.int .i64 (n : Nat), .int .i64 (m : Nat), .slice gt t ct, .slice gf j cf, .slice gl 19 cl], .pointer (some ⟨p, 0, none⟩)] W fun e w' => HeadWPost W n m rs hl p v bs e w' := by
  have HT := hide ht
  have HJ := hide hj
  have HRO := hide hro
  have HLL := hide hll
  have HMK := hide hmk
  have h4 := ordN_four hl 19 (by omega)
  have h19 := ordN_le hl 19
  rw [ht] at h4 h19
  obtain ⟨hp, hv⟩ := hw.old
  have hb := new_box W (.cells #[.int .i64 (n : Nat), .int .i64 (m : Nat), .slice gt t ct, .slice gf j cf, .slice gl 19 cl] 72)
  have B0 := hide ((Below.refl W.heap.size W).alloc (Nat.le_refl _) (.cells #[.int .i64 (n : Nat), .int .i64 (m : Nat), .slice gt t ct, .slice gf j cf, .slice gl 19 cl] 72))
  have FH := hide (free_new (b := W.heap.size) hp hv (Nat.le_refl _) (Array.getElem?_eq_some_iff.1 hb).1)
  have HS0 := hide (Step.ofBelow (p := p) (v := v) B0.out)
  have HW0 := hide (hw.below B0.out)
  have HKT := hide (kt.step HS0.out)
  have HKF := hide (kf.step HS0.out)
  have HKL := hide (kl.step HS0.out)
  obtain ⟨e0, e1, e2, e3, e4⟩ := five_cells hb
  have E0 := hide e0
  have E1 := hide e1
  have E2 := hide e2
  have E3 := hide e3
  have E4 := hide e4
  obtain ⟨xl, ol, rfl, _, _⟩ := kl.arg 0 _ (getD_some hl 0 (by rw [hll]; omega))
  clear hw kt kf kl ht hj hro hll hmk hp hv hb e0 e1 e2 e3 e4 B0
  go_enter Try.func34, Try.ntmps34
  go_wp2_with fail
  generalize (W.alloc (.cells #[.int .i64 (n : Nat), .int .i64 (m : Nat), .slice gt t ct, .slice gf j cf, .slice (some ⟨xl, ol, none⟩) 19 cl] 72)) = w0 at *
  generalize W.heap.size = PH at *
  have H1 := hide (wput_any p v bs ((n : Int) - 257) 5 w0 5 rfl HW0.out (by omega))
  clear HW0
  refine H1.out.mono ?_
  rintro e w1 ⟨rfl, v1, hr1, hs1⟩
  have HS1 := hide hs1
  have _h1 := (FH.out.cell hs1 1).trans E1.out
  have H2 := hide (wput_any p v1 _ ((m : Int) - 1) 5 w1 5 rfl hr1 (by rw [List.length_append, lowBits_length]; omega))
  clear hr1 hs1 H1
  go_wp2_with fail
  refine H2.out.mono ?_
  rintro e w2 ⟨rfl, v2, hr2, hs2⟩
  have HS2 := hide (HS1.out.trans hs2)
  have _h2 := (FH.out.cell HS2.out 2).trans E2.out
  have H3 := hide (wput_any p v2 _ ((t : Int) - 4) 4 w2 4 rfl hr2 (by rw [List.length_append, List.length_append, lowBits_length, lowBits_length]; omega))
  clear hr2 hs2 H2 _h1 HS1
  go_wp2_with fail
  refine H3.out.mono ?_
  rintro e w3 ⟨rfl, v3, hr3, hs3⟩
  have HS3 := hide (HS2.out.trans hs3)
  have _h3 := (FH.out.cell HS3.out 2).trans E2.out
  obtain ⟨cs1, hcs⟩ : ∃ cs1, bs ++ lowBits ((n : Int) - 257) 5 ++ lowBits ((m : Int) - 1) 5 ++ lowBits ((t : Int) - 4) 4 = cs1 := ⟨_, rfl⟩
  have hcl : cs1.length ≤ 600014 := by rw [← hcs, List.length_append, List.length_append, List.length_append, lowBits_length, lowBits_length, lowBits_length]; omega
  have HCS := hide hcs
  rw [hcs] at hr3
  have HR3 := hide hr3
  clear hr3 hs3 H3 _h2 HS2 hcs
  go_wp2
  go_loopw [28] (fun c wr => ∃ (i : Nat) (vi : Value), i ≤ t ∧ c = .int .i64 (i : Nat) ∧ Hid (Wr wr p vi (cs1 ++ ordBits hl i)) ∧ Hid (Step p v vi w0 wr)) (fun c _ => t - (intOf c).toNat)
  case atStart => exact ⟨0, v3, Nat.zero_le _, rfl, hide (by show Wr w3 p v3 (cs1 ++ []); rw [List.append_nil]; exact HR3.out), HS3⟩
  case round =>
    clear HR3 HS3
    obtain ⟨i, vi, hi, rfl, HR, HS⟩ := hrel
    have hol := ordBits_le hl i (by omega)
    by_cases hlt : i < t
    · obtain ⟨b, off, rfl, _, hc⟩ := (HKT.out.step HS.out).arg i _ (toldC_get hl i (by rw [HT.out]; exact hlt))
      have HBS := hide (ordBits_succ hl i (by omega))
      generalize hl.getD (orderL.getD i 0) 0 = x0 at *
      have H4 := hide (wput_any p vi _ (x0 : Int) 3 wr 3 rfl HR.out (by rw [List.length_append]; omega))
      have zi : (i : Int) < t := by omega
      have HLT := hide hlt
      clear hol hlt
      go_wp2_with fail
      refine H4.out.mono ?_
      rintro e w4 ⟨rfl, v4, hr4, hs4⟩
      rw [List.append_assoc, ← HBS.out] at hr4
      have HR4 := hide hr4
      have HS4 := hide (HS.out.trans hs4)
      clear hr4 hs4 H4
      go_wp2
      go_roundw
      case rel => exact ⟨i + 1, v4, HLT.out, by go_num, HR4, HS4⟩
      case measure => exact meas_oneW i t HLT.out
    · have hie : i = t := by omega
      subst hie
      have _h4 := (FH.out.cell HS.out 4).trans E4.out
      have HCD := hide (coded9 hl (some ⟨xl, ol, none⟩) 19 cl wr HLL.out (HKL.out.step HS.out).arg HMK.out (by omega) (by omega))
      obtain ⟨cs2, hcs2⟩ : ∃ cs2, cs1 ++ ordBits hl i = cs2 := ⟨_, rfl⟩
      have hcl2 : cs2.length ≤ 600071 := by rw [← hcs2, List.length_append]; omega
      have HCS2 := hide hcs2
      rw [hcs2] at HR
      obtain ⟨hp, hv⟩ := HR.out.old
      clear hcs2 hol
      go_wp2_with fail
      refine HCD.out.mono ?_
      rintro e w5 ⟨g8, k8, rfl, ho8, b5⟩
      have hb6 := new_box w5 (.cells #[.slice (some ⟨xl, ol, none⟩) 19 cl, .slice (some ⟨g8, 0, none⟩) 19 k8] 67)
      have B6 := hide (b5.trans (((Below.refl w5.heap.size w5).alloc (Nat.le_refl _) (.cells #[.slice (some ⟨xl, ol, none⟩) 19 cl, .slice (some ⟨g8, 0, none⟩) 19 k8] 67)).mono b5.size))
      have HS6 := hide (HS.out.trans (Step.ofBelow B6.out))
      have HR6 := hide (HR.out.below B6.out)
      have FB := hide (free_new (b := w5.heap.size) hp hv b5.size (Array.getElem?_eq_some_iff.1 hb6).1)
      have EB0 := hide (show (w5.alloc (.cells #[.slice (some ⟨xl, ol, none⟩) 19 cl, .slice (some ⟨g8, 0, none⟩) 19 k8] 67)).cell? ⟨w5.heap.size, 0, none⟩ = some (.slice (some ⟨xl, ol, none⟩) 19 cl) by rw [cell_of_row _ _ 0 _ _ (0, 0) hb6]; rfl)
      have EB1 := hide (show (w5.alloc (.cells #[.slice (some ⟨xl, ol, none⟩) 19 cl, .slice (some ⟨g8, 0, none⟩) 19 k8] 67)).cell? ⟨w5.heap.size, 1, none⟩ = some (.slice (some ⟨g8, 0, none⟩) 19 k8) by rw [cell_of_row _ _ 1 _ _ (0, 0) hb6]; rfl)
      have hlt8 := ho8.lt g8 rfl
      have hz5 : w5.heap.size < (w5.alloc (.cells #[.slice (some ⟨xl, ol, none⟩) 19 cl, .slice (some ⟨g8, 0, none⟩) 19 k8] 67)).heap.size := (Array.getElem?_eq_some_iff.1 hb6).1
      have HCK := hide (show CodeK p vi (w5.alloc (.cells #[.slice (some ⟨xl, ol, none⟩) 19 cl, .slice (some ⟨g8, 0, none⟩) 19 k8] 67)) hl xl ol cl g8 k8 from by
        have hkn := HKL.out.step HS6.out
        refine ⟨hkn.free xl ol rfl, free_new hp hv hlt8.1 (by omega), fun k hk => ?_, fun k hk => ?_⟩
        · obtain ⟨b', o', e1, _, h3⟩ := hkn.arg k _ (getD_some hl k hk)
          injection e1 with e1
          injection e1 with e1 e2
          subst e1 e2
          exact h3
        · have h := (own_nat (w := w5.alloc (.cells #[.slice (some ⟨xl, ol, none⟩) 19 cl, .slice (some ⟨g8, 0, none⟩) 19 k8] 67)) (l := codesL hl) (by rw [codesL_length, HLL.out]; exact ho8.alloc _) (codesL_get hl k hk)).1
          rw [Nat.zero_add]
          exact h)
      have _h3b := (FH.out.cell HS6.out 3).trans E3.out
      clear ho8 b5 hb6 hlt8 hz5 hp hv HCD HR HS B6
      go_wp2
      generalize (w5.alloc (.cells #[.slice (some ⟨xl, ol, none⟩) 19 cl, .slice (some ⟨g8, 0, none⟩) 19 k8] 67)) = w6 at *
      generalize w5.heap.size = RB at *
      have HG7 := hide (show ∀ z ∈ hl, z ≤ 15 from HMK.out.each)
      go_loopw [42] (fun c wt => ∃ (q : Nat) (vj : Value), q ≤ j ∧ c = .int .i64 (q : Nat) ∧ Hid (Wr wt p vj (cs2 ++ runsBits hl (rs.take q))) ∧ Hid (Step p vi vj w6 wt)) (fun c _ => j - (intOf c).toNat)
      case atStart => exact ⟨0, vi, Nat.zero_le _, rfl, hide (by show Wr w6 p vi (cs2 ++ []); rw [List.append_nil]; exact HR6.out), hide (Step.refl _ _ _)⟩
      case round =>
        clear HR6
        obtain ⟨q, vj, hq, rfl, HR, HS⟩ := hrel
        by_cases hlt : q < j
        · obtain ⟨⟨s, ex⟩, hs⟩ : ∃ t, rs[q]? = some t := ⟨_, List.getElem?_eq_getElem (by rw [HJ.out]; exact hlt)⟩
          obtain ⟨g, off, rfl, hg, _c1, _c2⟩ := (HKF.out.step (HS6.out.trans HS.out)).arg q s ex hs
          have hso := HRO.out _ (List.mem_of_getElem? hs)
          obtain ⟨s, rfl⟩ := Int.eq_ofNat_of_zero_le hso.1
          have hs19 : s < 19 := by have := hso.2; dsimp only at this; omega
          have hlb := runsBits_le hl (fun z hz => HG7.out z hz) (rs.take q)
          have hti : (rs.take q).length ≤ q := by rw [List.length_take]; omega
          have hbl : (cs2 ++ runsBits hl (rs.take q)).length ≤ 620000 := by rw [List.length_append]; omega
          have HSN := hide (runsBits_snoc hl (rs.take q) ((s : Int), ex))
          rw [show rs.take q ++ [((s : Int), ex)] = rs.take (q + 1) by rw [List.take_add_one, hs]; rfl] at HSN
          have HRB := hide (show runBits hl ((s : Int), ex) = highBits (codeN hl s : Int) (hl.getD s 0) ++ lowBits ex (xBits (s : Int)) by unfold runBits; rw [Int.toNat_natCast])
          have hx7 := xBits_le (s : Int)
          have hg15 := getD_le HG7.out s
          have HBT := hide (bits7_same (s : Int))
          obtain ⟨hp, hv⟩ := HR.out.old
          have hb7 := new_box wr (.cells #[.int .i64 (s : Int), .int .i64 ex] 89)
          have B7 := hide ((Below.refl wr.heap.size wr).alloc (Nat.le_refl _) (.cells #[.int .i64 (s : Int), .int .i64 ex] 89))
          have HS7 := hide (HS.out.trans (Step.ofBelow B7.out))
          have FR := hide (free_new (b := wr.heap.size) hp hv (Nat.le_refl _) (Array.getElem?_eq_some_iff.1 hb7).1)
          have ER0 := hide (show (wr.alloc (.cells #[.int .i64 (s : Int), .int .i64 ex] 89)).cell? ⟨wr.heap.size, 0, none⟩ = some (.int .i64 (s : Int)) by rw [cell_of_row _ _ 0 _ _ (0, 0) hb7]; rfl)
          have ER1 := hide (show (wr.alloc (.cells #[.int .i64 (s : Int), .int .i64 ex] 89)).cell? ⟨wr.heap.size, 1, none⟩ = some (.int .i64 ex) by rw [cell_of_row _ _ 1 _ _ (0, 0) hb7]; rfl)
          have _a0 : (wr.alloc (.cells #[.int .i64 (s : Int), .int .i64 ex] 89)).cell? ⟨RB, 0, none⟩ = some (.slice (some ⟨xl, ol, none⟩) 19 cl) := (FB.out.cell HS7.out 0).trans EB0.out
          have _a1 : (wr.alloc (.cells #[.int .i64 (s : Int), .int .i64 ex] 89)).cell? ⟨RB, 1, none⟩ = some (.slice (some ⟨g8, 0, none⟩) 19 k8) := (FB.out.cell HS7.out 1).trans EB1.out
          have HC := hide (cwriteK p vj _ hl xl ol cl g8 k8 s _ (HR.out.below B7.out) (by omega) (HCK.out.step HS7.out) (by rw [HLL.out]; exact hs19) HG7.out)
          rw [HLL.out] at HC
          generalize codeN hl s = cv at *
          generalize hl.getD s 0 = lv at *
          generalize xBits (s : Int) = xb at *
          have zi : (q : Int) < (j : Int) := by omega
          have HLT := hide hlt
          clear hso hs hlb hti hp hv hb7 hg hlt
          go_wp2_with fail
          refine HC.out.mono ?_
          rintro e w8 ⟨rfl, v8, hr8, s8⟩
          have T8 := hide s8
          have HR8 := hide hr8
          have _r0 := (FR.out.cell T8.out 0).trans ER0.out
          have _r1 := (FR.out.cell T8.out 1).trans ER1.out
          have HPT := hide (fun w' (h : Wr w' p v8 (cs2 ++ runsBits hl (rs.take q) ++ highBits (cv : Int) lv)) => wput_any p v8 _ ex (xb : Int) w' xb (takenI_nat xb (by omega)) h (by rw [List.length_append, high_len]; omega))
          have HWE := hide (HR8.out.drewN 1)
          have F8 := hide (FR.out.step T8.out)
          have K0 := hide _r0
          have K1 := hide _r1
          clear hr8 s8 HC _a0 _a1 _c1 _c2
          go_wp2_with fail
          go_region_held3 (fun w' => w'.cell? ⟨wr.heap.size, 0, none⟩ = some (.int .i64 (s : Int)) ∧ w'.cell? ⟨wr.heap.size, 1, none⟩ = some (.int .i64 ex)) (go_keep) (first
            | (go_at_call 49; refine (HBT.out _).mono ?_; rintro e wb ⟨rfl, rfl⟩)
            | (go_at_call 19; refine (HPT.out _ HWE.out).mono ?_; rintro e w9 ⟨rfl, v9, hr9, s9⟩; have hs9 : Step p v8 v9 w8 w9 := ⟨s9.os, s9.tape, s9.output, s9.size, s9.block, s9.own⟩; have k0 := (F8.out.cell hs9 0).trans K0.out; have k1 := (F8.out.cell hs9 1).trans K1.out; have HR9 := hide hr9; have HS9 := hide hs9; clear hr9 s9 hs9))
          have HRF := hide HR9.out
          rw [List.append_assoc, List.append_assoc, ← HRB.out, ← HSN.out] at HRF
          have HSF := hide (HS7.out.trans (T8.out.trans HS9.out))
          clear HR9 HS9 T8 k0 k1
          go_wp2
          go_roundw
          case rel => exact ⟨q + 1, v9, HLT.out, by go_num, HRF, HSF⟩
          case measure => exact meas_oneW q j HLT.out
        · have hqe : q = j := by omega
          subst hqe
          have HG := hide (show HeadWPost W n m rs hl p v bs (.returned (.tuple #[])) wr from by
            refine ⟨rfl, vj, ?_, HS0.out.trans (HS6.out.trans HS.out)⟩
            have hf := HR.out
            rw [← HJ.out, List.take_length, ← HCS2.out, ← HCS.out] at hf
            unfold headBits
            rw [HT.out, show ((n - 257 : Nat) : Int) = (n : Int) - 257 by omega, show ((m - 1 : Nat) : Int) = (m : Int) - 1 by omega, show ((i - 4 : Nat) : Int) = (i : Int) - 4 by omega]
            simp only [List.append_assoc] at hf ⊢
            exact hf)
          go_wp2
          go_end0
          exact HG.out

end Go.Proofs.Ytpgkmbakohfpkaa
