/- Contract of the code of layer 9: tokens are written. -/
import Derived.Test.YtpgkmbakohfpkaaBCodeC
namespace Go.Proofs.Ytpgkmbakohfpkaa
open Go.RowKit Go.Lib

/-- What tokens' writing comes to. -/
def TokWPost (W : World) (la lb : List Nat) (l : List (Nat × Int × Int)) (p : Nat) (v : Value) (bs : List Bool) (e : Ending) (w' : World) : Prop := e = .returned (.tuple #[]) ∧ ∃ v', Wr w' p v' (bs ++ bodyBits la lb l) ∧ Step p v v' W w'
theorem high_len (x : Int) (k : Nat) : (highBits x k).length = k := by unfold highBits; rw [List.length_reverse, lowBits_length]

theorem new_box (w : World) (o : Obj) : (w.alloc o).heap[w.heap.size]? = some o := by show (w.heap.push _)[w.heap.size]? = _; simp
theorem two_boxes (W : World) (va vb : Obj) : ((W.alloc va).alloc vb).heap[W.heap.size]? = some va ∧ ((W.alloc va).alloc vb).heap[W.heap.size + 1]? = some vb ∧ Below W.heap.size W ((W.alloc va).alloc vb) := by
  have s1 : (W.alloc va).heap.size = W.heap.size + 1 := by show (W.heap.push _).size = _; simp
  refine ⟨?_, ?_, ((Below.refl _ _).alloc (Nat.le_refl _) _).alloc (by rw [s1]; omega) _⟩
  · rw [heap_alloc_old _ _ _ (by omega)]; exact new_box W va
  · have h := new_box (W.alloc va) vb
    rw [s1] at h
    exact h

set_option maxRecDepth 20000 in
set_option maxHeartbeats 8000000 in
theorem tokens9 (l : List (Nat × Int × Int)) (a : Option Addr) (n cap p : Nat) (v : Value) (bs : List Bool) (W : World) (la lb : List Nat) (xa oa ca ya da xb ob cb yb db : Nat) (hn : l.length = n) (hw : Wr W p v bs) (hbs : bs.length ≤ 600000) (kt : KT p v W a l) (ka : CodeK p v W la xa oa ca ya da) (kb : CodeK p v W lb xb ob cb yb db) (ok : CodesOk la lb l) (hr : ∀ t ∈ l, RightT t) (hl : n ≤ 2000) :
    Calls Try.prog 30 #[.pointer (some ⟨p, 0, none⟩), .slice a n cap, .agg #[.slice (some ⟨xa, oa, none⟩) la.length ca, .slice (some ⟨ya, 0, none⟩) la.length da], .agg #[.slice (some ⟨xb, ob, none⟩) lb.length cb, .slice (some ⟨yb, 0, none⟩) lb.length db]] W fun e w' => TokWPost W la lb l p v bs e w' := by
  have HN := hide hn
  have HR := hide hr
  have HOK := hide ok
  have HG8 := hide ok.ma.each
  have HG7 := hide ok.mb.each
  have HTL := hide (toksBits_le ok.ma.each ok.mb.each)
  have hla1 := ok.la1
  obtain ⟨hp, hv⟩ := hw.old
  obtain ⟨e3, e2, b2⟩ := two_boxes W (.cells #[.slice (some ⟨xa, oa, none⟩) la.length ca, .slice (some ⟨ya, 0, none⟩) la.length da] 67) (.cells #[.slice (some ⟨xb, ob, none⟩) lb.length cb, .slice (some ⟨yb, 0, none⟩) lb.length db] 67)
  have FA := hide (free_new (b := W.heap.size) hp hv (Nat.le_refl _) (Array.getElem?_eq_some_iff.1 e3).1)
  have FB := hide (free_new (b := W.heap.size + 1) hp hv (Nat.le_succ _) (Array.getElem?_eq_some_iff.1 e2).1)
  have HS0 := hide (Step.ofBelow (p := p) (v := v) b2)
  have HW0 := hide (hw.below b2)
  have HKA := hide (ka.step HS0.out)
  have HKB := hide (kb.step HS0.out)
  have HKT := hide (kt.step HS0.out)
  have EA0 := hide (cell_of_row _ _ 0 _ _ (0, 0) e3)
  have EA1 := hide (cell_of_row _ _ 1 _ _ (0, 0) e3)
  have EB0 := hide (cell_of_row _ _ 0 _ _ (0, 0) e2)
  have EB1 := hide (cell_of_row _ _ 1 _ _ (0, 0) e2)
  generalize hw0 : ((W.alloc (.cells #[.slice (some ⟨xa, oa, none⟩) la.length ca, .slice (some ⟨ya, 0, none⟩) la.length da] 67)).alloc (.cells #[.slice (some ⟨xb, ob, none⟩) lb.length cb, .slice (some ⟨yb, 0, none⟩) lb.length db] 67)) = w0 at *
  have HWA := hide (fun v' bs' w' k (h1 : Wr w' p v' bs') (h2 : bs'.length ≤ 800000) (h3 : CodeK p v' w' la xa oa ca ya da) (h4 : k < la.length) => cwriteK p v' bs' la xa oa ca ya da k w' h1 h2 h3 h4 HG8.out)
  have HWB := hide (fun v' bs' w' k (h1 : Wr w' p v' bs') (h2 : bs'.length ≤ 800000) (h3 : CodeK p v' w' lb xb ob cb yb db) (h4 : k < lb.length) => cwriteK p v' bs' lb xb ob cb yb db k w' h1 h2 h3 h4 HG7.out)
  obtain ⟨na, hna⟩ : ∃ na, la.length = na := ⟨_, rfl⟩
  obtain ⟨nb, hnb⟩ : ∃ nb, lb.length = nb := ⟨_, rfl⟩
  have HNA := hide hna
  have HNB := hide hnb
  rw [hna] at hla1
  clear hw kt ka kb ok hr hn e2 e3 b2 hp hv
  simp only [hna] at HWA EA0 EA1 hw0 ⊢
  simp only [hnb] at HWB EB0 EB1 hw0 ⊢
  clear hna hnb
  go_enter Try.func30, Try.ntmps30
  go_wp2
  clear hw0
  generalize W.heap.size = PA at *
  go_loopw [16] (fun c wr => ∃ (i : Nat) (vi : Value), i ≤ n ∧ c = .int .i64 (i : Nat) ∧ Hid (Wr wr p vi (bs ++ toksBits la lb (l.take i))) ∧ Hid (Step p v vi w0 wr)) (fun c _ => n - (intOf c).toNat)
  case atStart => exact ⟨0, v, Nat.zero_le _, rfl, hide (by show Wr w0 p v (bs ++ []); rw [List.append_nil]; exact HW0.out), hide (Step.refl _ _ _)⟩
  case round =>
    clear HW0
    obtain ⟨i, vi, hi, rfl, HR7, HS7⟩ := hrel
    have hbt := HTL.out (l.take i)
    have hti : (l.take i).length ≤ i := by rw [List.length_take]; omega
    have hbt2 : (bs ++ toksBits la lb (l.take i)).length ≤ 700000 := by rw [List.length_append]; omega
    clear hbt hti
    by_cases hlt : i < n
    · obtain ⟨⟨b, ln, d⟩, ht⟩ : ∃ r, l[i]? = some r := ⟨_, List.getElem?_eq_getElem (by rw [HN.out]; exact hlt)⟩
      obtain ⟨x, offx, rfl, hx, hcx, hdx, hex⟩ := HKT.out.arg i _ ht
      have FT := hide (HKT.out.free (List.ne_nil_of_mem (List.mem_of_getElem? ht)) x offx rfl)
      dsimp only at hcx hdx hex
      have _c1 := (FT.out.cell HS7.out (offx + i * 3)).trans hcx
      have _d1 := (FT.out.cell HS7.out (offx + i * 3 + 1)).trans hdx
      have _e1 := (FT.out.cell HS7.out (offx + i * 3 + 2)).trans hex
      have hrt := HR.out _ (List.mem_of_getElem? ht)
      have hfit := HOK.out.fit _ (List.mem_of_getElem? ht)
      have HTK := hide (take_snocT l i _ ht)
      have HSN := hide (toks_snoc la lb (l.take i) (b, ln, d))
      rw [← HTK.out] at HSN
      have zi : (i : Int) < (n : Int) := by omega
      rw [HNA.out, HNB.out] at hfit
      have HB1 := hide ((Below.refl wr.heap.size wr).alloc (Nat.le_refl _) (.cells #[.int .i64 ln, .int .i64 d, .int .u8 (b : Int)] 45))
      have HS8 := hide (HS7.out.trans (Step.ofBelow HB1.out))
      have HR8 := hide (HR7.out.below HB1.out)
      obtain ⟨hp, hv⟩ := HR7.out.old
      have htb := new_box wr (.cells #[.int .i64 ln, .int .i64 d, .int .u8 (b : Int)] 45)
      have FK := hide (free_new (b := wr.heap.size) hp hv (Nat.le_refl _) (Array.getElem?_eq_some_iff.1 htb).1)
      have ET1 := hide (show (wr.alloc (.cells #[.int .i64 ln, .int .i64 d, .int .u8 (b : Int)] 45)).cell? ⟨wr.heap.size, 1, none⟩ = some (.int .i64 d) by rw [cell_of_row _ _ 1 _ _ (0, 0) htb]; rfl)
      have _a0 : (wr.alloc (.cells #[.int .i64 ln, .int .i64 d, .int .u8 (b : Int)] 45)).cell? ⟨PA, 0, none⟩ = some (.slice (some ⟨xa, oa, none⟩) na ca) := (FA.out.cell (HS8.out) 0).trans EA0.out
      have _a1 : (wr.alloc (.cells #[.int .i64 ln, .int .i64 d, .int .u8 (b : Int)] 45)).cell? ⟨PA, 1, none⟩ = some (.slice (some ⟨ya, 0, none⟩) na da) := (FA.out.cell (HS8.out) 1).trans EA1.out
      have HLT := hide hlt
      clear hx hcx hdx hex ht HTK hp hv htb hlt
      by_cases hm : ln ≤ 0
      · have hs : symT (b, ln, d) = b := by unfold symT; rw [if_pos hm]
        have hb8 : b < 256 := hrt.1
        have hbn : b < na := by have := hfit.1; rw [hs] at this; exact this
        have HTB := hide (show tokBits la lb (b, ln, d) = highBits (codeN la b : Int) (la.getD b 0) by unfold tokBits; rw [if_pos hm])
        have HC := hide (HWA.out vi _ _ b HR8.out (by omega) (HKA.out.step HS8.out) hbn)
        have zb2 : (b : Int) ≤ 255 := by omega
        clear hs hfit hrt
        go_wp2_with fail
        refine HC.out.mono ?_
        rintro e w9 ⟨rfl, v9, hr9, s9⟩
        have HR9 := hide (show Wr w9 p v9 (bs ++ toksBits la lb (l.take (i + 1))) by rw [HSN.out, HTB.out, ← List.append_assoc]; exact hr9)
        have HS9 := hide (HS8.out.trans s9)
        clear hr9 s9 HC
        go_wp2
        go_roundw
        case rel => exact ⟨i + 1, v9, HLT.out, by go_num, HR9, HS9⟩
        case measure => exact meas_oneW i n HLT.out
      · have hm : 0 < ln := by omega
        obtain ⟨hr1, hr2⟩ := hrt.2 hm
        have hs : symT (b, ln, d) = 257 + lnT ln := by unfold symT; rw [if_neg (by dsimp only; omega)]
        have hs2 : farT (b, ln, d) = dsT d := rfl
        have hfa : 257 + lnT ln < na := by have := hfit.1; rw [hs] at this; exact this
        have hfb : dsT d < nb := by have := hfit.2 hm; rw [hs2] at this; exact this
        have HTB := hide (show tokBits la lb (b, ln, d) = highBits (codeN la (257 + lnT ln) : Int) (la.getD (257 + lnT ln) 0) ++ (lowBits (ln - (lenBase (lnT ln) : Int)) (lenBits (lnT ln)) ++ (highBits (codeN lb (dsT d) : Int) (lb.getD (dsT d) 0) ++ lowBits (d - (distBase (dsT d) : Int)) (distBits (dsT d)))) by unfold tokBits; rw [if_neg (by dsimp only; omega)])
        have HC1 := hide (slen_any ln)
        have HC2 := hide (sdist_any d)
        rw [ln_val ln hr1] at HC1
        rw [ds_val d hr2] at HC2
        have hlb := (len_small (lnT ln) (lnT_le _)).2.2
        have hdb := (dist_small (dsT d) (dsT_le _)).2.2
        have hga := getD_le HG8.out (257 + lnT ln)
        have hgb := getD_le HG7.out (dsT d)
        clear hrt hs hs2 hr1 hr2 hfit
        generalize lenBits (lnT ln) = x1 at *
        generalize ln - (lenBase (lnT ln) : Int) = x2 at *
        generalize distBits (dsT d) = x3 at *
        generalize d - (distBase (dsT d) : Int) = x4 at *
        generalize 257 + lnT ln = K at *
        generalize dsT d = kd at *
        have zm : ¬ ln ≤ 0 := by omega
        go_wp2_with fail
        refine (HC1.out _).mono ?_
        rintro e w2 ⟨rfl, b2⟩
        have T2 := hide (Step.ofBelow (p := p) (v := vi) b2)
        have HC := hide (HWA.out vi _ w2 K (HR8.out.below b2) (by omega) (HKA.out.step (HS8.out.trans T2.out)) hfa)
        clear b2 _a0 _a1 HC1
        have _a0 : w2.cell? ⟨PA, 0, none⟩ = some (.slice (some ⟨xa, oa, none⟩) na ca) := (FA.out.cell (HS8.out.trans T2.out) 0).trans EA0.out
        have _a1 : w2.cell? ⟨PA, 1, none⟩ = some (.slice (some ⟨ya, 0, none⟩) na da) := (FA.out.cell (HS8.out.trans T2.out) 1).trans EA1.out
        go_wp2_with fail
        refine HC.out.mono ?_
        rintro e w3 ⟨rfl, v3, hr3, s3⟩
        have T3 := hide (T2.out.trans s3)
        have HP := hide (wput_any p v3 _ x2 (x1 : Int) w3 x1 (takenI_nat x1 (by omega)) hr3 (by rw [List.length_append, high_len]; omega))
        clear hr3 s3 HC _a0 _a1
        go_wp2_with fail
        refine HP.out.mono ?_
        rintro e w4 ⟨rfl, v4, hr4, s4⟩
        have T4 := hide (T3.out.trans s4)
        have HR4 := hide hr4
        have _t1 : w4.cell? ⟨wr.heap.size, 1, none⟩ = some (.int .i64 d) := (FK.out.cell T4.out 1).trans ET1.out
        clear hr4 s4 HP
        go_wp2_with fail
        refine (HC2.out _).mono ?_
        rintro e w5 ⟨rfl, b5⟩
        have T5 := hide (T4.out.trans (Step.ofBelow b5))
        have HC := hide (HWB.out v4 _ w5 kd (HR4.out.below b5) (by rw [List.length_append, List.length_append, high_len, lowBits_length]; omega) (HKB.out.step (HS8.out.trans T5.out)) hfb)
        clear b5 HC2 HR4 _t1
        have _b0 : w5.cell? ⟨PA + 1, 0, none⟩ = some (.slice (some ⟨xb, ob, none⟩) nb cb) := (FB.out.cell (HS8.out.trans T5.out) 0).trans EB0.out
        have _b1 : w5.cell? ⟨PA + 1, 1, none⟩ = some (.slice (some ⟨yb, 0, none⟩) nb db) := (FB.out.cell (HS8.out.trans T5.out) 1).trans EB1.out
        go_wp2_with fail
        refine HC.out.mono ?_
        rintro e w6 ⟨rfl, v6, hr6, s6⟩
        have T6 := hide (T5.out.trans s6)
        have HP := hide (wput_any p v6 _ x4 (x3 : Int) w6 x3 (takenI_nat x3 (by omega)) hr6 (by rw [List.length_append, List.length_append, List.length_append, high_len, high_len, lowBits_length]; omega))
        clear hr6 s6 HC _b0 _b1
        go_wp2_with fail
        refine HP.out.mono ?_
        rintro e w7 ⟨rfl, v7, hr7, s7⟩
        have HR9 := hide (show Wr w7 p v7 (bs ++ toksBits la lb (l.take (i + 1))) by
          rw [HSN.out, HTB.out]
          simp only [List.append_assoc] at hr7 ⊢
          exact hr7)
        have HS9 := hide (HS8.out.trans (T6.out.trans s7))
        clear hr7 s7 HP
        go_wp2
        go_roundw
        case rel => exact ⟨i + 1, v7, HLT.out, by go_num, HR9, HS9⟩
        case measure => exact meas_oneW i n HLT.out
    · have hi2 : i = n := by omega
      subst hi2
      have HC := hide (HWA.out vi _ wr 256 HR7.out (by omega) (HKA.out.step HS7.out) hla1)
      have _a0 : wr.cell? ⟨PA, 0, none⟩ = some (.slice (some ⟨xa, oa, none⟩) na ca) := (FA.out.cell (HS7.out) 0).trans EA0.out
      have _a1 : wr.cell? ⟨PA, 1, none⟩ = some (.slice (some ⟨ya, 0, none⟩) na da) := (FA.out.cell (HS7.out) 1).trans EA1.out
      go_wp2_with fail
      refine HC.out.mono ?_
      rintro e w9 ⟨rfl, v9, hr9, s9⟩
      have HG := hide (show TokWPost W la lb l p v bs (.returned (.tuple #[])) w9 from ⟨rfl, v9, by
        have hf := hr9
        rw [← HN.out, List.take_length, List.append_assoc] at hf
        exact hf, HS0.out.trans (HS7.out.trans s9)⟩)
      clear hr9 s9 HC
      go_wp2
      go_end0
      exact HG.out

end Go.Proofs.Ytpgkmbakohfpkaa
