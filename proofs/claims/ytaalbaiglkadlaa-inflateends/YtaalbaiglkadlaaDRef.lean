/- Contracts of the document's layer 10: covered, stored, Pack. -/
import Derived.Test.YtaalbaiglkadlaaDM
namespace Go.Proofs.Ytaalbaiglkadlaa
open Go.RowKit Go.Lib

theorem cov_range (l : List (Nat × Int × Int)) (h : ∀ t ∈ l, RightT t) : covL l ≤ 258 * l.length := by
  induction l with
  | nil => exact Nat.le_refl _
  | cons t l ih =>
    have e : covL (t :: l) = covT t + covL l := rfl
    have h1 := ih (fun x hx => h x (List.mem_cons_of_mem _ hx))
    have h2 : covT t ≤ 258 := by
      have h3 := (h t List.mem_cons_self).2
      unfold covT
      split
      · omega
      · have := h3 (by omega); omega
    rw [e, List.length_cons]
    omega

set_option maxHeartbeats 2000000 in
theorem qcovered_any (l : List (Nat × Int × Int)) (a : Option Addr) (n cap : Nat) (W : World) (hn : l.length = n) (harg : ArgT W a l) (hr : ∀ t ∈ l, RightT t) (hl : n ≤ 3000) :
    Calls Try.prog 36 #[.slice a n cap] W fun e w' => e = .returned (.int .i64 (covL l : Nat)) ∧ W = w' := by
  have HA := hide harg
  have HN := hide hn
  have HR := hide hr
  clear harg hn hr
  go_enter Try.func36, Try.ntmps36
  go_wp2
  go_loop [3, 4] (fun sv iv => ∃ i S : Nat, i ≤ n ∧ S ≤ 258 * i ∧ sv = .int .i64 (S : Nat) ∧ iv = .int .i64 (i : Nat) ∧ Hid (covL (l.take i) = S)) (fun _ iv => n - (intOf iv).toNat)
  case atStart => exact ⟨0, 0, Nat.zero_le _, Nat.le_refl _, rfl, rfl, hide rfl⟩
  case round =>
    obtain ⟨i, S, hi, hS, rfl, rfl, HC⟩ := hrel
    by_cases hlt : i < n
    · obtain ⟨⟨b, ln, d⟩, ht⟩ : ∃ r, l[i]? = some r := ⟨_, List.getElem?_eq_getElem (by rw [HN.out]; exact hlt)⟩
      obtain ⟨x, offx, rfl, _, _c1, _d1, _⟩ := HA.out i _ ht
      dsimp only at _c1 _d1
      have zi : (i : Int) < n := by omega
      have HRT := hide (HR.out _ (List.mem_of_getElem? ht)).2
      dsimp only at HRT
      have HTK := hide (show covL (l.take (i + 1)) = S + covT (b, ln, d) by rw [take_snocT l i _ ht, covL_snoc, HC.out])
      clear ht
      by_cases h1 : 1 < ln
      · have hb : 3 ≤ ln ∧ ln ≤ 258 := (HRT.out (by omega)).1
        obtain ⟨k, rfl⟩ : ∃ k : Nat, ln = (k : Int) := ⟨ln.toNat, by omega⟩
        have HT2 := hide (show covL (l.take (i + 1)) = S + k by rw [HTK.out]; unfold covT; dsimp only; rw [if_neg (by omega)]; rfl)
        clear HTK HRT HC
        go_wp2
        go_round
        case rel => exact ⟨i + 1, S + k, hlt, by omega, by go_num, by go_num, HT2⟩
        case measure => exact meas_oneW i n hlt
      · have HT2 := hide (show covL (l.take (i + 1)) = S + 1 by rw [HTK.out]; unfold covT; dsimp only; rw [if_pos (by omega)])
        clear HTK HRT HC
        go_wp2
        go_round
        case rel => exact ⟨i + 1, S + 1, hlt, by omega, by go_num, by go_num, HT2⟩
        case measure => exact meas_oneW i n hlt
    · obtain rfl : i = n := by omega
      have HF := hide (show covL l = S by rw [← HC.out, List.take_of_length_le (by rw [HN.out]; exact Nat.le_refl _)])
      go_wp2
      go_ret
      rw [HF.out]
      exact ⟨rfl, rfl⟩

set_option maxHeartbeats 2000000 in
theorem qstored_any (s : ByteArray) (W : World) (hs : s.size ≤ 65535) :
    Calls Try.prog 34 #[.string s] W fun e w' => (∃ t, e = .returned (.string ⟨(t : List UInt8).toArray⟩) ∧ Packs (storeAll [] s true) t) ∧ Below W.heap.size W w' := by
  have hta := text_all s
  have htn := text_none s
  have HS := hide (fun w (h : Wq w W.heap.size (.slice none 0 0) []) => qstore_any W.heap.size (.slice none 0 0) [] s true w h (by decide) hs)
  have HW0 := hide (new_wq W)
  have HB0 := hide ((Below.refl _ W).alloc (Nat.le_refl _) (.cells #[.slice none 0 0, .int .i64 0] 35))
  obtain ⟨n, hn⟩ : ∃ n, s.size = n := ⟨_, rfl⟩
  have zn : ((s.size : Nat) : Int) = (n : Int) := by omega
  rw [hn] at hta htn hs
  clear hn
  go_enter Try.func34, Try.ntmps34
  go_wp2
  go_loopw [0] (fun sv wr => sv = .string s ∧ Hid (wr = W.alloc (.cells #[.slice none 0 0, .int .i64 0] 35))) (fun _ _ => 0)
  case atStart => exact ⟨rfl, hide rfl⟩
  case round =>
    obtain ⟨rfl, HE⟩ := hrel
    have HW1 := hide (show Wq wr W.heap.size (.slice none 0 0) [] by rw [HE.out]; exact HW0.out)
    have HB1 := hide (show Below W.heap.size W wr by rw [HE.out]; exact HB0.out)
    go_wp2_with fail
    refine (HS.out _ HW1.out).mono ?_
    rintro e w1 ⟨rfl, v1, hr1, hs1⟩
    have HBY := hide (qwbytes_any _ _ _ _ hr1)
    have HB2 := hide (hs1.new HB1.out (Nat.le_refl _) (fun k hk => by cases hk))
    clear hr1 hs1
    go_wp2_with fail
    refine HBY.out.mono ?_
    rintro e w2 ⟨⟨t, rfl, ht⟩, rfl⟩
    have HT := hide ht
    clear ht HBY
    go_wp2
    go_ret
    exact ⟨⟨t, rfl, HT.out⟩, HB2.out⟩

theorem meas_len (a a2 : Option Addr) (n m c c2 : Nat) (h : n < m) : lenV (.slice a n c) < lenV (.slice a2 m c2) := h

set_option maxRecDepth 20000 in
set_option maxHeartbeats 1000000 in
theorem qpack_any (s : ByteArray) (level : Int) (W : World) (hs : s.size ≤ 3000) :
    Calls Try.prog 14 #[.string s, .int .i64 level] W fun e w' => PackPost W s level e w' := by
  by_cases h0 : level < 0
  · have HG := hide (show PackPost W s level (.returned (.tuple #[.string ⟨#[]⟩, .int .i64 1])) W from ⟨[], 1, rfl, .inl ⟨.inl h0, rfl, rfl⟩, Below.refl _ _⟩)
    go_enter Try.func14, Try.ntmps14
    go_wp2
    go_ret2
    exact HG.out
  · have d0 : decide (level < 0) = false := decide_eq_false h0
    by_cases h9 : 9 < level
    · have d9 : decide (9 < level) = true := decide_eq_true h9
      have HG := hide (show PackPost W s level (.returned (.tuple #[.string ⟨#[]⟩, .int .i64 1])) W from ⟨[], 1, rfl, .inl ⟨.inr h9, rfl, rfl⟩, Below.refl _ _⟩)
      go_enter Try.func14, Try.ntmps14
      go_wp2
      go_ret2
      exact HG.out
    · have d9 : decide (9 < level) = false := decide_eq_false h9
      by_cases hz : level = 0
      · subst hz
        have HS := hide (qstored_any s W (by omega))
        go_enter Try.func14, Try.ntmps14
        go_wp2_with fail
        refine HS.out.mono ?_
        rintro e w1 ⟨⟨t, rfl, ht⟩, b1⟩
        have HG := hide (show PackPost W s 0 (.returned (.tuple #[.string ⟨t.toArray⟩, .int .i64 0])) w1 from ⟨t, 0, rfl, .inr (.inl ⟨rfl, ht, rfl⟩), b1⟩)
        clear ht b1
        go_wp2
        go_ret2
        exact HG.out
      · have bz : (level == 0) = false := by simp; exact hz
        have HT := hide (qtokens_cap s level W (by omega))
        go_enter Try.func14, Try.ntmps14
        go_wp2_with fail
        refine HT.out.mono ?_
        rintro e w1 ⟨a1, c1, ts, rfl, htk, ha1, hn1, b1, hcp⟩
        have HTS := hide htk
        have HS6 := hide (show s.size ≤ 65535 by omega)
        have HS3 := hide hs
        have HD0 := hide (show DW Wq (w1.alloc (.cells #[.slice none 0 0, .int .i64 0] 35)) W s (ts.map castT) w1.heap.size (.slice none 0 0) a1 c1 (ts.map castT) 0 [] from
          ⟨new_wq w1, KT.fresh ha1 ((Below.refl _ w1).alloc (Nat.le_refl _) _) (Nat.le_refl _) (fun k hk => by cases hk), b1.alloc b1.size _, ⟨b1.size, fun k hk => by cases hk⟩, fun k out h => ⟨k, h⟩, toks_cov s level ts 0 htk, Nat.le_refl _, toks_right s level ts 0 htk, by rw [List.length_map]; exact hcp, hn1⟩)
        obtain ⟨L, hL⟩ : ∃ L, ts.map castT = L := ⟨_, rfl⟩
        have hLn : ts.length = L.length := by rw [← hL, List.length_map]
        rw [hL] at HD0
        rw [hLn]
        have HLL := hide hL
        obtain ⟨P, hP⟩ : ∃ P, w1.heap.size = P := ⟨_, rfl⟩
        clear htk ha1 hn1 b1 hcp HT hL hLn hs
        go_wp2
        rw [hP] at HD0
        clear hP
        go_loopw [6, 8] (fun lv av wr => ∃ LL a6 c6 i bs v, lv = .slice a6 (LL : List (Nat × Int × Int)).length c6 ∧ av = .int .i64 (i : Nat) ∧ Hid (DW Wq wr W s L P v a6 c6 LL i bs)) (fun lv _ _ => lenV lv)
        case atStart => exact ⟨L, a1, c1, 0, [], .slice none 0 0, rfl, rfl, HD0⟩
        case round =>
          clear HD0
          obtain ⟨LL, a6, c6, i, bs, v, rfl, rfl, HD⟩ := hrel
          obtain ⟨N, hN⟩ : ∃ N, LL.length = N := ⟨_, rfl⟩
          rw [hN]
          have HN := hide hN
          have hcap : N ≤ c6 := by rw [← hN]; exact HD.out.cap
          have hi9 : i ≤ 3000 := by have := HD.out.cov; have := HS3.out; omega
          by_cases h512 : N ≤ 512
          · have z512 : (N : Int) ≤ 512 := by omega
            have HLE := hide (show LL.length ≤ 512 by rw [hN]; exact h512)
            have HTA := hide (show LL.take 512 = LL from List.take_of_length_le HLE.out)
            have HPL := hide (show LL.length = N from hN)
            have HLP := hide (show LL.length ≤ 2000 by omega)
            have HRP := hide HD.out.right
            have HKQ := hide HD.out.kt.arg
            have hs1 := slice_to a6 N c6 N hcap
            have hs2 := slice_from a6 N c6 N (Nat.le_refl _)
            rw [Nat.sub_self] at hs2
            obtain ⟨cv, hcv⟩ : ∃ cv, covL LL = cv := ⟨_, rfl⟩
            have HCV := hide hcv
            have hic : i + cv ≤ s.size := by have := HD.out.cov; omega
            have HIC := hide hic
            have hss := text_sub s i cv hic
            have hcv9 : cv ≤ 3000 := by have := HS3.out; omega
            generalize leftA a6 c6 N = a7 at hs2
            generalize c6 - N = c7 at hs2
            clear hN hcv hic hcap
            have HCO := hide (fun w (h : ArgT w a6 LL) => qcovered_any LL a6 N c6 w HPL.out h HRP.out (by omega))
            have HCC := hide (fun w (h : ArgT w a6 LL) => qchoose_any LL a6 c6 (cv : Int) (bs.length : Int) w h HRP.out HLP.out (by omega) (by have := HD.out.len; omega))
            rw [HPL.out] at HCC
            obtain ⟨nb, hnb⟩ : ∃ nb, bs.length = nb := ⟨_, rfl⟩
            have HNB := hide hnb
            rw [hnb] at HCC
            have _cn := HD.out.wr.size
            rw [hnb] at _cn
            clear hnb
            go_wp2_with fail
            refine (HCO.out _ HKQ.out).mono ?_
            rintro e w1b ⟨rfl, rfl⟩
            rw [HCV.out]
            go_wp2_with fail
            refine (HCC.out _ HKQ.out).mono ?_
            rintro e w2 ⟨kd, rfl, hch, b2⟩
            have HCH := hide (show ChooseRel LL (covL LL : Int) (bs.length : Int) kd by rw [HCV.out, HNB.out]; exact hch)
            have HD2 := hide (HD.out.below b2 (HD.out.wr.below b2))
            have HKP := hide (HD2.out.kt)
            clear hch b2 HCO HCC HD HKQ
            have HCR := hide (choose_range HCH.out)
            by_cases k0 : kd = 0
            · subst k0
              have HST := hide (qstore_any P v bs (subB s i cv) true w2 HD2.out.wr (by have := HD2.out.len; have := HIC.out; omega) (by rw [subB_size s i cv HIC.out]; have := HIC.out; have := HS6.out; omega))
              go_wp2_with fail
              refine HST.out.mono ?_
              rintro e w3 ⟨rfl, v3, hr3, hs3⟩
              have HSR := hide (show StepRel s bs i LL 0 true (storeAll bs (subB s i cv) true) from .inl ⟨rfl, by rw [HCV.out]⟩)
              clear HST
              have HBY := hide (qwbytes_any _ _ _ _ hr3)
              have HB3 := hide (hs3.new HD2.out.bel HD2.out.new.1 HD2.out.new.2)
              obtain ⟨kk, hkk⟩ := HD2.out.done HLE.out (by rw [HTA.out]; exact HCH.out) (by rw [HTA.out]; exact HSR.out)
              have HKK := hide hkk
              clear hr3 hs3 hkk
              go_wp2_with fail
              refine HBY.out.mono ?_
              rintro e w4 ⟨⟨t, rfl, ht⟩, rfl⟩
              have HG := hide (show PackPost W s level (.returned (.tuple #[.string ⟨t.toArray⟩, .int .i64 0])) w3 from ⟨t, 0, rfl, .inr (.inr ⟨by omega, by omega, rfl, ts, _, kk, HTS.out, (by rw [HLL.out]; exact HKK.out), ht⟩), HB3.out⟩)
              clear ht HBY
              go_wp2
              go_ret2
              exact HG.out
            · have bk : (kd == 0) = false := by simp; exact k0
              have HWT := hide (qwrite_any LL a6 c6 kd true P v bs w2 HD2.out.wr (by have := HD2.out.len; have := HIC.out; omega) HKP.out HRP.out HLP.out)
              rw [HPL.out] at HWT
              go_wp2_with fail
              refine HWT.out.mono ?_
              rintro e w3 ⟨rfl, ob, v3, hb3, _, hr3, hs3⟩
              have HSR := hide (show StepRel s bs i LL kd true (bs ++ ob) from .inr ⟨k0, ob, hb3, rfl⟩)
              clear HWT hb3
              have HBY := hide (qwbytes_any _ _ _ _ hr3)
              have HB3 := hide (hs3.new HD2.out.bel HD2.out.new.1 HD2.out.new.2)
              obtain ⟨kk, hkk⟩ := HD2.out.done HLE.out (by rw [HTA.out]; exact HCH.out) (by rw [HTA.out]; exact HSR.out)
              have HKK := hide hkk
              clear hr3 hs3 hkk
              go_wp2_with fail
              refine HBY.out.mono ?_
              rintro e w4 ⟨⟨t, rfl, ht⟩, rfl⟩
              have HG := hide (show PackPost W s level (.returned (.tuple #[.string ⟨t.toArray⟩, .int .i64 0])) w3 from ⟨t, 0, rfl, .inr (.inr ⟨by omega, by omega, rfl, ts, _, kk, HTS.out, (by rw [HLL.out]; exact HKK.out), ht⟩), HB3.out⟩)
              clear ht HBY
              go_wp2
              go_ret2
              exact HG.out
          · have z512 : (512 : Int) < N := by omega
            obtain ⟨M, hM⟩ : ∃ M, N - 512 = M := ⟨_, rfl⟩
            have hM0 : 0 < M := by omega
            have bM : ((M : Int) == 0) = false := by simp; omega
            have HGT := hide (show 512 < LL.length by rw [hN]; omega)
            have HGT2 := hide (show M < N by omega)
            have HNN := hide (show LL.length - 512 = M by rw [hN]; exact hM)
            have HPL := hide (show (LL.take 512).length = 512 by rw [List.length_take, hN]; omega)
            have HLP := hide (show (LL.take 512).length ≤ 2000 by rw [HPL.out]; decide)
            have HRP := hide (show ∀ t ∈ LL.take 512, RightT t from fun t ht => HD.out.right t (List.mem_of_mem_take ht))
            have HKQ := hide (HD.out.kt.arg.take 512)
            have hs1 : ∀ w : World, (Instr.slice 27 (.slice a6 N c6) none (some (.int .i64 512)) none).run Try.prog w = .ok (.slice a6 512 c6) w := slice_to a6 N c6 512 (by omega)
            have hs2 : ∀ w : World, (Instr.slice 27 (.slice a6 N c6) (some (.int .i64 512)) none none).run Try.prog w = .ok (.slice (leftA a6 c6 512) (N - 512) (c6 - 512)) w := slice_from a6 N c6 512 (by omega)
            rw [hM] at hs2
            obtain ⟨a7, ha7⟩ : ∃ a7, leftA a6 c6 512 = a7 := ⟨_, rfl⟩
            obtain ⟨c7, hc7⟩ : ∃ c7, c6 - 512 = c7 := ⟨_, rfl⟩
            rw [ha7, hc7] at hs2
            have HA7 := hide ha7
            have HC7 := hide hc7
            clear ha7 hc7
            obtain ⟨cv, hcv⟩ : ∃ cv, covL (LL.take 512) = cv := ⟨_, rfl⟩
            have HCV := hide hcv
            have hic : i + cv ≤ s.size := by have := HD.out.sum 512; omega
            have HIC := hide hic
            have hss := text_sub s i cv hic
            have hcv9 : cv ≤ 3000 := by have := HS3.out; omega
            clear hN hcv hic hcap hM
            have HCO := hide (fun w (h : ArgT w a6 (LL.take 512)) => qcovered_any (LL.take 512) a6 512 c6 w HPL.out h HRP.out (by omega))
            have HCC := hide (fun w (h : ArgT w a6 (LL.take 512)) => qchoose_any (LL.take 512) a6 c6 (cv : Int) (bs.length : Int) w h HRP.out HLP.out (by omega) (by have := HD.out.len; omega))
            rw [HPL.out] at HCC
            obtain ⟨nb, hnb⟩ : ∃ nb, bs.length = nb := ⟨_, rfl⟩
            have HNB := hide hnb
            rw [hnb] at HCC
            have _cn := HD.out.wr.size
            rw [hnb] at _cn
            clear hnb
            go_wp2_with fail
            refine (HCO.out _ HKQ.out).mono ?_
            rintro e w1b ⟨rfl, rfl⟩
            rw [HCV.out]
            go_wp2_with fail
            refine (HCC.out _ HKQ.out).mono ?_
            rintro e w2 ⟨kd, rfl, hch, b2⟩
            have HCH := hide (show ChooseRel (LL.take 512) (covL (LL.take 512) : Int) (bs.length : Int) kd by rw [HCV.out, HNB.out]; exact hch)
            have HD2 := hide (HD.out.below b2 (HD.out.wr.below b2))
            have HKP := hide (HD2.out.kt.take 512)
            clear hch b2 HCO HCC HD HKQ
            have HCR := hide (choose_range HCH.out)
            by_cases k0 : kd = 0
            · subst k0
              have HST := hide (qstore_any P v bs (subB s i cv) false w2 HD2.out.wr (by have := HD2.out.len; have := HIC.out; omega) (by rw [subB_size s i cv HIC.out]; have := HIC.out; have := HS6.out; omega))
              go_wp2_with fail
              refine HST.out.mono ?_
              rintro e w3 ⟨rfl, v3, hr3, hs3⟩
              have HSR := hide (show StepRel s bs i (LL.take 512) 0 false (storeAll bs (subB s i cv) false) from .inl ⟨rfl, by rw [HCV.out]⟩)
              clear HST
              have HD3 := hide (HD2.out.next HS6.out HGT.out HCH.out HSR.out hr3 hs3)
              rw [HA7.out, HC7.out, HCV.out] at HD3
              clear hr3 hs3
              go_wp2
              go_roundw
              case rel => exact ⟨LL.drop 512, _, _, _, _, _, by rw [List.length_drop, HNN.out], by go_num, HD3⟩
              case measure => exact meas_len _ _ _ _ _ _ HGT2.out
            · have bk : (kd == 0) = false := by simp; exact k0
              have HWT := hide (qwrite_any (LL.take 512) a6 c6 kd false P v bs w2 HD2.out.wr (by have := HD2.out.len; have := HIC.out; omega) HKP.out HRP.out HLP.out)
              rw [HPL.out] at HWT
              go_wp2_with fail
              refine HWT.out.mono ?_
              rintro e w3 ⟨rfl, ob, v3, hb3, _, hr3, hs3⟩
              have HSR := hide (show StepRel s bs i (LL.take 512) kd false (bs ++ ob) from .inr ⟨k0, ob, hb3, rfl⟩)
              clear HWT hb3
              have HD3 := hide (HD2.out.next HS6.out HGT.out HCH.out HSR.out hr3 hs3)
              rw [HA7.out, HC7.out, HCV.out] at HD3
              clear hr3 hs3
              go_wp2
              go_roundw
              case rel => exact ⟨LL.drop 512, _, _, _, _, _, by rw [List.length_drop, HNN.out], by go_num, HD3⟩
              case measure => exact meas_len _ _ _ _ _ _ HGT2.out

end Go.Proofs.Ytaalbaiglkadlaa
