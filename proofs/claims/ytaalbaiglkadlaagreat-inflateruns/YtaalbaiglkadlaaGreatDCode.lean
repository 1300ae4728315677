/- Contracts of the code of layer 10: size, writeOne, storeAll, writeAll, Pack. -/
import Derived.Test.YtaalbaiglkadlaaGreatDSpec
import Derived.Test.YtaalbaiglkadlaaGreatDRef
import Derived.Test.YtaalbaiglkadlaaGreatMB
import Derived.Test.YtaalbaiglkadlaaGreatBCc
namespace Go.Proofs.YtaalbaiglkadlaaGreat
open Go.RowKit Go.Lib

theorem StepRel.drop {s : ByteArray} {bs : List Bool} {i : Nat} {l : List (Nat × Int × Int)} {c : Int} {last : Bool} {b1 : List Bool} (h : StepRel (dropB s i) bs 0 l c last b1) : StepRel s bs i l c last b1 := by
  rcases h with ⟨h1, h2⟩ | h
  · exact .inl ⟨h1, by rw [← dropB_sub]; exact h2⟩
  · exact .inr h
/-- Tokens that lie where no writer's cells do. -/
theorem KT.tok {w : World} {p : Nat} {a : Option Addr} {l : List (Nat × Int × Int)} (h : ArgT w a l) (hw : Wr w p (.slice none 0 0) []) : KT p (.slice none 0 0) w a l := by
  refine ⟨h, fun hne b off e => ?_⟩
  obtain ⟨t, l', rfl⟩ := List.exists_cons_of_ne_nil hne
  obtain ⟨b', off', h1, h2, _, _, h5⟩ := h 0 t rfl
  rw [e] at h1
  injection h1 with h1
  injection h1 with h1 _
  subst h1
  refine ⟨h2, fun hp => ?_, fun hv => by cases hv⟩
  subst hp
  obtain ⟨out, hw1, _⟩ := hw
  rw [cell_of_row _ _ _ _ _ (0, 0) hw1.box] at h5
  rw [Array.getElem?_eq_none (by simp)] at h5
  cases h5

set_option maxHeartbeats 2000000 in
theorem size10 (l : List (Nat × Int × Int)) (a : Option Addr) (n cap : Nat) (W : World) (hn : l.length = n) (harg : ArgT W a l) (hr : ∀ t ∈ l, RightT t) (hl : n ≤ 3000) :
    Calls Tryz.prog 33 #[.slice a n cap] W fun e w' => e = .returned (.int .i64 (covL l : Nat)) ∧ Below W.heap.size W w' := by
  have HA := hide harg
  have HN := hide hn
  have HR := hide hr
  have B0 := hide (Below.refl W.heap.size W)
  clear harg hn hr
  go_enter Tryz.func33, Tryz.ntmps33
  go_wp2
  go_loopw [3, 8] (fun sv iv wr => ∃ i S : Nat, i ≤ n ∧ S ≤ 258 * i ∧ sv = .int .i64 (S : Nat) ∧ iv = .int .i64 (i : Nat) ∧ Hid (covL (l.take i) = S) ∧ Hid (Below W.heap.size W wr)) (fun _ iv _ => n - (intOf iv).toNat)
  case atStart => exact ⟨0, 0, Nat.zero_le _, Nat.le_refl _, rfl, rfl, hide rfl, B0⟩
  case round =>
    clear B0
    obtain ⟨i, S, hi, hS, rfl, rfl, HC, BB⟩ := hrel
    by_cases hlt : i < n
    · obtain ⟨⟨b, ln, d⟩, ht⟩ : ∃ r, l[i]? = some r := ⟨_, List.getElem?_eq_getElem (by rw [HN.out]; exact hlt)⟩
      obtain ⟨x, offx, rfl, hx, hcx, hdx, hex⟩ := HA.out i _ ht
      have _c1 := (BB.out.cell (p := ⟨x, offx + i * 3, none⟩) hx).trans hcx
      have _d1 := (BB.out.cell (p := ⟨x, offx + i * 3 + 1, none⟩) hx).trans hdx
      have _e1 := (BB.out.cell (p := ⟨x, offx + i * 3 + 2, none⟩) hx).trans hex
      dsimp only at _c1 _d1 _e1
      have zi : (i : Int) < n := by omega
      have hrt := (HR.out _ (List.mem_of_getElem? ht)).2
      dsimp only at hrt
      obtain ⟨M, hM, hmx, hM2⟩ : ∃ M : Nat, covT (b, ln, d) = M ∧ max ln 1 = (M : Int) ∧ M ≤ 258 := by
        refine ⟨_, rfl, ?_, ?_⟩
        · unfold covT; dsimp only; split <;> omega
        · unfold covT; dsimp only; split
          · omega
          · have := (hrt (by omega)).1; omega
      have HTK := hide (show covL (l.take (i + 1)) = S + M by rw [take_snocT l i _ ht, covL_snoc, HC.out, hM])
      have HB2 := hide (BB.out.alloc BB.out.size (.cells #[.int .i64 ln, .int .i64 d, .int .u8 (b : Int)] 58))
      clear ht hrt hM hx hcx hdx hex HC
      go_wp2
      go_roundw
      case rel => exact ⟨i + 1, S + M, hlt, by omega, by go_num, by go_num, HTK, HB2⟩
      case measure => exact meas_oneW i n hlt
    · obtain rfl : i = n := by omega
      have HF := hide (show covL l = S by rw [← HC.out, List.take_of_length_le (by rw [HN.out]; exact Nat.le_refl _)])
      go_wp2
      go_ret
      rw [HF.out]
      exact ⟨rfl, BB.out⟩

/-- What writeOne gives. -/
def OnePost (W : World) (t : ByteArray) (l : List (Nat × Int × Int)) (last : Bool) (p : Nat) (v : Value) (bs : List Bool) (e : Ending) (w' : World) : Prop :=
  e = .returned (.string (dropB t (covL l))) ∧ ∃ c b1 v1, ChooseRel l (covL l : Int) (bs.length : Int) c ∧ StepRel t bs 0 l c last b1 ∧ Wr w' p v1 b1 ∧ Step p v v1 W w'

set_option maxHeartbeats 2000000 in
theorem one10 (t : ByteArray) (l : List (Nat × Int × Int)) (a : Option Addr) (n cap : Nat) (last : Bool) (p : Nat) (v : Value) (bs : List Bool) (W : World) (hn : l.length = n) (hw : Wr W p v bs) (hbs : bs.length ≤ 400000) (hk : KT p v W a l) (hc : a = none → cap = 0) (hr : ∀ x ∈ l, RightT x) (hl : n ≤ 2000) (hcv : covL l ≤ t.size) (ht : t.size ≤ 65535) :
    Calls Tryz.prog 17 #[.pointer (some ⟨p, 0, none⟩), .string t, .slice a n cap, .bool last] W fun e w' => OnePost W t l last p v bs e w' := by
  have HN := hide hn
  have HR := hide hr
  have HC0 := hide hc
  have HK := hide hk
  have HW := hide hw
  have H1 := hide (size10 l a n cap W hn hk.arg hr (by omega))
  obtain ⟨cv, hcv2⟩ : ∃ cv, covL l = cv := ⟨_, rfl⟩
  have HCV := hide hcv2
  rw [hcv2] at hcv
  have hs1 := text_to t cv hcv
  have hs2 := text_from t cv hcv
  have HSZ := hide (show (subB t 0 cv).size ≤ 65535 by rw [subB_size t 0 cv (by omega)]; omega)
  obtain ⟨nb, hnb⟩ : ∃ nb, bs.length = nb := ⟨_, rfl⟩
  have HNB := hide hnb
  have _cn := hw.size
  rw [hnb] at _cn hbs
  clear hn hr hc hk hw hcv2 hcv hnb ht
  go_enter Tryz.func17, Tryz.ntmps17
  go_wp2_with fail
  refine H1.out.mono ?_
  rintro e w1 ⟨rfl, b1⟩
  rw [HCV.out]
  have HW1 := hide (HW.out.below b1)
  have HK1 := hide (HK.out.step (Step.ofBelow b1))
  have HS1 := hide (Step.ofBelow (p := p) (v := v) b1)
  have _cn1 := HW1.out.size
  rw [HNB.out] at _cn1
  have H2 := hide (bspec.choose l a cap (cv : Int) (nb : Int) w1 HK1.out.arg HC0.out HR.out (by rw [HN.out]; exact hl) (by omega) (by omega))
  rw [HN.out] at H2
  clear b1 H1 HW HK _cn
  go_wp2_with fail
  refine H2.out.mono ?_
  rintro e w2 ⟨kd, rfl, hch, b2⟩
  have HCH := hide (show ChooseRel l (covL l : Int) (bs.length : Int) kd by rw [HCV.out, HNB.out]; exact hch)
  have HW2 := hide (HW1.out.below b2)
  have HK2 := hide (HK1.out.step (Step.ofBelow b2))
  have HS2 := hide (HS1.out.trans (Step.ofBelow b2))
  clear hch b2 H2 HW1 HK1 HS1 _cn1
  by_cases k0 : kd = 0
  · subst k0
    have H3 := hide (bspec.store p v bs (subB t 0 cv) last w2 HW2.out (by rw [HNB.out]; omega) HSZ.out)
    go_wp2_with fail
    refine H3.out.mono ?_
    rintro e w3 ⟨rfl, v3, hr3, hs3⟩
    have HG := hide (show OnePost W t l last p v bs (.returned (.string (dropB t cv))) w3 from ⟨by rw [HCV.out], 0, _, v3, HCH.out, .inl ⟨rfl, by rw [HCV.out]⟩, hr3, HS2.out.trans hs3⟩)
    clear hr3 hs3 H3
    go_wp2
    go_ret
    exact HG.out
  · have bk : (kd == 0) = false := by simp; exact k0
    have H3 := hide (bspec.write l a cap kd last p v bs w2 HW2.out (by rw [HNB.out]; omega) HK2.out HC0.out HR.out (by rw [HN.out]; exact hl))
    rw [HN.out] at H3
    go_wp2_with fail
    refine H3.out.mono ?_
    rintro e w3 ⟨rfl, ob, v3, hb3, _, hr3, hs3⟩
    have HG := hide (show OnePost W t l last p v bs (.returned (.string (dropB t cv))) w3 from ⟨by rw [HCV.out], kd, _, v3, HCH.out, .inr ⟨k0, ob, hb3, rfl⟩, hr3, HS2.out.trans hs3⟩)
    clear hr3 hs3 H3
    go_wp2
    go_ret
    exact HG.out

set_option maxHeartbeats 2000000 in
theorem store10 (t : ByteArray) (p : Nat) (v : Value) (bs : List Bool) (W : World) (hw : Wr W p v bs) (hbs : bs.length ≤ 500000) (ht : t.size ≤ 65535) :
    Calls Tryz.prog 9 #[.pointer (some ⟨p, 0, none⟩), .string t] W fun e w' => e = .returned (.tuple #[]) ∧ ∃ v', Wr w' p v' (storeAll bs t true) ∧ Step p v v' W w' := by
  have H1 := hide (bspec.store p v bs t true W hw hbs ht)
  obtain ⟨n, hn⟩ : ∃ n, t.size = n := ⟨_, rfl⟩
  have zn : ((t.size : Nat) : Int) = (n : Int) := by omega
  have zl : ¬ (65535 : Int) < (n : Int) := by omega
  clear hw hbs hn
  go_enter Tryz.func9, Tryz.ntmps9
  go_wp2
  go_loopw [1] (fun sv wr => sv = .string t ∧ Hid (wr = W)) (fun _ _ => 0)
  case atStart => exact ⟨rfl, hide rfl⟩
  case round =>
    obtain ⟨rfl, HE⟩ := hrel
    have H2 := hide (show Calls Tryz.prog 16 #[.pointer (some ⟨p, 0, none⟩), .string t, .bool true] wr fun e w' => e = .returned (.tuple #[]) ∧ ∃ v', Wr w' p v' (storeAll bs t true) ∧ Step p v v' W w' by rw [HE.out]; exact H1.out)
    clear H1
    go_wp2_with fail
    refine H2.out.mono ?_
    rintro e w3 ⟨rfl, v3, hr3, hs3⟩
    have HG := hide (show ∃ v', Wr w3 p v' (storeAll bs t true) ∧ Step p v v' W w3 from ⟨v3, hr3, hs3⟩)
    clear hr3 hs3 H2
    go_wp2
    go_end0
    exact ⟨rfl, HG.out⟩

/-- What writeAll gives. -/
def AllPost (W : World) (s : ByteArray) (L : List (Nat × Int × Int)) (p : Nat) (e : Ending) (w' : World) : Prop :=
  e = .returned (.tuple #[]) ∧ ∃ bits v' k, Wr w' p v' bits ∧ Blocks s k [] 0 L bits ∧ Below W.heap.size W w'

set_option maxHeartbeats 2000000 in
theorem all10 (s : ByteArray) (L : List (Nat × Int × Int)) (a : Option Addr) (n c : Nat) (p : Nat) (v : Value) (w W : World) (hn : L.length = n) (hd : DW Wr w W s L p v a c L 0 []) (hs : s.size ≤ 3000) :
    Calls Tryz.prog 10 #[.pointer (some ⟨p, 0, none⟩), .string s, .slice a n c] w fun e w' => AllPost W s L p e w' := by
  have HS3 := hide hs
  have HD0 := hide (hd)
  have HN0 := hide hn
  have HZ := hide (dropB_zero s)
  clear hd hs hn
  go_enter Tryz.func10, Tryz.ntmps10
  go_wp2
  go_loopw [1, 2] (fun sv lv wr => ∃ LL a6 c6 i bs v6, sv = .string (dropB s i) ∧ lv = .slice a6 (LL : List (Nat × Int × Int)).length c6 ∧ Hid (DW Wr wr W s L p v6 a6 c6 LL i bs)) (fun _ lv _ => lenV lv)
  case atStart => exact ⟨L, a, c, 0, [], v, by rw [HZ.out], by rw [HN0.out], HD0⟩
  case round =>
    clear HD0 HN0 HZ
    obtain ⟨LL, a6, c6, i, bs, v6, rfl, rfl, HD⟩ := hrel
    obtain ⟨N, hN⟩ : ∃ N, LL.length = N := ⟨_, rfl⟩
    rw [hN]
    have HN := hide hN
    have hcap : N ≤ c6 := by rw [← hN]; exact HD.out.cap
    have HI := hide (show i + covL LL = s.size from HD.out.cov)
    have HBL := hide (show bs.length ≤ 150000 by have := HD.out.len; have := HI.out; have := HS3.out; omega)
    by_cases h512 : N ≤ 512
    · have z512 : ¬ (512 : Int) < (N : Int) := by omega
      have HLE := hide (show LL.length ≤ 512 by rw [hN]; exact h512)
      have HTA := hide (show LL.take 512 = LL from List.take_of_length_le HLE.out)
      have HO := hide (one10 (dropB s i) LL a6 N c6 true p v6 bs wr hN HD.out.wr (by have := HBL.out; omega) HD.out.kt HD.out.nil HD.out.right (by omega) (by rw [dropB_size]; have := HI.out; omega) (by rw [dropB_size]; have := HS3.out; omega))
      clear hN hcap
      go_wp2_with fail
      refine HO.out.mono ?_
      rintro e w3 ⟨rfl, kd, b1, v3, hch, hsr, hr3, hs3⟩
      have HB3 := hide (hs3.new HD.out.bel HD.out.new.1 HD.out.new.2)
      obtain ⟨kk, hkk⟩ := HD.out.done HLE.out (by rw [HTA.out]; exact hch) (by rw [HTA.out]; exact hsr.drop)
      have HG := hide (show AllPost W s L p (.returned (.tuple #[])) w3 from ⟨rfl, b1, v3, kk, hr3, hkk, HB3.out⟩)
      clear hch hsr hr3 hs3 hkk HO
      go_wp2
      go_end0
      exact HG.out
    · have z512 : (512 : Int) < (N : Int) := by omega
      obtain ⟨M, hM⟩ : ∃ M, N - 512 = M := ⟨_, rfl⟩
      have HGT := hide (show 512 < LL.length by rw [hN]; omega)
      have HGT2 := hide (show M < N by omega)
      have HNN := hide (show LL.length - 512 = M by rw [hN]; exact hM)
      have HPL := hide (show (LL.take 512).length = 512 by rw [List.length_take, hN]; omega)
      have hs1 : ∀ w : World, (Instr.slice 38 (.slice a6 N c6) none (some (.int .i64 512)) none).run Tryz.prog w = .ok (.slice a6 512 c6) w := slice_to a6 N c6 512 (by omega)
      have hs2 : ∀ w : World, (Instr.slice 38 (.slice a6 N c6) (some (.int .i64 512)) none none).run Tryz.prog w = .ok (.slice (leftA a6 c6 512) (N - 512) (c6 - 512)) w := slice_from a6 N c6 512 (by omega)
      rw [hM] at hs2
      obtain ⟨a7, ha7⟩ : ∃ a7, leftA a6 c6 512 = a7 := ⟨_, rfl⟩
      obtain ⟨c7, hc7⟩ : ∃ c7, c6 - 512 = c7 := ⟨_, rfl⟩
      rw [ha7, hc7] at hs2
      have HA7 := hide ha7
      have HC7 := hide hc7
      clear ha7 hc7
      have HSUM := hide (HD.out.sum 512)
      have HO := hide (one10 (dropB s i) (LL.take 512) a6 512 c6 false p v6 bs wr HPL.out HD.out.wr (by have := HBL.out; omega) (HD.out.kt.take 512) HD.out.nil (fun x hx => HD.out.right x (List.mem_of_mem_take hx)) (by omega) (by rw [dropB_size]; have := HSUM.out; omega) (by rw [dropB_size]; have := HS3.out; omega))
      obtain ⟨cv, hcv⟩ : ∃ cv, covL (LL.take 512) = cv := ⟨_, rfl⟩
      have HCV := hide hcv
      clear hN hcap hM hcv
      go_wp2_with fail
      refine HO.out.mono ?_
      rintro e w3 ⟨rfl, kd, b1, v3, hch, hsr, hr3, hs3⟩
      rw [HCV.out, dropB_drop]
      have HD3 := hide (HD.out.next (by have := HS3.out; omega) HGT.out hch hsr.drop hr3 hs3)
      rw [HA7.out, HC7.out, HCV.out] at HD3
      clear hch hsr hr3 hs3 HO
      go_wp2
      go_roundw
      case rel => exact ⟨LL.drop 512, _, _, _, _, _, rfl, by rw [List.length_drop, HNN.out], HD3⟩
      case measure => exact meas_len _ _ _ _ _ _ HGT2.out

set_option maxRecDepth 20000 in
set_option maxHeartbeats 2000000 in
theorem pack10_any (s : ByteArray) (level : Int) (W : World) (hs : s.size ≤ 3000) :
    Calls Tryz.prog 7 #[.string s, .int .i64 level] W fun e w' => PackPost W s level e w' := by
  by_cases h0 : level < 0
  · have HG := hide (show PackPost W s level (.returned (.tuple #[.string ⟨#[]⟩, .int .i64 1])) W from ⟨[], 1, rfl, .inl ⟨.inl h0, rfl, rfl⟩, Below.refl _ _⟩)
    go_enter Tryz.func7, Tryz.ntmps7
    go_wp2
    go_ret2
    exact HG.out
  · have d0 : decide (level < 0) = false := decide_eq_false h0
    by_cases h9 : 9 < level
    · have d9 : decide (9 < level) = true := decide_eq_true h9
      have HG := hide (show PackPost W s level (.returned (.tuple #[.string ⟨#[]⟩, .int .i64 1])) W from ⟨[], 1, rfl, .inl ⟨.inr h9, rfl, rfl⟩, Below.refl _ _⟩)
      go_enter Tryz.func7, Tryz.ntmps7
      go_wp2
      go_ret2
      exact HG.out
    · have d9 : decide (9 < level) = false := decide_eq_false h9
      have HW0 := hide (new_wr W)
      have HB0 := hide ((Below.refl _ W).alloc (Nat.le_refl _) (.cells #[.slice none 0 0, .int .i64 0] 35))
      have HP0 := hide (Nat.le_refl W.heap.size)
      by_cases hz : level = 0
      · subst hz
        have H1 := hide (fun w h => store10 s W.heap.size (.slice none 0 0) [] w h (by decide) (by omega))
        generalize hP : W.heap.size = P at H1 HW0
        have HP := hide hP
        clear hP
        go_enter Tryz.func7, Tryz.ntmps7
        go_wp2_with fail
        rw [HP.out]
        refine (H1.out _ HW0.out).mono ?_
        rintro e w1 ⟨rfl, v1, hr1, hs1⟩
        have HBY := hide (wbytes_any _ _ _ _ hr1)
        have HB3 := hide (hs1.new HB0.out (by rw [HP.out]; exact Nat.le_refl _) (fun k hk => by cases hk))
        clear hr1 hs1 H1
        go_wp2_with fail
        refine HBY.out.mono ?_
        rintro e w2 ⟨⟨t, rfl, ht⟩, rfl⟩
        have HG := hide (show PackPost W s 0 (.returned (.tuple #[.string ⟨t.toArray⟩, .int .i64 0])) w1 from ⟨t, 0, rfl, .inr (.inl ⟨rfl, ht, rfl⟩), HB3.out⟩)
        clear ht HBY
        go_wp2
        go_ret2
        exact HG.out
      · have bz : (level == 0) = false := by simp; exact hz
        have HT := hide (fun w => tokens_cap s level w (by omega))
        have HS3 := hide hs
        generalize hP : W.heap.size = P at HW0
        have HP := hide hP
        clear hP
        go_enter Tryz.func7, Tryz.ntmps7
        go_wp2_with fail
        refine (HT.out _).mono ?_
        rintro e w1 ⟨a1, c1, ts, rfl, htk, ha1, hn1, b1, hcp⟩
        rw [HP.out]
        have HTS := hide htk
        have HW1 := hide (HW0.out.below b1)
        have HB1 := hide (HB0.out.trans (b1.mono HB0.out.size))
        have HD0 := hide (show DW Wr w1 W s (ts.map castT) P (.slice none 0 0) a1 c1 (ts.map castT) 0 [] from
          ⟨HW1.out, KT.tok ha1 HW1.out, HB1.out, ⟨by rw [HP.out]; exact Nat.le_refl _, fun k hk => by cases hk⟩, fun k out h => ⟨k, h⟩, toks_cov s level ts 0 htk, Nat.le_refl _, toks_right s level ts 0 htk, by rw [List.length_map]; exact hcp, hn1⟩)
        have HA := hide (all10 s (ts.map castT) a1 ts.length c1 P (.slice none 0 0) w1 W (List.length_map ..) HD0.out HS3.out)
        clear htk ha1 hn1 b1 hcp HT
        go_wp2_with fail
        refine HA.out.mono ?_
        rintro e w2 ⟨rfl, bits, v2, k, hr2, hk2, hb2⟩
        have HBY := hide (wbytes_any _ _ _ _ hr2)
        have HB3 := hide hb2
        have HKK := hide hk2
        clear hr2 hb2 hk2 HA
        go_wp2_with fail
        refine HBY.out.mono ?_
        rintro e w4 ⟨⟨t, rfl, ht⟩, rfl⟩
        have HG := hide (show PackPost W s level (.returned (.tuple #[.string ⟨t.toArray⟩, .int .i64 0])) w2 from ⟨t, 0, rfl, .inr (.inr ⟨by omega, by omega, rfl, ts, bits, k, HTS.out, HKK.out, ht⟩), HB3.out⟩)
        clear ht HBY
        go_wp2
        go_ret2
        exact HG.out

theorem dspec : DSpec := ⟨fun s level W hs => pack10_any s level W hs⟩

end Go.Proofs.YtaalbaiglkadlaaGreat
