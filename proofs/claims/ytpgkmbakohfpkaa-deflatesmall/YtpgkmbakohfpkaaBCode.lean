/- Contracts of the code of layer 9: Store, Size, Choose; all of them in one. -/
import Derived.Test.YtpgkmbakohfpkaaBCodeJ
namespace Go.Proofs.Ytpgkmbakohfpkaa
open Go.RowKit Go.Lib

set_option maxHeartbeats 2000000 in
theorem store9 (p : Nat) (v : Value) (bs : List Bool) (s : ByteArray) (last : Bool) (W : World) (h : Wr W p v bs) (hbs : bs.length ≤ 500000) (hs : s.size ≤ 65535) :
    Calls Try.prog 11 #[.pointer (some ⟨p, 0, none⟩), .string s, .bool last] W fun e w' => e = .returned (.tuple #[]) ∧ ∃ v', Wr w' p v' (storeAll bs s last) ∧ Step p v v' W w' := by
  obtain ⟨n, hn⟩ : ∃ n, s.size = n := ⟨_, rfl⟩
  have HN := hide hn
  have zn : ((s.size : Nat) : Int) = (n : Int) := by omega
  have H1 := hide (begin9 p v bs 0 last W h (by omega))
  rw [hn] at hs
  clear h hn
  go_enter Try.func11, Try.ntmps11
  go_wp2_with fail
  refine H1.out.mono ?_
  rintro e w2 ⟨rfl, v2, hr2, hs2⟩
  have HS2 := hide hs2
  have H3 := hide (walign_any p v2 _ w2 hr2 (by rw [List.length_append, List.length_append, List.length_singleton, lowBits_length]; omega))
  clear hr2 hs2 H1
  go_wp2_with fail
  refine H3.out.mono ?_
  rintro e w3 ⟨rfl, hr3, ho3⟩
  have HS3 := hide (HS2.out.trans (Step.ofOnly (v := v2) ho3))
  have hl3 : (alignBits (bs ++ [last] ++ lowBits 0 2)).length ≤ 1000100 := by rw [alignBits_length, List.length_append, List.length_append, List.length_singleton, lowBits_length]; omega
  have H4 := hide (wput_any p v2 _ (n : Int) 16 w3 16 rfl hr3 (by omega))
  clear hr3 ho3 H3 HS2
  go_wp2_with fail
  refine H4.out.mono ?_
  rintro e w4 ⟨rfl, v4, hr4, hs4⟩
  have HS4 := hide (HS3.out.trans hs4)
  have H5 := hide (wput_any p v4 _ (65535 - (n : Int)) 16 w4 16 rfl hr4 (by rw [List.length_append, lowBits_length]; omega))
  clear hr4 hs4 H4 HS3
  go_wp2_with fail
  refine H5.out.mono ?_
  rintro e w5 ⟨rfl, v5, hr5, hs5⟩
  have HS5 := hide (HS4.out.trans hs5)
  have H6 := hide (wtext_any p v5 _ s w5 hr5 (by rw [List.length_append, List.length_append, lowBits_length, lowBits_length]; omega) (by rw [HN.out]; omega))
  clear hr5 hs5 H5 HS4
  go_wp2_with fail
  refine H6.out.mono ?_
  rintro e w6 ⟨rfl, v6, hr6, hs6⟩
  have HR6 := hide hr6
  have HS6 := hide (HS5.out.trans hs6)
  clear hr6 hs6 H6 HS5
  go_wp2
  go_end0
  refine ⟨rfl, v6, ?_, HS6.out⟩
  unfold storeAll
  rw [HN.out]
  exact HR6.out

/-- What Size gives. -/
def SizePost (W : World) (l : List (Nat × Int × Int)) (raw kind k : Int) (e : Ending) (w' : World) : Prop := ∃ z, e = .returned (.int .i64 z) ∧ SizeRel l raw kind k z ∧ Below W.heap.size W w'

set_option maxHeartbeats 4000000 in
theorem size9_raw (l : List (Nat × Int × Int)) (a : Option Addr) (n cap : Nat) (raw k : Int) (W : World) (h1 : 0 ≤ k) (h2 : k ≤ 1099511627776) :
    Calls Try.prog 28 #[.slice a n cap, .int .i64 raw, .int .i64 0, .int .i64 k] W fun e w' => SizePost W l raw 0 k e w' := by
  have H1 := hide (stored9 raw k W h1 h2)
  have HG := hide (show SizePost W l raw 0 k (.returned (.int .i64 (rawSize raw k))) W from ⟨_, rfl, .inl ⟨rfl, rfl⟩, Below.refl _ _⟩)
  generalize rawSize raw k = z at *
  clear h1 h2
  go_enter Try.func28, Try.ntmps28
  go_wp2_with fail
  refine H1.out.mono ?_
  rintro e w2 ⟨rfl, rfl⟩
  go_wp2
  go_ret
  exact HG.out

set_option maxHeartbeats 4000000 in
theorem size9_plain (l : List (Nat × Int × Int)) (a : Option Addr) (n cap : Nat) (raw k : Int) (W : World) (hn : l.length = n) (harg : ArgT W a l) (hr : ∀ t ∈ l, RightT t) (hl : n ≤ 2000) :
    Calls Try.prog 28 #[.slice a n cap, .int .i64 raw, .int .i64 1, .int .i64 k] W fun e w' => SizePost W l raw 1 k e w' := by
  have HN := hide hn
  have HR := hide hr
  have HOK := hide (plain_ok l hr)
  have H1 := hide (weights9 l a cap W harg hr (by omega))
  rw [hn] at H1
  clear hn hr harg
  go_enter Try.func28, Try.ntmps28
  go_wp2_with fail
  refine H1.out.mono ?_
  rintro e w1 ⟨a1, c1, b1, d1, rfl, hA, hB, _, _, hb1, _, _⟩
  have HA := hide hA
  have HB := hide hB
  have HB1 := hide hb1
  have H2 := hide (plain9 w1)
  simp only [litWs_length, distWs_length]
  clear hA hB hb1 H1
  go_wp2_with fail
  refine H2.out.mono ?_
  rintro e w2 ⟨a2, c2, b2, d2, rfl, hA2, hB2, _, _, hb2, _, _⟩
  have HB2 := hide (HB1.out.trans (hb2.mono HB1.out.size))
  have H3 := hide (toksize9 l plainL plainD a1 b1 a2 b2 c1 d1 c2 d2 288 32 w2 (HA.out.below hb2 (Nat.le_refl _)) (HB.out.below hb2 (Nat.le_refl _)) hA2 hB2 plainL_length plainD_length HOK.out.ma.each HOK.out.mb.each (by rw [HN.out]; exact hl) HR.out (by omega) (by omega))
  have hbl := body_le HOK.out (by rw [HN.out]; exact hl)
  have HG := hide (fun w' (b : Below W.heap.size W w') => (show SizePost W l raw 1 k (.returned (.int .i64 (3 + ((bodyBits plainL plainD l).length : Nat)))) w' from
    ⟨_, rfl, .inr ⟨by decide, [false] ++ (lowBits 1 2 ++ bodyBits plainL plainD l), .inr ⟨by decide, rfl⟩, by rw [List.length_append, List.length_append, lowBits_length, List.length_singleton]; omega, by rw [List.length_append, List.length_append, lowBits_length, List.length_singleton]; omega⟩, b⟩))
  simp only [plainL_length, plainD_length]
  generalize (bodyBits plainL plainD l).length = Z at *
  clear hA2 hB2 hb2 H2
  go_wp2_with fail
  refine H3.out.mono ?_
  rintro e w3 ⟨rfl, b3⟩
  have HB3 := hide (HB2.out.trans (b3.mono HB2.out.size))
  clear b3
  go_wp2
  go_ret
  exact HG.out _ HB3.out

set_option maxHeartbeats 4000000 in
theorem size9_own (l : List (Nat × Int × Int)) (a : Option Addr) (n cap : Nat) (raw k : Int) (W : World) (hn : l.length = n) (harg : ArgT W a l) (hr : ∀ t ∈ l, RightT t) (hl : n ≤ 2000) :
    Calls Try.prog 28 #[.slice a n cap, .int .i64 raw, .int .i64 2, .int .i64 k] W fun e w' => SizePost W l raw 2 k e w' := by
  have HN := hide hn
  have HR := hide hr
  have HOK := hide (own_ok l hr (by omega))
  have hlo := ownLit_len l
  have hdo := ownDist_len l
  have H1 := hide (weights9 l a cap W harg hr (by omega))
  rw [hn] at H1
  clear hn hr harg
  obtain ⟨nl, hnl⟩ : ∃ nl, (ownLit l).length = nl := ⟨_, rfl⟩
  obtain ⟨nd, hnd⟩ : ∃ nd, (ownDist l).length = nd := ⟨_, rfl⟩
  have HNL := hide hnl
  have HND := hide hnd
  rw [hnl] at hlo
  rw [hnd] at hdo
  obtain ⟨hlo1, hlo2⟩ := hlo
  obtain ⟨hdo1, hdo2⟩ := hdo
  clear hnl hnd
  go_enter Try.func28, Try.ntmps28
  go_wp2_with fail
  refine H1.out.mono ?_
  rintro e w1 ⟨a1, c1, b1, d1, rfl, hA, hB, hz1, hz2, hb1, _, _⟩
  have HA := hide hA
  have HB := hide hB
  have HB1 := hide hb1
  have H2 := hide (fitted9 l a1 b1 c1 d1 w1 hA hB hz1 hz2 (by rw [HN.out]; exact hl))
  simp only [litWs_length, distWs_length]
  clear hA hB hb1 H1 hz1 hz2
  go_wp2_with fail
  refine H2.out.mono ?_
  rintro e w2 ⟨a2, c2, b2, d2, rfl, hA2, hB2, _, _, hb2, _, _⟩
  have HB2 := hide (HB1.out.trans (hb2.mono HB1.out.size))
  have HA2 := hide hA2
  have HBB2 := hide hB2
  have HA12 := hide (HA.out.below hb2 (Nat.le_refl _))
  have HB12 := hide (HB.out.below hb2 (Nat.le_refl _))
  simp only [HNL.out, HND.out]
  have HHD := hide (headed9 (ownLit l) (ownDist l) a2 b2 nl nd c2 d2 w2 HNL.out HND.out hA2 hB2 hlo1 hlo2 hdo1 hdo2)
  clear hA2 hB2 hb2 H2 HA HB
  go_wp2_with fail
  refine HHD.out.mono ?_
  rintro e w3 ⟨rs, hl9, gt, ct, gf, cf, gl, cl, rfl, hrs, hlim, hgt, ngt, hgf, ngf, hgl, ngl, b3⟩
  obtain ⟨hmk7, hll, hl7⟩ := halfJ_short15 hlim (by omega)
  rw [runWs_length] at hll
  have hrl := hrs.length
  rw [List.length_map, List.length_append, HNL.out, HND.out] at hrl
  have HHS := hide (headsize9 nl nd (ordN hl9 19) ct rs.length cf cl rs hl9 gt gf gl w3 hgf hgl rfl rfl (foldRes_ok hrs) (by omega) hll (fun z hz => hmk7.each z hz))
  have HREL := hide (show HeadRel (ownLit l) (ownDist l) (headBits nl nd rs hl9) from ⟨rs, hl9, hrs, hlim, by rw [HNL.out, HND.out]⟩)
  have hhl := headRel_le HREL.out (by rw [List.length_append, HNL.out, HND.out]; omega)
  have hbl := body_le HOK.out (by rw [HN.out]; exact hl)
  have HG := hide (fun w' (b : Below W.heap.size W w') => (show SizePost W l raw 2 k (.returned (.int .i64 (3 + ((headBits nl nd rs hl9).length : Nat) + ((bodyBits (ownLit l) (ownDist l) l).length : Nat)))) w' from
    ⟨_, rfl, .inr ⟨by decide, [false] ++ (lowBits 2 2 ++ (headBits nl nd rs hl9 ++ bodyBits (ownLit l) (ownDist l) l)), .inl ⟨rfl, _, HREL.out, rfl⟩, by rw [List.length_append, List.length_append, List.length_append, lowBits_length, List.length_singleton]; omega, by rw [List.length_append, List.length_append, List.length_append, lowBits_length, List.length_singleton]; omega⟩, b⟩))
  have HB3 := hide (HB2.out.trans (b3.mono HB2.out.size))
  have HT := hide (fun w' (b : Below w2.heap.size w2 w') => toksize9 l (ownLit l) (ownDist l) a1 b1 a2 b2 c1 d1 c2 d2 nl nd w' (HA12.out.below b (Nat.le_refl _)) (HB12.out.below b (Nat.le_refl _)) (HA2.out.below b (Nat.le_refl _)) (HBB2.out.below b (Nat.le_refl _)) HNL.out HND.out HOK.out.ma.each HOK.out.mb.each (by rw [HN.out]; exact hl) HR.out (by omega) (by omega))
  have HB23 := hide b3
  generalize (headBits nl nd rs hl9).length = Z1 at *
  generalize (bodyBits (ownLit l) (ownDist l) l).length = Z2 at *
  clear hrs hlim hgt ngt hgf ngf hgl ngl b3 hmk7 hll hl7 hrl HHD HREL HA12 HB12 HA2 HBB2
  go_wp2_with fail
  refine HHS.out.mono ?_
  rintro e w4 ⟨rfl, b4⟩
  have HB4 := hide (HB3.out.trans (b4.mono HB3.out.size))
  have H5 := hide (HT.out w4 (HB23.out.trans (b4.mono HB23.out.size)))
  clear b4 HT HHS
  go_wp2_with fail
  refine H5.out.mono ?_
  rintro e w5 ⟨rfl, b5⟩
  have HB5 := hide (HB4.out.trans (b5.mono HB4.out.size))
  clear b5
  go_wp2
  go_ret
  exact HG.out _ HB5.out

theorem size9 (l : List (Nat × Int × Int)) (a : Option Addr) (cap : Nat) (raw kind k : Int) (W : World) (harg : ArgT W a l) (hr : ∀ t ∈ l, RightT t) (hl : l.length ≤ 2000) (h1 : 0 ≤ k) (h2 : k ≤ 1099511627776) (h3 : 0 ≤ kind) (h4 : kind ≤ 2) :
    Calls Try.prog 28 #[.slice a l.length cap, .int .i64 raw, .int .i64 kind, .int .i64 k] W fun e w' => SizePost W l raw kind k e w' := by
  have hc : kind = 0 ∨ kind = 1 ∨ kind = 2 := by omega
  rcases hc with rfl | rfl | rfl
  · exact size9_raw l a l.length cap raw k W h1 h2
  · exact size9_plain l a l.length cap raw k W rfl harg hr hl
  · exact size9_own l a l.length cap raw k W rfl harg hr hl

/-- What Choose gives. -/
def ChoosePost (W : World) (l : List (Nat × Int × Int)) (raw k : Int) (e : Ending) (w' : World) : Prop := ∃ c, e = .returned (.int .i64 c) ∧ ChooseRel l raw k c ∧ Below W.heap.size W w'
theorem size_low {l : List (Nat × Int × Int)} {raw kind k z : Int} (h : SizeRel l raw kind k z) (hk : kind ≠ 0) : 0 ≤ z := by
  rcases h with ⟨h1, _⟩ | ⟨_, ob, _, _, rfl⟩
  · exact absurd h1 hk
  · omega

theorem idx_two (x y z : Int) (k : Nat) (hk : k < 2) (hx : [Value.int .i64 x, Value.int .i64 y][k]? = some (.int .i64 z)) (w : World) : (Instr.index 61 (.agg #[.int .i64 x, .int .i64 y]) (.int .i64 (k : Nat))).run Try.prog w = .ok (.int .i64 z) w := by
  obtain ⟨i1, ki, kz0, kz1, kz2⟩ := info_parts Try.infoInt
  have h := run_part_plain (P := Try.prog) (w := w) Try.plainInt (xs := #[Value.int .i64 x, Value.int .i64 y]) (off := k) (v := .int .i64 z) (by simpa using hx)
  simp [Instr.index, asIntOf, run_underlying Try.underlying61, sizeOf, typeInfo, ki, kz1, h]
  intro h3
  omega
set_option maxRecDepth 20000 in
set_option maxHeartbeats 4000000 in
theorem choose9 (l : List (Nat × Int × Int)) (a : Option Addr) (cap : Nat) (raw k : Int) (W : World) (harg : ArgT W a l) (hr : ∀ t ∈ l, RightT t) (hl : l.length ≤ 2000) (hk1 : 0 ≤ k) (hk2 : k ≤ 1099511627776) :
    Calls Try.prog 22 #[.slice a l.length cap, .int .i64 raw, .int .i64 k] W fun e w' => ChoosePost W l raw k e w' := by
  have HSZ := hide (fun w kind (h : ArgT w a l) (h3 : 0 ≤ kind) (h4 : kind ≤ 2) => size9 l a cap raw kind k w h hr hl hk1 hk2 h3 h4)
  have HA := hide harg
  generalize l.length = n at *
  clear harg hr hl hk1 hk2
  have H0 := hide (HSZ.out W 0 HA.out (by decide) (by decide))
  have hi0 : ∀ w, (Instr.index 61 (.agg #[.int .i64 1, .int .i64 2]) (.int .i64 0)).run Try.prog w = .ok (.int .i64 1) w := idx_two 1 2 1 0 (by decide) rfl
  have hi1 : ∀ w, (Instr.index 61 (.agg #[.int .i64 1, .int .i64 2]) (.int .i64 1)).run Try.prog w = .ok (.int .i64 2) w := idx_two 1 2 2 1 (by decide) rfl
  go_enter Try.func22, Try.ntmps22
  go_wp2_with fail
  refine H0.out.mono ?_
  rintro e w1 ⟨r, rfl, hr0, b1⟩
  have hrr := hr0.range
  have HRR := hide hr0
  have B1 := hide b1
  have HA1 := hide (HA.out.below b1 (Nat.le_refl _))
  have H1 := hide (HSZ.out w1 1 HA1.out (by decide) (by decide))
  obtain ⟨hr1, hr2⟩ := hrr
  clear hr0 b1 H0
  go_wp2
  refine wp_loop_rounds 3 ?_
  rw [rounds_succ]
  go_wp2_with fail
  refine H1.out.mono ?_
  rintro e w2 ⟨f, rfl, hf, b2⟩
  have hfr := hf.range
  have hf0 := size_low hf (by decide)
  have HF := hide hf
  have B2 := hide (B1.out.trans (b2.mono B1.out.size))
  have HA2 := hide (HA1.out.below b2 (Nat.le_refl _))
  have H2 := hide (HSZ.out w2 2 HA2.out (by decide) (by decide))
  obtain ⟨hf1, hf2⟩ := hfr
  clear hf b2 H1
  by_cases h1 : r < 0
  · have hn : ¬ (0 ≤ r ∧ r ≤ f) := fun g => by have := g.1; omega
    have HN := hide hn
    clear hn
    go_wp2
    rw [rounds_succ]
    go_wp2_with fail
    refine H2.out.mono ?_
    rintro e w3 ⟨d, rfl, hd, b3⟩
    have hdr := hd.range
    have HD := hide hd
    have B3 := hide (B2.out.trans (b3.mono B2.out.size))
    obtain ⟨hd1, hd2⟩ := hdr
    clear hd b3 H2
    by_cases h3 : d < f
    · have HX := hide (choose_fix2 HN.out h3)
      have HG := hide (show ChoosePost W l raw k (.returned (.int .i64 2)) w3 from ⟨2, rfl, ⟨f, r, d, HF.out, HRR.out, HD.out, HX.out⟩, B3.out⟩)
      have d3 : decide (d < f) = true := decide_eq_true h3
      have dn : decide (f < 0) = false := decide_eq_false (by omega)
      clear HX
      go_wp2
      rw [rounds_succ]
      go_wp2
      go_ret
      exact HG.out
    · have HX := hide (choose_fix1 HN.out h3)
      have HG := hide (show ChoosePost W l raw k (.returned (.int .i64 1)) w3 from ⟨1, rfl, ⟨f, r, d, HF.out, HRR.out, HD.out, HX.out⟩, B3.out⟩)
      have d3 : decide (d < f) = false := decide_eq_false h3
      have dn : decide (f < 0) = false := decide_eq_false (by omega)
      clear HX
      go_wp2
      rw [rounds_succ]
      go_wp2
      go_ret
      exact HG.out
  · have d1 : decide (r < 0) = false := decide_eq_false h1
    by_cases h2 : f < r
    · have d2 : decide (f < r) = true := decide_eq_true h2
      have hn : ¬ (0 ≤ r ∧ r ≤ f) := fun g => by have := g.2; omega
      have HN := hide hn
      clear hn
      go_wp2
      rw [rounds_succ]
      go_wp2_with fail
      refine H2.out.mono ?_
      rintro e w3 ⟨d, rfl, hd, b3⟩
      have hdr := hd.range
      have HD := hide hd
      have B3 := hide (B2.out.trans (b3.mono B2.out.size))
      obtain ⟨hd1, hd2⟩ := hdr
      clear hd b3 H2
      by_cases h3 : d < f
      · have HX := hide (choose_fix2 HN.out h3)
        have HG := hide (show ChoosePost W l raw k (.returned (.int .i64 2)) w3 from ⟨2, rfl, ⟨f, r, d, HF.out, HRR.out, HD.out, HX.out⟩, B3.out⟩)
        have d3 : decide (d < f) = true := decide_eq_true h3
        have dn : decide (f < 0) = false := decide_eq_false (by omega)
        clear HX
        go_wp2
        rw [rounds_succ]
        go_wp2
        go_ret
        exact HG.out
      · have HX := hide (choose_fix1 HN.out h3)
        have HG := hide (show ChoosePost W l raw k (.returned (.int .i64 1)) w3 from ⟨1, rfl, ⟨f, r, d, HF.out, HRR.out, HD.out, HX.out⟩, B3.out⟩)
        have d3 : decide (d < f) = false := decide_eq_false h3
        have dn : decide (f < 0) = false := decide_eq_false (by omega)
        clear HX
        go_wp2
        rw [rounds_succ]
        go_wp2
        go_ret
        exact HG.out
    · have d2 : decide (f < r) = false := decide_eq_false h2
      have hp : 0 ≤ r ∧ r ≤ f := by omega
      have HN := hide hp
      clear hp
      go_wp2
      rw [rounds_succ]
      go_wp2_with fail
      refine H2.out.mono ?_
      rintro e w3 ⟨d, rfl, hd, b3⟩
      have hdr := hd.range
      have HD := hide hd
      have B3 := hide (B2.out.trans (b3.mono B2.out.size))
      obtain ⟨hd1, hd2⟩ := hdr
      clear hd b3 H2
      by_cases h3 : d < r
      · have HX := hide (choose_raw2 HN.out h3)
        have HG := hide (show ChoosePost W l raw k (.returned (.int .i64 2)) w3 from ⟨2, rfl, ⟨f, r, d, HF.out, HRR.out, HD.out, HX.out⟩, B3.out⟩)
        have d3 : decide (d < r) = true := decide_eq_true h3
        have dn : decide (r < 0) = false := decide_eq_false (by omega)
        clear HX
        go_wp2
        rw [rounds_succ]
        go_wp2
        go_ret
        exact HG.out
      · have HX := hide (choose_raw0 HN.out h3)
        have HG := hide (show ChoosePost W l raw k (.returned (.int .i64 0)) w3 from ⟨0, rfl, ⟨f, r, d, HF.out, HRR.out, HD.out, HX.out⟩, B3.out⟩)
        have d3 : decide (d < r) = false := decide_eq_false h3
        have dn : decide (r < 0) = false := decide_eq_false (by omega)
        clear HX
        go_wp2
        rw [rounds_succ]
        go_wp2
        go_ret
        exact HG.out

theorem bspec : BSpec where
  plain := fun W => (plain9 W).mono fun _ _ h => h.two
  weights := fun l a cap W h1 _ h3 h4 => (weights9 l a cap W h1 h3 h4).mono fun _ _ h => h.two
  own := fun l a cap W h1 _ h3 h4 => (own9 l a cap W h1 h3 h4).mono fun _ _ h => h.two
  write := fun l a cap kind last p v bs W h1 h2 h3 _ h5 h6 => write9 l a cap kind last p v bs W h1 h2 h3 h5 h6
  store := fun p v bs s last W h1 h2 h3 => store9 p v bs s last W h1 h2 h3
  size := fun l a cap raw kind k W h1 _ h3 h4 h5 h6 h7 h8 => size9 l a cap raw kind k W h1 h3 h4 h5 h6 h7 h8
  choose := fun l a cap raw k W h1 _ h3 h4 h5 h6 => choose9 l a cap raw k W h1 h3 h4 h5 h6

end Go.Proofs.Ytpgkmbakohfpkaa
