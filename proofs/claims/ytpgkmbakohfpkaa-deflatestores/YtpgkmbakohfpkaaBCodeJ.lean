/- Contracts of the code of layer 9: Write, Store. -/
import Derived.Test.YtpgkmbakohfpkaaBCodeI
namespace Go.Proofs.Ytpgkmbakohfpkaa
open Go.RowKit Go.Lib

theorem codeK_made {p : Nat} {v : Value} {w w' : World} {la : List Nat} {x o c g k B n : Nat} (kn : KN p v w (some ⟨x, o, none⟩) la) (s : Step p v v w w') (hp : p < B) (hv : ∀ q, v.ownBlock = some q → q < B) (ho : w'.ownsRow B 3 1 (.slice (some ⟨g, 0, none⟩) n k) n (natCs (codesL la))) (hn : la.length = n) : CodeK p v w' la x o c g k := by
  have hkn := kn.step s
  have hl := ho.lt g rfl
  refine ⟨hkn.free x o rfl, ⟨hl.2, by have := hl.1; omega, fun e => by have := hv g e; have := hl.1; omega⟩, fun i hi => ?_, fun i hi => ?_⟩
  · obtain ⟨b', o', e1, _, h3⟩ := hkn.arg i _ (getD_some la i hi)
    injection e1 with e1
    injection e1 with e1 e2
    subst e1 e2
    exact h3
  · have h := (own_nat (l := codesL la) (by rw [codesL_length, hn]; exact ho) (codesL_get la i hi)).1
    rw [Nat.zero_add]
    exact h
theorem kn_new {p : Nat} {v : Value} {W w : World} {a : Option Addr} {l : List Nat} (h : ArgN w a l) (h1 : 1 ≤ l.length) (hp : p < W.heap.size) (hv : ∀ q, v.ownBlock = some q → q < W.heap.size) (hn : NewA W a) : KN p v w a l :=
  ⟨h, fun b off e => free_new hp hv (hn b off e) (by obtain ⟨b', off', h1, h2, _⟩ := h 0 _ (getD_some l 0 (by omega)); rw [e] at h1; injection h1 with h1; injection h1 with h1; subst h1; exact h2)⟩
theorem kr_new {p : Nat} {v : Value} {W w : World} {a : Option Addr} {l : List (Int × Int)} (h : ArgR w a l) (h1 : 1 ≤ l.length) (hp : p < W.heap.size) (hv : ∀ q, v.ownBlock = some q → q < W.heap.size) (hn : NewA W a) : KR p v w a l :=
  ⟨h, fun b off e => free_new hp hv (hn b off e) (by
    obtain ⟨⟨s, x⟩, hs⟩ : ∃ t, l[0]? = some t := ⟨_, List.getElem?_eq_getElem (by omega)⟩
    obtain ⟨b', off', h1, h2, _⟩ := h 0 s x hs
    rw [e] at h1
    injection h1 with h1
    injection h1 with h1
    subst h1
    exact h2)⟩
theorem body_le {la lb : List Nat} {l : List (Nat × Int × Int)} (ok : CodesOk la lb l) (hl : l.length ≤ 2000) : (bodyBits la lb l).length ≤ 100000 := by
  have h := toksBits_le ok.ma.each ok.mb.each l
  have h2 := getD_le ok.ma.each 256
  unfold bodyBits
  rw [List.length_append, high_len]
  omega

set_option maxRecDepth 20000 in
set_option maxHeartbeats 8000000 in
theorem write9_plain (l : List (Nat × Int × Int)) (a : Option Addr) (n cap : Nat) (kind : Int) (last : Bool) (p : Nat) (v : Value) (bs : List Bool) (W : World) (hn : l.length = n) (hk : kind ≠ 2) (hw : Wr W p v bs) (hbs : bs.length ≤ 500000) (kt : KT p v W a l) (hr : ∀ t ∈ l, RightT t) (hl : n ≤ 2000) :
    Calls Try.prog 23 #[.pointer (some ⟨p, 0, none⟩), .slice a n cap, .int .i64 kind, .bool last] W fun e w' => WriteRPost W l kind last p v bs e w' := by
  have HN := hide hn
  have HK := hide hk
  have HR := hide hr
  have HKT := hide kt
  have HOK := hide (plain_ok l hr)
  have bk : (kind != 2) = true := by simp [hk]
  have H1 := hide (begin9 p v bs 1 last W hw (by omega))
  clear hn hk hr kt hw
  go_enter Try.func23, Try.ntmps23
  go_wp2_with fail
  refine H1.out.mono ?_
  rintro e w1 ⟨rfl, v1, hr1, hs1⟩
  have HR1 := hide hr1
  have HS1 := hide hs1
  have HPL := hide (plain9 w1)
  clear hr1 hs1 H1
  go_wp2_with fail
  refine HPL.out.mono ?_
  rintro e w2 ⟨a1, c1, b1, d1, rfl, hA, hB, _, _, hb2, hn1, hn2⟩
  obtain ⟨hp, hv⟩ := HR1.out.old
  have KA := hide (kn_new (p := p) (v := v1) hA (by rw [plainL_length]; omega) hp hv hn1)
  have KB := hide (kn_new (p := p) (v := v1) hB (by rw [plainD_length]; omega) hp hv hn2)
  have HS2 := hide (Step.ofBelow (p := p) (v := v1) hb2)
  have HBL := hide hb2
  have HP2 := hide (show p < w2.heap.size ∧ ∀ q, v1.ownBlock = some q → q < w2.heap.size from ⟨Nat.lt_of_lt_of_le hp hb2.size, fun q hq => Nat.lt_of_lt_of_le (hv q hq) hb2.size⟩)
  simp only [plainL_length, plainD_length]
  obtain ⟨xa, oa, rfl, _, _⟩ := hA 0 _ (getD_some plainL 0 (by rw [plainL_length]; omega))
  obtain ⟨xb, ob, rfl, _, _⟩ := hB 0 _ (getD_some plainD 0 (by rw [plainD_length]; omega))
  have HC1 := hide (coded9 plainL _ 288 c1 w2 plainL_length hA makes_plainL (by omega) (by omega))
  clear hA hB hb2 hn1 hn2 hp hv HPL
  go_wp2_with fail
  refine HC1.out.mono ?_
  rintro e w3 ⟨g3, k3, rfl, ho3, b3⟩
  have HB3 := hide b3
  have HO3 := hide ho3
  have HC2 := hide (coded9 plainD _ 32 d1 w3 plainD_length (KB.out.step (Step.ofBelow b3)).arg makes_plainD (by omega) (by omega))
  clear ho3 b3 HC1
  go_wp2_with fail
  refine HC2.out.mono ?_
  rintro e w4 ⟨g4, k4, rfl, ho4, b4⟩
  have HS24 := hide ((Step.ofBelow (p := p) (v := v1) HB3.out).trans (Step.ofBelow b4))
  have hz3 := HB3.out.size
  have CA := hide (codeK_made (c := c1) KA.out HS24.out HP2.out.1 HP2.out.2 (own_below HO3.out b4 (Nat.le_refl _)) plainL_length)
  have CB := hide (codeK_made (c := d1) KB.out HS24.out (Nat.lt_of_lt_of_le HP2.out.1 hz3) (fun q hq => Nat.lt_of_lt_of_le (HP2.out.2 q hq) hz3) ho4 plainD_length)
  have HS14 := hide (HS2.out.trans HS24.out)
  have HW4 := hide (show Wr w4 p v1 (bs ++ [last] ++ lowBits 1 2) from by
    exact ((HR1.out.below HBL.out).below HB3.out).below b4)
  have HT := hide (tokens9 l a n cap p v1 (bs ++ [last] ++ lowBits 1 2) w4 plainL plainD xa oa c1 g3 k3 xb ob d1 g4 k4 HN.out HW4.out (by rw [List.length_append, List.length_append, lowBits_length, List.length_singleton]; omega) (HKT.out.step (HS1.out.trans HS14.out)) CA.out CB.out HOK.out HR.out hl)
  rw [plainL_length, plainD_length] at HT
  clear ho4 b4 HC2
  go_wp2_with fail
  refine HT.out.mono ?_
  rintro e w5 ⟨rfl, v5, hr5, hs5⟩
  have HG := hide (show WriteRPost W l kind last p v bs (.returned (.tuple #[])) w5 from by
    refine ⟨rfl, [last] ++ (lowBits 1 2 ++ bodyBits plainL plainD l), v5, .inr ⟨HK.out, rfl⟩, ?_, ?_, HS1.out.trans (HS14.out.trans hs5)⟩
    · have h := body_le HOK.out (by rw [HN.out]; exact hl)
      rw [List.length_append, List.length_append, lowBits_length, List.length_singleton]
      omega
    · have hf := hr5
      simp only [List.append_assoc] at hf ⊢
      exact hf)
  clear hr5 hs5 HT
  go_wp2
  go_end0
  exact HG.out

theorem fold_some {l : List Int} {rs : List (Int × Int)} (h : FoldRes l rs) (h1 : 1 ≤ l.length) (h2 : ∀ x ∈ l, 0 ≤ x ∧ x ≤ 15) : 1 ≤ rs.length := by
  refine Classical.byContradiction fun hn => ?_
  have e : rs = [] := List.length_eq_zero_iff.1 (by omega)
  subst e
  rcases h with ⟨_, h3⟩ | ⟨h3, _⟩
  · have h4 : l = [] := h3
    rw [h4] at h1
    exact absurd h1 (by decide)
  · rw [(lenB_iff l).2 h2] at h3
    cases h3

set_option maxRecDepth 20000 in
set_option maxHeartbeats 8000000 in
theorem write9_own (l : List (Nat × Int × Int)) (a : Option Addr) (n cap : Nat) (last : Bool) (p : Nat) (v : Value) (bs : List Bool) (W : World) (hn : l.length = n) (hw : Wr W p v bs) (hbs : bs.length ≤ 500000) (kt : KT p v W a l) (hr : ∀ t ∈ l, RightT t) (hl : n ≤ 2000) :
    Calls Try.prog 23 #[.pointer (some ⟨p, 0, none⟩), .slice a n cap, .int .i64 2, .bool last] W fun e w' => WriteRPost W l 2 last p v bs e w' := by
  have HN := hide hn
  have HR := hide hr
  have HKT := hide kt
  have HOK := hide (own_ok l hr (by omega))
  have hlo := ownLit_len l
  have hdo := ownDist_len l
  have H1 := hide (begin9 p v bs 2 last W hw (by omega))
  clear hn hr kt hw
  obtain ⟨nl, hnl⟩ : ∃ nl, (ownLit l).length = nl := ⟨_, rfl⟩
  obtain ⟨nd, hnd⟩ : ∃ nd, (ownDist l).length = nd := ⟨_, rfl⟩
  have HNL := hide hnl
  have HND := hide hnd
  rw [hnl] at hlo
  rw [hnd] at hdo
  obtain ⟨hlo1, hlo2⟩ := hlo
  obtain ⟨hdo1, hdo2⟩ := hdo
  clear hnl hnd
  go_enter Try.func23, Try.ntmps23
  go_wp2_with fail
  refine H1.out.mono ?_
  rintro e w1 ⟨rfl, v1, hr1, hs1⟩
  have HR1 := hide hr1
  have HS1 := hide hs1
  have HPL := hide (own9 l a cap w1 (HKT.out.step hs1).arg HR.out (by rw [HN.out]; exact hl))
  rw [HN.out] at HPL
  clear hr1 hs1 H1
  go_wp2_with fail
  refine HPL.out.mono ?_
  rintro e w2 ⟨a1, c1, b1, d1, rfl, hA, hB, _, _, hb2, hn1, hn2⟩
  obtain ⟨hp, hv⟩ := HR1.out.old
  have KA := hide (kn_new (p := p) (v := v1) hA (by rw [HNL.out]; omega) hp hv hn1)
  have KB := hide (kn_new (p := p) (v := v1) hB (by rw [HND.out]; omega) hp hv hn2)
  have HBL := hide hb2
  have HP2 := hide (show p < w2.heap.size ∧ ∀ q, v1.ownBlock = some q → q < w2.heap.size from ⟨Nat.lt_of_lt_of_le hp hb2.size, fun q hq => Nat.lt_of_lt_of_le (hv q hq) hb2.size⟩)
  simp only [HNL.out, HND.out]
  obtain ⟨xa, oa, rfl, _, _⟩ := hA 0 _ (getD_some (ownLit l) 0 (by rw [HNL.out]; omega))
  obtain ⟨xb, ob, rfl, _, _⟩ := hB 0 _ (getD_some (ownDist l) 0 (by rw [HND.out]; omega))
  have HHD := hide (headed9 (ownLit l) (ownDist l) _ _ nl nd c1 d1 w2 HNL.out HND.out hA hB hlo1 hlo2 hdo1 hdo2)
  clear hA hB hb2 hn1 hn2 hp hv HPL
  go_wp2_with fail
  refine HHD.out.mono ?_
  rintro e w3 ⟨rs, hl9, gt, ct, gf, cf, gl, cl, rfl, hrs, hlim, hgt, ngt, hgf, ngf, hgl, ngl, b3⟩
  obtain ⟨hmk7, hll, hl7⟩ := halfJ_short15 hlim (by omega)
  rw [runWs_length] at hll
  have hrl := hrs.length
  rw [List.length_map, List.length_append, HNL.out, HND.out] at hrl
  have hr1 := fold_some hrs (by rw [List.length_map, List.length_append, HNL.out]; omega) (fun z hz => by
    obtain ⟨y, hy, rfl⟩ := List.mem_map.1 hz
    rcases List.mem_append.1 hy with h | h
    · have := HOK.out.ma.each y h; omega
    · have := HOK.out.mb.each y h; omega)
  have h4 := ordN_four hl9 19 (by omega)
  have HRW := hide (show Wr w3 p v1 (bs ++ [last] ++ lowBits 2 2) from (HR1.out.below HBL.out).below b3)
  have HHW := hide (headw9 nl nd (ordN hl9 19) ct rs.length cf cl rs hl9 gt gf gl p v1 (bs ++ [last] ++ lowBits 2 2) w3 HRW.out (by rw [List.length_append, List.length_append, lowBits_length, List.length_singleton]; omega) (kn_new hgt (by rw [told_len]; omega) HP2.out.1 HP2.out.2 ngt) (kr_new hgf hr1 HP2.out.1 HP2.out.2 ngf) (kn_new hgl (by rw [hll]; omega) HP2.out.1 HP2.out.2 ngl) rfl rfl (foldRes_ok hrs) (by omega) hll hmk7 hlo1 hlo2 hdo1 hdo2)
  have HREL := hide (show HeadRel (ownLit l) (ownDist l) (headBits nl nd rs hl9) from ⟨rs, hl9, hrs, hlim, by rw [HNL.out, HND.out]⟩)
  have HHL := hide (headRel_le HREL.out (by rw [List.length_append, HNL.out, HND.out]; omega))
  have HS3 := hide ((Step.ofBelow (p := p) (v := v1) HBL.out).trans (Step.ofBelow b3))
  have HS23 := hide (Step.ofBelow (p := p) (v := v1) b3)
  clear hrs hlim hgt ngt hgf ngf hgl ngl b3 hmk7 hll hl7 hrl hr1 h4 HHD
  go_wp2_with fail
  refine HHW.out.mono ?_
  rintro e w4 ⟨rfl, v4, hr4, hs4⟩
  have HR4 := hide hr4
  have HS24 := hide (HS23.out.trans hs4)
  have KA4 := hide (KA.out.step HS24.out)
  have KB4 := hide (KB.out.step HS24.out)
  have HS14 := hide (HS3.out.trans hs4)
  have HC1 := hide (coded9 (ownLit l) _ nl c1 w4 HNL.out KA4.out.arg HOK.out.ma (by omega) (by omega))
  obtain ⟨hp4, hv4⟩ := hr4.old
  have HP4 := hide (And.intro hp4 hv4)
  clear hr4 hs4 hp4 hv4 HHW KA KB HP2
  go_wp2_with fail
  refine HC1.out.mono ?_
  rintro e w5 ⟨g5, k5, rfl, ho5, b5⟩
  have HB5 := hide b5
  have HO5 := hide ho5
  have HC2 := hide (coded9 (ownDist l) _ nd d1 w5 HND.out (KB4.out.step (Step.ofBelow b5)).arg HOK.out.mb (by omega) (by omega))
  clear ho5 b5 HC1
  go_wp2_with fail
  refine HC2.out.mono ?_
  rintro e w6 ⟨g6, k6, rfl, ho6, b6⟩
  have HS46 := hide ((Step.ofBelow (p := p) (v := v4) HB5.out).trans (Step.ofBelow b6))
  have hz5 := HB5.out.size
  have CA := hide (codeK_made (c := c1) KA4.out HS46.out HP4.out.1 HP4.out.2 (own_below HO5.out b6 (Nat.le_refl _)) HNL.out)
  have CB := hide (codeK_made (c := d1) KB4.out HS46.out (Nat.lt_of_lt_of_le HP4.out.1 hz5) (fun q hq => Nat.lt_of_lt_of_le (HP4.out.2 q hq) hz5) ho6 HND.out)
  have HS16 := hide (HS14.out.trans HS46.out)
  have HW6 := hide ((HR4.out.below HB5.out).below b6)
  have HT := hide (tokens9 l a n cap p v4 _ w6 (ownLit l) (ownDist l) xa oa c1 g5 k5 xb ob d1 g6 k6 HN.out HW6.out (by rw [List.length_append, List.length_append, List.length_append, lowBits_length, List.length_singleton]; have := HHL.out; omega) (HKT.out.step (HS1.out.trans HS16.out)) CA.out CB.out HOK.out HR.out hl)
  rw [HNL.out, HND.out] at HT
  clear ho6 b6 HC2 hz5
  go_wp2_with fail
  refine HT.out.mono ?_
  rintro e w7 ⟨rfl, v7, hr7, hs7⟩
  have HG := hide (show WriteRPost W l 2 last p v bs (.returned (.tuple #[])) w7 from by
    refine ⟨rfl, [last] ++ (lowBits 2 2 ++ (headBits nl nd rs hl9 ++ bodyBits (ownLit l) (ownDist l) l)), v7, .inl ⟨rfl, _, HREL.out, rfl⟩, ?_, ?_, HS1.out.trans (HS16.out.trans hs7)⟩
    · have h := body_le HOK.out (by rw [HN.out]; exact hl)
      have h2 := HHL.out
      rw [List.length_append, List.length_append, List.length_append, lowBits_length, List.length_singleton]
      omega
    · have hf := hr7
      simp only [List.append_assoc] at hf ⊢
      exact hf)
  clear hr7 hs7 HT
  go_wp2
  go_end0
  exact HG.out

theorem write9 (l : List (Nat × Int × Int)) (a : Option Addr) (cap : Nat) (kind : Int) (last : Bool) (p : Nat) (v : Value) (bs : List Bool) (W : World) (hw : Wr W p v bs) (hbs : bs.length ≤ 500000) (kt : KT p v W a l) (hr : ∀ t ∈ l, RightT t) (hl : l.length ≤ 2000) :
    Calls Try.prog 23 #[.pointer (some ⟨p, 0, none⟩), .slice a l.length cap, .int .i64 kind, .bool last] W fun e w' => WriteRPost W l kind last p v bs e w' := by
  by_cases hk : kind = 2
  · subst hk
    exact write9_own l a l.length cap last p v bs W rfl hw hbs kt hr hl
  · exact write9_plain l a l.length cap kind last p v bs W rfl hk hw hbs kt hr hl

end Go.Proofs.Ytpgkmbakohfpkaa
