/- Contract of the document's 'Open' of layer 11. -/
import Derived.Test.YtaalbaiglkadlaaIOpen0
import Derived.Test.YtaalbaiglkadlaaIC
import Derived.Test.YtaalbaiglkadlaaISpec
namespace Go.Proofs.Ytaalbaiglkadlaa
open Go.RowKit Go.Lib

theorem OutSt.below {T : TypeId} {w w' W : World} {p i : Nat} {s : ByteArray} {out : List Nat} {v : Value} (h : OutSt T w W p s i out v) (b : Below w.heap.size w w') : OutSt T w' W p s i out v := by
  have hp : p < w.heap.size := (Array.getElem?_eq_some_iff.1 h.rd).1
  refine h.read ⟨b.os, b.tape, b.output, b.size, fun k hk _ => b.block k hk⟩ ?_
  unfold RdAt
  rw [b.block p hp]
  exact h.rd
/-- What Build gives, in one form. -/
theorem built_out {W w' : World} {l : List Int} {r : Value} (h : BuildRes W l r w') : ∃ (f : Nat → Nat) (a : Option Addr) (m c : Nat) (er : Int), r = .tuple #[codeV f (.slice a m c), .int .i64 er] ∧
    ((goodB l = false ∧ er = 4) ∨ (goodB l = true ∧ er = 0 ∧ f = cn (l.map Int.toNat) ∧ (symTo (l.map Int.toNat) 16).length = m ∧ ArgN w' a (symTo (l.map Int.toNat) 16) ∧ ∀ b off, a = some ⟨b, off, none⟩ → W.heap.size ≤ b ∧ b < w'.heap.size)) := by
  rcases h with ⟨hg, rfl⟩ | ⟨hg, v, rfl, ho⟩
  · exact ⟨_, _, _, _, _, rfl, .inl ⟨hg, rfl⟩⟩
  · rcases len_form ho with ⟨e1, e2⟩ | ⟨g, c, e1⟩
    · subst e1
      exact ⟨_, _, _, _, _, rfl, .inr ⟨hg, rfl, rfl, e2, (by rw [List.length_eq_zero_iff.1 e2]; exact fun i x hx => by simp at hx), fun b off e => by cases e⟩⟩
    · subst e1
      have hlt := ho.lt g rfl
      refine ⟨_, _, _, _, _, rfl, .inr ⟨hg, rfl, rfl, rfl, own_arg ho rfl, fun b off e => ?_⟩⟩
      injection e with e
      injection e with e _
      subst e
      exact hlt
theorem built_kn {p : Nat} {v : Value} {w w' w2 : World} {a : Option Addr} {S : List Nat} (ha : ArgN w' a S) (hn : ∀ b off, a = some ⟨b, off, none⟩ → w.heap.size ≤ b ∧ b < w'.heap.size) (hp : p < w.heap.size) (hv : ∀ k, v.ownBlock = some k → k < w.heap.size) (b : Below w'.heap.size w' w2) : KN p v w2 a S :=
  ⟨ha.below b (Nat.le_refl _), fun g off e => free_new hp hv (hn g off e).1 (Nat.lt_of_lt_of_le (hn g off e).2 b.size)⟩

set_option maxRecDepth 20000 in
set_option maxHeartbeats 16000000 in
theorem qopen_any (s : ByteArray) (limit : Int) (W : World) (hs : s.size ≤ 100000) (h1 : -9223372036854775808 ≤ limit) (h2 : limit ≤ 1000000) :
    Calls Try.prog 10 #[.string s, .int .i64 limit] W fun e w' => OpenPost (openR s limit) W e w' := by
  have HS0 := hide (show OutSt 56 (W.alloc (.cells #[.string s, .int .i64 0, .bool false] 56)) W W.heap.size s 0 [] (.slice none 0 0) from
    ⟨heap_alloc_at W _ rfl, World.ownsRow_nil _ _ _ _, (Below.refl _ W).alloc (Nat.le_refl _) _, Nat.le_refl _, fun e => by cases e⟩)
  obtain ⟨R, hR⟩ : ∃ R, openR s limit = R := ⟨_, rfl⟩
  have HR0 := hide (show openP limit 1000000 [] (srcB s) (8 * s.size) 0 = R from hR)
  rw [hR]
  have HFT := hide (show Fits limit [] from .inl rfl)
  clear hR
  obtain ⟨p, hp⟩ : ∃ p, W.heap.size = p := ⟨_, rfl⟩
  have HP := hide hp
  go_enter Try.func10, Try.ntmps10
  go_wp2
  generalize hw1 : W.alloc (.cells #[.string s, .int .i64 0, .bool false] 56) = w1 at *
  clear hw1
  rw [hp] at HS0
  try simp only [hp]
  clear hp
  go_loopg [8] (8 * s.size) (fun gk vv wr => ∃ i out f a c, vv = .slice a (out : List Nat).length c ∧ i ≤ 8 * s.size ∧ 8 * s.size - i ≤ gk ∧ 8 * s.size < f + i ∧ Hid (Fits limit out) ∧ Hid (openP limit f out (srcB s) (8 * s.size) i = R) ∧ Hid (OutSt 56 wr W p s i out (.slice a out.length c)))
  case atStart => exact ⟨0, [], 1000000, none, 0, rfl, Nat.zero_le _, Nat.le_refl _, by omega, HFT, HR0, HS0⟩
  case round =>
    clear HS0 HR0 HFT
    obtain ⟨i, out, f, a, c, rfl, hi8, hgk, hfu, HF, HE, HO⟩ := hrel
    obtain ⟨f, rfl⟩ : ∃ k, f = k + 1 := ⟨f - 1, by omega⟩
    have HGK := hide hgk
    have HFU := hide hfu
    clear hgk hfu
    obtain ⟨x1, q1, b1, hx1, hq1, hr1, HC1⟩ := qrd1_all p i s false hi8 (by omega)
    obtain ⟨x2, q2, b2, hx2, hq2, hr2, HC2⟩ := qrd_all 2 p q1 s b1 (by decide) hq1 (by omega)
    have HHD := hide (block_heads (limit := limit) (out := out) hr1 hr2)
    have HC1 := hide (HC1 wr HO.out.rd)
    have HC2 := hide HC2
    have hx2 : x2 < 4 := hx2
    have HQ2 := hide hq2
    clear hr1 hr2 hq1 hq2
    go_wp2_with fail
    refine HC1.out.mono ?_
    rintro e w2 ⟨rfl, ho2, hr2⟩
    have HT2 := hide ho2.turn
    have HC2 := hide (HC2.out w2 hr2)
    clear ho2 hr2 HC1
    go_wp2_with fail
    refine HC2.out.mono ?_
    rintro e w3 ⟨rfl, ho3, hr3⟩
    have HT3 := hide (HT2.out.trans ho3.turn)
    have _c2 := hr3.c2
    have HR3 := hide hr3
    clear ho3 hr3 HC2 HT2
    have HERR := hide (fun (er : Int) (he : er ≠ 0) (hb : blockP limit out (srcB s) (8 * s.size) i = .error er) (w' : World) (b : Below W.heap.size W w') => (show OpenPost R W (.returned (.tuple #[.string { data := #[] }, .int .i64 0, .int .i64 er])) w' from ⟨b, .inr ⟨er, by rw [← HE.out]; exact opn_err hb, he, rfl⟩⟩))
    rcases HHD.out with ⟨rfl, hh⟩ | ⟨rfl, hi3, hh⟩
    · have HG := hide (HERR.out 2 (by decide) hh w3 (HO.out.bad HT3.out))
      clear hh HHD
      go_wp2
      go_ret3
      exact HG.out
    have HO3 := hide (HO.out.read HT3.out (show RdAt 56 w3 p s q2 false from HR3.out))
    have HH := hide hh
    clear hh HHD hi3 HO HR3 HT3
    have hk : x2 = 0 ∨ x2 = 1 ∨ x2 = 2 ∨ x2 = 3 := by omega
    rcases hk with rfl | rfl | rfl | rfl
    · have HRW := hide (qraw_any p s q2 out (.slice a out.length c) limit W w3 HO3.out HQ2.out (by omega) h1 h2 HF.out)
      clear HO3
      go_wp2_with fail
      refine HRW.out.mono ?_
      rintro e w4 (⟨o, j, v4, hR, rfl, hO4⟩ | ⟨er, hR, her, rfl, hb4⟩)
      · have HO4 := hide hO4
        have HF4 := hide (raw_fits hR)
        have HB := hide (HH.out.trans (blk_raw_ok hR))
        clear hO4 hR HRW HH HERR HF
        obtain ⟨a4, c4, rfl⟩ : ∃ a c, v4 = .slice a o.length c := by
          rcases len_form HO4.out.own with ⟨e1, e2⟩ | ⟨g, c, e1⟩
          · exact ⟨none, 0, by rw [e1, e2]⟩
          · exact ⟨_, c, e1⟩
        have HIJ := hide (blockP_more HB.out)
        have HJ8 := hide ((Good.block limit out).hi _ _ _ _ _ HB.out hi8)
        by_cases l1 : x1 = 1
        · subst l1
          have HG := hide (fun q => (show OpenPost R W (.returned (.tuple #[.string (strOf o), .int .i64 (((j + 7) / 8 : Nat) : Int), .int .i64 0])) (w4.drewN q) from ⟨below_drewN HO4.out.bel q, .inl ⟨o, j, by rw [← HE.out]; exact opn_last HB.out, rfl⟩⟩))
          have HCV := hide (fun q => str_own (own_below HO4.out.own (below_drewN (Below.refl w4.heap.size w4) q) (Nat.le_refl _)))
          have hcv : ∀ q, (convert 28 9 (.slice a4 o.length c4)).run Try.prog (w4.drewN q) = .ok (.string (strOf o)) (w4.drewN q) := HCV.out
          have HUS := hide (fun q => (qused_any p s j false (w4.drewN q) HO4.out.rd HJ8.out (by omega)).mono fun e w' h => (⟨h.1, h.2.symm⟩ : e = .returned (.int .i64 (((j + 7) / 8 : Nat) : Int)) ∧ w' = w4.drewN q))
          clear HB HF4 HE HIJ HJ8 HCV
          go_wp2_with fail
          go_quiet ((go_at_call 25; exact Calls.quiet_of_same (HUS.out _)))
          go_wp2
          go_ret3
          exact HG.out _
        · have bl : ((x1 : Int) == 1) = false := by simp; omega
          have HE2 := hide (show openP limit f o (srcB s) (8 * s.size) j = R by rw [← HE.out]; exact (opn_more HB.out l1).symm)
          clear HB HE l1
          go_wp2
          go_roundg (8 * s.size - j)
          case measure => have := HGK.out; have := HIJ.out; have := HJ8.out; omega
          case rel => exact ⟨j, o, f, a4, c4, rfl, HJ8.out, Nat.le_refl _, by have := HFU.out; have := HIJ.out; omega, HF4, HE2, HO4⟩
      · have HG := hide (HERR.out er her (HH.out.trans (blk_raw_err hR)) w4 hb4)
        have be : (er == 0) = false := by simp; exact her
        clear hR hb4 HRW HH HERR HF
        go_wp2
        go_ret3
        exact HG.out
    · have HPL := hide (qplain_any w3)
      go_wp2_with fail
      refine HPL.out.mono ?_
      rintro e w5 ⟨a1, c1, a2, c2, rfl, hA, hB, _, _, b5, _, _⟩
      have HO5 := hide (HO3.out.below b5)
      have HBK := hide (HH.out.trans blk_plain)
      have HX := hide hA.toZ
      have HY := hide hB.toZ
      obtain ⟨nX, hnX⟩ : ∃ n, plainL.length = n := ⟨_, rfl⟩
      obtain ⟨nY, hnY⟩ : ∃ n, plainD.length = n := ⟨_, rfl⟩
      have HXL := hide (show (plainL.map fun (x : Nat) => (x : Int)).length ≤ 1000 by decide +kernel)
      have HYL := hide (show (plainD.map fun (x : Nat) => (x : Int)).length ≤ 1000 by decide +kernel)
      have HXN := hide (show (plainL.map fun (x : Nat) => (x : Int)).length = nX by rw [List.length_map]; exact hnX)
      have HYN := hide (show (plainD.map fun (x : Nat) => (x : Int)).length = nY by rw [List.length_map]; exact hnY)
      rw [hnX, hnY]
      generalize (plainL.map fun (x : Nat) => (x : Int)) = X at *
      generalize (plainD.map fun (x : Nat) => (x : Int)) = Y at *
      obtain ⟨j5, hj5⟩ : ∃ j, q2 = j := ⟨_, rfl⟩
      rw [hj5] at HO5 HBK HQ2
      have HJ5 := HQ2
      clear hA hB b5 hnX hnY HPL HO3 HH HQ2 hj5
      have HB6 := hide (qbuild_any X a1 c1 w5 HX.out (by have := HXL.out; omega))
      rw [HXN.out] at HB6
      have hzc := Try.zeroCode
      have hZ1 := codeCs_one (fun _ => 0) (.slice none 0 0) rfl
      have hZn := codeCs_length (fun _ => 0) (.slice none 0 0)
      obtain ⟨Z2, hZ2⟩ : ∃ Z, codeCs (fun _ => 0) (.slice none 0 0) = Z := ⟨_, rfl⟩
      simp only [hZ2] at hzc hZ1 hZn
      have HZn := hide hZn
      clear hZ2 hZ1 hZn
      go_wp2_with fail
      refine HB6.out.mono ?_
      rintro e w6 ⟨r, rfl, hbr, hb6⟩
      obtain ⟨f1, s1, m1, k1, er1, rfl, hor1⟩ := built_out hbr
      have HR1 := hide hor1
      have HO6 := hide (HO5.out.below hb6)
      have HY6 := hide (HY.out.below hb6)
      have HN6 := hide hb6.size
      have hcs1 := codeCs_one f1 (.slice s1 m1 k1) rfl
      have hcn1 := codeCs_length f1 (.slice s1 m1 k1)
      unfold codeV
      obtain ⟨cs1, hce1⟩ : ∃ cs, codeCs f1 (.slice s1 m1 k1) = cs := ⟨_, rfl⟩
      have HCE1 := hide hce1
      rw [hce1] at hcs1 hcn1
      try simp only [hce1]
      have HCN1 := hide hcn1
      have hst1 := code_store w6 Z2 cs1 HZn.out hcn1 hcs1
      obtain ⟨w7, hw7⟩ : ∃ w7, w6.alloc (.cells cs1.toArray 66) = w7 := ⟨_, rfl⟩
      have b67 : Below w6.heap.size w6 w7 := by rw [← hw7]; exact (Below.refl _ w6).alloc (Nat.le_refl _) _
      have hq1 : w7.heap[w6.heap.size]? = some (.cells cs1.toArray 66 (0, 0)) := by rw [← hw7]; exact heap_alloc_at w6 _ rfl
      have HQ1 := hide hq1
      have HO7 := hide (HO6.out.below b67)
      have B67 := hide b67
      have HB8 := hide (qbuild_any Y a2 c2 w7 (HY6.out.below b67) (by have := HYL.out; omega))
      rw [HYN.out] at HB8
      rw [hw7] at hst1
      have HW7 := hide hw7
      clear hbr hb6 hor1 hce1 HB6 hcn1 hcs1 b67 hq1 hw7
      go_wp2_with fail
      refine HB8.out.mono ?_
      rintro e w8 ⟨r, rfl, hbr, hb8⟩
      obtain ⟨f2, s2, m2, k2, er2, rfl, hor2⟩ := built_out hbr
      have HR2 := hide hor2
      have HO8 := hide (HO7.out.below hb8)
      have hcs2 := codeCs_one f2 (.slice s2 m2 k2) rfl
      have hcn2 := codeCs_length f2 (.slice s2 m2 k2)
      unfold codeV
      obtain ⟨cs2, hce2⟩ : ∃ cs, codeCs f2 (.slice s2 m2 k2) = cs := ⟨_, rfl⟩
      have HCE2 := hide hce2
      rw [hce2] at hcs2 hcn2
      try simp only [hce2]
      have HCN2 := hide hcn2
      have hst2 := code_store w8 Z2 cs2 HZn.out hcn2 hcs2
      obtain ⟨w9, hw9⟩ : ∃ w9, w8.alloc (.cells cs2.toArray 66) = w9 := ⟨_, rfl⟩
      have b89 : Below w8.heap.size w8 w9 := by rw [← hw9]; exact (Below.refl _ w8).alloc (Nat.le_refl _) _
      have HQ2 := hide (show w9.heap[w8.heap.size]? = some (.cells cs2.toArray 66 (0, 0)) by rw [← hw9]; exact heap_alloc_at w8 _ rfl)
      have HQ3 := hide (show w9.heap[w6.heap.size]? = some (.cells cs1.toArray 66 (0, 0)) by
        have hlt := (Array.getElem?_eq_some_iff.1 HQ1.out).1
        rw [b89.block _ (Nat.lt_of_lt_of_le hlt hb8.size), hb8.block _ hlt]
        exact HQ1.out)
      have HO9 := hide (HO8.out.below b89)
      have B69 := hide (B67.out.trans ((hb8.trans (b89.mono hb8.size)).mono B67.out.size))
      have B89 := hide b89
      rw [hw9] at hst2
      have HN8 := hide (show w5.heap.size ≤ w7.heap.size from Nat.le_trans HN6.out B67.out.size)
      clear hbr hb8 hor2 hce2 HB8 hcn2 hcs2 b89 hw9 hst1 HQ1 HO7 HO8 HO6 HY6 HN6
      have HSZ1 := hide (show (Try.prog.info? 66).map (·.size) = some cs1.length by rw [HCN1.out]; exact Try.sizeCode)
      have HSZ2 := hide (show (Try.prog.info? 66).map (·.size) = some cs2.length by rw [HCN2.out]; exact Try.sizeCode)
      have HRG1 := hide (code_range HQ3.out)
      have HRG2 := hide (code_range HQ2.out)
      rcases HR1.out with ⟨g1, rfl⟩ | ⟨g1, rfl, hf1, hm1, ha1, hn1⟩
      · have HG := hide (HERR.out 4 (by decide) (HBK.out.trans (pk_bad (by show (goodB X && goodB Y) = false; rw [g1]; rfl))) w9 HO9.out.bel)
        clear HR1 HR2 HERR HBK
        go_wp2
        go_ret3
        exact HG.out
      rcases HR2.out with ⟨g2, rfl⟩ | ⟨g2, rfl, hf2, hm2, ha2, hn2⟩
      · have HG := hide (HERR.out 4 (by decide) (HBK.out.trans (pk_bad (by show (goodB X && goodB Y) = false; rw [g2, Bool.and_false]))) w9 HO9.out.bel)
        clear HR1 HR2 HERR HBK hf1 hm1 ha1 hn1
        go_wp2
        go_ret3
        exact HG.out
      have HOLD := hide (show p < w5.heap.size ∧ ∀ k, (Value.slice a out.length c).ownBlock = some k → k < w5.heap.size from ⟨(Array.getElem?_eq_some_iff.1 HO5.out.rd).1, fun k hk => (HO5.out.own.lt k hk).2⟩)
      have HKA := hide (built_kn (p := p) (v := .slice a out.length c) ha1 hn1 HOLD.out.1 HOLD.out.2 B69.out)
      have HKB := hide (built_kn (p := p) (v := .slice a out.length c) ha2 hn2 (Nat.lt_of_lt_of_le HOLD.out.1 HN8.out) (fun k hk => Nat.lt_of_lt_of_le (HOLD.out.2 k hk) HN8.out) B89.out)
      have HPO := hide (qpour_any (X.map Int.toNat) (Y.map Int.toNat) s1 s2 k1 m1 k2 m2 p s j5 out (.slice a out.length c) limit W w9 HO9.out HKA.out HKB.out hm1 hm2 (by rw [List.length_map]; exact HXL.out) (by rw [List.length_map]; exact HYL.out) HJ5.out (by omega) h1 h2 HF.out)
      subst hf1
      subst hf2
      unfold codeV at HPO
      rw [HCE1.out, HCE2.out] at HPO
      have HGD := hide (show (goodB X && goodB Y) = true by rw [g1, g2]; rfl)
      have hcn1 := HCN1.out
      have hcn2 := HCN2.out
      clear HR1 HR2 hm1 ha1 hn1 hm2 ha2 hn2 g1 g2 HKA HKB HOLD HO9 HO5 HCE1 HCE2 HQ2 HQ3 B69 B89 HN8 HCN1 HCN2 HZn
      go_wp2_with (first
        | (refine wpList_load_mid rfl 66 (Operand.tmp 14) rfl w6.heap.size 0 rfl cs1 _ HRG1.out Try.underlying66 rfl HSZ1.out ?_)
        | (refine wpList_load_mid rfl 66 (Operand.tmp 16) rfl w8.heap.size 0 rfl cs2 _ HRG2.out Try.underlying66 rfl HSZ2.out ?_))
      refine HPO.out.mono ?_
      rintro e w4 (⟨o, j, v4, hR, rfl, hO4⟩ | ⟨er, hR, her, rfl, hb4⟩)
      · have HO4 := hide hO4
        have HF4 := hide (pour_fits _ _ _ _ _ hR HF.out)
        have HB := hide (HBK.out.trans (pk_ok HGD.out hR))
        clear hO4 hR HPO HBK HERR HF HGD HRG1 HRG2 HX HY
        obtain ⟨a4, c4, rfl⟩ : ∃ a c, v4 = .slice a o.length c := by
          rcases len_form HO4.out.own with ⟨e1, e2⟩ | ⟨g, c, e1⟩
          · exact ⟨none, 0, by rw [e1, e2]⟩
          · exact ⟨_, c, e1⟩
        have HIJ := hide (blockP_more HB.out)
        have HJ8 := hide ((Good.block limit out).hi _ _ _ _ _ HB.out hi8)
        by_cases l1 : x1 = 1
        · subst l1
          have HG := hide (fun q => (show OpenPost R W (.returned (.tuple #[.string (strOf o), .int .i64 (((j + 7) / 8 : Nat) : Int), .int .i64 0])) (w4.drewN q) from ⟨below_drewN HO4.out.bel q, .inl ⟨o, j, by rw [← HE.out]; exact opn_last HB.out, rfl⟩⟩))
          have HCV := hide (fun q => str_own (own_below HO4.out.own (below_drewN (Below.refl w4.heap.size w4) q) (Nat.le_refl _)))
          have hcv : ∀ q, (convert 28 9 (.slice a4 o.length c4)).run Try.prog (w4.drewN q) = .ok (.string (strOf o)) (w4.drewN q) := HCV.out
          have HUS := hide (fun q => (qused_any p s j false (w4.drewN q) HO4.out.rd HJ8.out (by omega)).mono fun e w' h => (⟨h.1, h.2.symm⟩ : e = .returned (.int .i64 (((j + 7) / 8 : Nat) : Int)) ∧ w' = w4.drewN q))
          clear HB HF4 HE HIJ HJ8 HCV
          go_wp2_with fail
          go_quiet ((go_at_call 25; exact Calls.quiet_of_same (HUS.out _)))
          go_wp2
          go_ret3
          exact HG.out _
        · have bl : ((x1 : Int) == 1) = false := by simp; omega
          have HE2 := hide (show openP limit f o (srcB s) (8 * s.size) j = R by rw [← HE.out]; exact (opn_more HB.out l1).symm)
          clear HB HE l1
          go_wp2
          go_roundg (8 * s.size - j)
          case measure => have := HGK.out; have := HIJ.out; have := HJ8.out; omega
          case rel => exact ⟨j, o, f, a4, c4, rfl, HJ8.out, Nat.le_refl _, by have := HFU.out; have := HIJ.out; omega, HF4, HE2, HO4⟩
      · have HG := hide (HERR.out er her (HBK.out.trans (pk_err HGD.out hR)) w4 hb4)
        have be : (er == 0) = false := by simp; exact her
        clear hR hb4 HPO HBK HERR HF HGD HRG1 HRG2 HX HY
        go_wp2
        go_ret3
        exact HG.out
    · have HPL := hide (qplain_any w3)
      go_wp2_with fail
      refine HPL.out.mono ?_
      rintro e wp ⟨a0, c0, b0, d0, rfl, _, _, _, _, bp, _, _⟩
      have HOp := hide (HO3.out.below bp)
      have HLN := hide (qlens_any p s q2 wp HOp.out.rd HQ2.out (by omega))
      clear bp HPL HO3
      generalize plainL.length = nL at *
      generalize plainD.length = nD at *
      go_wp2_with fail
      refine HLN.out.mono ?_
      rintro e w5 ⟨ht5, ⟨X, Y, j5, a1, c1, a2, c2, hR5, rfl, hj5, hX, hY, hAX, hAY, hrd5⟩ | ⟨er, hR5, her, rfl⟩⟩
      · have HO5 := hide (HOp.out.read ht5 hrd5)
        have HBK := hide (HH.out.trans (blk_lens hR5))
        have HX := hide hAX
        have HY := hide hAY
        have HXL := hide (show X.length ≤ 1000 by omega)
        have HYL := hide (show Y.length ≤ 1000 by omega)
        obtain ⟨nX, hnX⟩ : ∃ n, X.length = n := ⟨_, rfl⟩
        obtain ⟨nY, hnY⟩ : ∃ n, Y.length = n := ⟨_, rfl⟩
        have HXN := hide hnX
        have HYN := hide hnY
        have HJ5 := hide hj5
        rw [hnX, hnY]
        clear ht5 hrd5 hR5 hAX hAY hX hY hnX hnY HLN HOp HH HQ2 hj5
        have HB6 := hide (qbuild_any X a1 c1 w5 HX.out (by have := HXL.out; omega))
        rw [HXN.out] at HB6
        have hzc := Try.zeroCode
        have hZ1 := codeCs_one (fun _ => 0) (.slice none 0 0) rfl
        have hZn := codeCs_length (fun _ => 0) (.slice none 0 0)
        obtain ⟨Z2, hZ2⟩ : ∃ Z, codeCs (fun _ => 0) (.slice none 0 0) = Z := ⟨_, rfl⟩
        simp only [hZ2] at hzc hZ1 hZn
        have HZn := hide hZn
        clear hZ2 hZ1 hZn
        go_wp2_with fail
        refine HB6.out.mono ?_
        rintro e w6 ⟨r, rfl, hbr, hb6⟩
        obtain ⟨f1, s1, m1, k1, er1, rfl, hor1⟩ := built_out hbr
        have HR1 := hide hor1
        have HO6 := hide (HO5.out.below hb6)
        have HY6 := hide (HY.out.below hb6)
        have HN6 := hide hb6.size
        have hcs1 := codeCs_one f1 (.slice s1 m1 k1) rfl
        have hcn1 := codeCs_length f1 (.slice s1 m1 k1)
        unfold codeV
        obtain ⟨cs1, hce1⟩ : ∃ cs, codeCs f1 (.slice s1 m1 k1) = cs := ⟨_, rfl⟩
        have HCE1 := hide hce1
        rw [hce1] at hcs1 hcn1
        try simp only [hce1]
        have HCN1 := hide hcn1
        have hst1 := code_store w6 Z2 cs1 HZn.out hcn1 hcs1
        obtain ⟨w7, hw7⟩ : ∃ w7, w6.alloc (.cells cs1.toArray 66) = w7 := ⟨_, rfl⟩
        have b67 : Below w6.heap.size w6 w7 := by rw [← hw7]; exact (Below.refl _ w6).alloc (Nat.le_refl _) _
        have hq1 : w7.heap[w6.heap.size]? = some (.cells cs1.toArray 66 (0, 0)) := by rw [← hw7]; exact heap_alloc_at w6 _ rfl
        have HQ1 := hide hq1
        have HO7 := hide (HO6.out.below b67)
        have B67 := hide b67
        have HB8 := hide (qbuild_any Y a2 c2 w7 (HY6.out.below b67) (by have := HYL.out; omega))
        rw [HYN.out] at HB8
        rw [hw7] at hst1
        have HW7 := hide hw7
        clear hbr hb6 hor1 hce1 HB6 hcn1 hcs1 b67 hq1 hw7
        go_wp2_with fail
        refine HB8.out.mono ?_
        rintro e w8 ⟨r, rfl, hbr, hb8⟩
        obtain ⟨f2, s2, m2, k2, er2, rfl, hor2⟩ := built_out hbr
        have HR2 := hide hor2
        have HO8 := hide (HO7.out.below hb8)
        have hcs2 := codeCs_one f2 (.slice s2 m2 k2) rfl
        have hcn2 := codeCs_length f2 (.slice s2 m2 k2)
        unfold codeV
        obtain ⟨cs2, hce2⟩ : ∃ cs, codeCs f2 (.slice s2 m2 k2) = cs := ⟨_, rfl⟩
        have HCE2 := hide hce2
        rw [hce2] at hcs2 hcn2
        try simp only [hce2]
        have HCN2 := hide hcn2
        have hst2 := code_store w8 Z2 cs2 HZn.out hcn2 hcs2
        obtain ⟨w9, hw9⟩ : ∃ w9, w8.alloc (.cells cs2.toArray 66) = w9 := ⟨_, rfl⟩
        have b89 : Below w8.heap.size w8 w9 := by rw [← hw9]; exact (Below.refl _ w8).alloc (Nat.le_refl _) _
        have HQ2 := hide (show w9.heap[w8.heap.size]? = some (.cells cs2.toArray 66 (0, 0)) by rw [← hw9]; exact heap_alloc_at w8 _ rfl)
        have HQ3 := hide (show w9.heap[w6.heap.size]? = some (.cells cs1.toArray 66 (0, 0)) by
          have hlt := (Array.getElem?_eq_some_iff.1 HQ1.out).1
          rw [b89.block _ (Nat.lt_of_lt_of_le hlt hb8.size), hb8.block _ hlt]
          exact HQ1.out)
        have HO9 := hide (HO8.out.below b89)
        have B69 := hide (B67.out.trans ((hb8.trans (b89.mono hb8.size)).mono B67.out.size))
        have B89 := hide b89
        rw [hw9] at hst2
        have HN8 := hide (show w5.heap.size ≤ w7.heap.size from Nat.le_trans HN6.out B67.out.size)
        clear hbr hb8 hor2 hce2 HB8 hcn2 hcs2 b89 hw9 hst1 HQ1 HO7 HO8 HO6 HY6 HN6
        have HSZ1 := hide (show (Try.prog.info? 66).map (·.size) = some cs1.length by rw [HCN1.out]; exact Try.sizeCode)
        have HSZ2 := hide (show (Try.prog.info? 66).map (·.size) = some cs2.length by rw [HCN2.out]; exact Try.sizeCode)
        have HRG1 := hide (code_range HQ3.out)
        have HRG2 := hide (code_range HQ2.out)
        rcases HR1.out with ⟨g1, rfl⟩ | ⟨g1, rfl, hf1, hm1, ha1, hn1⟩
        · have HG := hide (HERR.out 4 (by decide) (HBK.out.trans (pk_bad (by show (goodB X && goodB Y) = false; rw [g1]; rfl))) w9 HO9.out.bel)
          clear HR1 HR2 HERR HBK
          go_wp2
          go_ret3
          exact HG.out
        rcases HR2.out with ⟨g2, rfl⟩ | ⟨g2, rfl, hf2, hm2, ha2, hn2⟩
        · have HG := hide (HERR.out 4 (by decide) (HBK.out.trans (pk_bad (by show (goodB X && goodB Y) = false; rw [g2, Bool.and_false]))) w9 HO9.out.bel)
          clear HR1 HR2 HERR HBK hf1 hm1 ha1 hn1
          go_wp2
          go_ret3
          exact HG.out
        have HOLD := hide (show p < w5.heap.size ∧ ∀ k, (Value.slice a out.length c).ownBlock = some k → k < w5.heap.size from ⟨(Array.getElem?_eq_some_iff.1 HO5.out.rd).1, fun k hk => (HO5.out.own.lt k hk).2⟩)
        have HKA := hide (built_kn (p := p) (v := .slice a out.length c) ha1 hn1 HOLD.out.1 HOLD.out.2 B69.out)
        have HKB := hide (built_kn (p := p) (v := .slice a out.length c) ha2 hn2 (Nat.lt_of_lt_of_le HOLD.out.1 HN8.out) (fun k hk => Nat.lt_of_lt_of_le (HOLD.out.2 k hk) HN8.out) B89.out)
        have HPO := hide (qpour_any (X.map Int.toNat) (Y.map Int.toNat) s1 s2 k1 m1 k2 m2 p s j5 out (.slice a out.length c) limit W w9 HO9.out HKA.out HKB.out hm1 hm2 (by rw [List.length_map]; exact HXL.out) (by rw [List.length_map]; exact HYL.out) HJ5.out (by omega) h1 h2 HF.out)
        subst hf1
        subst hf2
        unfold codeV at HPO
        rw [HCE1.out, HCE2.out] at HPO
        have HGD := hide (show (goodB X && goodB Y) = true by rw [g1, g2]; rfl)
        have hcn1 := HCN1.out
        have hcn2 := HCN2.out
        clear HR1 HR2 hm1 ha1 hn1 hm2 ha2 hn2 g1 g2 HKA HKB HOLD HO9 HO5 HCE1 HCE2 HQ2 HQ3 B69 B89 HN8 HCN1 HCN2 HZn
        go_wp2_with (first
          | (refine wpList_load_mid rfl 66 (Operand.tmp 14) rfl w6.heap.size 0 rfl cs1 _ HRG1.out Try.underlying66 rfl HSZ1.out ?_)
          | (refine wpList_load_mid rfl 66 (Operand.tmp 16) rfl w8.heap.size 0 rfl cs2 _ HRG2.out Try.underlying66 rfl HSZ2.out ?_))
        refine HPO.out.mono ?_
        rintro e w4 (⟨o, j, v4, hR, rfl, hO4⟩ | ⟨er, hR, her, rfl, hb4⟩)
        · have HO4 := hide hO4
          have HF4 := hide (pour_fits _ _ _ _ _ hR HF.out)
          have HB := hide (HBK.out.trans (pk_ok HGD.out hR))
          clear hO4 hR HPO HBK HERR HF HGD HRG1 HRG2 HX HY
          obtain ⟨a4, c4, rfl⟩ : ∃ a c, v4 = .slice a o.length c := by
            rcases len_form HO4.out.own with ⟨e1, e2⟩ | ⟨g, c, e1⟩
            · exact ⟨none, 0, by rw [e1, e2]⟩
            · exact ⟨_, c, e1⟩
          have HIJ := hide (blockP_more HB.out)
          have HJ8 := hide ((Good.block limit out).hi _ _ _ _ _ HB.out hi8)
          by_cases l1 : x1 = 1
          · subst l1
            have HG := hide (fun q => (show OpenPost R W (.returned (.tuple #[.string (strOf o), .int .i64 (((j + 7) / 8 : Nat) : Int), .int .i64 0])) (w4.drewN q) from ⟨below_drewN HO4.out.bel q, .inl ⟨o, j, by rw [← HE.out]; exact opn_last HB.out, rfl⟩⟩))
            have HCV := hide (fun q => str_own (own_below HO4.out.own (below_drewN (Below.refl w4.heap.size w4) q) (Nat.le_refl _)))
            have hcv : ∀ q, (convert 28 9 (.slice a4 o.length c4)).run Try.prog (w4.drewN q) = .ok (.string (strOf o)) (w4.drewN q) := HCV.out
            have HUS := hide (fun q => (qused_any p s j false (w4.drewN q) HO4.out.rd HJ8.out (by omega)).mono fun e w' h => (⟨h.1, h.2.symm⟩ : e = .returned (.int .i64 (((j + 7) / 8 : Nat) : Int)) ∧ w' = w4.drewN q))
            clear HB HF4 HE HIJ HJ8 HCV
            go_wp2_with fail
            go_quiet ((go_at_call 25; exact Calls.quiet_of_same (HUS.out _)))
            go_wp2
            go_ret3
            exact HG.out _
          · have bl : ((x1 : Int) == 1) = false := by simp; omega
            have HE2 := hide (show openP limit f o (srcB s) (8 * s.size) j = R by rw [← HE.out]; exact (opn_more HB.out l1).symm)
            clear HB HE l1
            go_wp2
            go_roundg (8 * s.size - j)
            case measure => have := HGK.out; have := HIJ.out; have := HJ8.out; omega
            case rel => exact ⟨j, o, f, a4, c4, rfl, HJ8.out, Nat.le_refl _, by have := HFU.out; have := HIJ.out; omega, HF4, HE2, HO4⟩
        · have HG := hide (HERR.out er her (HBK.out.trans (pk_err HGD.out hR)) w4 hb4)
          have be : (er == 0) = false := by simp; exact her
          clear hR hb4 HPO HBK HERR HF HGD HRG1 HRG2 HX HY
          go_wp2
          go_ret3
          exact HG.out
      · have HG := hide (HERR.out er her (HH.out.trans (blk_lens_err hR5)) w5 (HOp.out.bad ht5))
        have be : (er == 0) = false := by simp; exact her
        clear ht5 hR5 HLN HOp HH HERR HF
        go_wp2
        go_ret3
        exact HG.out
    · have HG := hide (HERR.out 3 (by decide) (HH.out.trans blk_none) w3 HO3.out.bel)
      go_wp2
      go_ret3
      exact HG.out

end Go.Proofs.Ytaalbaiglkadlaa
