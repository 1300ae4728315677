/- The program's layer 11: the tokens of a block by its codes' lengths. -/
import Derived.Test.YtaalbaiglkadlaaGreatICodeK
import Derived.Test.YtaalbaiglkadlaaGreatICodeF
namespace Go.Proofs.YtaalbaiglkadlaaGreat
open Go.RowKit Go.Lib

set_option maxRecDepth 20000 in
set_option maxHeartbeats 16000000 in
theorem coded11 (X Y : List Int) (ax ay : Option Addr) (cx cy O p : Nat) (s : ByteArray) (i : Nat) (out : List Nat) (v : Value) (limit : Int) (W0 W : World) (h : OpSt W W0 O p s i out v limit) (hX : ArgZ W ax X) (hY : ArgZ W ay Y) (hX1 : 257 ≤ X.length) (hX2 : X.length ≤ 1000) (hY2 : Y.length ≤ 1000)
    (hi : i ≤ 8 * s.size) (hs : s.size ≤ 100000) (h1 : -9223372036854775808 ≤ limit) (h2 : limit ≤ 1000000) (hr : out = [] ∨ (out.length : Int) ≤ limit) :
    Calls Tryz.prog 25 #[.pointer (some ⟨O, 0, none⟩), .slice ax X.length cx, .slice ay Y.length cy] W fun e w' => PieceO (codedP limit out (X, Y) (srcB s) (8 * s.size) i) W0 O p s limit e w' := by
  have H := hide h
  have HX := hide hX
  have HY := hide hY
  have HRM := hide hr
  obtain ⟨nX, hnX⟩ : ∃ n, X.length = n := ⟨_, rfl⟩
  obtain ⟨nY, hnY⟩ : ∃ n, Y.length = n := ⟨_, rfl⟩
  have HXN := hide hnX
  have HYN := hide hnY
  rw [hnX] at hX1 hX2 ⊢
  rw [hnY] at hY2 ⊢
  obtain ⟨R, hR⟩ : ∃ R, codedP limit out (X, Y) (srcB s) (8 * s.size) i = R := ⟨_, rfl⟩
  have HR := hide hR
  rw [hR]
  have HERR := hide (fun (e : Int) (he : e ≠ 0) (hr : R = .error e) (w' : World) (hb : Below W0.heap.size W0 w') => (show PieceO R W0 O p s limit (.returned (.int .i64 e)) w' from .inr ⟨e, hr, he, rfl, hb⟩))
  have HB6 := hide (build_any X ax cx W hX (by omega))
  rw [hnX] at HB6
  have hzc := Tryz.zeroCode
  have hZ1 := codeCs_one (fun _ => 0) (.slice none 0 0) rfl
  have hZn := codeCs_length (fun _ => 0) (.slice none 0 0)
  obtain ⟨Z2, hZ2⟩ : ∃ Z, codeCs (fun _ => 0) (.slice none 0 0) = Z := ⟨_, rfl⟩
  simp only [hZ2] at hzc hZ1 hZn
  have HZn := hide hZn
  have HOLD := hide h.old
  clear hZ2 hZ1 hZn h hX hY hr hnX hnY hR
  go_enter Tryz.func25, Tryz.ntmps25
  go_wp2_with fail
  refine HB6.out.mono ?_
  rintro e w6 ⟨r, rfl, hbr, hb6⟩
  obtain ⟨f1, s1, m1, k1, er1, rfl, hor1⟩ := built_out hbr
  have HR1 := hide hor1
  have HO6 := hide (H.out.below hb6)
  have HX6 := hide (HX.out.below hb6)
  have HY6 := hide (HY.out.below hb6)
  have HN6 := hide hb6.size
  have hcs1 := codeCs_one f1 (.slice s1 m1 k1) rfl
  have hcn1 := codeCs_length f1 (.slice s1 m1 k1)
  unfold codeV
  obtain ⟨cs1, hce1⟩ : ∃ cs, codeCs f1 (.slice s1 m1 k1) = cs := ⟨_, rfl⟩
  have HCE1 := hide hce1
  rw [hce1] at hcs1 hcn1
  try simp only [hce1]
  have HCN1 := hide hcn1
  have hst1 := code_store w6 Z2 cs1 HZn.out hcn1 hcs1
  clear hbr hb6 hor1 hce1 HB6 H HX HY
  rcases HR1.out with ⟨g1, rfl⟩ | ⟨g1, rfl, hf1, hm1, ha1, hn1⟩
  · have HG := hide (HERR.out 4 (by decide) (by
      rw [← HR.out]
      unfold codedP
      refine bindP_err ?_
      rw [show (goodB X && goodB Y) = false by rw [g1]; rfl]
      rfl) (w6.alloc (.cells cs1.toArray 80)) (HO6.out.st.bel.alloc HO6.out.st.bel.size _))
    clear HR1
    go_wp2
    go_ret
    exact HG.out
  obtain ⟨w7, hw7⟩ : ∃ w7, w6.alloc (.cells cs1.toArray 80) = w7 := ⟨_, rfl⟩
  have b67 : Below w6.heap.size w6 w7 := by rw [← hw7]; exact (Below.refl _ w6).alloc (Nat.le_refl _) _
  have HQ1 := hide (show w7.heap[w6.heap.size]? = some (.cells cs1.toArray 80 (0, 0)) by rw [← hw7]; exact heap_alloc_at w6 _ rfl)
  have HO7 := hide (HO6.out.below b67)
  have HX7 := hide (HX6.out.below b67)
  have B67 := hide b67
  have HB8 := hide (build_any Y ay cy w7 (HY6.out.below b67) (by rw [HYN.out]; omega))
  rw [HYN.out] at HB8
  rw [hw7] at hst1
  clear b67 hw7 HR1
  go_wp2_with fail
  refine HB8.out.mono ?_
  rintro e w8 ⟨r, rfl, hbr, hb8⟩
  obtain ⟨f2, s2, m2, k2, er2, rfl, hor2⟩ := built_out hbr
  have HR2 := hide hor2
  have HO8 := hide (HO7.out.below hb8)
  have hcs2 := codeCs_one f2 (.slice s2 m2 k2) rfl
  have hcn2 := codeCs_length f2 (.slice s2 m2 k2)
  unfold codeV
  obtain ⟨cs2, hce2⟩ : ∃ cs, codeCs f2 (.slice s2 m2 k2) = cs := ⟨_, rfl⟩
  have HCE2 := hide hce2
  rw [hce2] at hcs2 hcn2
  try simp only [hce2]
  have HCN2 := hide hcn2
  have hst2 := code_store w8 Z2 cs2 HZn.out hcn2 hcs2
  obtain ⟨w9, hw9⟩ : ∃ w9, w8.alloc (.cells cs2.toArray 80) = w9 := ⟨_, rfl⟩
  have b89 : Below w8.heap.size w8 w9 := by rw [← hw9]; exact (Below.refl _ w8).alloc (Nat.le_refl _) _
  have HQ2 := hide (show w9.heap[w8.heap.size]? = some (.cells cs2.toArray 80 (0, 0)) by rw [← hw9]; exact heap_alloc_at w8 _ rfl)
  have HQ3 := hide (show w9.heap[w6.heap.size]? = some (.cells cs1.toArray 80 (0, 0)) by
    have hlt := (Array.getElem?_eq_some_iff.1 HQ1.out).1
    rw [b89.block _ (Nat.lt_of_lt_of_le hlt hb8.size), hb8.block _ hlt]
    exact HQ1.out)
  have HO9 := hide (HO8.out.below b89)
  have HX9 := hide ((HX7.out.below hb8).below b89)
  have B69 := hide (B67.out.trans ((hb8.trans (b89.mono hb8.size)).mono B67.out.size))
  have B89 := hide b89
  rw [hw9] at hst2
  have HN8 := hide (show W.heap.size ≤ w7.heap.size from Nat.le_trans HN6.out B67.out.size)
  clear hbr hb8 hor2 hce2 HB8 hcn2 hcs2 b89 hw9 hst1 HQ1 HO7 HY6 HX6 HX7
  rcases HR2.out with ⟨g2, rfl⟩ | ⟨g2, rfl, hf2, hm2, ha2, hn2⟩
  · have HG := hide (HERR.out 4 (by decide) (by
      rw [← HR.out]
      unfold codedP
      refine bindP_err ?_
      rw [show (goodB X && goodB Y) = false by rw [g2, Bool.and_false]]
      rfl) w9 HO9.out.st.bel)
    clear HR2
    go_wp2
    go_ret
    exact HG.out
  obtain ⟨y, hy⟩ : ∃ y, X[256]? = some y := ⟨_, List.getElem?_eq_getElem (by rw [HXN.out]; omega)⟩
  obtain ⟨bx, ox, hax, hbx, hcx⟩ := HX9.out 256 y hy
  subst hax
  have hcx : w9.cell? ⟨bx, ox + 256, none⟩ = some (.int .i64 y) := hcx
  have hgd : X.getD 256 0 = y := by rw [List.getD_eq_getElem?_getD, hy]; rfl
  have zX6 : (256 : Int) < nX := by omega
  by_cases y0 : y = 0
  · have HG := hide (HERR.out 4 (by decide) (by
      rw [← HR.out]
      unfold codedP
      rw [bindP_ok (a := ()) (j := i) (by rw [show (goodB X && goodB Y) = true by rw [g1, g2]; rfl]; rfl)]
      refine bindP_err ?_
      unfold stopK
      rw [decide_eq_false (fun g => g (hgd.trans y0))]
      rfl) w9 HO9.out.st.bel)
    subst y0
    clear HR2 hgd hy HX9
    go_wp2
    go_ret
    exact HG.out
  have yb : (y == 0) = false := by simp; exact y0
  have HPP := hide (show R = pourP (X.map Int.toNat) (Y.map Int.toNat) limit 1000000 out (srcB s) (8 * s.size) i by
    rw [← HR.out]
    unfold codedP
    rw [bindP_ok (a := ()) (j := i) (by rw [show (goodB X && goodB Y) = true by rw [g1, g2]; rfl]; rfl), bindP_ok (a := ()) (j := i) (by unfold stopK; rw [decide_eq_true (show (X, Y).1.getD 256 0 ≠ 0 from fun e => y0 (hgd.symm.trans e))]; rfl)])
  have HSZ1 := hide (show (Tryz.prog.info? 80).map (·.size) = some cs1.length by rw [HCN1.out]; exact Tryz.sizeCode)
  have HSZ2 := hide (show (Tryz.prog.info? 80).map (·.size) = some cs2.length by rw [HCN2.out]; exact Tryz.sizeCode)
  have HRG1 := hide (code_range HQ3.out)
  have HRG2 := hide (code_range HQ2.out)
  have HKA := hide (ko_new (O := O) (p := p) (v := v) ha1 hn1 HOLD.out.1 HOLD.out.2.1 HOLD.out.2.2.1 B69.out)
  have HKB := hide (ko_new (O := O) (p := p) (v := v) ha2 hn2 (Nat.lt_of_lt_of_le HOLD.out.1 HN8.out) (Nat.lt_of_lt_of_le HOLD.out.2.1 HN8.out) (fun k hk => Nat.lt_of_lt_of_le (HOLD.out.2.2.1 k hk) HN8.out) B89.out)
  have HTK := hide (tokens11 (X.map Int.toNat) (Y.map Int.toNat) s1 s2 k1 m1 k2 m2 O p s i out v limit W0 w9 HO9.out HKA.out HKB.out hm1 hm2 (by rw [List.length_map, HXN.out]; exact hX2) (by rw [List.length_map, HYN.out]; exact hY2) hi hs h1 h2 HRM.out)
  subst hf1
  subst hf2
  unfold codeV at HTK
  rw [HCE1.out, HCE2.out, ← HPP.out] at HTK
  have hcn1 := HCN1.out
  have hcn2 := HCN2.out
  clear HR2 hm1 ha1 hn1 hm2 ha2 hn2 g1 g2 HKA HKB HOLD HO9 HO6 HO8 HCE1 HCE2 HQ2 HQ3 B69 B89 B67 HN8 HN6 HCN1 HCN2 HZn HX9 hgd hy HPP HR
  go_wp2_with (first
    | (refine wpList_load_mid rfl 80 (Operand.tmp 7) rfl w6.heap.size 0 rfl cs1 _ HRG1.out Tryz.underlying80 rfl HSZ1.out ?_)
    | (refine wpList_load_mid rfl 80 (Operand.tmp 9) rfl w8.heap.size 0 rfl cs2 _ HRG2.out Tryz.underlying80 rfl HSZ2.out ?_))
  refine HTK.out.mono ?_
  rintro e w4 (⟨o, j, v4, hR, rfl, hO4⟩ | ⟨er, hR, her, rfl, hb4⟩)
  · have HG := hide (show PieceO R W0 O p s limit (.returned (.int .i64 0)) w4 from .inl ⟨o, j, v4, hR, rfl, hO4⟩)
    clear hR hO4 HTK HRG1 HRG2
    go_wp2
    go_ret
    exact HG.out
  · have HG := hide (HERR.out er her hR w4 hb4)
    clear hR hb4 HTK HRG1 HRG2
    go_wp2
    go_ret
    exact HG.out

end Go.Proofs.YtaalbaiglkadlaaGreat
