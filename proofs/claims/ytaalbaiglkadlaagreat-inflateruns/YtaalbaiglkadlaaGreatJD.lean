import Derived.Test.YtaalbaiglkadlaaGreatJC
import Derived.Test.YtaalbaiglkadlaaGreatJB
import Derived.Test.YtaalbaiglkadlaaGreatBCa
/- The program's layer 11: the tokens of a block by its codes' lengths. -/
namespace Go.Proofs.YtaalbaiglkadlaaGreat
open Go.RowKit Go.Lib

set_option maxRecDepth 20000 in
set_option maxHeartbeats 16000000 in
theorem coded11 (X Y : List Int) (ax ay : Option Addr) (cx cy O p : Nat) (s : ByteArray) (i : Nat) (out : List Nat) (v : Value) (limit : Int) (W0 W : World) (h : OpSt W W0 O p s i out v limit) (hX : ArgZ W ax X) (hY : ArgZ W ay Y) (hX1 : 257 ≤ X.length) (hX2 : X.length ≤ 1000) (hY2 : Y.length ≤ 1000)
    (hi : i ≤ 8 * s.size) (hs : s.size ≤ 100000) (h1 : -9223372036854775808 ≤ limit) (h2 : limit ≤ 1000000) (hr : out = [] ∨ (out.length : Int) ≤ limit) :
    Calls Tryz.prog 25 #[.pointer (some ⟨O, 0, none⟩), .slice ax X.length cx, .slice ay Y.length cy] W fun e w' => PieceO (codedP limit out (X, Y) (srcB s) (8 * s.size) i) W0 O p s limit e w' := by
  have H := hide h
  have HX := hide hX
  have HY := hide hY
  have HRM := hide hr
  obtain ⟨nX, hnX⟩ : ∃ n, X.length = n := ⟨_, rfl⟩
  obtain ⟨nY, hnY⟩ : ∃ n, Y.length = n := ⟨_, rfl⟩
  have HXN := hide hnX
  have HYN := hide hnY
  rw [hnX] at hX1 hX2 ⊢
  rw [hnY] at hY2 ⊢
  obtain ⟨R, hR⟩ : ∃ R, codedP limit out (X, Y) (srcB s) (8 * s.size) i = R := ⟨_, rfl⟩
  have HR := hide hR
  rw [hR]
  have HERR := hide (fun (e : Int) (he : e ≠ 0) (hr : R = .error e) (w' : World) (hb : Below W0.heap.size W0 w') => (show PieceO R W0 O p s limit (.returned (.int .i64 e)) w' from .inr ⟨e, hr, he, rfl, hb⟩))
  have HB6 := hide (build_any X ax cx W hX (by omega))
  rw [hnX] at HB6
  have hzc := Tryz.zeroCode
  have hZ1 := codeCs_one (fun _ => 0) (.slice none 0 0) rfl
  have hZn := codeCs_length (fun _ => 0) (.slice none 0 0)
  obtain ⟨Z2, hZ2⟩ : ∃ Z, codeCs (fun _ => 0) (.slice none 0 0) = Z := ⟨_, rfl⟩
  simp only [hZ2] at hzc hZ1 hZn
  have HZn := hide hZn
  have HOLD := hide h.old
  clear hZ2 hZ1 hZn h hX hY hr hnX hnY hR
  go_enter Tryz.func25, Tryz.ntmps25
  go_wp2_with fail
  refine HB6.out.mono ?_
  rintro e w6 ⟨r, rfl, hbr, hb6⟩
  obtain ⟨f1, s1, m1, k1, er1, rfl, hor1⟩ := built_out hbr
  have HR1 := hide hor1
  have HO6 := hide (H.out.below hb6)
  have HX6 := hide (HX.out.below hb6)
  have HY6 := hide (HY.out.below hb6)
  have HN6 := hide hb6.size
  have hcs1 := codeCs_one f1 (.slice s1 m1 k1) rfl
  have hcn1 := codeCs_length f1 (.slice s1 m1 k1)
  unfold codeV
  obtain ⟨cs1, hce1⟩ : ∃ cs, codeCs f1 (.slice s1 m1 k1) = cs := ⟨_, rfl⟩
  have HCE1 := hide hce1
  rw [hce1] at hcs1 hcn1
  try simp only [hce1]
  have HCN1 := hide hcn1
  have hst1 := code_store w6 Z2 cs1 HZn.out hcn1 hcs1
  clear hbr hb6 hor1 hce1 HB6 H HX HY
  rcases HR1.out with ⟨g1, rfl⟩ | ⟨g1, rfl, hf1, hm1, ha1, hn1⟩
  · have HG := hide (HERR.out 4 (by decide) (by
      rw [← HR.out]
      unfold codedP
      refine bindP_err ?_
      rw [show (goodB X && goodB Y) = false by rw [g1]; rfl]
      rfl) (w6.alloc (.cells cs1.toArray 80)) (HO6.out.st.bel.alloc HO6.out.st.bel.size _))
    clear HR1
    go_wp2
    go_ret
    exact HG.out
  obtain ⟨w7, hw7⟩ : ∃ w7, w6.alloc (.cells cs1.toArray 80) = w7 := ⟨_, rfl⟩
  have b67 : Below w6.heap.size w6 w7 := by rw [← hw7]; exact (Below.refl _ w6).alloc (Nat.le_refl _) _
  have HQ1 := hide (show w7.heap[w6.heap.size]? = some (.cells cs1.toArray 80 (0, 0)) by rw [← hw7]; exact heap_alloc_at w6 _ rfl)
  have HO7 := hide (HO6.out.below b67)
  have HX7 := hide (HX6.out.below b67)
  have B67 := hide b67
  have HB8 := hide (build_any Y ay cy w7 (HY6.out.below b67) (by rw [HYN.out]; omega))
  rw [HYN.out] at HB8
  rw [hw7] at hst1
  clear b67 hw7 HR1
  go_wp2_with fail
  refine HB8.out.mono ?_
  rintro e w8 ⟨r, rfl, hbr, hb8⟩
  obtain ⟨f2, s2, m2, k2, er2, rfl, hor2⟩ := built_out hbr
  have HR2 := hide hor2
  have HO8 := hide (HO7.out.below hb8)
  have hcs2 := codeCs_one f2 (.slice s2 m2 k2) rfl
  have hcn2 := codeCs_length f2 (.slice s2 m2 k2)
  unfold codeV
  obtain ⟨cs2, hce2⟩ : ∃ cs, codeCs f2 (.slice s2 m2 k2) = cs := ⟨_, rfl⟩
  have HCE2 := hide hce2
  rw [hce2] at hcs2 hcn2
  try simp only [hce2]
  have HCN2 := hide hcn2
  have hst2 := code_store w8 Z2 cs2 HZn.out hcn2 hcs2
  obtain ⟨w9, hw9⟩ : ∃ w9, w8.alloc (.cells cs2.toArray 80) = w9 := ⟨_, rfl⟩
  have b89 : Below w8.heap.size w8 w9 := by rw [← hw9]; exact (Below.refl _ w8).alloc (Nat.le_refl _) _
  have HQ2 := hide (show w9.heap[w8.heap.size]? = some (.cells cs2.toArray 80 (0, 0)) by rw [← hw9]; exact heap_alloc_at w8 _ rfl)
  have HQ3 := hide (show w9.heap[w6.heap.size]? = some (.cells cs1.toArray 80 (0, 0)) by
    have hlt := (Array.getElem?_eq_some_iff.1 HQ1.out).1
    rw [b89.block _ (Nat.lt_of_lt_of_le hlt hb8.size), hb8.block _ hlt]
    exact HQ1.out)
  have HO9 := hide (HO8.out.below b89)
  have HX9 := hide ((HX7.out.below hb8).below b89)
  have B69 := hide (B67.out.trans ((hb8.trans (b89.mono hb8.size)).mono B67.out.size))
  have B89 := hide b89
  rw [hw9] at hst2
  have HN8 := hide (show W.heap.size ≤ w7.heap.size from Nat.le_trans HN6.out B67.out.size)
  clear hbr hb8 hor2 hce2 HB8 hcn2 hcs2 b89 hw9 hst1 HQ1 HO7 HY6 HX6 HX7
  rcases HR2.out with ⟨g2, rfl⟩ | ⟨g2, rfl, hf2, hm2, ha2, hn2⟩
  · have HG := hide (HERR.out 4 (by decide) (by
      rw [← HR.out]
      unfold codedP
      refine bindP_err ?_
      rw [show (goodB X && goodB Y) = false by rw [g2, Bool.and_false]]
      rfl) w9 HO9.out.st.bel)
    clear HR2
    go_wp2
    go_ret
    exact HG.out
  obtain ⟨y, hy⟩ : ∃ y, X[256]? = some y := ⟨_, List.getElem?_eq_getElem (by rw [HXN.out]; omega)⟩
  obtain ⟨bx, ox, hax, hbx, hcx⟩ := HX9.out 256 y hy
  subst hax
  have hcx : w9.cell? ⟨bx, ox + 256, none⟩ = some (.int .i64 y) := hcx
  have hgd : X.getD 256 0 = y := by rw [List.getD_eq_getElem?_getD, hy]; rfl
  have zX6 : (256 : Int) < nX := by omega
  by_cases y0 : y = 0
  · have HG := hide (HERR.out 4 (by decide) (by
      rw [← HR.out]
      unfold codedP
      rw [bindP_ok (a := ()) (j := i) (by rw [show (goodB X && goodB Y) = true by rw [g1, g2]; rfl]; rfl)]
      refine bindP_err ?_
      unfold stopK
      rw [decide_eq_false (fun g => g (hgd.trans y0))]
      rfl) w9 HO9.out.st.bel)
    subst y0
    clear HR2 hgd hy HX9
    go_wp2
    go_ret
    exact HG.out
  have yb : (y == 0) = false := by simp; exact y0
  have HPP := hide (show R = pourP (X.map Int.toNat) (Y.map Int.toNat) limit 1000000 out (srcB s) (8 * s.size) i by
    rw [← HR.out]
    unfold codedP
    rw [bindP_ok (a := ()) (j := i) (by rw [show (goodB X && goodB Y) = true by rw [g1, g2]; rfl]; rfl), bindP_ok (a := ()) (j := i) (by unfold stopK; rw [decide_eq_true (show (X, Y).1.getD 256 0 ≠ 0 from fun e => y0 (hgd.symm.trans e))]; rfl)])
  have HSZ1 := hide (show (Tryz.prog.info? 80).map (·.size) = some cs1.length by rw [HCN1.out]; exact Tryz.sizeCode)
  have HSZ2 := hide (show (Tryz.prog.info? 80).map (·.size) = some cs2.length by rw [HCN2.out]; exact Tryz.sizeCode)
  have HRG1 := hide (code_range HQ3.out)
  have HRG2 := hide (code_range HQ2.out)
  have HKA := hide (ko_new (O := O) (p := p) (v := v) ha1 hn1 HOLD.out.1 HOLD.out.2.1 HOLD.out.2.2.1 B69.out)
  have HKB := hide (ko_new (O := O) (p := p) (v := v) ha2 hn2 (Nat.lt_of_lt_of_le HOLD.out.1 HN8.out) (Nat.lt_of_lt_of_le HOLD.out.2.1 HN8.out) (fun k hk => Nat.lt_of_lt_of_le (HOLD.out.2.2.1 k hk) HN8.out) B89.out)
  have HTK := hide (tokens11 (X.map Int.toNat) (Y.map Int.toNat) s1 s2 k1 m1 k2 m2 O p s i out v limit W0 w9 HO9.out HKA.out HKB.out hm1 hm2 (by rw [List.length_map, HXN.out]; exact hX2) (by rw [List.length_map, HYN.out]; exact hY2) hi hs h1 h2 HRM.out)
  subst hf1
  subst hf2
  unfold codeV at HTK
  rw [HCE1.out, HCE2.out, ← HPP.out] at HTK
  have hcn1 := HCN1.out
  have hcn2 := HCN2.out
  clear HR2 hm1 ha1 hn1 hm2 ha2 hn2 g1 g2 HKA HKB HOLD HO9 HO6 HO8 HCE1 HCE2 HQ2 HQ3 B69 B89 B67 HN8 HN6 HCN1 HCN2 HZn HX9 hgd hy HPP HR
  go_wp2_with (first
    | (refine wpList_load_mid rfl 80 (Operand.tmp 7) rfl w6.heap.size 0 rfl cs1 _ HRG1.out Tryz.underlying80 rfl HSZ1.out ?_)
    | (refine wpList_load_mid rfl 80 (Operand.tmp 9) rfl w8.heap.size 0 rfl cs2 _ HRG2.out Tryz.underlying80 rfl HSZ2.out ?_))
  refine HTK.out.mono ?_
  rintro e w4 (⟨o, j, v4, hR, rfl, hO4⟩ | ⟨er, hR, her, rfl, hb4⟩)
  · have HG := hide (show PieceO R W0 O p s limit (.returned (.int .i64 0)) w4 from .inl ⟨o, j, v4, hR, rfl, hO4⟩)
    clear hR hO4 HTK HRG1 HRG2
    go_wp2
    go_ret
    exact HG.out
  · have HG := hide (HERR.out er her hR w4 hb4)
    clear hR hb4 HTK HRG1 HRG2
    go_wp2
    go_ret
    exact HG.out

end Go.Proofs.YtaalbaiglkadlaaGreat

/- The program's layer 11 meets what is asked of it. -/
namespace Go.Proofs.YtaalbaiglkadlaaGreat
open Go.RowKit Go.Lib

set_option maxRecDepth 20000 in
set_option maxHeartbeats 8000000 in
theorem dynamic11 (O p : Nat) (s : ByteArray) (i : Nat) (out : List Nat) (v : Value) (limit : Int) (W0 W : World) (h : OpSt W W0 O p s i out v limit) (hi : i ≤ 8 * s.size) (hs : s.size ≤ 100000) (h1 : -9223372036854775808 ≤ limit) (h2 : limit ≤ 1000000) (hr : out = [] ∨ (out.length : Int) ≤ limit) :
    Calls Tryz.prog 27 #[.pointer (some ⟨O, 0, none⟩)] W fun e w' => PieceO (bindP headP (codedP limit out) (srcB s) (8 * s.size) i) W0 O p s limit e w' := by
  have H := hide h
  have HRM := hide hr
  have HHD := hide (header11 O p v limit s i W h.bx h.st.rd hi hs)
  obtain ⟨R, hR⟩ : ∃ R, bindP headP (codedP limit out) (srcB s) (8 * s.size) i = R := ⟨_, rfl⟩
  have HR := hide hR
  rw [hR]
  clear h hr hR
  go_enter Tryz.func27, Tryz.ntmps27
  go_wp2_with fail
  refine HHD.out.mono ?_
  rintro e w1 ⟨t1, ⟨X, Y, j, a1, c1, a2, c2, hR1, rfl, hj8, hX1, hX2, hY2, hAX, hAY, hr1⟩ | ⟨er, hR1, her, rfl⟩⟩
  · have H1 := hide (H.out.read t1 hr1)
    have HE := hide (show R = codedP limit out (X, Y) (srcB s) (8 * s.size) j by rw [← HR.out]; exact bindP_ok hR1)
    have HCD := hide (coded11 X Y a1 a2 c1 c2 O p s j out v limit W0 w1 H1.out hAX hAY hX1 (by omega) (by omega) hj8 hs h1 h2 HRM.out)
    rw [← HE.out] at HCD
    generalize X.length = nX at *
    generalize Y.length = nY at *
    clear t1 hR1 hAX hAY hr1 H HHD HE H1
    go_wp2_with fail
    refine HCD.out.mono ?_
    rintro e w2 (⟨o, j2, v2, hR2, rfl, hO2⟩ | ⟨er, hR2, her, rfl, hb2⟩)
    · have HG := hide (show PieceO R W0 O p s limit (.returned (.int .i64 0)) w2 from .inl ⟨o, j2, v2, hR2, rfl, hO2⟩)
      clear hR2 hO2 HCD
      go_wp2
      go_ret
      exact HG.out
    · have HG := hide (show PieceO R W0 O p s limit (.returned (.int .i64 er)) w2 from .inr ⟨er, hR2, her, rfl, hb2⟩)
      clear hR2 hb2 HCD
      go_wp2
      go_ret
      exact HG.out
  · have HG := hide (show PieceO R W0 O p s limit (.returned (.int .i64 er)) w1 from .inr ⟨er, by rw [← HR.out]; exact bindP_err hR1, her, rfl, H.out.bad t1⟩)
    have be : (er == 0) = false := by simp; exact her
    clear t1 hR1 H HHD
    go_wp2
    go_ret
    exact HG.out

/-- What a block gives: whether it is the last one, bytes; or an error. -/
def BlkP (R : Except Int ((Nat × List Nat) × Nat)) (W0 : World) (O p : Nat) (s : ByteArray) (limit : Int) (e : Ending) (w' : World) : Prop :=
  (∃ x o j v', R = .ok ((x, o), j) ∧ e = .returned (.tuple #[.bool ((x : Int) == 1), .int .i64 0]) ∧ OpSt w' W0 O p s j o v' limit) ∨
  (∃ b er, R = .error er ∧ er ≠ 0 ∧ e = .returned (.tuple #[.bool b, .int .i64 er]) ∧ Below W0.heap.size W0 w')
theorem PieceO.blk {P : Ps (List Nat)} {x : Nat} {W0 w' : World} {O p q : Nat} {s : ByteArray} {limit : Int} {e : Ending} {R : Except Int ((Nat × List Nat) × Nat)} (h : PieceO (P (srcB s) (8 * s.size) q) W0 O p s limit e w') (hR : R = bindP P (fun o => pureP (x, o)) (srcB s) (8 * s.size) q) :
    ∃ er : Int, e = .returned (.int .i64 er) ∧ BlkP R W0 O p s limit (.returned (.tuple #[.bool ((x : Int) == 1), .int .i64 er])) w' := by
  rcases h with ⟨o, j, v', h1, rfl, h2⟩ | ⟨er, h1, h2, rfl, h3⟩
  · exact ⟨0, rfl, .inl ⟨x, o, j, v', hR.trans (bindP_ok h1), rfl, h2⟩⟩
  · exact ⟨er, rfl, .inr ⟨_, er, hR.trans (bindP_err h1), h2, rfl, h3⟩⟩
theorem plainL_len : (plainL.map fun (x : Nat) => (x : Int)).length = plainL.length := List.length_map ..
theorem plainD_len : (plainD.map fun (x : Nat) => (x : Int)).length = plainD.length := List.length_map ..

set_option maxRecDepth 20000 in
set_option maxHeartbeats 16000000 in
theorem block11 (O p : Nat) (s : ByteArray) (i : Nat) (out : List Nat) (v : Value) (limit : Int) (W0 W : World) (h : OpSt W W0 O p s i out v limit) (hi : i ≤ 8 * s.size) (hs : s.size ≤ 100000) (h1 : -9223372036854775808 ≤ limit) (h2 : limit ≤ 1000000) (hr : out = [] ∨ (out.length : Int) ≤ limit) :
    Calls Tryz.prog 14 #[.pointer (some ⟨O, 0, none⟩)] W fun e w' => BlkP (blockP limit out (srcB s) (8 * s.size) i) W0 O p s limit e w' := by
  have H := hide h
  have HRM := hide hr
  obtain ⟨x1, q1, b1, hx1, hq1, hr1, HC1⟩ := rd_all 1 p i s false (by decide) hi (by omega)
  obtain ⟨x2, q2, b2, hx2, hq2, hr2, HC2⟩ := rd_all 2 p q1 s b1 (by decide) hq1 (by omega)
  have HHD := hide (block_heads (limit := limit) (out := out) hr1 hr2)
  obtain ⟨R, hR⟩ : ∃ R, blockP limit out (srcB s) (8 * s.size) i = R := ⟨_, rfl⟩
  rw [hR] at HHD ⊢
  have HC1 := hide (HC1 W h.st.rd)
  have HC2 := hide HC2
  have _b1 := h.bx.c1
  have hx1 : x1 < 2 := hx1
  have hx2 : x2 < 4 := hx2
  have HQ2 := hide hq2
  clear hr1 hr2 hR h hq1 hq2 hr
  go_enter Tryz.func14, Tryz.ntmps14
  go_wp2_with fail
  refine HC1.out.mono ?_
  rintro e w1 ⟨rfl, ho1, hr1⟩
  have HT1 := hide ho1.turn
  have HC2 := hide (HC2.out w1 hr1)
  have HB1 := hide (H.out.bx.turn HT1.out)
  have _b2 := HB1.out.c1
  obtain ⟨lb, hlb⟩ : ∃ lb, ((x1 : Int) == 1) = lb := ⟨_, rfl⟩
  have HLB := hide hlb
  clear ho1 hr1 HC1 _b1 hx1
  go_wp2_with fail
  refine HC2.out.mono ?_
  rintro e w2 ⟨rfl, ho2, hr2⟩
  have HT2 := hide (HT1.out.trans ho2.turn)
  have HB2 := hide (H.out.bx.turn HT2.out)
  have _b3 := HB2.out.c0
  have _c2 := hr2.c2
  have HR2 := hide hr2
  clear ho2 hr2 HC2 HT1 HB1 _b2
  rcases HHD.out with ⟨rfl, hh⟩ | ⟨rfl, _, hh⟩
  · have HG := hide (show BlkP R W0 O p s limit (.returned (.tuple #[.bool false, .int .i64 2])) w2 from .inr ⟨false, 2, hh, by decide, rfl, H.out.bad HT2.out⟩)
    clear hh HHD
    go_wp2
    go_ret2
    exact HG.out
  have HK := hide (show R = bindP (kindP limit out x2) (fun o => pureP (x1, o)) (srcB s) (8 * s.size) q2 by rw [hh, block_kind])
  have H2 := hide (H.out.read HT2.out HR2.out)
  clear hh HHD H HR2 HT2 HB2
  by_cases k0 : x2 = 0
  · have e0 : ((x2 : Int) == 0) = true := by simp; omega
    have HPB := hide (fun (e : Ending) (w' : World) (hp : PieceO (rawP limit out (srcB s) (8 * s.size) q2) W0 O p s limit e w') => hp.blk (x := x1) (R := R) (by rw [HK.out]; unfold kindP; rw [if_pos k0]))
    have HST := hide (stored11 O p s q2 out v limit W0 w2 H2.out HQ2.out hs h1 h2 HRM.out)
    clear k0 HK H2
    go_wp2_with fail
    refine HST.out.mono ?_
    rintro e w3 hp
    obtain ⟨er, rfl, hb⟩ := HPB.out _ _ hp
    rw [HLB.out] at hb
    have HG := hide hb
    clear hp hb HPB HST
    go_wp2
    go_ret2
    exact HG.out
  have e0 : ((x2 : Int) == 0) = false := by simp; omega
  by_cases k1 : x2 = 1
  · have e1 : ((x2 : Int) == 1) = true := by simp; omega
    have HPB := hide (fun (e : Ending) (w' : World) (hp : PieceO (codedP limit out ((plainL.map fun (x : Nat) => (x : Int)), (plainD.map fun (x : Nat) => (x : Int))) (srcB s) (8 * s.size) q2) W0 O p s limit e w') => hp.blk (x := x1) (R := R) (by rw [HK.out]; unfold kindP; rw [if_neg k0, if_neg (by omega), if_pos k1]))
    have HPL := hide (plain9 w2)
    clear k0 k1 HK
    go_wp2_with fail
    refine HPL.out.mono ?_
    rintro e w3 ⟨a1, c1, a2, c2, rfl, hA, hB, _, _, b3, _, _⟩
    have H3 := hide (H2.out.below b3)
    have HCD := hide (coded11 (plainL.map fun (x : Nat) => (x : Int)) (plainD.map fun (x : Nat) => (x : Int)) a1 a2 c1 c2 O p s q2 out v limit W0 w3 H3.out hA.toZ hB.toZ (by decide +kernel) (by decide +kernel) (by decide +kernel) HQ2.out hs h1 h2 HRM.out)
    rw [plainL_len, plainD_len] at HCD
    generalize plainL.length = nL at *
    generalize plainD.length = nD at *
    clear hA hB b3 HPL H2 H3
    go_wp2_with fail
    refine HCD.out.mono ?_
    rintro e w4 hp
    obtain ⟨er, rfl, hb⟩ := HPB.out _ _ hp
    rw [HLB.out] at hb
    have HG := hide hb
    clear hp hb HPB HCD
    go_wp2
    go_ret2
    exact HG.out
  have e1 : ((x2 : Int) == 1) = false := by simp; omega
  by_cases k2 : x2 = 2
  · have e2 : ((x2 : Int) == 2) = true := by simp; omega
    have HPB := hide (fun (e : Ending) (w' : World) (hp : PieceO (bindP headP (codedP limit out) (srcB s) (8 * s.size) q2) W0 O p s limit e w') => hp.blk (x := x1) (R := R) (by rw [HK.out]; unfold kindP; rw [if_neg k0, if_neg (by omega), if_neg k1]))
    have HDY := hide (dynamic11 O p s q2 out v limit W0 w2 H2.out HQ2.out hs h1 h2 HRM.out)
    clear k0 k1 k2 HK H2
    go_wp2_with fail
    refine HDY.out.mono ?_
    rintro e w3 hp
    obtain ⟨er, rfl, hb⟩ := HPB.out _ _ hp
    rw [HLB.out] at hb
    have HG := hide hb
    clear hp hb HPB HDY
    go_wp2
    go_ret2
    exact HG.out
  have e2 : ((x2 : Int) == 2) = false := by simp; omega
  have HG := hide (show BlkP R W0 O p s limit (.returned (.tuple #[.bool false, .int .i64 3])) w2 from .inr ⟨false, 3, by rw [HK.out]; unfold kindP; rw [if_neg k0, if_pos (by omega)]; rfl, by decide, rfl, H2.out.st.bel⟩)
  clear HK H2 k0 k1 k2 hx2
  go_wp2
  go_ret2
  exact HG.out

theorem coded_fits {limit : Int} {out o : List Nat} {ab : List Int × List Int} {B : Nat → Nat} {T i j : Nat} (h : codedP limit out ab B T i = .ok (o, j)) (hf : Fits limit out) : Fits limit o := by
  unfold codedP at h
  obtain ⟨_, _, _, h2⟩ := bindP_inv h
  obtain ⟨_, _, _, h3⟩ := bindP_inv h2
  exact pour_fits _ _ _ _ _ h3 hf
theorem open_fits {limit : Int} {out o : List Nat} {x : Nat} {B : Nat → Nat} {T i j : Nat} (h : blockP limit out B T i = .ok ((x, o), j)) (hf : Fits limit out) : Fits limit o := by
  have e : blockP limit out = bindP (rdP 1) fun last => bindP (rdP 2) fun kind => blockK limit out last kind := rfl
  rw [e] at h
  obtain ⟨last, m1, _, h1⟩ := bindP_inv h
  obtain ⟨kind, m2, _, h2⟩ := bindP_inv h1
  rw [block_kind] at h2
  obtain ⟨o2, m3, h3, h4⟩ := bindP_inv h2
  have h5 : o2 = o := by
    injection h4 with h4
    injection h4 with h4 _
    injection h4
  subst h5
  unfold kindP at h3
  split at h3
  · exact raw_fits h3
  · split at h3
    · cases h3
    · split at h3
      · exact coded_fits h3 hf
      · obtain ⟨ab, m4, _, h6⟩ := bindP_inv h3
        exact coded_fits h6 hf

set_option maxRecDepth 20000 in
set_option maxHeartbeats 16000000 in
theorem open11 (s : ByteArray) (limit : Int) (W : World) (hs : s.size ≤ 100000) (h1 : -9223372036854775808 ≤ limit) (h2 : limit ≤ 1000000) :
    Calls Tryz.prog 8 #[.string s, .int .i64 limit] W fun e w' => OpenPost (openR s limit) W e w' := by
  have hmf : ∀ (fn : Fn) (first cap : Array Value) (w : World), (Instr.makeFunc fn first cap).run Tryz.prog w = .ok (.func fn first cap) w := fun _ _ _ _ => rfl
  have HS0 := hide (show OpSt ((W.alloc (.cells #[.string s, .int .i64 0, .bool false] 43)).alloc (.cells #[.pointer (some ⟨W.heap.size, 0, none⟩), .func (.func 13) #[.pointer (some ⟨W.heap.size, 0, none⟩)] #[], .slice none 0 0, .int .i64 limit] 47)) W (W.heap.size + 1) W.heap.size s 0 [] (.slice none 0 0) limit by
    have s1 := size_alloc W (.cells #[.string s, .int .i64 0, .bool false] 43)
    refine ⟨⟨?_, World.ownsRow_nil _ _ _ _, ((Below.refl _ W).alloc (Nat.le_refl _) _).alloc (by omega) _, Nat.le_refl _, fun e => by cases e⟩, ⟨heap_alloc_at _ _ s1, by omega⟩, by omega, fun e => by cases e⟩
    unfold RdAt
    rw [heap_alloc_old _ _ _ (by omega)]
    exact heap_alloc_at W _ rfl)
  obtain ⟨R, hR⟩ : ∃ R, openR s limit = R := ⟨_, rfl⟩
  have HR0 := hide (show openP limit 1000000 [] (srcB s) (8 * s.size) 0 = R from hR)
  rw [hR]
  have HFT := hide (show Fits limit [] from .inl rfl)
  clear hR
  obtain ⟨p, hp⟩ : ∃ p, W.heap.size = p := ⟨_, rfl⟩
  obtain ⟨O, hO⟩ : ∃ O, p + 1 = O := ⟨_, rfl⟩
  have HSZW := hide hp
  go_enter Tryz.func8, Tryz.ntmps8
  go_wp2
  rw [hp, hO] at HS0
  try simp only [hp, hO]
  generalize hw1 : (W.alloc (.cells #[.string s, .int .i64 0, .bool false] 43)).alloc (.cells #[.pointer (some ⟨p, 0, none⟩), .func (.func 13) #[.pointer (some ⟨p, 0, none⟩)] #[], .slice none 0 0, .int .i64 limit] 47) = w1 at *
  clear hw1 hp hO hmf
  go_loopg [] (8 * s.size) (fun gk wr => ∃ i out f v, i ≤ 8 * s.size ∧ 8 * s.size - i ≤ gk ∧ 8 * s.size < f + i ∧ Hid (Fits limit out) ∧ Hid (openP limit f out (srcB s) (8 * s.size) i = R) ∧ Hid (OpSt wr W O p s i out v limit))
  case atStart => exact ⟨0, [], 1000000, _, Nat.zero_le _, Nat.le_refl _, by omega, HFT, HR0, HS0⟩
  case round =>
    clear HS0 HR0 HFT
    obtain ⟨i, out, f, v, hi8, hgk, hfu, HF, HE, HO⟩ := hrel
    obtain ⟨f, rfl⟩ : ∃ k, f = k + 1 := ⟨f - 1, by omega⟩
    have HGK := hide hgk
    have HFU := hide hfu
    clear hgk hfu
    have HBK := hide (block11 O p s i out v limit W wr HO.out hi8 hs h1 h2 HF.out)
    go_wp2_with fail
    refine HBK.out.mono ?_
    rintro e w2 (⟨x, o, j, v2, hB, rfl, hO2⟩ | ⟨b, er, hB, her, rfl, hb2⟩)
    · have HB := hide hB
      have HO2 := hide hO2
      have HIJ := hide (blockP_more hB)
      have HJ8 := hide ((Good.block limit out).hi _ _ _ _ _ hB hi8)
      have HF2 := hide (open_fits hB HF.out)
      clear hB hO2 HBK HO HF
      by_cases l1 : x = 1
      · have bl : ((x : Int) == 1) = true := by simp; omega
        obtain ⟨a4, c4, rfl⟩ := HO2.out.slice
        have HG := hide (fun q => (show OpenPost R W (.returned (.tuple #[.string (strOf o), .int .i64 (((j + 7) / 8 : Nat) : Int), .int .i64 0])) (w2.drewN q) from ⟨below_drewN HO2.out.st.bel q, .inl ⟨o, j, by rw [← HE.out]; exact opn_last (by rw [← l1]; exact HB.out), rfl⟩⟩))
        have HCV := hide (fun q => str_own (own_below HO2.out.st.own (below_drewN (Below.refl w2.heap.size w2) q) (Nat.le_refl _)))
        have hcv : ∀ q, (convert 30 9 (.slice a4 o.length c4)).run Tryz.prog (w2.drewN q) = .ok (.string (strOf o)) (w2.drewN q) := HCV.out
        have HUS := hide (fun q => (rused_any p s j false (w2.drewN q) HO2.out.st.rd HJ8.out (by omega)).mono fun e w' h => (⟨h.1, h.2.symm⟩ : e = .returned (.int .i64 (((j + 7) / 8 : Nat) : Int)) ∧ w' = w2.drewN q))
        have _c2 := HO2.out.bx.c2
        clear HB HF2 HE HIJ HJ8 HCV l1
        go_wp2_with fail
        go_quiet ((go_at_call 15; exact Calls.quiet_of_same (HUS.out _)))
        go_wp2
        go_ret3
        exact HG.out _
      · have bl : ((x : Int) == 1) = false := by simp; omega
        have HE2 := hide (show openP limit f o (srcB s) (8 * s.size) j = R by rw [← HE.out]; exact (opn_more HB.out l1).symm)
        clear HB HE l1
        go_wp2
        go_roundg (8 * s.size - j)
        case measure => have := HGK.out; have := HIJ.out; have := HJ8.out; omega
        case rel => exact ⟨j, o, f, v2, HJ8.out, Nat.le_refl _, by have := HFU.out; have := HIJ.out; omega, HF2, HE2, HO2⟩
    · have HG := hide (show OpenPost R W (.returned (.tuple #[.string { data := #[] }, .int .i64 0, .int .i64 er])) w2 from ⟨hb2, .inr ⟨er, by rw [← HE.out]; exact opn_err hB, her, rfl⟩⟩)
      have be : (er == 0) = false := by simp; exact her
      clear hB hb2 HBK HO HF HE
      go_wp2
      go_ret3
      exact HG.out

/-- The program's layer 11 is what is asked of it. -/
theorem ispec : ISpec := ⟨fun s limit W hs h1 h2 => (open11 s limit W hs h1 h2).mono fun _ _ h => h.is⟩

end Go.Proofs.YtaalbaiglkadlaaGreat
