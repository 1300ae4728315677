/- The program's layer 11: a header. -/
import Derived.Test.YtaalbaiglkadlaaGreatICodeJ
namespace Go.Proofs.YtaalbaiglkadlaaGreat
open Go.RowKit Go.Lib

/-- What a header gives: two rows, and a reader behind them; or an error. -/
def HdPost (R : Except Int ((List Int × List Int) × Nat)) (W : World) (p : Nat) (s : ByteArray) (e : Ending) (w' : World) : Prop := Turn p W w' ∧
  ((∃ x y j a1 c1 a2 c2, R = .ok ((x, y), j) ∧ e = .returned (.tuple #[.slice a1 x.length c1, .slice a2 y.length c2, .int .i64 0]) ∧ j ≤ 8 * s.size ∧ 257 ≤ x.length ∧ x.length ≤ 286 ∧ y.length ≤ 30 ∧ ArgZ w' a1 x ∧ ArgZ w' a2 y ∧ RdAt 43 w' p s j false) ∨
   (∃ er, R = .error er ∧ er ≠ 0 ∧ e = .returned (.tuple #[.slice none 0 0, .slice none 0 0, .int .i64 er])))

set_option maxRecDepth 20000 in
set_option maxHeartbeats 16000000 in
theorem header11 (O p : Nat) (v : Value) (limit : Int) (s : ByteArray) (i : Nat) (W : World) (hb : Bx W O p v limit) (h : RdAt 43 W p s i false) (hi : i ≤ 8 * s.size) (hs : s.size ≤ 100000) :
    Calls Tryz.prog 42 #[.pointer (some ⟨O, 0, none⟩)] W fun e w' => HdPost (headP (srcB s) (8 * s.size) i) W p s e w' := by
  have HPW := hide (show p < W.heap.size by unfold RdAt at h; exact (Array.getElem?_eq_some_iff.1 h).1)
  obtain ⟨x1, q1, b1, hx1, hq1, hr1, HC1⟩ := rd_all 5 p i s false (by decide) hi (by omega)
  obtain ⟨x2, q2, b2, hx2, hq2, hr2, HC2⟩ := rd_all 5 p q1 s b1 (by decide) hq1 (by omega)
  obtain ⟨x3, q3, b3, hx3, hq3, hr3, HC3⟩ := rd_all 4 p q2 s b2 (by decide) hq2 (by omega)
  have HHD := hide (head_heads hr1 hr2 hr3)
  obtain ⟨R, hR⟩ : ∃ R, headP (srcB s) (8 * s.size) i = R := ⟨_, rfl⟩
  rw [hR] at HHD ⊢
  have HERR := hide (fun (e : Int) (he : e ≠ 0) (hr : R = .error e) (w' : World) (t : Turn p W w') => (show HdPost R W p s (.returned (.tuple #[.slice none 0 0, .slice none 0 0, .int .i64 e])) w' from ⟨t, .inr ⟨e, hr, he, rfl⟩⟩))
  have HC1 := hide (HC1 W h)
  have HC2 := hide HC2
  have HC3 := hide HC3
  have HB0 := hide hb
  have _b1 := hb.c1
  have hx1 : x1 < 32 := hx1
  have hx2 : x2 < 32 := hx2
  have hx3 : x3 < 16 := hx3
  have HQ3 := hide hq3
  clear hr1 hr2 hr3 hR h hq1 hq2 hi hb hq3
  go_enter Tryz.func42, Tryz.ntmps42
  go_wp2_with fail
  refine HC1.out.mono ?_
  rintro e w1 ⟨rfl, ho1, hr1⟩
  have HT1 := hide ho1.turn
  have HC2 := hide (HC2.out w1 hr1)
  have HB1 := hide (HB0.out.turn HT1.out)
  have _b2 := HB1.out.c1
  clear ho1 hr1 HC1 _b1
  go_wp2_with fail
  refine HC2.out.mono ?_
  rintro e w2 ⟨rfl, ho2, hr2⟩
  have HT2 := hide (HT1.out.trans ho2.turn)
  have HC3 := hide (HC3.out w2 hr2)
  have HB2 := hide (HB0.out.turn HT2.out)
  have _b3 := HB2.out.c1
  clear ho2 hr2 HC2 HT1 HB1 _b2
  go_wp2_with fail
  refine HC3.out.mono ?_
  rintro e w3 ⟨rfl, ho3, hr3⟩
  have HT3 := hide (HT2.out.trans ho3.turn)
  have HB3 := hide (HB0.out.turn HT3.out)
  have _b4 := HB3.out.c0
  have HR3 := hide hr3
  have _c2 := hr3.c2
  clear ho3 hr3 HC3 HT2 HB2 _b3
  rcases HHD.out with ⟨rfl, hh⟩ | ⟨rfl, hh⟩
  · have HG := hide (HERR.out 2 (by decide) hh w3 HT3.out)
    clear hh HHD
    go_wp2
    go_ret3
    exact HG.out
  have HH := hide hh
  clear hh HHD
  by_cases hab : x1 ≤ 29 ∧ x2 ≤ 29
  case neg =>
    have HG := hide (HERR.out 3 (by decide) (HH.out.trans (head2_bad hab)) w3 HT3.out)
    by_cases h1 : x1 ≤ 29
    · have z1 : decide (286 < 257 + (x1 : Int)) = false := decide_eq_false (by omega)
      have z2 : decide (30 < 1 + (x2 : Int)) = true := decide_eq_true (by omega)
      clear hab
      go_wp2
      go_ret3
      exact HG.out
    · have z1 : decide (286 < 257 + (x1 : Int)) = true := decide_eq_true (by omega)
      clear hab
      go_wp2
      go_ret3
      exact HG.out
  obtain ⟨ha, hb⟩ := hab
  have HH := hide (HH.out.trans (head2_ok ha hb))
  have z1 : decide (286 < 257 + (x1 : Int)) = false := decide_eq_false (by omega)
  have z2 : decide (30 < 1 + (x2 : Int)) = false := decide_eq_false (by omega)
  have HRC := hide (runcode11 O p v limit s q3 (4 + x3) w3 HB3.out HR3.out HQ3.out (by omega) (by omega))
  rw [Int.natCast_add] at HRC
  have hzc := Tryz.zeroCode
  have hZ1 := codeCs_one (fun _ => 0) (.slice none 0 0) rfl
  have hZn := codeCs_length (fun _ => 0) (.slice none 0 0)
  obtain ⟨Z2, hZ2⟩ : ∃ Z, codeCs (fun _ => 0) (.slice none 0 0) = Z := ⟨_, rfl⟩
  simp only [hZ2] at hzc hZ1 hZn
  have HZn := hide hZn
  clear hZ2 hZ1 hZn HR3
  go_wp2_with fail
  refine HRC.out.mono ?_
  rintro e w4 ⟨t4, ⟨fl, j, f1, s1, m1, k1, er1, hfp, hfl, hj8, hr4, rfl, hbo⟩ | ⟨hfp, f1, s1, m1, k1, rfl⟩⟩
  rotate_left
  · have hcs1 := codeCs_one f1 (.slice s1 m1 k1) rfl
    have hcn1 := codeCs_length f1 (.slice s1 m1 k1)
    unfold codeV
    generalize codeCs f1 (.slice s1 m1 k1) = cs1 at *
    have hst1 := code_store w4 Z2 cs1 HZn.out hcn1 hcs1
    have HG := hide (HERR.out 2 (by decide) (HH.out.trans (bindP_err (by rw [Nat.add_comm x3 4]; exact hfp))) (w4.alloc (.cells cs1.toArray 80)) ((HT3.out.trans t4).alloc _))
    clear t4 hfp HRC HB3 _b4 HH
    go_wp2
    go_ret3
    exact HG.out
  have HT4 := hide (HT3.out.trans t4)
  have HB4 := hide (HB0.out.turn HT4.out)
  have HR4 := hide hr4
  have HBO := hide hbo
  have HJ8 := hide hj8
  have HFL := hide hfl
  have HH2 := hide (HH.out.trans (bindP_ok (by rw [Nat.add_comm x3 4]; exact hfp)))
  have hcs1 := codeCs_one f1 (.slice s1 m1 k1) rfl
  have hcn1 := codeCs_length f1 (.slice s1 m1 k1)
  have HCV := hide (show codeV f1 (.slice s1 m1 k1) = .agg (codeCs f1 (.slice s1 m1 k1)).toArray from rfl)
  unfold codeV at HCV ⊢
  have HBO2 := hide (fun (hf : f1 = cn fl) => (show codeCs f1 (.slice s1 m1 k1) = codeCs (cn fl) (.slice s1 m1 k1) by rw [hf]))
  obtain ⟨cs1, hce1⟩ : ∃ cs, codeCs f1 (.slice s1 m1 k1) = cs := ⟨_, rfl⟩
  rw [hce1] at hcs1 hcn1 HBO2
  try simp only [hce1]
  have HCN1 := hide hcn1
  have hst1 := code_store w4 Z2 cs1 HZn.out hcn1 hcs1
  have HP3 := hide (show p < w3.heap.size from Nat.lt_of_lt_of_le HPW.out HT3.out.size)
  clear t4 hfp HRC HB3 _b4 HH hr4 hbo hj8 hfl HCV hce1 HT3
  rcases HBO.out with ⟨g1, rfl⟩ | ⟨g1, rfl, hf1, hm1, ha1, hn1⟩
  · have HG := hide (HERR.out 4 (by decide) (HH2.out.trans (head3_bad g1)) (w4.alloc (.cells cs1.toArray 80)) (HT4.out.alloc _))
    clear HBO HH2 HBO2 HERR
    go_wp2
    go_ret3
    exact HG.out
  rw [maps_back] at hf1 hm1 ha1
  have HCE := hide (HBO2.out hf1)
  obtain ⟨N, hN⟩ : ∃ N, x1 + 257 + (x2 + 1) = N := ⟨_, rfl⟩
  have HH3 := hide (HH2.out.trans (head3_ok g1))
  rw [hN] at HH3
  have HNN := hide hN
  have HQ5 := hide (heap_alloc_at w4 (.cells cs1.toArray 80) rfl)
  have HRG := hide (code_range HQ5.out)
  have HSZ := hide (show (Tryz.prog.info? 80).map (·.size) = some cs1.length by rw [HCN1.out]; exact Tryz.sizeCode)
  have b45 := (Below.refl w4.heap.size w4).alloc (Nat.le_refl _) (.cells cs1.toArray 80)
  have HT5 := hide (HT4.out.belowT b45 HT4.out.size)
  have HLE := hide (lengths11 O p v limit fl s1 k1 m1 N s j (w4.alloc (.cells cs1.toArray 80)) (HB4.out.below b45) hm1 (ha1.below b45 (Nat.le_refl _)) (fun b off e => by have h9 := (hn1 b off e).1; have h8 := HP3.out; omega) (fun b off e => Nat.lt_of_lt_of_le (hn1 b off e).2 b45.size) (by rw [HFL.out]; decide) (by have h := HR4.out; unfold RdAt at h ⊢; rw [b45.block p (Array.getElem?_eq_some_iff.1 h).1]; exact h) HJ8.out (by omega) (by omega))
  unfold codeV at HLE
  have hni : ((N : Nat) : Int) = (257 : Int) + (x1 : Int) + (1 + (x2 : Int)) := by omega
  rw [← HCE.out, hni] at HLE
  have HZE := hide (show ∀ er, runsP fl N 400 [] (srcB s) (8 * s.size) j = .error er → R = .error er from fun er h => HH3.out.trans (bindP_err h))
  have HZO := hide (show ∀ out q, runsP fl N 400 [] (srcB s) (8 * s.size) j = .ok (out, q) → R = .ok ((out.take (x1 + 257), out.drop (x1 + 257)), q) from fun out q h => HH3.out.trans (bindP_ok h))
  have hN316 : x1 + 257 ≤ N ∧ N ≤ 316 ∧ N - (x1 + 257) ≤ 30 ∧ x1 + 257 < N := by omega
  clear HBO HH2 HBO2 hf1 hm1 ha1 hn1 g1 HH3 hN HCE b45 hni HR4 HB4 HQ5 HFL HJ8
  go_wp2_with (first
    | (refine wpList_load_mid rfl 80 (Operand.tmp 8) rfl w4.heap.size 0 rfl cs1 _ HRG.out Tryz.underlying80 rfl HSZ.out ?_))
  refine HLE.out.mono ?_
  rintro e w6 ⟨t6, ⟨out, j2, v', B, hr, hol, hj28, hr6, rfl, ho6⟩ | ⟨er, hr, her, rfl⟩⟩
  · obtain ⟨g, cq, e0⟩ := own_slice ho6 (by omega)
    subst e0
    have hcap := own_cap ho6
    obtain ⟨a9, ca9, ea, hz, _⟩ := own_argI ho6 hol
    injection ea with ea1 ea2 ea3
    subst ea1
    clear ea2 ea3
    have HG := hide (fun q => (show HdPost R W p s (.returned (.tuple #[.slice (some ⟨g, 0, none⟩) (x1 + 257) cq, .slice (some ⟨g, x1 + 257, none⟩) (N - (x1 + 257)) (cq - (x1 + 257)), .int .i64 0])) (w6.drewN q) from
      ⟨(HT5.out.trans t6).drewN q, .inl ⟨out.take (x1 + 257), out.drop (x1 + 257), j2, some ⟨g, 0, none⟩, cq, some ⟨g, x1 + 257, none⟩, cq - (x1 + 257), HZO.out _ _ hr, by rw [List.length_take, List.length_drop, hol, Nat.min_eq_left (by omega)], hj28, by rw [List.length_take, hol]; omega, by rw [List.length_take]; omega, by rw [List.length_drop, hol]; omega, argZ_take hz _, by have h := argZ_drop hz (x1 + 257); rw [Nat.zero_add] at h; exact h, hr6⟩⟩))
    have hs1 := sliceZ_to (some ⟨g, 0, none⟩) N cq (x1 + 257) ((257 : Int) + (x1 : Int)) (by omega) (by omega)
    have hs2 := sliceZ_from g N cq (x1 + 257) ((257 : Int) + (x1 : Int)) (by omega) (by omega) (by omega)
    clear hcap hz hr hol hr6 ho6 t6 HLE HRG
    go_wp2_with fail
    go_quiet (fail)
    go_wp2
    go_ret3
    exact HG.out _
  · have HG := hide (HERR.out er her (HZE.out er hr) w6 (HT5.out.trans t6))
    have be : (er == 0) = false := by simp; exact her
    clear t6 hr HLE HRG
    go_wp2
    go_ret3
    exact HG.out

end Go.Proofs.YtaalbaiglkadlaaGreat
