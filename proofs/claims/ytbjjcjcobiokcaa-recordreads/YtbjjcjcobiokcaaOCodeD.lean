/- The code's contract of layer 14: Central (printed by tools/mkcode14.py). -/
import Derived.Test.YtbjjcjcobiokcaaOCodeT
namespace Go.Proofs.Ytbjjcjcobiokcaa
open Go.RowKit Go.Lib
set_option maxRecDepth 20000 in
set_option maxHeartbeats 16000000 in
theorem central14 (r : Rec) (hr : RightR r) (W : World) : Calls Try.prog 14 #[recV r] W fun e w' => e = .returned (.string (cenS r)) ∧ Below W.heap.size W w' := by
  have HE := hide (cenS_parts r)
  have HV := hide (fun w => version14 r w)
  have HO := hide (fun w => own14 r r.at_ w)
  have HS := hide (fun x w => shared14 r x w)
  have HX := hide (fun g w hg => extra14 r [r.size, r.packed, r.at_] g 3 w rfl (by decide) hg)
  have HZ := hide (extraS_size r.wide ((3 : Nat) : Int) [r.size, r.packed, r.at_])
  have HZ2 := hide (sharedS_size r (extraS r.wide ((3 : Nat) : Int) [r.size, r.packed, r.at_]).size)
  have hnm := hr.name
  have hnt := hr.note
  have B0 := hide ((Below.refl W.heap.size W).alloc (Nat.le_refl _) (.cells (recCs r) 23))
  have HQ := hide (rec_new W (recCs r) 23)
  clear hr
  obtain ⟨nm, nt, fl, me, da, ck, su, sz, pk, at_, wd⟩ := r
  unfold recV at *
  unfold recCs at *
  dsimp only at HE HQ B0 HV HO HS HX HZ HZ2 hnm hnt ⊢
  generalize cenS ⟨nm, nt, fl, me, da, ck, su, sz, pk, at_, wd⟩ = lo at *
  generalize verR ⟨nm, nt, fl, me, da, ck, su, sz, pk, at_, wd⟩ = ve at *
  generalize ownF ⟨nm, nt, fl, me, da, ck, su, sz, pk, at_, wd⟩ at_ = oa at *
  generalize extraS wd ((3 : Nat) : Int) [sz, pk, at_] = X at *
  go_enter Try.func14, Try.ntmps14
  go_wp2_with fail
  have b := (Below.refl (W.alloc (.cells #[.string nm, .string nt, .int .i64 fl, .int .i64 me, .int .i64 da, .int .i64 ck, .int .i64 su, .int .i64 sz, .int .i64 pk, .int .i64 at_, .bool wd] 23)).heap.size (W.alloc (.cells #[.string nm, .string nt, .int .i64 fl, .int .i64 me, .int .i64 da, .int .i64 ck, .int .i64 su, .int .i64 sz, .int .i64 pk, .int .i64 at_, .bool wd] 23))).alloc (Nat.le_refl _) (.cells #[.int .i64 sz, .int .i64 pk, .int .i64 at_] 3)
  have Bn := hide (B0.out.trans (b.mono B0.out.size))
  have Qn := hide (rec_kept HQ.out b)
  clear B0 HQ
  have B0 := Bn
  have HQ := Qn
  clear Bn Qn b
  refine (HX.out _ _ (new1 _ _ _ _)).mono ?_
  rintro e w3 ⟨rfl, b⟩
  have Bn := hide (B0.out.trans (b.mono B0.out.size))
  have Qn := hide (rec_kept HQ.out b)
  clear B0 HQ
  have B0 := Bn
  have HQ := Qn
  clear Bn Qn b HX
  have HS := hide (HS.out X)
  generalize sharedS ⟨nm, nt, fl, me, da, ck, su, sz, pk, at_, wd⟩ X.size = sh at *
  have tha0 : (lowS 33639248 4).size ≤ 4 := (Nat.le_of_eq (lowS_size _ _))
  have ha0 : ¬ 9223372036854775807 < (lowS 33639248 4).size + (lowS ve 2).size := cat_fitsO tha0 (show (lowS ve 2).size ≤ 2 from (Nat.le_of_eq (lowS_size _ _))) (by decide)
  have tha1 : (lowS 33639248 4 ++ lowS ve 2).size ≤ 6 := cat_leO tha0 (Nat.le_of_eq (lowS_size _ _))
  have ha1 : ¬ 9223372036854775807 < (lowS 33639248 4 ++ lowS ve 2).size + (sh).size := cat_fitsO tha1 (show (sh).size ≤ 26 from (Nat.le_of_eq HZ2.out)) (by decide)
  have tha2 : (lowS 33639248 4 ++ lowS ve 2 ++ sh).size ≤ 32 := cat_leO tha1 (Nat.le_of_eq HZ2.out)
  have ha2 : ¬ 9223372036854775807 < (lowS 33639248 4 ++ lowS ve 2 ++ sh).size + (lowS (nt.size : Int) 2).size := cat_fitsO tha2 (show (lowS (nt.size : Int) 2).size ≤ 2 from (Nat.le_of_eq (lowS_size _ _))) (by decide)
  have tha3 : (lowS 33639248 4 ++ lowS ve 2 ++ sh ++ lowS (nt.size : Int) 2).size ≤ 34 := cat_leO tha2 (Nat.le_of_eq (lowS_size _ _))
  have thb0 : (lowS 0 2).size ≤ 2 := (Nat.le_of_eq (lowS_size _ _))
  have hb0 : ¬ 9223372036854775807 < (lowS 0 2).size + (lowS 0 2).size := cat_fitsO thb0 (show (lowS 0 2).size ≤ 2 from (Nat.le_of_eq (lowS_size _ _))) (by decide)
  have thb1 : (lowS 0 2 ++ lowS 0 2).size ≤ 4 := cat_leO thb0 (Nat.le_of_eq (lowS_size _ _))
  have hb1 : ¬ 9223372036854775807 < (lowS 0 2 ++ lowS 0 2).size + (lowS 0 4).size := cat_fitsO thb1 (show (lowS 0 4).size ≤ 4 from (Nat.le_of_eq (lowS_size _ _))) (by decide)
  have thb2 : (lowS 0 2 ++ lowS 0 2 ++ lowS 0 4).size ≤ 8 := cat_leO thb1 (Nat.le_of_eq (lowS_size _ _))
  have hb2 : ¬ 9223372036854775807 < (lowS 0 2 ++ lowS 0 2 ++ lowS 0 4).size + (lowS oa 4).size := cat_fitsO thb2 (show (lowS oa 4).size ≤ 4 from (Nat.le_of_eq (lowS_size _ _))) (by decide)
  have thb3 : (lowS 0 2 ++ lowS 0 2 ++ lowS 0 4 ++ lowS oa 4).size ≤ 12 := cat_leO thb2 (Nat.le_of_eq (lowS_size _ _))
  have thc0 : (lowS 33639248 4 ++ lowS ve 2 ++ sh ++ lowS (nt.size : Int) 2).size ≤ 34 := tha3
  have hc0 : ¬ 9223372036854775807 < (lowS 33639248 4 ++ lowS ve 2 ++ sh ++ lowS (nt.size : Int) 2).size + (lowS 0 2 ++ lowS 0 2 ++ lowS 0 4 ++ lowS oa 4).size := cat_fitsO thc0 (show (lowS 0 2 ++ lowS 0 2 ++ lowS 0 4 ++ lowS oa 4).size ≤ 12 from thb3) (by decide)
  have thc1 : (lowS 33639248 4 ++ lowS ve 2 ++ sh ++ lowS (nt.size : Int) 2 ++ (lowS 0 2 ++ lowS 0 2 ++ lowS 0 4 ++ lowS oa 4)).size ≤ 46 := cat_leO thc0 thb3
  have hc1 : ¬ 9223372036854775807 < (lowS 33639248 4 ++ lowS ve 2 ++ sh ++ lowS (nt.size : Int) 2 ++ (lowS 0 2 ++ lowS 0 2 ++ lowS 0 4 ++ lowS oa 4)).size + (nm).size := cat_fitsO thc1 (show (nm).size ≤ 65535 from hnm) (by decide)
  have thc2 : (lowS 33639248 4 ++ lowS ve 2 ++ sh ++ lowS (nt.size : Int) 2 ++ (lowS 0 2 ++ lowS 0 2 ++ lowS 0 4 ++ lowS oa 4) ++ nm).size ≤ 65581 := cat_leO thc1 hnm
  have hc2 : ¬ 9223372036854775807 < (lowS 33639248 4 ++ lowS ve 2 ++ sh ++ lowS (nt.size : Int) 2 ++ (lowS 0 2 ++ lowS 0 2 ++ lowS 0 4 ++ lowS oa 4) ++ nm).size + (X).size := cat_fitsO thc2 (show (X).size ≤ 28 from HZ.out) (by decide)
  have thc3 : (lowS 33639248 4 ++ lowS ve 2 ++ sh ++ lowS (nt.size : Int) 2 ++ (lowS 0 2 ++ lowS 0 2 ++ lowS 0 4 ++ lowS oa 4) ++ nm ++ X).size ≤ 65609 := cat_leO thc2 HZ.out
  have hc3 : ¬ 9223372036854775807 < (lowS 33639248 4 ++ lowS ve 2 ++ sh ++ lowS (nt.size : Int) 2 ++ (lowS 0 2 ++ lowS 0 2 ++ lowS 0 4 ++ lowS oa 4) ++ nm ++ X).size + (nt).size := cat_fitsO thc3 (show (nt).size ≤ 65535 from hnt) (by decide)
  have thc4 : (lowS 33639248 4 ++ lowS ve 2 ++ sh ++ lowS (nt.size : Int) 2 ++ (lowS 0 2 ++ lowS 0 2 ++ lowS 0 4 ++ lowS oa 4) ++ nm ++ X ++ nt).size ≤ 131144 := cat_leO thc3 hnt
  clear tha0 tha1 tha2 tha3 thb0 thb1 thb2 thb3 thc0 thc1 thc2 thc3 thc4 hnm hnt
  go_wp2_with fail
  have HCC := hide (rec_since HQ.out)
  have hu0 := fun u : Since0 w3 => (HCC.out u).1
  have hu1 := fun u : Since0 w3 => (HCC.out u).2.1
  have hu2 := fun u : Since0 w3 => (HCC.out u).2.2.1
  have hu3 := fun u : Since0 w3 => (HCC.out u).2.2.2.1
  have hu4 := fun u : Since0 w3 => (HCC.out u).2.2.2.2.1
  have hu5 := fun u : Since0 w3 => (HCC.out u).2.2.2.2.2.1
  have hu6 := fun u : Since0 w3 => (HCC.out u).2.2.2.2.2.2.1
  have hu7 := fun u : Since0 w3 => (HCC.out u).2.2.2.2.2.2.2.1
  have hu8 := fun u : Since0 w3 => (HCC.out u).2.2.2.2.2.2.2.2.1
  have hu9 := fun u : Since0 w3 => (HCC.out u).2.2.2.2.2.2.2.2.2.1
  have hu10 := fun u : Since0 w3 => (HCC.out u).2.2.2.2.2.2.2.2.2.2
  have hne : Nonempty (Since0 w3) := ⟨⟨w3, Below.refl _ _⟩⟩
  try simp only [List.append]
  refine wp_region_below w3 (by first | exact Below.refl _ _ | exact below_drewO (Below.refl _ _) _) (by kernel_rfl) (by kernel_rfl) ?_
  repeat (go_big_quiet_step ((rename_i u; first | exact calls_since u (HV.out u.1) | exact calls_since u (HS.out u.1) | exact calls_since u (u16_any _ u.1) | exact calls_since u (u32_any _ u.1))))
  refine wpQuiet_nil ?_
  intro _ hw'
  obtain ⟨u, rfl⟩ := hw'
  have Bn := hide (B0.out.trans (u.2.mono B0.out.size))
  have Qn := hide (rec_kept HQ.out u.2)
  clear B0 HQ HCC
  have B0 := Bn
  have HQ := Qn
  clear Bn Qn
  obtain ⟨y1, hx⟩ : ∃ y, u.1 = y := ⟨_, rfl⟩
  rw [hx] at B0 HQ
  simp only [hx]
  clear hu0 hu1 hu2 hu3 hu4 hu5 hu6 hu7 hu8 hu9 hu10 hne hx u ha0 ha1 ha2
  go_wp2_with fail
  have HCC := hide (rec_since HQ.out)
  have hu0 := fun u : Since0 y1 => (HCC.out u).1
  have hu1 := fun u : Since0 y1 => (HCC.out u).2.1
  have hu2 := fun u : Since0 y1 => (HCC.out u).2.2.1
  have hu3 := fun u : Since0 y1 => (HCC.out u).2.2.2.1
  have hu4 := fun u : Since0 y1 => (HCC.out u).2.2.2.2.1
  have hu5 := fun u : Since0 y1 => (HCC.out u).2.2.2.2.2.1
  have hu6 := fun u : Since0 y1 => (HCC.out u).2.2.2.2.2.2.1
  have hu7 := fun u : Since0 y1 => (HCC.out u).2.2.2.2.2.2.2.1
  have hu8 := fun u : Since0 y1 => (HCC.out u).2.2.2.2.2.2.2.2.1
  have hu9 := fun u : Since0 y1 => (HCC.out u).2.2.2.2.2.2.2.2.2.1
  have hu10 := fun u : Since0 y1 => (HCC.out u).2.2.2.2.2.2.2.2.2.2
  have hne : Nonempty (Since0 y1) := ⟨⟨y1, Below.refl _ _⟩⟩
  try simp only [List.append]
  refine wp_region_below y1 (by first | exact Below.refl _ _ | exact below_drewO (Below.refl _ _) _) (by kernel_rfl) (by kernel_rfl) ?_
  repeat (go_big_quiet_step ((rename_i u; first | exact calls_since u (HO.out u.1) | exact calls_since u (u16_any _ u.1) | exact calls_since u (u32_any _ u.1))))
  refine wpQuiet_nil ?_
  intro _ hw'
  obtain ⟨u, rfl⟩ := hw'
  have Bn := hide (B0.out.trans (u.2.mono B0.out.size))
  have Qn := hide (rec_kept HQ.out u.2)
  clear B0 HQ HCC
  have B0 := Bn
  have HQ := Qn
  clear Bn Qn
  obtain ⟨y2, hx⟩ : ∃ y, u.1 = y := ⟨_, rfl⟩
  rw [hx] at B0 HQ
  simp only [hx]
  clear hu0 hu1 hu2 hu3 hu4 hu5 hu6 hu7 hu8 hu9 hu10 hne hx u hb0 hb1 hb2
  obtain ⟨g0, g1, g2, g3, g4, g5, g6, g7, g8, g9, g10⟩ := rec_cells HQ.out
  go_wp2
  go_ret
  rw [HE.out]
  exact ⟨rfl, B0.out⟩


end Go.Proofs.Ytbjjcjcobiokcaa
