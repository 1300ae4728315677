/- The code's contract of layer 14: shared (printed by tools/mkcode14.py). -/
import Derived.Test.YtbjjcjcobiokcaaOCodeA
namespace Go.Proofs.Ytbjjcjcobiokcaa
open Go.RowKit Go.Lib

/-- The fields that both headers have. -/
def sharedS (r : Rec) (x : Nat) : ByteArray := lowS (verR r) 2 ++ lowS r.flags 2 ++ lowS r.method 2 ++ lowS r.clock 2 ++ lowS r.date 2 ++ (lowS r.sum 4 ++ lowS (ownF r r.packed) 4 ++ lowS (ownF r r.size) 4) ++ lowS r.name.size 2 ++ lowS x 2
theorem sharedS_size (r : Rec) (x : Nat) : (sharedS r x).size = 26 := by
  unfold sharedS
  simp only [ba_size_append, lowS_size]

set_option maxRecDepth 20000 in
set_option maxHeartbeats 16000000 in
theorem shared14 (r : Rec) (x : ByteArray) (W : World) : Calls Try.prog 28 #[recV r, .string x] W fun e w' => e = .returned (.string (sharedS r x.size)) ∧ Below W.heap.size W w' := by
  have HV := hide (fun w => version14 r w)
  have HO := hide (fun x w => own14 r x w)
  have HE := hide (show sharedS r x.size = lowS (verR r) 2 ++ lowS r.flags 2 ++ lowS r.method 2 ++ lowS r.clock 2 ++ lowS r.date 2 ++ (lowS r.sum 4 ++ lowS (ownF r r.packed) 4 ++ lowS (ownF r r.size) 4) ++ lowS r.name.size 2 ++ lowS x.size 2 from rfl)
  have B0 := hide ((Below.refl W.heap.size W).alloc (Nat.le_refl _) (.cells (recCs r) 23))
  have HQ := hide (rec_new W (recCs r) 23)
  obtain ⟨nm, nt, fl, me, da, ck, su, sz, pk, at_, wd⟩ := r
  unfold recV at *
  unfold recCs at *
  dsimp only at HE HQ B0 HV HO ⊢
  generalize verR ⟨nm, nt, fl, me, da, ck, su, sz, pk, at_, wd⟩ = ve at *
  generalize ownF ⟨nm, nt, fl, me, da, ck, su, sz, pk, at_, wd⟩ = oF at *
  generalize sharedS ⟨nm, nt, fl, me, da, ck, su, sz, pk, at_, wd⟩ x.size = lo at *
  go_enter Try.func28, Try.ntmps28
  go_wp2_with fail
  obtain ⟨w5, hw5⟩ : ∃ w5, W.alloc (.cells #[.string nm, .string nt, .int .i64 fl, .int .i64 me, .int .i64 da, .int .i64 ck, .int .i64 su, .int .i64 sz, .int .i64 pk, .int .i64 at_, .bool wd] 23) = w5 := ⟨_, rfl⟩
  rw [hw5] at HQ B0
  simp only [hw5]
  clear hw5
  have tha0 : (lowS ve 2).size ≤ 2 := (Nat.le_of_eq (lowS_size _ _))
  have ha0 : ¬ 9223372036854775807 < (lowS ve 2).size + (lowS fl 2).size := cat_fitsO tha0 (show (lowS fl 2).size ≤ 2 from (Nat.le_of_eq (lowS_size _ _))) (by decide)
  have tha1 : (lowS ve 2 ++ lowS fl 2).size ≤ 4 := cat_leO tha0 (Nat.le_of_eq (lowS_size _ _))
  have ha1 : ¬ 9223372036854775807 < (lowS ve 2 ++ lowS fl 2).size + (lowS me 2).size := cat_fitsO tha1 (show (lowS me 2).size ≤ 2 from (Nat.le_of_eq (lowS_size _ _))) (by decide)
  have tha2 : (lowS ve 2 ++ lowS fl 2 ++ lowS me 2).size ≤ 6 := cat_leO tha1 (Nat.le_of_eq (lowS_size _ _))
  have ha2 : ¬ 9223372036854775807 < (lowS ve 2 ++ lowS fl 2 ++ lowS me 2).size + (lowS ck 2).size := cat_fitsO tha2 (show (lowS ck 2).size ≤ 2 from (Nat.le_of_eq (lowS_size _ _))) (by decide)
  have tha3 : (lowS ve 2 ++ lowS fl 2 ++ lowS me 2 ++ lowS ck 2).size ≤ 8 := cat_leO tha2 (Nat.le_of_eq (lowS_size _ _))
  have ha3 : ¬ 9223372036854775807 < (lowS ve 2 ++ lowS fl 2 ++ lowS me 2 ++ lowS ck 2).size + (lowS da 2).size := cat_fitsO tha3 (show (lowS da 2).size ≤ 2 from (Nat.le_of_eq (lowS_size _ _))) (by decide)
  have tha4 : (lowS ve 2 ++ lowS fl 2 ++ lowS me 2 ++ lowS ck 2 ++ lowS da 2).size ≤ 10 := cat_leO tha3 (Nat.le_of_eq (lowS_size _ _))
  have thb0 : (lowS su 4).size ≤ 4 := (Nat.le_of_eq (lowS_size _ _))
  have hb0 : ¬ 9223372036854775807 < (lowS su 4).size + (lowS (oF pk) 4).size := cat_fitsO thb0 (show (lowS (oF pk) 4).size ≤ 4 from (Nat.le_of_eq (lowS_size _ _))) (by decide)
  have thb1 : (lowS su 4 ++ lowS (oF pk) 4).size ≤ 8 := cat_leO thb0 (Nat.le_of_eq (lowS_size _ _))
  have hb1 : ¬ 9223372036854775807 < (lowS su 4 ++ lowS (oF pk) 4).size + (lowS (oF sz) 4).size := cat_fitsO thb1 (show (lowS (oF sz) 4).size ≤ 4 from (Nat.le_of_eq (lowS_size _ _))) (by decide)
  have thb2 : (lowS su 4 ++ lowS (oF pk) 4 ++ lowS (oF sz) 4).size ≤ 12 := cat_leO thb1 (Nat.le_of_eq (lowS_size _ _))
  have thc0 : (lowS ve 2 ++ lowS fl 2 ++ lowS me 2 ++ lowS ck 2 ++ lowS da 2).size ≤ 10 := tha4
  have hc0 : ¬ 9223372036854775807 < (lowS ve 2 ++ lowS fl 2 ++ lowS me 2 ++ lowS ck 2 ++ lowS da 2).size + (lowS su 4 ++ lowS (oF pk) 4 ++ lowS (oF sz) 4).size := cat_fitsO thc0 (show (lowS su 4 ++ lowS (oF pk) 4 ++ lowS (oF sz) 4).size ≤ 12 from thb2) (by decide)
  have thc1 : (lowS ve 2 ++ lowS fl 2 ++ lowS me 2 ++ lowS ck 2 ++ lowS da 2 ++ (lowS su 4 ++ lowS (oF pk) 4 ++ lowS (oF sz) 4)).size ≤ 22 := cat_leO thc0 thb2
  have hc1 : ¬ 9223372036854775807 < (lowS ve 2 ++ lowS fl 2 ++ lowS me 2 ++ lowS ck 2 ++ lowS da 2 ++ (lowS su 4 ++ lowS (oF pk) 4 ++ lowS (oF sz) 4)).size + (lowS (nm.size : Int) 2).size := cat_fitsO thc1 (show (lowS (nm.size : Int) 2).size ≤ 2 from (Nat.le_of_eq (lowS_size _ _))) (by decide)
  have thc2 : (lowS ve 2 ++ lowS fl 2 ++ lowS me 2 ++ lowS ck 2 ++ lowS da 2 ++ (lowS su 4 ++ lowS (oF pk) 4 ++ lowS (oF sz) 4) ++ lowS (nm.size : Int) 2).size ≤ 24 := cat_leO thc1 (Nat.le_of_eq (lowS_size _ _))
  have hc2 : ¬ 9223372036854775807 < (lowS ve 2 ++ lowS fl 2 ++ lowS me 2 ++ lowS ck 2 ++ lowS da 2 ++ (lowS su 4 ++ lowS (oF pk) 4 ++ lowS (oF sz) 4) ++ lowS (nm.size : Int) 2).size + (lowS (x.size : Int) 2).size := cat_fitsO thc2 (show (lowS (x.size : Int) 2).size ≤ 2 from (Nat.le_of_eq (lowS_size _ _))) (by decide)
  have thc3 : (lowS ve 2 ++ lowS fl 2 ++ lowS me 2 ++ lowS ck 2 ++ lowS da 2 ++ (lowS su 4 ++ lowS (oF pk) 4 ++ lowS (oF sz) 4) ++ lowS (nm.size : Int) 2 ++ lowS (x.size : Int) 2).size ≤ 26 := cat_leO thc2 (Nat.le_of_eq (lowS_size _ _))
  clear tha0 tha1 tha2 tha3 tha4 thb0 thb1 thb2 thc0 thc1 thc2 thc3
  have HCC := hide (rec_since HQ.out)
  have hu0 := fun u : Since0 w5 => (HCC.out u).1
  have hu1 := fun u : Since0 w5 => (HCC.out u).2.1
  have hu2 := fun u : Since0 w5 => (HCC.out u).2.2.1
  have hu3 := fun u : Since0 w5 => (HCC.out u).2.2.2.1
  have hu4 := fun u : Since0 w5 => (HCC.out u).2.2.2.2.1
  have hu5 := fun u : Since0 w5 => (HCC.out u).2.2.2.2.2.1
  have hu6 := fun u : Since0 w5 => (HCC.out u).2.2.2.2.2.2.1
  have hu7 := fun u : Since0 w5 => (HCC.out u).2.2.2.2.2.2.2.1
  have hu8 := fun u : Since0 w5 => (HCC.out u).2.2.2.2.2.2.2.2.1
  have hu9 := fun u : Since0 w5 => (HCC.out u).2.2.2.2.2.2.2.2.2.1
  have hu10 := fun u : Since0 w5 => (HCC.out u).2.2.2.2.2.2.2.2.2.2
  have hne : Nonempty (Since0 w5) := ⟨⟨w5, Below.refl _ _⟩⟩
  try simp only [List.append]
  refine wp_region_below w5 (by first | exact Below.refl _ _ | exact below_drewO (Below.refl _ _) _) (by kernel_rfl) (by kernel_rfl) ?_
  repeat (go_big_quiet_step ((rename_i u; first | exact calls_since u (HV.out u.1) | exact calls_since u (u16_any _ u.1))))
  refine wpQuiet_nil ?_
  intro _ hw'
  obtain ⟨u, rfl⟩ := hw'
  have Bn := hide (B0.out.trans (u.2.mono B0.out.size))
  have Qn := hide (rec_kept HQ.out u.2)
  clear B0 HQ HCC
  have B0 := Bn
  have HQ := Qn
  clear Bn Qn
  obtain ⟨y1, hx⟩ : ∃ y, u.1 = y := ⟨_, rfl⟩
  rw [hx] at B0 HQ
  simp only [hx]
  clear hu0 hu1 hu2 hu3 hu4 hu5 hu6 hu7 hu8 hu9 hu10 hne hx u ha0 ha1 ha2 ha3
  go_wp2_with fail
  have HCC := hide (rec_since HQ.out)
  have hu0 := fun u : Since0 y1 => (HCC.out u).1
  have hu1 := fun u : Since0 y1 => (HCC.out u).2.1
  have hu2 := fun u : Since0 y1 => (HCC.out u).2.2.1
  have hu3 := fun u : Since0 y1 => (HCC.out u).2.2.2.1
  have hu4 := fun u : Since0 y1 => (HCC.out u).2.2.2.2.1
  have hu5 := fun u : Since0 y1 => (HCC.out u).2.2.2.2.2.1
  have hu6 := fun u : Since0 y1 => (HCC.out u).2.2.2.2.2.2.1
  have hu7 := fun u : Since0 y1 => (HCC.out u).2.2.2.2.2.2.2.1
  have hu8 := fun u : Since0 y1 => (HCC.out u).2.2.2.2.2.2.2.2.1
  have hu9 := fun u : Since0 y1 => (HCC.out u).2.2.2.2.2.2.2.2.2.1
  have hu10 := fun u : Since0 y1 => (HCC.out u).2.2.2.2.2.2.2.2.2.2
  have hne : Nonempty (Since0 y1) := ⟨⟨y1, Below.refl _ _⟩⟩
  try simp only [List.append]
  refine wp_region_below y1 (by first | exact Below.refl _ _ | exact below_drewO (Below.refl _ _) _) (by kernel_rfl) (by kernel_rfl) ?_
  repeat (go_big_quiet_step ((rename_i u; first | exact calls_since u (HO.out _ u.1) | exact calls_since u (u32_any _ u.1))))
  refine wpQuiet_nil ?_
  intro _ hw'
  obtain ⟨u, rfl⟩ := hw'
  have Bn := hide (B0.out.trans (u.2.mono B0.out.size))
  have Qn := hide (rec_kept HQ.out u.2)
  clear B0 HQ HCC
  have B0 := Bn
  have HQ := Qn
  clear Bn Qn
  obtain ⟨y2, hx⟩ : ∃ y, u.1 = y := ⟨_, rfl⟩
  rw [hx] at B0 HQ
  simp only [hx]
  clear hu0 hu1 hu2 hu3 hu4 hu5 hu6 hu7 hu8 hu9 hu10 hne hx u hb0 hb1
  obtain ⟨g0, g1, g2, g3, g4, g5, g6, g7, g8, g9, g10⟩ := rec_cells HQ.out
  go_wp2_with fail
  refine (u16_any (nm.size : Int) _).mono ?_
  rintro e z1 ⟨rfl, b⟩
  have B0 := hide (B0.out.trans (b.mono B0.out.size))
  clear b
  go_wp2_with fail
  refine (u16_any (x.size : Int) _).mono ?_
  rintro e z2 ⟨rfl, b⟩
  have B0 := hide (B0.out.trans (b.mono B0.out.size))
  clear b
  go_wp2
  go_ret
  rw [HE.out]
  exact ⟨rfl, B0.out⟩

end Go.Proofs.Ytbjjcjcobiokcaa
