/- Contracts of the document's layer 14: Local, Central, Tail, case by case (printed by tools/mkrec.py). -/
import Derived.Test.YtbjjcjcobiokcaaORef
namespace Go.Proofs.Ytbjjcjcobiokcaa
open Go.RowKit Go.Lib

theorem cat_le {a b : ByteArray} {x y : Nat} (ha : a.size ≤ x) (hb : b.size ≤ y) : (a ++ b).size ≤ x + y := by
  rw [ba_size_append]
  omega
theorem of_drewO {w x : World} {n : Nat} (b : Below (w.drewN n).heap.size (w.drewN n) x) : Below w.heap.size w x := ⟨b.os, b.tape, b.output, b.size, b.block⟩
theorem cat_fits {a b : ByteArray} {x y : Nat} (ha : a.size ≤ x) (hb : b.size ≤ y) (h : x + y ≤ 9223372036854775807) : ¬ 9223372036854775807 < a.size + b.size := by omega

set_option maxRecDepth 20000 in
set_option maxHeartbeats 16000000 in
theorem qlocal_ff (r : Rec) (hr : RightR r) (hf : flag8 r.flags = false) (hw : r.wide = false) (W : World) : Calls Try.prog 13 #[recV r] W fun e w' => e = .returned (.string (locS r)) ∧ Below W.heap.size W w' := by
  have HE := hide (show locS r = lowS 67324752 4 ++ lowS (verR r) 2 ++ lowS r.flags 2 ++ lowS r.method 2 ++ lowS r.clock 2 ++ lowS r.date 2 ++ lowS r.sum 4 ++ lowS r.packed 4 ++ lowS r.size 4 ++ lowS r.name.size 2 ++ lowS 0 2 ++ r.name ++ ⟨#[]⟩ by
    simp only [locS, sumL, packL, sizeL, ownF, extraL, hf, hw]
    first | done | rfl)
  have HV := hide (fun w => qneeds_any r w)
  obtain ⟨n, hn⟩ : ∃ n : Nat, r.flags = (n : Int) := Int.eq_ofNat_of_zero_le hr.flags.1
  have hbb := flag_and n (by have := hr.flags.2; omega)
  rw [← hn, hf] at hbb
  have hba : bits .and .i64 (n : Int) 8 = 0 := by rw [← hn]; exact hbb
  clear hbb
  have hnm := hr.name
  have hnt := hr.note
  have B0 := hide ((Below.refl W.heap.size W).alloc (Nat.le_refl _) (.cells (recCs r) 23))
  have HQ := hide (rec_new W (recCs r) 23)
  clear hf hr
  obtain ⟨nm, nt, fl, me, da, ck, su, sz, pk, at_, wd⟩ := r
  unfold recV at *
  unfold recCs at *
  dsimp only at HE HQ B0 HV hn hnm hnt hw ⊢
  subst hw
  subst hn
  generalize verR ⟨nm, nt, (n : Int), me, da, ck, su, sz, pk, at_, false⟩ = ve at *
  generalize locS ⟨nm, nt, (n : Int), me, da, ck, su, sz, pk, at_, false⟩ = lo at *
  go_enter Try.func13, Try.ntmps13
  go_wp2_with fail
  go_quiet (fail)
  go_wp2_with fail
  obtain ⟨w5, hw5⟩ : ∃ w5, W.alloc (.cells #[.string nm, .string nt, .int .i64 (n : Int), .int .i64 me, .int .i64 da, .int .i64 ck, .int .i64 su, .int .i64 sz, .int .i64 pk, .int .i64 at_, .bool false] 23) = w5 := ⟨_, rfl⟩
  rw [hw5] at HQ B0
  simp only [hw5]
  clear hw5
  clear hba
  have HC := hide (rec_since HQ.out)
  have hu0 := fun u : Since0 w5 => (HC.out u).1
  have hu1 := fun u : Since0 w5 => (HC.out u).2.1
  have hu2 := fun u : Since0 w5 => (HC.out u).2.2.1
  have hu3 := fun u : Since0 w5 => (HC.out u).2.2.2.1
  have hu4 := fun u : Since0 w5 => (HC.out u).2.2.2.2.1
  have hu5 := fun u : Since0 w5 => (HC.out u).2.2.2.2.2.1
  have hu6 := fun u : Since0 w5 => (HC.out u).2.2.2.2.2.2.1
  have hu7 := fun u : Since0 w5 => (HC.out u).2.2.2.2.2.2.2.1
  have hu8 := fun u : Since0 w5 => (HC.out u).2.2.2.2.2.2.2.2.1
  have hu9 := fun u : Since0 w5 => (HC.out u).2.2.2.2.2.2.2.2.2.1
  have hu10 := fun u : Since0 w5 => (HC.out u).2.2.2.2.2.2.2.2.2.2
  have hne : Nonempty (Since0 w5) := ⟨⟨w5, Below.refl _ _⟩⟩
  have ths0 : (lowS 67324752 4).size ≤ 4 := (Nat.le_of_eq (lowS_size _ _))
  have hs0 : ¬ 9223372036854775807 < (lowS 67324752 4).size + (lowS ve 2).size := cat_fits ths0 (show (lowS ve 2).size ≤ 2 from (Nat.le_of_eq (lowS_size _ _))) (by decide)
  have ths1 : (lowS 67324752 4 ++ lowS ve 2).size ≤ 6 := cat_le ths0 (Nat.le_of_eq (lowS_size _ _))
  have hs1 : ¬ 9223372036854775807 < (lowS 67324752 4 ++ lowS ve 2).size + (lowS (n : Int) 2).size := cat_fits ths1 (show (lowS (n : Int) 2).size ≤ 2 from (Nat.le_of_eq (lowS_size _ _))) (by decide)
  have ths2 : (lowS 67324752 4 ++ lowS ve 2 ++ lowS (n : Int) 2).size ≤ 8 := cat_le ths1 (Nat.le_of_eq (lowS_size _ _))
  have hs2 : ¬ 9223372036854775807 < (lowS 67324752 4 ++ lowS ve 2 ++ lowS (n : Int) 2).size + (lowS me 2).size := cat_fits ths2 (show (lowS me 2).size ≤ 2 from (Nat.le_of_eq (lowS_size _ _))) (by decide)
  have ths3 : (lowS 67324752 4 ++ lowS ve 2 ++ lowS (n : Int) 2 ++ lowS me 2).size ≤ 10 := cat_le ths2 (Nat.le_of_eq (lowS_size _ _))
  have hs3 : ¬ 9223372036854775807 < (lowS 67324752 4 ++ lowS ve 2 ++ lowS (n : Int) 2 ++ lowS me 2).size + (lowS ck 2).size := cat_fits ths3 (show (lowS ck 2).size ≤ 2 from (Nat.le_of_eq (lowS_size _ _))) (by decide)
  have ths4 : (lowS 67324752 4 ++ lowS ve 2 ++ lowS (n : Int) 2 ++ lowS me 2 ++ lowS ck 2).size ≤ 12 := cat_le ths3 (Nat.le_of_eq (lowS_size _ _))
  have hs4 : ¬ 9223372036854775807 < (lowS 67324752 4 ++ lowS ve 2 ++ lowS (n : Int) 2 ++ lowS me 2 ++ lowS ck 2).size + (lowS da 2).size := cat_fits ths4 (show (lowS da 2).size ≤ 2 from (Nat.le_of_eq (lowS_size _ _))) (by decide)
  have ths5 : (lowS 67324752 4 ++ lowS ve 2 ++ lowS (n : Int) 2 ++ lowS me 2 ++ lowS ck 2 ++ lowS da 2).size ≤ 14 := cat_le ths4 (Nat.le_of_eq (lowS_size _ _))
  have hs5 : ¬ 9223372036854775807 < (lowS 67324752 4 ++ lowS ve 2 ++ lowS (n : Int) 2 ++ lowS me 2 ++ lowS ck 2 ++ lowS da 2).size + (lowS su 4).size := cat_fits ths5 (show (lowS su 4).size ≤ 4 from (Nat.le_of_eq (lowS_size _ _))) (by decide)
  have ths6 : (lowS 67324752 4 ++ lowS ve 2 ++ lowS (n : Int) 2 ++ lowS me 2 ++ lowS ck 2 ++ lowS da 2 ++ lowS su 4).size ≤ 18 := cat_le ths5 (Nat.le_of_eq (lowS_size _ _))
  have hs6 : ¬ 9223372036854775807 < (lowS 67324752 4 ++ lowS ve 2 ++ lowS (n : Int) 2 ++ lowS me 2 ++ lowS ck 2 ++ lowS da 2 ++ lowS su 4).size + (lowS pk 4).size := cat_fits ths6 (show (lowS pk 4).size ≤ 4 from (Nat.le_of_eq (lowS_size _ _))) (by decide)
  have ths7 : (lowS 67324752 4 ++ lowS ve 2 ++ lowS (n : Int) 2 ++ lowS me 2 ++ lowS ck 2 ++ lowS da 2 ++ lowS su 4 ++ lowS pk 4).size ≤ 22 := cat_le ths6 (Nat.le_of_eq (lowS_size _ _))
  have hs7 : ¬ 9223372036854775807 < (lowS 67324752 4 ++ lowS ve 2 ++ lowS (n : Int) 2 ++ lowS me 2 ++ lowS ck 2 ++ lowS da 2 ++ lowS su 4 ++ lowS pk 4).size + (lowS sz 4).size := cat_fits ths7 (show (lowS sz 4).size ≤ 4 from (Nat.le_of_eq (lowS_size _ _))) (by decide)
  have ths8 : (lowS 67324752 4 ++ lowS ve 2 ++ lowS (n : Int) 2 ++ lowS me 2 ++ lowS ck 2 ++ lowS da 2 ++ lowS su 4 ++ lowS pk 4 ++ lowS sz 4).size ≤ 26 := cat_le ths7 (Nat.le_of_eq (lowS_size _ _))
  have hs8 : ¬ 9223372036854775807 < (lowS 67324752 4 ++ lowS ve 2 ++ lowS (n : Int) 2 ++ lowS me 2 ++ lowS ck 2 ++ lowS da 2 ++ lowS su 4 ++ lowS pk 4 ++ lowS sz 4).size + (lowS (nm.size : Int) 2).size := cat_fits ths8 (show (lowS (nm.size : Int) 2).size ≤ 2 from (Nat.le_of_eq (lowS_size _ _))) (by decide)
  have ths9 : (lowS 67324752 4 ++ lowS ve 2 ++ lowS (n : Int) 2 ++ lowS me 2 ++ lowS ck 2 ++ lowS da 2 ++ lowS su 4 ++ lowS pk 4 ++ lowS sz 4 ++ lowS (nm.size : Int) 2).size ≤ 28 := cat_le ths8 (Nat.le_of_eq (lowS_size _ _))
  have hs9 : ¬ 9223372036854775807 < (lowS 67324752 4 ++ lowS ve 2 ++ lowS (n : Int) 2 ++ lowS me 2 ++ lowS ck 2 ++ lowS da 2 ++ lowS su 4 ++ lowS pk 4 ++ lowS sz 4 ++ lowS (nm.size : Int) 2).size + (lowS 0 2).size := cat_fits ths9 (show (lowS 0 2).size ≤ 2 from (Nat.le_of_eq (lowS_size _ _))) (by decide)
  have ths10 : (lowS 67324752 4 ++ lowS ve 2 ++ lowS (n : Int) 2 ++ lowS me 2 ++ lowS ck 2 ++ lowS da 2 ++ lowS su 4 ++ lowS pk 4 ++ lowS sz 4 ++ lowS (nm.size : Int) 2 ++ lowS 0 2).size ≤ 30 := cat_le ths9 (Nat.le_of_eq (lowS_size _ _))
  have hs10 : ¬ 9223372036854775807 < (lowS 67324752 4 ++ lowS ve 2 ++ lowS (n : Int) 2 ++ lowS me 2 ++ lowS ck 2 ++ lowS da 2 ++ lowS su 4 ++ lowS pk 4 ++ lowS sz 4 ++ lowS (nm.size : Int) 2 ++ lowS 0 2).size + (nm).size := cat_fits ths10 (show (nm).size ≤ 65535 from hnm) (by decide)
  have ths11 : (lowS 67324752 4 ++ lowS ve 2 ++ lowS (n : Int) 2 ++ lowS me 2 ++ lowS ck 2 ++ lowS da 2 ++ lowS su 4 ++ lowS pk 4 ++ lowS sz 4 ++ lowS (nm.size : Int) 2 ++ lowS 0 2 ++ nm).size ≤ 65565 := cat_le ths10 hnm
  have hs11 : ¬ 9223372036854775807 < (lowS 67324752 4 ++ lowS ve 2 ++ lowS (n : Int) 2 ++ lowS me 2 ++ lowS ck 2 ++ lowS da 2 ++ lowS su 4 ++ lowS pk 4 ++ lowS sz 4 ++ lowS (nm.size : Int) 2 ++ lowS 0 2 ++ nm).size + ((⟨#[]⟩ : ByteArray)).size := cat_fits ths11 (show ((⟨#[]⟩ : ByteArray)).size ≤ 0 from (Nat.le_refl _)) (by decide)
  clear ths0 ths1 ths2 ths3 ths4 ths5 ths6 ths7 ths8 ths9 ths10 ths11
  try simp only [List.append]
  refine wp_region_below w5 (by first | exact Below.refl _ _ | exact below_drewO (Below.refl _ _) _) (by kernel_rfl) (by kernel_rfl) ?_
  repeat (go_big_quiet_step ((rename_i u; first | exact calls_since u (HV.out u.1) | exact calls_since u (q16_any _ u.1) | exact calls_since u (q32_any _ u.1) | exact calls_since u (q64_any _ u.1))))
  refine wpQuiet_nil ?_
  intro _ hw'
  obtain ⟨u, rfl⟩ := hw'
  clear hu0 hu1 hu2 hu3 hu4 hu5 hu6 hu7 hu8 hu9 hu10 hne hs0 hs1 hs2 hs3 hs4 hs5 hs6 hs7 hs8 hs9 hs10 hs11
  go_wp2
  go_ret
  refine ⟨?_, B0.out.trans (u.2.mono B0.out.size)⟩
  rw [HE.out]
  first | done | rfl

set_option maxRecDepth 20000 in
set_option maxHeartbeats 16000000 in
theorem qlocal_ft (r : Rec) (hr : RightR r) (hf : flag8 r.flags = false) (hw : r.wide = true) (W : World) : Calls Try.prog 13 #[recV r] W fun e w' => e = .returned (.string (locS r)) ∧ Below W.heap.size W w' := by
  have HE := hide (show locS r = lowS 67324752 4 ++ lowS (verR r) 2 ++ lowS r.flags 2 ++ lowS r.method 2 ++ lowS r.clock 2 ++ lowS r.date 2 ++ lowS r.sum 4 ++ lowS 4294967295 4 ++ lowS 4294967295 4 ++ lowS r.name.size 2 ++ lowS 20 2 ++ r.name ++ (lowS 1 2 ++ lowS 16 2 ++ lowS r.size 8 ++ lowS r.packed 8) by
    simp only [locS, sumL, packL, sizeL, ownF, extraL, hf, hw]
    first | done | rfl)
  have HV := hide (fun w => qneeds_any r w)
  obtain ⟨n, hn⟩ : ∃ n : Nat, r.flags = (n : Int) := Int.eq_ofNat_of_zero_le hr.flags.1
  have hbb := flag_and n (by have := hr.flags.2; omega)
  rw [← hn, hf] at hbb
  have hba : bits .and .i64 (n : Int) 8 = 0 := by rw [← hn]; exact hbb
  clear hbb
  have hnm := hr.name
  have hnt := hr.note
  have B0 := hide ((Below.refl W.heap.size W).alloc (Nat.le_refl _) (.cells (recCs r) 23))
  have HQ := hide (rec_new W (recCs r) 23)
  clear hf hr
  obtain ⟨nm, nt, fl, me, da, ck, su, sz, pk, at_, wd⟩ := r
  unfold recV at *
  unfold recCs at *
  dsimp only at HE HQ B0 HV hn hnm hnt hw ⊢
  subst hw
  subst hn
  generalize verR ⟨nm, nt, (n : Int), me, da, ck, su, sz, pk, at_, true⟩ = ve at *
  generalize locS ⟨nm, nt, (n : Int), me, da, ck, su, sz, pk, at_, true⟩ = lo at *
  go_enter Try.func13, Try.ntmps13
  go_wp2_with fail
  go_quiet (fail)
  obtain ⟨w5, hw5⟩ : ∃ w5, W.alloc (.cells #[.string nm, .string nt, .int .i64 (n : Int), .int .i64 me, .int .i64 da, .int .i64 ck, .int .i64 su, .int .i64 sz, .int .i64 pk, .int .i64 at_, .bool true] 23) = w5 := ⟨_, rfl⟩
  rw [hw5] at HQ B0
  simp only [hw5]
  clear hw5
  obtain ⟨g0, g1, g2, g3, g4, g5, g6, g7, g8, g9, g10⟩ := rec_cells HQ.out
  have thx0 : (lowS 1 2).size ≤ 2 := (Nat.le_of_eq (lowS_size _ _))
  have hx0 : ¬ 9223372036854775807 < (lowS 1 2).size + (lowS 16 2).size := cat_fits thx0 (show (lowS 16 2).size ≤ 2 from (Nat.le_of_eq (lowS_size _ _))) (by decide)
  have thx1 : (lowS 1 2 ++ lowS 16 2).size ≤ 4 := cat_le thx0 (Nat.le_of_eq (lowS_size _ _))
  have hx1 : ¬ 9223372036854775807 < (lowS 1 2 ++ lowS 16 2).size + (lowS sz 8).size := cat_fits thx1 (show (lowS sz 8).size ≤ 8 from (Nat.le_of_eq (lowS_size _ _))) (by decide)
  have thx2 : (lowS 1 2 ++ lowS 16 2 ++ lowS sz 8).size ≤ 12 := cat_le thx1 (Nat.le_of_eq (lowS_size _ _))
  have hx2 : ¬ 9223372036854775807 < (lowS 1 2 ++ lowS 16 2 ++ lowS sz 8).size + (lowS pk 8).size := cat_fits thx2 (show (lowS pk 8).size ≤ 8 from (Nat.le_of_eq (lowS_size _ _))) (by decide)
  clear thx0 thx1 thx2
  go_wp2_with fail
  refine (q16_any 1 _).mono ?_
  rintro e x0 ⟨rfl, b⟩
  have b := of_drewO b
  have HQ := hide (rec_kept HQ.out b)
  have B0 := hide (B0.out.trans (b.mono B0.out.size))
  clear b
  go_wp2_with fail
  refine (q16_any 16 _).mono ?_
  rintro e y0 ⟨rfl, b⟩
  have B0 := hide (B0.out.trans (b.mono B0.out.size))
  have HQ := hide (rec_kept HQ.out b)
  clear b
  go_wp2_with fail
  refine (q64_any sz _).mono ?_
  rintro e y1 ⟨rfl, b⟩
  have B0 := hide (B0.out.trans (b.mono B0.out.size))
  have HQ := hide (rec_kept HQ.out b)
  clear b
  go_wp2_with fail
  refine (q64_any pk _).mono ?_
  rintro e y2 ⟨rfl, b⟩
  have B0 := hide (B0.out.trans (b.mono B0.out.size))
  have HQ := hide (rec_kept HQ.out b)
  clear b
  go_wp2_with fail
  clear hba hx0 hx1 hx2 g0 g1 g2 g3 g4 g5 g6 g7 g8 g9 g10
  obtain ⟨X, hX⟩ : ∃ X, lowS 1 2 ++ lowS 16 2 ++ lowS sz 8 ++ lowS pk 8 = X := ⟨_, rfl⟩
  have hXe : X.size = 20 := by rw [← hX]; simp only [ba_size_append, lowS_size]
  have hX20 : X.size ≤ 28 := by rw [hXe]; decide
  have hXi : (X.size : Int) = 20 := by rw [hXe]; rfl
  rw [hX] at HE
  simp only [hX]
  clear hX
  obtain ⟨w5, hw5⟩ : ∃ x, x = y2 := ⟨_, rfl⟩
  subst hw5
  have HC := hide (rec_since HQ.out)
  have hu0 := fun u : Since0 w5 => (HC.out u).1
  have hu1 := fun u : Since0 w5 => (HC.out u).2.1
  have hu2 := fun u : Since0 w5 => (HC.out u).2.2.1
  have hu3 := fun u : Since0 w5 => (HC.out u).2.2.2.1
  have hu4 := fun u : Since0 w5 => (HC.out u).2.2.2.2.1
  have hu5 := fun u : Since0 w5 => (HC.out u).2.2.2.2.2.1
  have hu6 := fun u : Since0 w5 => (HC.out u).2.2.2.2.2.2.1
  have hu7 := fun u : Since0 w5 => (HC.out u).2.2.2.2.2.2.2.1
  have hu8 := fun u : Since0 w5 => (HC.out u).2.2.2.2.2.2.2.2.1
  have hu9 := fun u : Since0 w5 => (HC.out u).2.2.2.2.2.2.2.2.2.1
  have hu10 := fun u : Since0 w5 => (HC.out u).2.2.2.2.2.2.2.2.2.2
  have hne : Nonempty (Since0 w5) := ⟨⟨w5, Below.refl _ _⟩⟩
  have ths0 : (lowS 67324752 4).size ≤ 4 := (Nat.le_of_eq (lowS_size _ _))
  have hs0 : ¬ 9223372036854775807 < (lowS 67324752 4).size + (lowS ve 2).size := cat_fits ths0 (show (lowS ve 2).size ≤ 2 from (Nat.le_of_eq (lowS_size _ _))) (by decide)
  have ths1 : (lowS 67324752 4 ++ lowS ve 2).size ≤ 6 := cat_le ths0 (Nat.le_of_eq (lowS_size _ _))
  have hs1 : ¬ 9223372036854775807 < (lowS 67324752 4 ++ lowS ve 2).size + (lowS (n : Int) 2).size := cat_fits ths1 (show (lowS (n : Int) 2).size ≤ 2 from (Nat.le_of_eq (lowS_size _ _))) (by decide)
  have ths2 : (lowS 67324752 4 ++ lowS ve 2 ++ lowS (n : Int) 2).size ≤ 8 := cat_le ths1 (Nat.le_of_eq (lowS_size _ _))
  have hs2 : ¬ 9223372036854775807 < (lowS 67324752 4 ++ lowS ve 2 ++ lowS (n : Int) 2).size + (lowS me 2).size := cat_fits ths2 (show (lowS me 2).size ≤ 2 from (Nat.le_of_eq (lowS_size _ _))) (by decide)
  have ths3 : (lowS 67324752 4 ++ lowS ve 2 ++ lowS (n : Int) 2 ++ lowS me 2).size ≤ 10 := cat_le ths2 (Nat.le_of_eq (lowS_size _ _))
  have hs3 : ¬ 9223372036854775807 < (lowS 67324752 4 ++ lowS ve 2 ++ lowS (n : Int) 2 ++ lowS me 2).size + (lowS ck 2).size := cat_fits ths3 (show (lowS ck 2).size ≤ 2 from (Nat.le_of_eq (lowS_size _ _))) (by decide)
  have ths4 : (lowS 67324752 4 ++ lowS ve 2 ++ lowS (n : Int) 2 ++ lowS me 2 ++ lowS ck 2).size ≤ 12 := cat_le ths3 (Nat.le_of_eq (lowS_size _ _))
  have hs4 : ¬ 9223372036854775807 < (lowS 67324752 4 ++ lowS ve 2 ++ lowS (n : Int) 2 ++ lowS me 2 ++ lowS ck 2).size + (lowS da 2).size := cat_fits ths4 (show (lowS da 2).size ≤ 2 from (Nat.le_of_eq (lowS_size _ _))) (by decide)
  have ths5 : (lowS 67324752 4 ++ lowS ve 2 ++ lowS (n : Int) 2 ++ lowS me 2 ++ lowS ck 2 ++ lowS da 2).size ≤ 14 := cat_le ths4 (Nat.le_of_eq (lowS_size _ _))
  have hs5 : ¬ 9223372036854775807 < (lowS 67324752 4 ++ lowS ve 2 ++ lowS (n : Int) 2 ++ lowS me 2 ++ lowS ck 2 ++ lowS da 2).size + (lowS su 4).size := cat_fits ths5 (show (lowS su 4).size ≤ 4 from (Nat.le_of_eq (lowS_size _ _))) (by decide)
  have ths6 : (lowS 67324752 4 ++ lowS ve 2 ++ lowS (n : Int) 2 ++ lowS me 2 ++ lowS ck 2 ++ lowS da 2 ++ lowS su 4).size ≤ 18 := cat_le ths5 (Nat.le_of_eq (lowS_size _ _))
  have hs6 : ¬ 9223372036854775807 < (lowS 67324752 4 ++ lowS ve 2 ++ lowS (n : Int) 2 ++ lowS me 2 ++ lowS ck 2 ++ lowS da 2 ++ lowS su 4).size + (lowS 4294967295 4).size := cat_fits ths6 (show (lowS 4294967295 4).size ≤ 4 from (Nat.le_of_eq (lowS_size _ _))) (by decide)
  have ths7 : (lowS 67324752 4 ++ lowS ve 2 ++ lowS (n : Int) 2 ++ lowS me 2 ++ lowS ck 2 ++ lowS da 2 ++ lowS su 4 ++ lowS 4294967295 4).size ≤ 22 := cat_le ths6 (Nat.le_of_eq (lowS_size _ _))
  have hs7 : ¬ 9223372036854775807 < (lowS 67324752 4 ++ lowS ve 2 ++ lowS (n : Int) 2 ++ lowS me 2 ++ lowS ck 2 ++ lowS da 2 ++ lowS su 4 ++ lowS 4294967295 4).size + (lowS 4294967295 4).size := cat_fits ths7 (show (lowS 4294967295 4).size ≤ 4 from (Nat.le_of_eq (lowS_size _ _))) (by decide)
  have ths8 : (lowS 67324752 4 ++ lowS ve 2 ++ lowS (n : Int) 2 ++ lowS me 2 ++ lowS ck 2 ++ lowS da 2 ++ lowS su 4 ++ lowS 4294967295 4 ++ lowS 4294967295 4).size ≤ 26 := cat_le ths7 (Nat.le_of_eq (lowS_size _ _))
  have hs8 : ¬ 9223372036854775807 < (lowS 67324752 4 ++ lowS ve 2 ++ lowS (n : Int) 2 ++ lowS me 2 ++ lowS ck 2 ++ lowS da 2 ++ lowS su 4 ++ lowS 4294967295 4 ++ lowS 4294967295 4).size + (lowS (nm.size : Int) 2).size := cat_fits ths8 (show (lowS (nm.size : Int) 2).size ≤ 2 from (Nat.le_of_eq (lowS_size _ _))) (by decide)
  have ths9 : (lowS 67324752 4 ++ lowS ve 2 ++ lowS (n : Int) 2 ++ lowS me 2 ++ lowS ck 2 ++ lowS da 2 ++ lowS su 4 ++ lowS 4294967295 4 ++ lowS 4294967295 4 ++ lowS (nm.size : Int) 2).size ≤ 28 := cat_le ths8 (Nat.le_of_eq (lowS_size _ _))
  have hs9 : ¬ 9223372036854775807 < (lowS 67324752 4 ++ lowS ve 2 ++ lowS (n : Int) 2 ++ lowS me 2 ++ lowS ck 2 ++ lowS da 2 ++ lowS su 4 ++ lowS 4294967295 4 ++ lowS 4294967295 4 ++ lowS (nm.size : Int) 2).size + (lowS 20 2).size := cat_fits ths9 (show (lowS 20 2).size ≤ 2 from (Nat.le_of_eq (lowS_size _ _))) (by decide)
  have ths10 : (lowS 67324752 4 ++ lowS ve 2 ++ lowS (n : Int) 2 ++ lowS me 2 ++ lowS ck 2 ++ lowS da 2 ++ lowS su 4 ++ lowS 4294967295 4 ++ lowS 4294967295 4 ++ lowS (nm.size : Int) 2 ++ lowS 20 2).size ≤ 30 := cat_le ths9 (Nat.le_of_eq (lowS_size _ _))
  have hs10 : ¬ 9223372036854775807 < (lowS 67324752 4 ++ lowS ve 2 ++ lowS (n : Int) 2 ++ lowS me 2 ++ lowS ck 2 ++ lowS da 2 ++ lowS su 4 ++ lowS 4294967295 4 ++ lowS 4294967295 4 ++ lowS (nm.size : Int) 2 ++ lowS 20 2).size + (nm).size := cat_fits ths10 (show (nm).size ≤ 65535 from hnm) (by decide)
  have ths11 : (lowS 67324752 4 ++ lowS ve 2 ++ lowS (n : Int) 2 ++ lowS me 2 ++ lowS ck 2 ++ lowS da 2 ++ lowS su 4 ++ lowS 4294967295 4 ++ lowS 4294967295 4 ++ lowS (nm.size : Int) 2 ++ lowS 20 2 ++ nm).size ≤ 65565 := cat_le ths10 hnm
  have hs11 : ¬ 9223372036854775807 < (lowS 67324752 4 ++ lowS ve 2 ++ lowS (n : Int) 2 ++ lowS me 2 ++ lowS ck 2 ++ lowS da 2 ++ lowS su 4 ++ lowS 4294967295 4 ++ lowS 4294967295 4 ++ lowS (nm.size : Int) 2 ++ lowS 20 2 ++ nm).size + (X).size := cat_fits ths11 (show (X).size ≤ 28 from hX20) (by decide)
  clear ths0 ths1 ths2 ths3 ths4 ths5 ths6 ths7 ths8 ths9 ths10 ths11
  try simp only [List.append]
  refine wp_region_below w5 (by first | exact Below.refl _ _ | exact below_drewO (Below.refl _ _) _) (by kernel_rfl) (by kernel_rfl) ?_
  repeat (go_big_quiet_step ((rename_i u; first | exact calls_since u (HV.out u.1) | exact calls_since u (q16_any _ u.1) | exact calls_since u (q32_any _ u.1) | exact calls_since u (q64_any _ u.1))))
  refine wpQuiet_nil ?_
  intro _ hw'
  obtain ⟨u, rfl⟩ := hw'
  clear hu0 hu1 hu2 hu3 hu4 hu5 hu6 hu7 hu8 hu9 hu10 hne hs0 hs1 hs2 hs3 hs4 hs5 hs6 hs7 hs8 hs9 hs10 hs11
  go_wp2
  go_ret
  refine ⟨?_, B0.out.trans (u.2.mono B0.out.size)⟩
  rw [HE.out]
  first | done | rfl

set_option maxRecDepth 20000 in
set_option maxHeartbeats 16000000 in
theorem qlocal_tf (r : Rec) (hr : RightR r) (hf : flag8 r.flags = true) (hw : r.wide = false) (W : World) : Calls Try.prog 13 #[recV r] W fun e w' => e = .returned (.string (locS r)) ∧ Below W.heap.size W w' := by
  have HE := hide (show locS r = lowS 67324752 4 ++ lowS (verR r) 2 ++ lowS r.flags 2 ++ lowS r.method 2 ++ lowS r.clock 2 ++ lowS r.date 2 ++ lowS 0 4 ++ lowS 0 4 ++ lowS 0 4 ++ lowS r.name.size 2 ++ lowS 0 2 ++ r.name ++ ⟨#[]⟩ by
    simp only [locS, sumL, packL, sizeL, ownF, extraL, hf, hw]
    first | done | rfl)
  have HV := hide (fun w => qneeds_any r w)
  obtain ⟨n, hn⟩ : ∃ n : Nat, r.flags = (n : Int) := Int.eq_ofNat_of_zero_le hr.flags.1
  have hbb := flag_and n (by have := hr.flags.2; omega)
  rw [← hn, hf] at hbb
  have hba : bits .and .i64 (n : Int) 8 = 8 := by rw [← hn]; exact hbb
  clear hbb
  have hnm := hr.name
  have hnt := hr.note
  have B0 := hide ((Below.refl W.heap.size W).alloc (Nat.le_refl _) (.cells (recCs r) 23))
  have HQ := hide (rec_new W (recCs r) 23)
  clear hf hr
  obtain ⟨nm, nt, fl, me, da, ck, su, sz, pk, at_, wd⟩ := r
  unfold recV at *
  unfold recCs at *
  dsimp only at HE HQ B0 HV hn hnm hnt hw ⊢
  subst hw
  subst hn
  generalize verR ⟨nm, nt, (n : Int), me, da, ck, su, sz, pk, at_, false⟩ = ve at *
  generalize locS ⟨nm, nt, (n : Int), me, da, ck, su, sz, pk, at_, false⟩ = lo at *
  go_enter Try.func13, Try.ntmps13
  go_wp2_with fail
  go_quiet (fail)
  go_wp2_with fail
  obtain ⟨w5, hw5⟩ : ∃ w5, W.alloc (.cells #[.string nm, .string nt, .int .i64 (n : Int), .int .i64 me, .int .i64 da, .int .i64 ck, .int .i64 su, .int .i64 sz, .int .i64 pk, .int .i64 at_, .bool false] 23) = w5 := ⟨_, rfl⟩
  rw [hw5] at HQ B0
  simp only [hw5]
  clear hw5
  clear hba
  have HC := hide (rec_since HQ.out)
  have hu0 := fun u : Since0 w5 => (HC.out u).1
  have hu1 := fun u : Since0 w5 => (HC.out u).2.1
  have hu2 := fun u : Since0 w5 => (HC.out u).2.2.1
  have hu3 := fun u : Since0 w5 => (HC.out u).2.2.2.1
  have hu4 := fun u : Since0 w5 => (HC.out u).2.2.2.2.1
  have hu5 := fun u : Since0 w5 => (HC.out u).2.2.2.2.2.1
  have hu6 := fun u : Since0 w5 => (HC.out u).2.2.2.2.2.2.1
  have hu7 := fun u : Since0 w5 => (HC.out u).2.2.2.2.2.2.2.1
  have hu8 := fun u : Since0 w5 => (HC.out u).2.2.2.2.2.2.2.2.1
  have hu9 := fun u : Since0 w5 => (HC.out u).2.2.2.2.2.2.2.2.2.1
  have hu10 := fun u : Since0 w5 => (HC.out u).2.2.2.2.2.2.2.2.2.2
  have hne : Nonempty (Since0 w5) := ⟨⟨w5, Below.refl _ _⟩⟩
  have ths0 : (lowS 67324752 4).size ≤ 4 := (Nat.le_of_eq (lowS_size _ _))
  have hs0 : ¬ 9223372036854775807 < (lowS 67324752 4).size + (lowS ve 2).size := cat_fits ths0 (show (lowS ve 2).size ≤ 2 from (Nat.le_of_eq (lowS_size _ _))) (by decide)
  have ths1 : (lowS 67324752 4 ++ lowS ve 2).size ≤ 6 := cat_le ths0 (Nat.le_of_eq (lowS_size _ _))
  have hs1 : ¬ 9223372036854775807 < (lowS 67324752 4 ++ lowS ve 2).size + (lowS (n : Int) 2).size := cat_fits ths1 (show (lowS (n : Int) 2).size ≤ 2 from (Nat.le_of_eq (lowS_size _ _))) (by decide)
  have ths2 : (lowS 67324752 4 ++ lowS ve 2 ++ lowS (n : Int) 2).size ≤ 8 := cat_le ths1 (Nat.le_of_eq (lowS_size _ _))
  have hs2 : ¬ 9223372036854775807 < (lowS 67324752 4 ++ lowS ve 2 ++ lowS (n : Int) 2).size + (lowS me 2).size := cat_fits ths2 (show (lowS me 2).size ≤ 2 from (Nat.le_of_eq (lowS_size _ _))) (by decide)
  have ths3 : (lowS 67324752 4 ++ lowS ve 2 ++ lowS (n : Int) 2 ++ lowS me 2).size ≤ 10 := cat_le ths2 (Nat.le_of_eq (lowS_size _ _))
  have hs3 : ¬ 9223372036854775807 < (lowS 67324752 4 ++ lowS ve 2 ++ lowS (n : Int) 2 ++ lowS me 2).size + (lowS ck 2).size := cat_fits ths3 (show (lowS ck 2).size ≤ 2 from (Nat.le_of_eq (lowS_size _ _))) (by decide)
  have ths4 : (lowS 67324752 4 ++ lowS ve 2 ++ lowS (n : Int) 2 ++ lowS me 2 ++ lowS ck 2).size ≤ 12 := cat_le ths3 (Nat.le_of_eq (lowS_size _ _))
  have hs4 : ¬ 9223372036854775807 < (lowS 67324752 4 ++ lowS ve 2 ++ lowS (n : Int) 2 ++ lowS me 2 ++ lowS ck 2).size + (lowS da 2).size := cat_fits ths4 (show (lowS da 2).size ≤ 2 from (Nat.le_of_eq (lowS_size _ _))) (by decide)
  have ths5 : (lowS 67324752 4 ++ lowS ve 2 ++ lowS (n : Int) 2 ++ lowS me 2 ++ lowS ck 2 ++ lowS da 2).size ≤ 14 := cat_le ths4 (Nat.le_of_eq (lowS_size _ _))
  have hs5 : ¬ 9223372036854775807 < (lowS 67324752 4 ++ lowS ve 2 ++ lowS (n : Int) 2 ++ lowS me 2 ++ lowS ck 2 ++ lowS da 2).size + (lowS 0 4).size := cat_fits ths5 (show (lowS 0 4).size ≤ 4 from (Nat.le_of_eq (lowS_size _ _))) (by decide)
  have ths6 : (lowS 67324752 4 ++ lowS ve 2 ++ lowS (n : Int) 2 ++ lowS me 2 ++ lowS ck 2 ++ lowS da 2 ++ lowS 0 4).size ≤ 18 := cat_le ths5 (Nat.le_of_eq (lowS_size _ _))
  have hs6 : ¬ 9223372036854775807 < (lowS 67324752 4 ++ lowS ve 2 ++ lowS (n : Int) 2 ++ lowS me 2 ++ lowS ck 2 ++ lowS da 2 ++ lowS 0 4).size + (lowS 0 4).size := cat_fits ths6 (show (lowS 0 4).size ≤ 4 from (Nat.le_of_eq (lowS_size _ _))) (by decide)
  have ths7 : (lowS 67324752 4 ++ lowS ve 2 ++ lowS (n : Int) 2 ++ lowS me 2 ++ lowS ck 2 ++ lowS da 2 ++ lowS 0 4 ++ lowS 0 4).size ≤ 22 := cat_le ths6 (Nat.le_of_eq (lowS_size _ _))
  have hs7 : ¬ 9223372036854775807 < (lowS 67324752 4 ++ lowS ve 2 ++ lowS (n : Int) 2 ++ lowS me 2 ++ lowS ck 2 ++ lowS da 2 ++ lowS 0 4 ++ lowS 0 4).size + (lowS 0 4).size := cat_fits ths7 (show (lowS 0 4).size ≤ 4 from (Nat.le_of_eq (lowS_size _ _))) (by decide)
  have ths8 : (lowS 67324752 4 ++ lowS ve 2 ++ lowS (n : Int) 2 ++ lowS me 2 ++ lowS ck 2 ++ lowS da 2 ++ lowS 0 4 ++ lowS 0 4 ++ lowS 0 4).size ≤ 26 := cat_le ths7 (Nat.le_of_eq (lowS_size _ _))
  have hs8 : ¬ 9223372036854775807 < (lowS 67324752 4 ++ lowS ve 2 ++ lowS (n : Int) 2 ++ lowS me 2 ++ lowS ck 2 ++ lowS da 2 ++ lowS 0 4 ++ lowS 0 4 ++ lowS 0 4).size + (lowS (nm.size : Int) 2).size := cat_fits ths8 (show (lowS (nm.size : Int) 2).size ≤ 2 from (Nat.le_of_eq (lowS_size _ _))) (by decide)
  have ths9 : (lowS 67324752 4 ++ lowS ve 2 ++ lowS (n : Int) 2 ++ lowS me 2 ++ lowS ck 2 ++ lowS da 2 ++ lowS 0 4 ++ lowS 0 4 ++ lowS 0 4 ++ lowS (nm.size : Int) 2).size ≤ 28 := cat_le ths8 (Nat.le_of_eq (lowS_size _ _))
  have hs9 : ¬ 9223372036854775807 < (lowS 67324752 4 ++ lowS ve 2 ++ lowS (n : Int) 2 ++ lowS me 2 ++ lowS ck 2 ++ lowS da 2 ++ lowS 0 4 ++ lowS 0 4 ++ lowS 0 4 ++ lowS (nm.size : Int) 2).size + (lowS 0 2).size := cat_fits ths9 (show (lowS 0 2).size ≤ 2 from (Nat.le_of_eq (lowS_size _ _))) (by decide)
  have ths10 : (lowS 67324752 4 ++ lowS ve 2 ++ lowS (n : Int) 2 ++ lowS me 2 ++ lowS ck 2 ++ lowS da 2 ++ lowS 0 4 ++ lowS 0 4 ++ lowS 0 4 ++ lowS (nm.size : Int) 2 ++ lowS 0 2).size ≤ 30 := cat_le ths9 (Nat.le_of_eq (lowS_size _ _))
  have hs10 : ¬ 9223372036854775807 < (lowS 67324752 4 ++ lowS ve 2 ++ lowS (n : Int) 2 ++ lowS me 2 ++ lowS ck 2 ++ lowS da 2 ++ lowS 0 4 ++ lowS 0 4 ++ lowS 0 4 ++ lowS (nm.size : Int) 2 ++ lowS 0 2).size + (nm).size := cat_fits ths10 (show (nm).size ≤ 65535 from hnm) (by decide)
  have ths11 : (lowS 67324752 4 ++ lowS ve 2 ++ lowS (n : Int) 2 ++ lowS me 2 ++ lowS ck 2 ++ lowS da 2 ++ lowS 0 4 ++ lowS 0 4 ++ lowS 0 4 ++ lowS (nm.size : Int) 2 ++ lowS 0 2 ++ nm).size ≤ 65565 := cat_le ths10 hnm
  have hs11 : ¬ 9223372036854775807 < (lowS 67324752 4 ++ lowS ve 2 ++ lowS (n : Int) 2 ++ lowS me 2 ++ lowS ck 2 ++ lowS da 2 ++ lowS 0 4 ++ lowS 0 4 ++ lowS 0 4 ++ lowS (nm.size : Int) 2 ++ lowS 0 2 ++ nm).size + ((⟨#[]⟩ : ByteArray)).size := cat_fits ths11 (show ((⟨#[]⟩ : ByteArray)).size ≤ 0 from (Nat.le_refl _)) (by decide)
  clear ths0 ths1 ths2 ths3 ths4 ths5 ths6 ths7 ths8 ths9 ths10 ths11
  try simp only [List.append]
  refine wp_region_below w5 (by first | exact Below.refl _ _ | exact below_drewO (Below.refl _ _) _) (by kernel_rfl) (by kernel_rfl) ?_
  repeat (go_big_quiet_step ((rename_i u; first | exact calls_since u (HV.out u.1) | exact calls_since u (q16_any _ u.1) | exact calls_since u (q32_any _ u.1) | exact calls_since u (q64_any _ u.1))))
  refine wpQuiet_nil ?_
  intro _ hw'
  obtain ⟨u, rfl⟩ := hw'
  clear hu0 hu1 hu2 hu3 hu4 hu5 hu6 hu7 hu8 hu9 hu10 hne hs0 hs1 hs2 hs3 hs4 hs5 hs6 hs7 hs8 hs9 hs10 hs11
  go_wp2
  go_ret
  refine ⟨?_, B0.out.trans (u.2.mono B0.out.size)⟩
  rw [HE.out]
  first | done | rfl

set_option maxRecDepth 20000 in
set_option maxHeartbeats 16000000 in
theorem qlocal_tt (r : Rec) (hr : RightR r) (hf : flag8 r.flags = true) (hw : r.wide = true) (W : World) : Calls Try.prog 13 #[recV r] W fun e w' => e = .returned (.string (locS r)) ∧ Below W.heap.size W w' := by
  have HE := hide (show locS r = lowS 67324752 4 ++ lowS (verR r) 2 ++ lowS r.flags 2 ++ lowS r.method 2 ++ lowS r.clock 2 ++ lowS r.date 2 ++ lowS 0 4 ++ lowS 4294967295 4 ++ lowS 4294967295 4 ++ lowS r.name.size 2 ++ lowS 20 2 ++ r.name ++ (lowS 1 2 ++ lowS 16 2 ++ lowS 0 8 ++ lowS 0 8) by
    simp only [locS, sumL, packL, sizeL, ownF, extraL, hf, hw]
    first | done | rfl)
  have HV := hide (fun w => qneeds_any r w)
  obtain ⟨n, hn⟩ : ∃ n : Nat, r.flags = (n : Int) := Int.eq_ofNat_of_zero_le hr.flags.1
  have hbb := flag_and n (by have := hr.flags.2; omega)
  rw [← hn, hf] at hbb
  have hba : bits .and .i64 (n : Int) 8 = 8 := by rw [← hn]; exact hbb
  clear hbb
  have hnm := hr.name
  have hnt := hr.note
  have B0 := hide ((Below.refl W.heap.size W).alloc (Nat.le_refl _) (.cells (recCs r) 23))
  have HQ := hide (rec_new W (recCs r) 23)
  clear hf hr
  obtain ⟨nm, nt, fl, me, da, ck, su, sz, pk, at_, wd⟩ := r
  unfold recV at *
  unfold recCs at *
  dsimp only at HE HQ B0 HV hn hnm hnt hw ⊢
  subst hw
  subst hn
  generalize verR ⟨nm, nt, (n : Int), me, da, ck, su, sz, pk, at_, true⟩ = ve at *
  generalize locS ⟨nm, nt, (n : Int), me, da, ck, su, sz, pk, at_, true⟩ = lo at *
  go_enter Try.func13, Try.ntmps13
  go_wp2_with fail
  go_quiet (fail)
  obtain ⟨w5, hw5⟩ : ∃ w5, W.alloc (.cells #[.string nm, .string nt, .int .i64 (n : Int), .int .i64 me, .int .i64 da, .int .i64 ck, .int .i64 su, .int .i64 sz, .int .i64 pk, .int .i64 at_, .bool true] 23) = w5 := ⟨_, rfl⟩
  rw [hw5] at HQ B0
  simp only [hw5]
  clear hw5
  obtain ⟨g0, g1, g2, g3, g4, g5, g6, g7, g8, g9, g10⟩ := rec_cells HQ.out
  have thx0 : (lowS 1 2).size ≤ 2 := (Nat.le_of_eq (lowS_size _ _))
  have hx0 : ¬ 9223372036854775807 < (lowS 1 2).size + (lowS 16 2).size := cat_fits thx0 (show (lowS 16 2).size ≤ 2 from (Nat.le_of_eq (lowS_size _ _))) (by decide)
  have thx1 : (lowS 1 2 ++ lowS 16 2).size ≤ 4 := cat_le thx0 (Nat.le_of_eq (lowS_size _ _))
  have hx1 : ¬ 9223372036854775807 < (lowS 1 2 ++ lowS 16 2).size + (lowS 0 8).size := cat_fits thx1 (show (lowS 0 8).size ≤ 8 from (Nat.le_of_eq (lowS_size _ _))) (by decide)
  have thx2 : (lowS 1 2 ++ lowS 16 2 ++ lowS 0 8).size ≤ 12 := cat_le thx1 (Nat.le_of_eq (lowS_size _ _))
  have hx2 : ¬ 9223372036854775807 < (lowS 1 2 ++ lowS 16 2 ++ lowS 0 8).size + (lowS 0 8).size := cat_fits thx2 (show (lowS 0 8).size ≤ 8 from (Nat.le_of_eq (lowS_size _ _))) (by decide)
  clear thx0 thx1 thx2
  go_wp2_with fail
  refine (q16_any 1 _).mono ?_
  rintro e x0 ⟨rfl, b⟩
  have b := of_drewO b
  have HQ := hide (rec_kept HQ.out b)
  have B0 := hide (B0.out.trans (b.mono B0.out.size))
  clear b
  go_wp2_with fail
  refine (q16_any 16 _).mono ?_
  rintro e y0 ⟨rfl, b⟩
  have B0 := hide (B0.out.trans (b.mono B0.out.size))
  have HQ := hide (rec_kept HQ.out b)
  clear b
  go_wp2_with fail
  refine (q64_any 0 _).mono ?_
  rintro e y1 ⟨rfl, b⟩
  have B0 := hide (B0.out.trans (b.mono B0.out.size))
  have HQ := hide (rec_kept HQ.out b)
  clear b
  go_wp2_with fail
  refine (q64_any 0 _).mono ?_
  rintro e y2 ⟨rfl, b⟩
  have B0 := hide (B0.out.trans (b.mono B0.out.size))
  have HQ := hide (rec_kept HQ.out b)
  clear b
  go_wp2_with fail
  clear hba hx0 hx1 hx2 g0 g1 g2 g3 g4 g5 g6 g7 g8 g9 g10
  obtain ⟨X, hX⟩ : ∃ X, lowS 1 2 ++ lowS 16 2 ++ lowS 0 8 ++ lowS 0 8 = X := ⟨_, rfl⟩
  have hXe : X.size = 20 := by rw [← hX]; simp only [ba_size_append, lowS_size]
  have hX20 : X.size ≤ 28 := by rw [hXe]; decide
  have hXi : (X.size : Int) = 20 := by rw [hXe]; rfl
  rw [hX] at HE
  simp only [hX]
  clear hX
  obtain ⟨w5, hw5⟩ : ∃ x, x = y2 := ⟨_, rfl⟩
  subst hw5
  have HC := hide (rec_since HQ.out)
  have hu0 := fun u : Since0 w5 => (HC.out u).1
  have hu1 := fun u : Since0 w5 => (HC.out u).2.1
  have hu2 := fun u : Since0 w5 => (HC.out u).2.2.1
  have hu3 := fun u : Since0 w5 => (HC.out u).2.2.2.1
  have hu4 := fun u : Since0 w5 => (HC.out u).2.2.2.2.1
  have hu5 := fun u : Since0 w5 => (HC.out u).2.2.2.2.2.1
  have hu6 := fun u : Since0 w5 => (HC.out u).2.2.2.2.2.2.1
  have hu7 := fun u : Since0 w5 => (HC.out u).2.2.2.2.2.2.2.1
  have hu8 := fun u : Since0 w5 => (HC.out u).2.2.2.2.2.2.2.2.1
  have hu9 := fun u : Since0 w5 => (HC.out u).2.2.2.2.2.2.2.2.2.1
  have hu10 := fun u : Since0 w5 => (HC.out u).2.2.2.2.2.2.2.2.2.2
  have hne : Nonempty (Since0 w5) := ⟨⟨w5, Below.refl _ _⟩⟩
  have ths0 : (lowS 67324752 4).size ≤ 4 := (Nat.le_of_eq (lowS_size _ _))
  have hs0 : ¬ 9223372036854775807 < (lowS 67324752 4).size + (lowS ve 2).size := cat_fits ths0 (show (lowS ve 2).size ≤ 2 from (Nat.le_of_eq (lowS_size _ _))) (by decide)
  have ths1 : (lowS 67324752 4 ++ lowS ve 2).size ≤ 6 := cat_le ths0 (Nat.le_of_eq (lowS_size _ _))
  have hs1 : ¬ 9223372036854775807 < (lowS 67324752 4 ++ lowS ve 2).size + (lowS (n : Int) 2).size := cat_fits ths1 (show (lowS (n : Int) 2).size ≤ 2 from (Nat.le_of_eq (lowS_size _ _))) (by decide)
  have ths2 : (lowS 67324752 4 ++ lowS ve 2 ++ lowS (n : Int) 2).size ≤ 8 := cat_le ths1 (Nat.le_of_eq (lowS_size _ _))
  have hs2 : ¬ 9223372036854775807 < (lowS 67324752 4 ++ lowS ve 2 ++ lowS (n : Int) 2).size + (lowS me 2).size := cat_fits ths2 (show (lowS me 2).size ≤ 2 from (Nat.le_of_eq (lowS_size _ _))) (by decide)
  have ths3 : (lowS 67324752 4 ++ lowS ve 2 ++ lowS (n : Int) 2 ++ lowS me 2).size ≤ 10 := cat_le ths2 (Nat.le_of_eq (lowS_size _ _))
  have hs3 : ¬ 9223372036854775807 < (lowS 67324752 4 ++ lowS ve 2 ++ lowS (n : Int) 2 ++ lowS me 2).size + (lowS ck 2).size := cat_fits ths3 (show (lowS ck 2).size ≤ 2 from (Nat.le_of_eq (lowS_size _ _))) (by decide)
  have ths4 : (lowS 67324752 4 ++ lowS ve 2 ++ lowS (n : Int) 2 ++ lowS me 2 ++ lowS ck 2).size ≤ 12 := cat_le ths3 (Nat.le_of_eq (lowS_size _ _))
  have hs4 : ¬ 9223372036854775807 < (lowS 67324752 4 ++ lowS ve 2 ++ lowS (n : Int) 2 ++ lowS me 2 ++ lowS ck 2).size + (lowS da 2).size := cat_fits ths4 (show (lowS da 2).size ≤ 2 from (Nat.le_of_eq (lowS_size _ _))) (by decide)
  have ths5 : (lowS 67324752 4 ++ lowS ve 2 ++ lowS (n : Int) 2 ++ lowS me 2 ++ lowS ck 2 ++ lowS da 2).size ≤ 14 := cat_le ths4 (Nat.le_of_eq (lowS_size _ _))
  have hs5 : ¬ 9223372036854775807 < (lowS 67324752 4 ++ lowS ve 2 ++ lowS (n : Int) 2 ++ lowS me 2 ++ lowS ck 2 ++ lowS da 2).size + (lowS 0 4).size := cat_fits ths5 (show (lowS 0 4).size ≤ 4 from (Nat.le_of_eq (lowS_size _ _))) (by decide)
  have ths6 : (lowS 67324752 4 ++ lowS ve 2 ++ lowS (n : Int) 2 ++ lowS me 2 ++ lowS ck 2 ++ lowS da 2 ++ lowS 0 4).size ≤ 18 := cat_le ths5 (Nat.le_of_eq (lowS_size _ _))
  have hs6 : ¬ 9223372036854775807 < (lowS 67324752 4 ++ lowS ve 2 ++ lowS (n : Int) 2 ++ lowS me 2 ++ lowS ck 2 ++ lowS da 2 ++ lowS 0 4).size + (lowS 4294967295 4).size := cat_fits ths6 (show (lowS 4294967295 4).size ≤ 4 from (Nat.le_of_eq (lowS_size _ _))) (by decide)
  have ths7 : (lowS 67324752 4 ++ lowS ve 2 ++ lowS (n : Int) 2 ++ lowS me 2 ++ lowS ck 2 ++ lowS da 2 ++ lowS 0 4 ++ lowS 4294967295 4).size ≤ 22 := cat_le ths6 (Nat.le_of_eq (lowS_size _ _))
  have hs7 : ¬ 9223372036854775807 < (lowS 67324752 4 ++ lowS ve 2 ++ lowS (n : Int) 2 ++ lowS me 2 ++ lowS ck 2 ++ lowS da 2 ++ lowS 0 4 ++ lowS 4294967295 4).size + (lowS 4294967295 4).size := cat_fits ths7 (show (lowS 4294967295 4).size ≤ 4 from (Nat.le_of_eq (lowS_size _ _))) (by decide)
  have ths8 : (lowS 67324752 4 ++ lowS ve 2 ++ lowS (n : Int) 2 ++ lowS me 2 ++ lowS ck 2 ++ lowS da 2 ++ lowS 0 4 ++ lowS 4294967295 4 ++ lowS 4294967295 4).size ≤ 26 := cat_le ths7 (Nat.le_of_eq (lowS_size _ _))
  have hs8 : ¬ 9223372036854775807 < (lowS 67324752 4 ++ lowS ve 2 ++ lowS (n : Int) 2 ++ lowS me 2 ++ lowS ck 2 ++ lowS da 2 ++ lowS 0 4 ++ lowS 4294967295 4 ++ lowS 4294967295 4).size + (lowS (nm.size : Int) 2).size := cat_fits ths8 (show (lowS (nm.size : Int) 2).size ≤ 2 from (Nat.le_of_eq (lowS_size _ _))) (by decide)
  have ths9 : (lowS 67324752 4 ++ lowS ve 2 ++ lowS (n : Int) 2 ++ lowS me 2 ++ lowS ck 2 ++ lowS da 2 ++ lowS 0 4 ++ lowS 4294967295 4 ++ lowS 4294967295 4 ++ lowS (nm.size : Int) 2).size ≤ 28 := cat_le ths8 (Nat.le_of_eq (lowS_size _ _))
  have hs9 : ¬ 9223372036854775807 < (lowS 67324752 4 ++ lowS ve 2 ++ lowS (n : Int) 2 ++ lowS me 2 ++ lowS ck 2 ++ lowS da 2 ++ lowS 0 4 ++ lowS 4294967295 4 ++ lowS 4294967295 4 ++ lowS (nm.size : Int) 2).size + (lowS 20 2).size := cat_fits ths9 (show (lowS 20 2).size ≤ 2 from (Nat.le_of_eq (lowS_size _ _))) (by decide)
  have ths10 : (lowS 67324752 4 ++ lowS ve 2 ++ lowS (n : Int) 2 ++ lowS me 2 ++ lowS ck 2 ++ lowS da 2 ++ lowS 0 4 ++ lowS 4294967295 4 ++ lowS 4294967295 4 ++ lowS (nm.size : Int) 2 ++ lowS 20 2).size ≤ 30 := cat_le ths9 (Nat.le_of_eq (lowS_size _ _))
  have hs10 : ¬ 9223372036854775807 < (lowS 67324752 4 ++ lowS ve 2 ++ lowS (n : Int) 2 ++ lowS me 2 ++ lowS ck 2 ++ lowS da 2 ++ lowS 0 4 ++ lowS 4294967295 4 ++ lowS 4294967295 4 ++ lowS (nm.size : Int) 2 ++ lowS 20 2).size + (nm).size := cat_fits ths10 (show (nm).size ≤ 65535 from hnm) (by decide)
  have ths11 : (lowS 67324752 4 ++ lowS ve 2 ++ lowS (n : Int) 2 ++ lowS me 2 ++ lowS ck 2 ++ lowS da 2 ++ lowS 0 4 ++ lowS 4294967295 4 ++ lowS 4294967295 4 ++ lowS (nm.size : Int) 2 ++ lowS 20 2 ++ nm).size ≤ 65565 := cat_le ths10 hnm
  have hs11 : ¬ 9223372036854775807 < (lowS 67324752 4 ++ lowS ve 2 ++ lowS (n : Int) 2 ++ lowS me 2 ++ lowS ck 2 ++ lowS da 2 ++ lowS 0 4 ++ lowS 4294967295 4 ++ lowS 4294967295 4 ++ lowS (nm.size : Int) 2 ++ lowS 20 2 ++ nm).size + (X).size := cat_fits ths11 (show (X).size ≤ 28 from hX20) (by decide)
  clear ths0 ths1 ths2 ths3 ths4 ths5 ths6 ths7 ths8 ths9 ths10 ths11
  try simp only [List.append]
  refine wp_region_below w5 (by first | exact Below.refl _ _ | exact below_drewO (Below.refl _ _) _) (by kernel_rfl) (by kernel_rfl) ?_
  repeat (go_big_quiet_step ((rename_i u; first | exact calls_since u (HV.out u.1) | exact calls_since u (q16_any _ u.1) | exact calls_since u (q32_any _ u.1) | exact calls_since u (q64_any _ u.1))))
  refine wpQuiet_nil ?_
  intro _ hw'
  obtain ⟨u, rfl⟩ := hw'
  clear hu0 hu1 hu2 hu3 hu4 hu5 hu6 hu7 hu8 hu9 hu10 hne hs0 hs1 hs2 hs3 hs4 hs5 hs6 hs7 hs8 hs9 hs10 hs11
  go_wp2
  go_ret
  refine ⟨?_, B0.out.trans (u.2.mono B0.out.size)⟩
  rw [HE.out]
  first | done | rfl

set_option maxRecDepth 20000 in
set_option maxHeartbeats 16000000 in
theorem qcentral_f (r : Rec) (hr : RightR r) (hw : r.wide = false) (W : World) : Calls Try.prog 15 #[recV r] W fun e w' => e = .returned (.string (cenS r)) ∧ Below W.heap.size W w' := by
  have hx : ((extraC r).size : Int) = 0 := by rw [extraC_size, hw]; rfl
  have hX : extraC r = ⟨#[]⟩ := by unfold extraC; rw [if_neg (by rw [hw]; decide)]
  have ho : ∀ x, ownF r x = x := fun x => by unfold ownF; rw [if_neg (by rw [hw]; decide)]
  have HE := hide (show cenS r = lowS 33639248 4 ++ lowS (verR r) 2 ++ lowS (verR r) 2 ++ lowS r.flags 2 ++ lowS r.method 2 ++ lowS r.clock 2 ++ lowS r.date 2 ++ lowS r.sum 4 ++ lowS r.packed 4 ++ lowS r.size 4 ++ lowS r.name.size 2 ++ lowS 0 2 ++ lowS r.note.size 2 ++ lowS 0 2 ++ lowS 0 2 ++ lowS 0 4 ++ lowS r.at_ 4 ++ r.name ++ ⟨#[]⟩ ++ r.note by
    unfold cenS
    rw [hx, hX, ho, ho, ho])
  clear hx hX ho
  have HV := hide (fun w => qneeds_any r w)
  obtain ⟨n, hn⟩ : ∃ n : Nat, r.flags = (n : Int) := Int.eq_ofNat_of_zero_le hr.flags.1
  have hnm := hr.name
  have hnt := hr.note
  have B0 := hide ((Below.refl W.heap.size W).alloc (Nat.le_refl _) (.cells (recCs r) 23))
  have HQ := hide (rec_new W (recCs r) 23)
  clear hr
  obtain ⟨nm, nt, fl, me, da, ck, su, sz, pk, at_, wd⟩ := r
  unfold recV at *
  unfold recCs at *
  dsimp only at HE HQ B0 HV hn hnm hnt hw ⊢
  subst hw
  subst hn
  generalize verR ⟨nm, nt, (n : Int), me, da, ck, su, sz, pk, at_, false⟩ = ve at *
  generalize cenS ⟨nm, nt, (n : Int), me, da, ck, su, sz, pk, at_, false⟩ = lo at *
  go_enter Try.func15, Try.ntmps15
  go_wp2_with fail
  go_quiet (fail)
  go_wp2_with fail
  obtain ⟨w5, hw5⟩ : ∃ w5, W.alloc (.cells #[.string nm, .string nt, .int .i64 (n : Int), .int .i64 me, .int .i64 da, .int .i64 ck, .int .i64 su, .int .i64 sz, .int .i64 pk, .int .i64 at_, .bool false] 23) = w5 := ⟨_, rfl⟩
  rw [hw5] at HQ B0
  simp only [hw5]
  clear hw5
  have HC := hide (rec_since HQ.out)
  have hu0 := fun u : Since0 w5 => (HC.out u).1
  have hu1 := fun u : Since0 w5 => (HC.out u).2.1
  have hu2 := fun u : Since0 w5 => (HC.out u).2.2.1
  have hu3 := fun u : Since0 w5 => (HC.out u).2.2.2.1
  have hu4 := fun u : Since0 w5 => (HC.out u).2.2.2.2.1
  have hu5 := fun u : Since0 w5 => (HC.out u).2.2.2.2.2.1
  have hu6 := fun u : Since0 w5 => (HC.out u).2.2.2.2.2.2.1
  have hu7 := fun u : Since0 w5 => (HC.out u).2.2.2.2.2.2.2.1
  have hu8 := fun u : Since0 w5 => (HC.out u).2.2.2.2.2.2.2.2.1
  have hu9 := fun u : Since0 w5 => (HC.out u).2.2.2.2.2.2.2.2.2.1
  have hu10 := fun u : Since0 w5 => (HC.out u).2.2.2.2.2.2.2.2.2.2
  have hne : Nonempty (Since0 w5) := ⟨⟨w5, Below.refl _ _⟩⟩
  have ths0 : (lowS 33639248 4).size ≤ 4 := (Nat.le_of_eq (lowS_size _ _))
  have hs0 : ¬ 9223372036854775807 < (lowS 33639248 4).size + (lowS ve 2).size := cat_fits ths0 (show (lowS ve 2).size ≤ 2 from (Nat.le_of_eq (lowS_size _ _))) (by decide)
  have ths1 : (lowS 33639248 4 ++ lowS ve 2).size ≤ 6 := cat_le ths0 (Nat.le_of_eq (lowS_size _ _))
  have hs1 : ¬ 9223372036854775807 < (lowS 33639248 4 ++ lowS ve 2).size + (lowS ve 2).size := cat_fits ths1 (show (lowS ve 2).size ≤ 2 from (Nat.le_of_eq (lowS_size _ _))) (by decide)
  have ths2 : (lowS 33639248 4 ++ lowS ve 2 ++ lowS ve 2).size ≤ 8 := cat_le ths1 (Nat.le_of_eq (lowS_size _ _))
  have hs2 : ¬ 9223372036854775807 < (lowS 33639248 4 ++ lowS ve 2 ++ lowS ve 2).size + (lowS (n : Int) 2).size := cat_fits ths2 (show (lowS (n : Int) 2).size ≤ 2 from (Nat.le_of_eq (lowS_size _ _))) (by decide)
  have ths3 : (lowS 33639248 4 ++ lowS ve 2 ++ lowS ve 2 ++ lowS (n : Int) 2).size ≤ 10 := cat_le ths2 (Nat.le_of_eq (lowS_size _ _))
  have hs3 : ¬ 9223372036854775807 < (lowS 33639248 4 ++ lowS ve 2 ++ lowS ve 2 ++ lowS (n : Int) 2).size + (lowS me 2).size := cat_fits ths3 (show (lowS me 2).size ≤ 2 from (Nat.le_of_eq (lowS_size _ _))) (by decide)
  have ths4 : (lowS 33639248 4 ++ lowS ve 2 ++ lowS ve 2 ++ lowS (n : Int) 2 ++ lowS me 2).size ≤ 12 := cat_le ths3 (Nat.le_of_eq (lowS_size _ _))
  have hs4 : ¬ 9223372036854775807 < (lowS 33639248 4 ++ lowS ve 2 ++ lowS ve 2 ++ lowS (n : Int) 2 ++ lowS me 2).size + (lowS ck 2).size := cat_fits ths4 (show (lowS ck 2).size ≤ 2 from (Nat.le_of_eq (lowS_size _ _))) (by decide)
  have ths5 : (lowS 33639248 4 ++ lowS ve 2 ++ lowS ve 2 ++ lowS (n : Int) 2 ++ lowS me 2 ++ lowS ck 2).size ≤ 14 := cat_le ths4 (Nat.le_of_eq (lowS_size _ _))
  have hs5 : ¬ 9223372036854775807 < (lowS 33639248 4 ++ lowS ve 2 ++ lowS ve 2 ++ lowS (n : Int) 2 ++ lowS me 2 ++ lowS ck 2).size + (lowS da 2).size := cat_fits ths5 (show (lowS da 2).size ≤ 2 from (Nat.le_of_eq (lowS_size _ _))) (by decide)
  have ths6 : (lowS 33639248 4 ++ lowS ve 2 ++ lowS ve 2 ++ lowS (n : Int) 2 ++ lowS me 2 ++ lowS ck 2 ++ lowS da 2).size ≤ 16 := cat_le ths5 (Nat.le_of_eq (lowS_size _ _))
  have hs6 : ¬ 9223372036854775807 < (lowS 33639248 4 ++ lowS ve 2 ++ lowS ve 2 ++ lowS (n : Int) 2 ++ lowS me 2 ++ lowS ck 2 ++ lowS da 2).size + (lowS su 4).size := cat_fits ths6 (show (lowS su 4).size ≤ 4 from (Nat.le_of_eq (lowS_size _ _))) (by decide)
  have ths7 : (lowS 33639248 4 ++ lowS ve 2 ++ lowS ve 2 ++ lowS (n : Int) 2 ++ lowS me 2 ++ lowS ck 2 ++ lowS da 2 ++ lowS su 4).size ≤ 20 := cat_le ths6 (Nat.le_of_eq (lowS_size _ _))
  have hs7 : ¬ 9223372036854775807 < (lowS 33639248 4 ++ lowS ve 2 ++ lowS ve 2 ++ lowS (n : Int) 2 ++ lowS me 2 ++ lowS ck 2 ++ lowS da 2 ++ lowS su 4).size + (lowS pk 4).size := cat_fits ths7 (show (lowS pk 4).size ≤ 4 from (Nat.le_of_eq (lowS_size _ _))) (by decide)
  have ths8 : (lowS 33639248 4 ++ lowS ve 2 ++ lowS ve 2 ++ lowS (n : Int) 2 ++ lowS me 2 ++ lowS ck 2 ++ lowS da 2 ++ lowS su 4 ++ lowS pk 4).size ≤ 24 := cat_le ths7 (Nat.le_of_eq (lowS_size _ _))
  have hs8 : ¬ 9223372036854775807 < (lowS 33639248 4 ++ lowS ve 2 ++ lowS ve 2 ++ lowS (n : Int) 2 ++ lowS me 2 ++ lowS ck 2 ++ lowS da 2 ++ lowS su 4 ++ lowS pk 4).size + (lowS sz 4).size := cat_fits ths8 (show (lowS sz 4).size ≤ 4 from (Nat.le_of_eq (lowS_size _ _))) (by decide)
  have ths9 : (lowS 33639248 4 ++ lowS ve 2 ++ lowS ve 2 ++ lowS (n : Int) 2 ++ lowS me 2 ++ lowS ck 2 ++ lowS da 2 ++ lowS su 4 ++ lowS pk 4 ++ lowS sz 4).size ≤ 28 := cat_le ths8 (Nat.le_of_eq (lowS_size _ _))
  have hs9 : ¬ 9223372036854775807 < (lowS 33639248 4 ++ lowS ve 2 ++ lowS ve 2 ++ lowS (n : Int) 2 ++ lowS me 2 ++ lowS ck 2 ++ lowS da 2 ++ lowS su 4 ++ lowS pk 4 ++ lowS sz 4).size + (lowS (nm.size : Int) 2).size := cat_fits ths9 (show (lowS (nm.size : Int) 2).size ≤ 2 from (Nat.le_of_eq (lowS_size _ _))) (by decide)
  have ths10 : (lowS 33639248 4 ++ lowS ve 2 ++ lowS ve 2 ++ lowS (n : Int) 2 ++ lowS me 2 ++ lowS ck 2 ++ lowS da 2 ++ lowS su 4 ++ lowS pk 4 ++ lowS sz 4 ++ lowS (nm.size : Int) 2).size ≤ 30 := cat_le ths9 (Nat.le_of_eq (lowS_size _ _))
  have hs10 : ¬ 9223372036854775807 < (lowS 33639248 4 ++ lowS ve 2 ++ lowS ve 2 ++ lowS (n : Int) 2 ++ lowS me 2 ++ lowS ck 2 ++ lowS da 2 ++ lowS su 4 ++ lowS pk 4 ++ lowS sz 4 ++ lowS (nm.size : Int) 2).size + (lowS 0 2).size := cat_fits ths10 (show (lowS 0 2).size ≤ 2 from (Nat.le_of_eq (lowS_size _ _))) (by decide)
  have ths11 : (lowS 33639248 4 ++ lowS ve 2 ++ lowS ve 2 ++ lowS (n : Int) 2 ++ lowS me 2 ++ lowS ck 2 ++ lowS da 2 ++ lowS su 4 ++ lowS pk 4 ++ lowS sz 4 ++ lowS (nm.size : Int) 2 ++ lowS 0 2).size ≤ 32 := cat_le ths10 (Nat.le_of_eq (lowS_size _ _))
  have hs11 : ¬ 9223372036854775807 < (lowS 33639248 4 ++ lowS ve 2 ++ lowS ve 2 ++ lowS (n : Int) 2 ++ lowS me 2 ++ lowS ck 2 ++ lowS da 2 ++ lowS su 4 ++ lowS pk 4 ++ lowS sz 4 ++ lowS (nm.size : Int) 2 ++ lowS 0 2).size + (lowS (nt.size : Int) 2).size := cat_fits ths11 (show (lowS (nt.size : Int) 2).size ≤ 2 from (Nat.le_of_eq (lowS_size _ _))) (by decide)
  have ths12 : (lowS 33639248 4 ++ lowS ve 2 ++ lowS ve 2 ++ lowS (n : Int) 2 ++ lowS me 2 ++ lowS ck 2 ++ lowS da 2 ++ lowS su 4 ++ lowS pk 4 ++ lowS sz 4 ++ lowS (nm.size : Int) 2 ++ lowS 0 2 ++ lowS (nt.size : Int) 2).size ≤ 34 := cat_le ths11 (Nat.le_of_eq (lowS_size _ _))
  have hs12 : ¬ 9223372036854775807 < (lowS 33639248 4 ++ lowS ve 2 ++ lowS ve 2 ++ lowS (n : Int) 2 ++ lowS me 2 ++ lowS ck 2 ++ lowS da 2 ++ lowS su 4 ++ lowS pk 4 ++ lowS sz 4 ++ lowS (nm.size : Int) 2 ++ lowS 0 2 ++ lowS (nt.size : Int) 2).size + (lowS 0 2).size := cat_fits ths12 (show (lowS 0 2).size ≤ 2 from (Nat.le_of_eq (lowS_size _ _))) (by decide)
  have ths13 : (lowS 33639248 4 ++ lowS ve 2 ++ lowS ve 2 ++ lowS (n : Int) 2 ++ lowS me 2 ++ lowS ck 2 ++ lowS da 2 ++ lowS su 4 ++ lowS pk 4 ++ lowS sz 4 ++ lowS (nm.size : Int) 2 ++ lowS 0 2 ++ lowS (nt.size : Int) 2 ++ lowS 0 2).size ≤ 36 := cat_le ths12 (Nat.le_of_eq (lowS_size _ _))
  have hs13 : ¬ 9223372036854775807 < (lowS 33639248 4 ++ lowS ve 2 ++ lowS ve 2 ++ lowS (n : Int) 2 ++ lowS me 2 ++ lowS ck 2 ++ lowS da 2 ++ lowS su 4 ++ lowS pk 4 ++ lowS sz 4 ++ lowS (nm.size : Int) 2 ++ lowS 0 2 ++ lowS (nt.size : Int) 2 ++ lowS 0 2).size + (lowS 0 2).size := cat_fits ths13 (show (lowS 0 2).size ≤ 2 from (Nat.le_of_eq (lowS_size _ _))) (by decide)
  have ths14 : (lowS 33639248 4 ++ lowS ve 2 ++ lowS ve 2 ++ lowS (n : Int) 2 ++ lowS me 2 ++ lowS ck 2 ++ lowS da 2 ++ lowS su 4 ++ lowS pk 4 ++ lowS sz 4 ++ lowS (nm.size : Int) 2 ++ lowS 0 2 ++ lowS (nt.size : Int) 2 ++ lowS 0 2 ++ lowS 0 2).size ≤ 38 := cat_le ths13 (Nat.le_of_eq (lowS_size _ _))
  have hs14 : ¬ 9223372036854775807 < (lowS 33639248 4 ++ lowS ve 2 ++ lowS ve 2 ++ lowS (n : Int) 2 ++ lowS me 2 ++ lowS ck 2 ++ lowS da 2 ++ lowS su 4 ++ lowS pk 4 ++ lowS sz 4 ++ lowS (nm.size : Int) 2 ++ lowS 0 2 ++ lowS (nt.size : Int) 2 ++ lowS 0 2 ++ lowS 0 2).size + (lowS 0 4).size := cat_fits ths14 (show (lowS 0 4).size ≤ 4 from (Nat.le_of_eq (lowS_size _ _))) (by decide)
  have ths15 : (lowS 33639248 4 ++ lowS ve 2 ++ lowS ve 2 ++ lowS (n : Int) 2 ++ lowS me 2 ++ lowS ck 2 ++ lowS da 2 ++ lowS su 4 ++ lowS pk 4 ++ lowS sz 4 ++ lowS (nm.size : Int) 2 ++ lowS 0 2 ++ lowS (nt.size : Int) 2 ++ lowS 0 2 ++ lowS 0 2 ++ lowS 0 4).size ≤ 42 := cat_le ths14 (Nat.le_of_eq (lowS_size _ _))
  have hs15 : ¬ 9223372036854775807 < (lowS 33639248 4 ++ lowS ve 2 ++ lowS ve 2 ++ lowS (n : Int) 2 ++ lowS me 2 ++ lowS ck 2 ++ lowS da 2 ++ lowS su 4 ++ lowS pk 4 ++ lowS sz 4 ++ lowS (nm.size : Int) 2 ++ lowS 0 2 ++ lowS (nt.size : Int) 2 ++ lowS 0 2 ++ lowS 0 2 ++ lowS 0 4).size + (lowS at_ 4).size := cat_fits ths15 (show (lowS at_ 4).size ≤ 4 from (Nat.le_of_eq (lowS_size _ _))) (by decide)
  have ths16 : (lowS 33639248 4 ++ lowS ve 2 ++ lowS ve 2 ++ lowS (n : Int) 2 ++ lowS me 2 ++ lowS ck 2 ++ lowS da 2 ++ lowS su 4 ++ lowS pk 4 ++ lowS sz 4 ++ lowS (nm.size : Int) 2 ++ lowS 0 2 ++ lowS (nt.size : Int) 2 ++ lowS 0 2 ++ lowS 0 2 ++ lowS 0 4 ++ lowS at_ 4).size ≤ 46 := cat_le ths15 (Nat.le_of_eq (lowS_size _ _))
  have hs16 : ¬ 9223372036854775807 < (lowS 33639248 4 ++ lowS ve 2 ++ lowS ve 2 ++ lowS (n : Int) 2 ++ lowS me 2 ++ lowS ck 2 ++ lowS da 2 ++ lowS su 4 ++ lowS pk 4 ++ lowS sz 4 ++ lowS (nm.size : Int) 2 ++ lowS 0 2 ++ lowS (nt.size : Int) 2 ++ lowS 0 2 ++ lowS 0 2 ++ lowS 0 4 ++ lowS at_ 4).size + (nm).size := cat_fits ths16 (show (nm).size ≤ 65535 from hnm) (by decide)
  have ths17 : (lowS 33639248 4 ++ lowS ve 2 ++ lowS ve 2 ++ lowS (n : Int) 2 ++ lowS me 2 ++ lowS ck 2 ++ lowS da 2 ++ lowS su 4 ++ lowS pk 4 ++ lowS sz 4 ++ lowS (nm.size : Int) 2 ++ lowS 0 2 ++ lowS (nt.size : Int) 2 ++ lowS 0 2 ++ lowS 0 2 ++ lowS 0 4 ++ lowS at_ 4 ++ nm).size ≤ 65581 := cat_le ths16 hnm
  have hs17 : ¬ 9223372036854775807 < (lowS 33639248 4 ++ lowS ve 2 ++ lowS ve 2 ++ lowS (n : Int) 2 ++ lowS me 2 ++ lowS ck 2 ++ lowS da 2 ++ lowS su 4 ++ lowS pk 4 ++ lowS sz 4 ++ lowS (nm.size : Int) 2 ++ lowS 0 2 ++ lowS (nt.size : Int) 2 ++ lowS 0 2 ++ lowS 0 2 ++ lowS 0 4 ++ lowS at_ 4 ++ nm).size + ((⟨#[]⟩ : ByteArray)).size := cat_fits ths17 (show ((⟨#[]⟩ : ByteArray)).size ≤ 0 from (Nat.le_refl _)) (by decide)
  have ths18 : (lowS 33639248 4 ++ lowS ve 2 ++ lowS ve 2 ++ lowS (n : Int) 2 ++ lowS me 2 ++ lowS ck 2 ++ lowS da 2 ++ lowS su 4 ++ lowS pk 4 ++ lowS sz 4 ++ lowS (nm.size : Int) 2 ++ lowS 0 2 ++ lowS (nt.size : Int) 2 ++ lowS 0 2 ++ lowS 0 2 ++ lowS 0 4 ++ lowS at_ 4 ++ nm ++ (⟨#[]⟩ : ByteArray)).size ≤ 65581 := cat_le ths17 (Nat.le_refl _)
  have hs18 : ¬ 9223372036854775807 < (lowS 33639248 4 ++ lowS ve 2 ++ lowS ve 2 ++ lowS (n : Int) 2 ++ lowS me 2 ++ lowS ck 2 ++ lowS da 2 ++ lowS su 4 ++ lowS pk 4 ++ lowS sz 4 ++ lowS (nm.size : Int) 2 ++ lowS 0 2 ++ lowS (nt.size : Int) 2 ++ lowS 0 2 ++ lowS 0 2 ++ lowS 0 4 ++ lowS at_ 4 ++ nm ++ (⟨#[]⟩ : ByteArray)).size + (nt).size := cat_fits ths18 (show (nt).size ≤ 65535 from hnt) (by decide)
  clear ths0 ths1 ths2 ths3 ths4 ths5 ths6 ths7 ths8 ths9 ths10 ths11 ths12 ths13 ths14 ths15 ths16 ths17 ths18
  try simp only [List.append]
  refine wp_region_below w5 (by first | exact Below.refl _ _ | exact below_drewO (Below.refl _ _) _) (by kernel_rfl) (by kernel_rfl) ?_
  repeat (go_big_quiet_step ((rename_i u; first | exact calls_since u (HV.out u.1) | exact calls_since u (q16_any _ u.1) | exact calls_since u (q32_any _ u.1) | exact calls_since u (q64_any _ u.1))))
  refine wpQuiet_nil ?_
  intro _ hw'
  obtain ⟨u, rfl⟩ := hw'
  clear hu0 hu1 hu2 hu3 hu4 hu5 hu6 hu7 hu8 hu9 hu10 hne hs0 hs1 hs2 hs3 hs4 hs5 hs6 hs7 hs8 hs9 hs10 hs11 hs12 hs13 hs14 hs15 hs16 hs17 hs18
  go_wp2
  go_ret
  refine ⟨?_, B0.out.trans (u.2.mono B0.out.size)⟩
  rw [HE.out]
  first | done | rfl

set_option maxRecDepth 20000 in
set_option maxHeartbeats 16000000 in
theorem qcentral_t (r : Rec) (hr : RightR r) (hw : r.wide = true) (W : World) : Calls Try.prog 15 #[recV r] W fun e w' => e = .returned (.string (cenS r)) ∧ Below W.heap.size W w' := by
  have hx : ((extraC r).size : Int) = 28 := by rw [extraC_size, hw]; rfl
  have hX : extraC r = lowS 1 2 ++ lowS 24 2 ++ lowS r.size 8 ++ lowS r.packed 8 ++ lowS r.at_ 8 := by unfold extraC; rw [if_pos hw]
  have ho : ∀ x, ownF r x = 4294967295 := fun x => by unfold ownF; rw [if_pos hw]
  have HE := hide (show cenS r = lowS 33639248 4 ++ lowS (verR r) 2 ++ lowS (verR r) 2 ++ lowS r.flags 2 ++ lowS r.method 2 ++ lowS r.clock 2 ++ lowS r.date 2 ++ lowS r.sum 4 ++ lowS 4294967295 4 ++ lowS 4294967295 4 ++ lowS r.name.size 2 ++ lowS 28 2 ++ lowS r.note.size 2 ++ lowS 0 2 ++ lowS 0 2 ++ lowS 0 4 ++ lowS 4294967295 4 ++ r.name ++ (lowS 1 2 ++ lowS 24 2 ++ lowS r.size 8 ++ lowS r.packed 8 ++ lowS r.at_ 8) ++ r.note by
    unfold cenS
    rw [hx, hX, ho, ho, ho])
  clear hx hX ho
  have HV := hide (fun w => qneeds_any r w)
  obtain ⟨n, hn⟩ : ∃ n : Nat, r.flags = (n : Int) := Int.eq_ofNat_of_zero_le hr.flags.1
  have hnm := hr.name
  have hnt := hr.note
  have B0 := hide ((Below.refl W.heap.size W).alloc (Nat.le_refl _) (.cells (recCs r) 23))
  have HQ := hide (rec_new W (recCs r) 23)
  clear hr
  obtain ⟨nm, nt, fl, me, da, ck, su, sz, pk, at_, wd⟩ := r
  unfold recV at *
  unfold recCs at *
  dsimp only at HE HQ B0 HV hn hnm hnt hw ⊢
  subst hw
  subst hn
  generalize verR ⟨nm, nt, (n : Int), me, da, ck, su, sz, pk, at_, true⟩ = ve at *
  generalize cenS ⟨nm, nt, (n : Int), me, da, ck, su, sz, pk, at_, true⟩ = lo at *
  go_enter Try.func15, Try.ntmps15
  go_wp2_with fail
  go_quiet (fail)
  obtain ⟨w5, hw5⟩ : ∃ w5, W.alloc (.cells #[.string nm, .string nt, .int .i64 (n : Int), .int .i64 me, .int .i64 da, .int .i64 ck, .int .i64 su, .int .i64 sz, .int .i64 pk, .int .i64 at_, .bool true] 23) = w5 := ⟨_, rfl⟩
  rw [hw5] at HQ B0
  simp only [hw5]
  clear hw5
  obtain ⟨g0, g1, g2, g3, g4, g5, g6, g7, g8, g9, g10⟩ := rec_cells HQ.out
  have thx0 : (lowS 1 2).size ≤ 2 := (Nat.le_of_eq (lowS_size _ _))
  have hx0 : ¬ 9223372036854775807 < (lowS 1 2).size + (lowS 24 2).size := cat_fits thx0 (show (lowS 24 2).size ≤ 2 from (Nat.le_of_eq (lowS_size _ _))) (by decide)
  have thx1 : (lowS 1 2 ++ lowS 24 2).size ≤ 4 := cat_le thx0 (Nat.le_of_eq (lowS_size _ _))
  have hx1 : ¬ 9223372036854775807 < (lowS 1 2 ++ lowS 24 2).size + (lowS sz 8).size := cat_fits thx1 (show (lowS sz 8).size ≤ 8 from (Nat.le_of_eq (lowS_size _ _))) (by decide)
  have thx2 : (lowS 1 2 ++ lowS 24 2 ++ lowS sz 8).size ≤ 12 := cat_le thx1 (Nat.le_of_eq (lowS_size _ _))
  have hx2 : ¬ 9223372036854775807 < (lowS 1 2 ++ lowS 24 2 ++ lowS sz 8).size + (lowS pk 8).size := cat_fits thx2 (show (lowS pk 8).size ≤ 8 from (Nat.le_of_eq (lowS_size _ _))) (by decide)
  have thx3 : (lowS 1 2 ++ lowS 24 2 ++ lowS sz 8 ++ lowS pk 8).size ≤ 20 := cat_le thx2 (Nat.le_of_eq (lowS_size _ _))
  have hx3 : ¬ 9223372036854775807 < (lowS 1 2 ++ lowS 24 2 ++ lowS sz 8 ++ lowS pk 8).size + (lowS at_ 8).size := cat_fits thx3 (show (lowS at_ 8).size ≤ 8 from (Nat.le_of_eq (lowS_size _ _))) (by decide)
  clear thx0 thx1 thx2 thx3
  go_wp2_with fail
  refine (q16_any 1 _).mono ?_
  rintro e x0 ⟨rfl, b⟩
  have b := of_drewO b
  have HQ := hide (rec_kept HQ.out b)
  have B0 := hide (B0.out.trans (b.mono B0.out.size))
  clear b
  go_wp2_with fail
  refine (q16_any 24 _).mono ?_
  rintro e y0 ⟨rfl, b⟩
  have B0 := hide (B0.out.trans (b.mono B0.out.size))
  have HQ := hide (rec_kept HQ.out b)
  clear b
  go_wp2_with fail
  refine (q64_any sz _).mono ?_
  rintro e y1 ⟨rfl, b⟩
  have B0 := hide (B0.out.trans (b.mono B0.out.size))
  have HQ := hide (rec_kept HQ.out b)
  clear b
  go_wp2_with fail
  refine (q64_any pk _).mono ?_
  rintro e y2 ⟨rfl, b⟩
  have B0 := hide (B0.out.trans (b.mono B0.out.size))
  have HQ := hide (rec_kept HQ.out b)
  clear b
  go_wp2_with fail
  refine (q64_any at_ _).mono ?_
  rintro e y3 ⟨rfl, b⟩
  have B0 := hide (B0.out.trans (b.mono B0.out.size))
  have HQ := hide (rec_kept HQ.out b)
  clear b
  go_wp2_with fail
  clear hx0 hx1 hx2 hx3 g0 g1 g2 g3 g4 g5 g6 g7 g8 g9 g10
  obtain ⟨X, hX⟩ : ∃ X, lowS 1 2 ++ lowS 24 2 ++ lowS sz 8 ++ lowS pk 8 ++ lowS at_ 8 = X := ⟨_, rfl⟩
  have hXe : X.size = 28 := by rw [← hX]; simp only [ba_size_append, lowS_size]
  have hX20 : X.size ≤ 28 := by rw [hXe]; decide
  have hXi : (X.size : Int) = 28 := by rw [hXe]; rfl
  rw [hX] at HE
  simp only [hX]
  clear hX
  obtain ⟨w5, hw5⟩ : ∃ x, x = y3 := ⟨_, rfl⟩
  subst hw5
  have HC := hide (rec_since HQ.out)
  have hu0 := fun u : Since0 w5 => (HC.out u).1
  have hu1 := fun u : Since0 w5 => (HC.out u).2.1
  have hu2 := fun u : Since0 w5 => (HC.out u).2.2.1
  have hu3 := fun u : Since0 w5 => (HC.out u).2.2.2.1
  have hu4 := fun u : Since0 w5 => (HC.out u).2.2.2.2.1
  have hu5 := fun u : Since0 w5 => (HC.out u).2.2.2.2.2.1
  have hu6 := fun u : Since0 w5 => (HC.out u).2.2.2.2.2.2.1
  have hu7 := fun u : Since0 w5 => (HC.out u).2.2.2.2.2.2.2.1
  have hu8 := fun u : Since0 w5 => (HC.out u).2.2.2.2.2.2.2.2.1
  have hu9 := fun u : Since0 w5 => (HC.out u).2.2.2.2.2.2.2.2.2.1
  have hu10 := fun u : Since0 w5 => (HC.out u).2.2.2.2.2.2.2.2.2.2
  have hne : Nonempty (Since0 w5) := ⟨⟨w5, Below.refl _ _⟩⟩
  have ths0 : (lowS 33639248 4).size ≤ 4 := (Nat.le_of_eq (lowS_size _ _))
  have hs0 : ¬ 9223372036854775807 < (lowS 33639248 4).size + (lowS ve 2).size := cat_fits ths0 (show (lowS ve 2).size ≤ 2 from (Nat.le_of_eq (lowS_size _ _))) (by decide)
  have ths1 : (lowS 33639248 4 ++ lowS ve 2).size ≤ 6 := cat_le ths0 (Nat.le_of_eq (lowS_size _ _))
  have hs1 : ¬ 9223372036854775807 < (lowS 33639248 4 ++ lowS ve 2).size + (lowS ve 2).size := cat_fits ths1 (show (lowS ve 2).size ≤ 2 from (Nat.le_of_eq (lowS_size _ _))) (by decide)
  have ths2 : (lowS 33639248 4 ++ lowS ve 2 ++ lowS ve 2).size ≤ 8 := cat_le ths1 (Nat.le_of_eq (lowS_size _ _))
  have hs2 : ¬ 9223372036854775807 < (lowS 33639248 4 ++ lowS ve 2 ++ lowS ve 2).size + (lowS (n : Int) 2).size := cat_fits ths2 (show (lowS (n : Int) 2).size ≤ 2 from (Nat.le_of_eq (lowS_size _ _))) (by decide)
  have ths3 : (lowS 33639248 4 ++ lowS ve 2 ++ lowS ve 2 ++ lowS (n : Int) 2).size ≤ 10 := cat_le ths2 (Nat.le_of_eq (lowS_size _ _))
  have hs3 : ¬ 9223372036854775807 < (lowS 33639248 4 ++ lowS ve 2 ++ lowS ve 2 ++ lowS (n : Int) 2).size + (lowS me 2).size := cat_fits ths3 (show (lowS me 2).size ≤ 2 from (Nat.le_of_eq (lowS_size _ _))) (by decide)
  have ths4 : (lowS 33639248 4 ++ lowS ve 2 ++ lowS ve 2 ++ lowS (n : Int) 2 ++ lowS me 2).size ≤ 12 := cat_le ths3 (Nat.le_of_eq (lowS_size _ _))
  have hs4 : ¬ 9223372036854775807 < (lowS 33639248 4 ++ lowS ve 2 ++ lowS ve 2 ++ lowS (n : Int) 2 ++ lowS me 2).size + (lowS ck 2).size := cat_fits ths4 (show (lowS ck 2).size ≤ 2 from (Nat.le_of_eq (lowS_size _ _))) (by decide)
  have ths5 : (lowS 33639248 4 ++ lowS ve 2 ++ lowS ve 2 ++ lowS (n : Int) 2 ++ lowS me 2 ++ lowS ck 2).size ≤ 14 := cat_le ths4 (Nat.le_of_eq (lowS_size _ _))
  have hs5 : ¬ 9223372036854775807 < (lowS 33639248 4 ++ lowS ve 2 ++ lowS ve 2 ++ lowS (n : Int) 2 ++ lowS me 2 ++ lowS ck 2).size + (lowS da 2).size := cat_fits ths5 (show (lowS da 2).size ≤ 2 from (Nat.le_of_eq (lowS_size _ _))) (by decide)
  have ths6 : (lowS 33639248 4 ++ lowS ve 2 ++ lowS ve 2 ++ lowS (n : Int) 2 ++ lowS me 2 ++ lowS ck 2 ++ lowS da 2).size ≤ 16 := cat_le ths5 (Nat.le_of_eq (lowS_size _ _))
  have hs6 : ¬ 9223372036854775807 < (lowS 33639248 4 ++ lowS ve 2 ++ lowS ve 2 ++ lowS (n : Int) 2 ++ lowS me 2 ++ lowS ck 2 ++ lowS da 2).size + (lowS su 4).size := cat_fits ths6 (show (lowS su 4).size ≤ 4 from (Nat.le_of_eq (lowS_size _ _))) (by decide)
  have ths7 : (lowS 33639248 4 ++ lowS ve 2 ++ lowS ve 2 ++ lowS (n : Int) 2 ++ lowS me 2 ++ lowS ck 2 ++ lowS da 2 ++ lowS su 4).size ≤ 20 := cat_le ths6 (Nat.le_of_eq (lowS_size _ _))
  have hs7 : ¬ 9223372036854775807 < (lowS 33639248 4 ++ lowS ve 2 ++ lowS ve 2 ++ lowS (n : Int) 2 ++ lowS me 2 ++ lowS ck 2 ++ lowS da 2 ++ lowS su 4).size + (lowS 4294967295 4).size := cat_fits ths7 (show (lowS 4294967295 4).size ≤ 4 from (Nat.le_of_eq (lowS_size _ _))) (by decide)
  have ths8 : (lowS 33639248 4 ++ lowS ve 2 ++ lowS ve 2 ++ lowS (n : Int) 2 ++ lowS me 2 ++ lowS ck 2 ++ lowS da 2 ++ lowS su 4 ++ lowS 4294967295 4).size ≤ 24 := cat_le ths7 (Nat.le_of_eq (lowS_size _ _))
  have hs8 : ¬ 9223372036854775807 < (lowS 33639248 4 ++ lowS ve 2 ++ lowS ve 2 ++ lowS (n : Int) 2 ++ lowS me 2 ++ lowS ck 2 ++ lowS da 2 ++ lowS su 4 ++ lowS 4294967295 4).size + (lowS 4294967295 4).size := cat_fits ths8 (show (lowS 4294967295 4).size ≤ 4 from (Nat.le_of_eq (lowS_size _ _))) (by decide)
  have ths9 : (lowS 33639248 4 ++ lowS ve 2 ++ lowS ve 2 ++ lowS (n : Int) 2 ++ lowS me 2 ++ lowS ck 2 ++ lowS da 2 ++ lowS su 4 ++ lowS 4294967295 4 ++ lowS 4294967295 4).size ≤ 28 := cat_le ths8 (Nat.le_of_eq (lowS_size _ _))
  have hs9 : ¬ 9223372036854775807 < (lowS 33639248 4 ++ lowS ve 2 ++ lowS ve 2 ++ lowS (n : Int) 2 ++ lowS me 2 ++ lowS ck 2 ++ lowS da 2 ++ lowS su 4 ++ lowS 4294967295 4 ++ lowS 4294967295 4).size + (lowS (nm.size : Int) 2).size := cat_fits ths9 (show (lowS (nm.size : Int) 2).size ≤ 2 from (Nat.le_of_eq (lowS_size _ _))) (by decide)
  have ths10 : (lowS 33639248 4 ++ lowS ve 2 ++ lowS ve 2 ++ lowS (n : Int) 2 ++ lowS me 2 ++ lowS ck 2 ++ lowS da 2 ++ lowS su 4 ++ lowS 4294967295 4 ++ lowS 4294967295 4 ++ lowS (nm.size : Int) 2).size ≤ 30 := cat_le ths9 (Nat.le_of_eq (lowS_size _ _))
  have hs10 : ¬ 9223372036854775807 < (lowS 33639248 4 ++ lowS ve 2 ++ lowS ve 2 ++ lowS (n : Int) 2 ++ lowS me 2 ++ lowS ck 2 ++ lowS da 2 ++ lowS su 4 ++ lowS 4294967295 4 ++ lowS 4294967295 4 ++ lowS (nm.size : Int) 2).size + (lowS 28 2).size := cat_fits ths10 (show (lowS 28 2).size ≤ 2 from (Nat.le_of_eq (lowS_size _ _))) (by decide)
  have ths11 : (lowS 33639248 4 ++ lowS ve 2 ++ lowS ve 2 ++ lowS (n : Int) 2 ++ lowS me 2 ++ lowS ck 2 ++ lowS da 2 ++ lowS su 4 ++ lowS 4294967295 4 ++ lowS 4294967295 4 ++ lowS (nm.size : Int) 2 ++ lowS 28 2).size ≤ 32 := cat_le ths10 (Nat.le_of_eq (lowS_size _ _))
  have hs11 : ¬ 9223372036854775807 < (lowS 33639248 4 ++ lowS ve 2 ++ lowS ve 2 ++ lowS (n : Int) 2 ++ lowS me 2 ++ lowS ck 2 ++ lowS da 2 ++ lowS su 4 ++ lowS 4294967295 4 ++ lowS 4294967295 4 ++ lowS (nm.size : Int) 2 ++ lowS 28 2).size + (lowS (nt.size : Int) 2).size := cat_fits ths11 (show (lowS (nt.size : Int) 2).size ≤ 2 from (Nat.le_of_eq (lowS_size _ _))) (by decide)
  have ths12 : (lowS 33639248 4 ++ lowS ve 2 ++ lowS ve 2 ++ lowS (n : Int) 2 ++ lowS me 2 ++ lowS ck 2 ++ lowS da 2 ++ lowS su 4 ++ lowS 4294967295 4 ++ lowS 4294967295 4 ++ lowS (nm.size : Int) 2 ++ lowS 28 2 ++ lowS (nt.size : Int) 2).size ≤ 34 := cat_le ths11 (Nat.le_of_eq (lowS_size _ _))
  have hs12 : ¬ 9223372036854775807 < (lowS 33639248 4 ++ lowS ve 2 ++ lowS ve 2 ++ lowS (n : Int) 2 ++ lowS me 2 ++ lowS ck 2 ++ lowS da 2 ++ lowS su 4 ++ lowS 4294967295 4 ++ lowS 4294967295 4 ++ lowS (nm.size : Int) 2 ++ lowS 28 2 ++ lowS (nt.size : Int) 2).size + (lowS 0 2).size := cat_fits ths12 (show (lowS 0 2).size ≤ 2 from (Nat.le_of_eq (lowS_size _ _))) (by decide)
  have ths13 : (lowS 33639248 4 ++ lowS ve 2 ++ lowS ve 2 ++ lowS (n : Int) 2 ++ lowS me 2 ++ lowS ck 2 ++ lowS da 2 ++ lowS su 4 ++ lowS 4294967295 4 ++ lowS 4294967295 4 ++ lowS (nm.size : Int) 2 ++ lowS 28 2 ++ lowS (nt.size : Int) 2 ++ lowS 0 2).size ≤ 36 := cat_le ths12 (Nat.le_of_eq (lowS_size _ _))
  have hs13 : ¬ 9223372036854775807 < (lowS 33639248 4 ++ lowS ve 2 ++ lowS ve 2 ++ lowS (n : Int) 2 ++ lowS me 2 ++ lowS ck 2 ++ lowS da 2 ++ lowS su 4 ++ lowS 4294967295 4 ++ lowS 4294967295 4 ++ lowS (nm.size : Int) 2 ++ lowS 28 2 ++ lowS (nt.size : Int) 2 ++ lowS 0 2).size + (lowS 0 2).size := cat_fits ths13 (show (lowS 0 2).size ≤ 2 from (Nat.le_of_eq (lowS_size _ _))) (by decide)
  have ths14 : (lowS 33639248 4 ++ lowS ve 2 ++ lowS ve 2 ++ lowS (n : Int) 2 ++ lowS me 2 ++ lowS ck 2 ++ lowS da 2 ++ lowS su 4 ++ lowS 4294967295 4 ++ lowS 4294967295 4 ++ lowS (nm.size : Int) 2 ++ lowS 28 2 ++ lowS (nt.size : Int) 2 ++ lowS 0 2 ++ lowS 0 2).size ≤ 38 := cat_le ths13 (Nat.le_of_eq (lowS_size _ _))
  have hs14 : ¬ 9223372036854775807 < (lowS 33639248 4 ++ lowS ve 2 ++ lowS ve 2 ++ lowS (n : Int) 2 ++ lowS me 2 ++ lowS ck 2 ++ lowS da 2 ++ lowS su 4 ++ lowS 4294967295 4 ++ lowS 4294967295 4 ++ lowS (nm.size : Int) 2 ++ lowS 28 2 ++ lowS (nt.size : Int) 2 ++ lowS 0 2 ++ lowS 0 2).size + (lowS 0 4).size := cat_fits ths14 (show (lowS 0 4).size ≤ 4 from (Nat.le_of_eq (lowS_size _ _))) (by decide)
  have ths15 : (lowS 33639248 4 ++ lowS ve 2 ++ lowS ve 2 ++ lowS (n : Int) 2 ++ lowS me 2 ++ lowS ck 2 ++ lowS da 2 ++ lowS su 4 ++ lowS 4294967295 4 ++ lowS 4294967295 4 ++ lowS (nm.size : Int) 2 ++ lowS 28 2 ++ lowS (nt.size : Int) 2 ++ lowS 0 2 ++ lowS 0 2 ++ lowS 0 4).size ≤ 42 := cat_le ths14 (Nat.le_of_eq (lowS_size _ _))
  have hs15 : ¬ 9223372036854775807 < (lowS 33639248 4 ++ lowS ve 2 ++ lowS ve 2 ++ lowS (n : Int) 2 ++ lowS me 2 ++ lowS ck 2 ++ lowS da 2 ++ lowS su 4 ++ lowS 4294967295 4 ++ lowS 4294967295 4 ++ lowS (nm.size : Int) 2 ++ lowS 28 2 ++ lowS (nt.size : Int) 2 ++ lowS 0 2 ++ lowS 0 2 ++ lowS 0 4).size + (lowS 4294967295 4).size := cat_fits ths15 (show (lowS 4294967295 4).size ≤ 4 from (Nat.le_of_eq (lowS_size _ _))) (by decide)
  have ths16 : (lowS 33639248 4 ++ lowS ve 2 ++ lowS ve 2 ++ lowS (n : Int) 2 ++ lowS me 2 ++ lowS ck 2 ++ lowS da 2 ++ lowS su 4 ++ lowS 4294967295 4 ++ lowS 4294967295 4 ++ lowS (nm.size : Int) 2 ++ lowS 28 2 ++ lowS (nt.size : Int) 2 ++ lowS 0 2 ++ lowS 0 2 ++ lowS 0 4 ++ lowS 4294967295 4).size ≤ 46 := cat_le ths15 (Nat.le_of_eq (lowS_size _ _))
  have hs16 : ¬ 9223372036854775807 < (lowS 33639248 4 ++ lowS ve 2 ++ lowS ve 2 ++ lowS (n : Int) 2 ++ lowS me 2 ++ lowS ck 2 ++ lowS da 2 ++ lowS su 4 ++ lowS 4294967295 4 ++ lowS 4294967295 4 ++ lowS (nm.size : Int) 2 ++ lowS 28 2 ++ lowS (nt.size : Int) 2 ++ lowS 0 2 ++ lowS 0 2 ++ lowS 0 4 ++ lowS 4294967295 4).size + (nm).size := cat_fits ths16 (show (nm).size ≤ 65535 from hnm) (by decide)
  have ths17 : (lowS 33639248 4 ++ lowS ve 2 ++ lowS ve 2 ++ lowS (n : Int) 2 ++ lowS me 2 ++ lowS ck 2 ++ lowS da 2 ++ lowS su 4 ++ lowS 4294967295 4 ++ lowS 4294967295 4 ++ lowS (nm.size : Int) 2 ++ lowS 28 2 ++ lowS (nt.size : Int) 2 ++ lowS 0 2 ++ lowS 0 2 ++ lowS 0 4 ++ lowS 4294967295 4 ++ nm).size ≤ 65581 := cat_le ths16 hnm
  have hs17 : ¬ 9223372036854775807 < (lowS 33639248 4 ++ lowS ve 2 ++ lowS ve 2 ++ lowS (n : Int) 2 ++ lowS me 2 ++ lowS ck 2 ++ lowS da 2 ++ lowS su 4 ++ lowS 4294967295 4 ++ lowS 4294967295 4 ++ lowS (nm.size : Int) 2 ++ lowS 28 2 ++ lowS (nt.size : Int) 2 ++ lowS 0 2 ++ lowS 0 2 ++ lowS 0 4 ++ lowS 4294967295 4 ++ nm).size + (X).size := cat_fits ths17 (show (X).size ≤ 28 from hX20) (by decide)
  have ths18 : (lowS 33639248 4 ++ lowS ve 2 ++ lowS ve 2 ++ lowS (n : Int) 2 ++ lowS me 2 ++ lowS ck 2 ++ lowS da 2 ++ lowS su 4 ++ lowS 4294967295 4 ++ lowS 4294967295 4 ++ lowS (nm.size : Int) 2 ++ lowS 28 2 ++ lowS (nt.size : Int) 2 ++ lowS 0 2 ++ lowS 0 2 ++ lowS 0 4 ++ lowS 4294967295 4 ++ nm ++ X).size ≤ 65609 := cat_le ths17 hX20
  have hs18 : ¬ 9223372036854775807 < (lowS 33639248 4 ++ lowS ve 2 ++ lowS ve 2 ++ lowS (n : Int) 2 ++ lowS me 2 ++ lowS ck 2 ++ lowS da 2 ++ lowS su 4 ++ lowS 4294967295 4 ++ lowS 4294967295 4 ++ lowS (nm.size : Int) 2 ++ lowS 28 2 ++ lowS (nt.size : Int) 2 ++ lowS 0 2 ++ lowS 0 2 ++ lowS 0 4 ++ lowS 4294967295 4 ++ nm ++ X).size + (nt).size := cat_fits ths18 (show (nt).size ≤ 65535 from hnt) (by decide)
  clear ths0 ths1 ths2 ths3 ths4 ths5 ths6 ths7 ths8 ths9 ths10 ths11 ths12 ths13 ths14 ths15 ths16 ths17 ths18
  try simp only [List.append]
  refine wp_region_below w5 (by first | exact Below.refl _ _ | exact below_drewO (Below.refl _ _) _) (by kernel_rfl) (by kernel_rfl) ?_
  repeat (go_big_quiet_step ((rename_i u; first | exact calls_since u (HV.out u.1) | exact calls_since u (q16_any _ u.1) | exact calls_since u (q32_any _ u.1) | exact calls_since u (q64_any _ u.1))))
  refine wpQuiet_nil ?_
  intro _ hw'
  obtain ⟨u, rfl⟩ := hw'
  clear hu0 hu1 hu2 hu3 hu4 hu5 hu6 hu7 hu8 hu9 hu10 hne hs0 hs1 hs2 hs3 hs4 hs5 hs6 hs7 hs8 hs9 hs10 hs11 hs12 hs13 hs14 hs15 hs16 hs17 hs18
  go_wp2
  go_ret
  refine ⟨?_, B0.out.trans (u.2.mono B0.out.size)⟩
  rw [HE.out]
  first | done | rfl

set_option maxRecDepth 20000 in
set_option maxHeartbeats 16000000 in
theorem qtail_f (r : Rec) (hr : RightR r) (hf : flag8 r.flags = false) (W : World) : Calls Try.prog 17 #[recV r] W fun e w' => e = .returned (.string (tailS r)) ∧ Below W.heap.size W w' := by
  have HE := hide (show tailS r = ⟨#[]⟩ by
    simp only [tailS, hf]
    first | done | rfl)
  have HV := hide (fun w => qneeds_any r w)
  obtain ⟨n, hn⟩ : ∃ n : Nat, r.flags = (n : Int) := Int.eq_ofNat_of_zero_le hr.flags.1
  have hbb := flag_and n (by have := hr.flags.2; omega)
  rw [← hn, hf] at hbb
  have hba : bits .and .i64 (n : Int) 8 = 0 := by rw [← hn]; exact hbb
  clear hbb
  have hnm := hr.name
  have hnt := hr.note
  have B0 := hide ((Below.refl W.heap.size W).alloc (Nat.le_refl _) (.cells (recCs r) 23))
  have HQ := hide (rec_new W (recCs r) 23)
  clear hf hr
  obtain ⟨nm, nt, fl, me, da, ck, su, sz, pk, at_, wd⟩ := r
  unfold recV at *
  unfold recCs at *
  dsimp only at HE HQ B0 HV hn hnm hnt ⊢
  subst hn
  generalize verR ⟨nm, nt, (n : Int), me, da, ck, su, sz, pk, at_, wd⟩ = ve at *
  generalize tailS ⟨nm, nt, (n : Int), me, da, ck, su, sz, pk, at_, wd⟩ = lo at *
  go_enter Try.func17, Try.ntmps17
  go_wp2
  go_ret
  refine ⟨?_, B0.out⟩
  rw [HE.out]
  first | done | rfl

set_option maxRecDepth 20000 in
set_option maxHeartbeats 16000000 in
theorem qtail_tf (r : Rec) (hr : RightR r) (hf : flag8 r.flags = true) (hw : r.wide = false) (W : World) : Calls Try.prog 17 #[recV r] W fun e w' => e = .returned (.string (tailS r)) ∧ Below W.heap.size W w' := by
  have HE := hide (show tailS r = lowS 134695760 4 ++ lowS r.sum 4 ++ lowS r.packed 4 ++ lowS r.size 4 by
    simp only [tailS, hf, hw]
    first | done | rfl)
  have HV := hide (fun w => qneeds_any r w)
  obtain ⟨n, hn⟩ : ∃ n : Nat, r.flags = (n : Int) := Int.eq_ofNat_of_zero_le hr.flags.1
  have hbb := flag_and n (by have := hr.flags.2; omega)
  rw [← hn, hf] at hbb
  have hba : bits .and .i64 (n : Int) 8 = 8 := by rw [← hn]; exact hbb
  clear hbb
  have hnm := hr.name
  have hnt := hr.note
  have B0 := hide ((Below.refl W.heap.size W).alloc (Nat.le_refl _) (.cells (recCs r) 23))
  have HQ := hide (rec_new W (recCs r) 23)
  clear hf hr
  obtain ⟨nm, nt, fl, me, da, ck, su, sz, pk, at_, wd⟩ := r
  unfold recV at *
  unfold recCs at *
  dsimp only at HE HQ B0 HV hn hnm hnt hw ⊢
  subst hw
  subst hn
  generalize verR ⟨nm, nt, (n : Int), me, da, ck, su, sz, pk, at_, false⟩ = ve at *
  generalize tailS ⟨nm, nt, (n : Int), me, da, ck, su, sz, pk, at_, false⟩ = lo at *
  go_enter Try.func17, Try.ntmps17
  go_wp2_with fail
  obtain ⟨w5, hw5⟩ : ∃ w5, W.alloc (.cells #[.string nm, .string nt, .int .i64 (n : Int), .int .i64 me, .int .i64 da, .int .i64 ck, .int .i64 su, .int .i64 sz, .int .i64 pk, .int .i64 at_, .bool false] 23) = w5 := ⟨_, rfl⟩
  rw [hw5] at HQ B0
  simp only [hw5]
  clear hw5
  clear hba
  have HC := hide (rec_since HQ.out)
  have hu0 := fun u : Since0 w5 => (HC.out u).1
  have hu1 := fun u : Since0 w5 => (HC.out u).2.1
  have hu2 := fun u : Since0 w5 => (HC.out u).2.2.1
  have hu3 := fun u : Since0 w5 => (HC.out u).2.2.2.1
  have hu4 := fun u : Since0 w5 => (HC.out u).2.2.2.2.1
  have hu5 := fun u : Since0 w5 => (HC.out u).2.2.2.2.2.1
  have hu6 := fun u : Since0 w5 => (HC.out u).2.2.2.2.2.2.1
  have hu7 := fun u : Since0 w5 => (HC.out u).2.2.2.2.2.2.2.1
  have hu8 := fun u : Since0 w5 => (HC.out u).2.2.2.2.2.2.2.2.1
  have hu9 := fun u : Since0 w5 => (HC.out u).2.2.2.2.2.2.2.2.2.1
  have hu10 := fun u : Since0 w5 => (HC.out u).2.2.2.2.2.2.2.2.2.2
  have hne : Nonempty (Since0 w5) := ⟨⟨w5, Below.refl _ _⟩⟩
  have ths0 : (lowS 134695760 4).size ≤ 4 := (Nat.le_of_eq (lowS_size _ _))
  have hs0 : ¬ 9223372036854775807 < (lowS 134695760 4).size + (lowS su 4).size := cat_fits ths0 (show (lowS su 4).size ≤ 4 from (Nat.le_of_eq (lowS_size _ _))) (by decide)
  clear ths0
  try simp only [List.append]
  refine wp_region_below w5 (by first | exact Below.refl _ _ | exact below_drewO (Below.refl _ _) _) (by kernel_rfl) (by kernel_rfl) ?_
  repeat (go_big_quiet_step ((rename_i u; first | exact calls_since u (HV.out u.1) | exact calls_since u (q16_any _ u.1) | exact calls_since u (q32_any _ u.1) | exact calls_since u (q64_any _ u.1))))
  refine wpQuiet_nil ?_
  intro _ hw'
  obtain ⟨u, rfl⟩ := hw'
  clear hu0 hu1 hu2 hu3 hu4 hu5 hu6 hu7 hu8 hu9 hu10 hne hs0
  have B5 := hide u.2
  obtain ⟨w6, hw6⟩ : ∃ x, u.1 = x := ⟨_, rfl⟩
  rw [hw6] at B5
  simp only [hw6]
  have HQ := hide (rec_kept HQ.out B5.out)
  have B0 := hide (B0.out.trans (B5.out.mono B0.out.size))
  clear hw6 B5 u HC
  obtain ⟨g0, g1, g2, g3, g4, g5, g6, g7, g8, g9, g10⟩ := rec_cells HQ.out
  go_wp2_with fail
  clear g0 g1 g2 g3 g4 g5 g6 g7 g8 g9 g10
  have HC := hide (rec_since HQ.out)
  have hu0 := fun u : Since0 w6 => (HC.out u).1
  have hu1 := fun u : Since0 w6 => (HC.out u).2.1
  have hu2 := fun u : Since0 w6 => (HC.out u).2.2.1
  have hu3 := fun u : Since0 w6 => (HC.out u).2.2.2.1
  have hu4 := fun u : Since0 w6 => (HC.out u).2.2.2.2.1
  have hu5 := fun u : Since0 w6 => (HC.out u).2.2.2.2.2.1
  have hu6 := fun u : Since0 w6 => (HC.out u).2.2.2.2.2.2.1
  have hu7 := fun u : Since0 w6 => (HC.out u).2.2.2.2.2.2.2.1
  have hu8 := fun u : Since0 w6 => (HC.out u).2.2.2.2.2.2.2.2.1
  have hu9 := fun u : Since0 w6 => (HC.out u).2.2.2.2.2.2.2.2.2.1
  have hu10 := fun u : Since0 w6 => (HC.out u).2.2.2.2.2.2.2.2.2.2
  have hne : Nonempty (Since0 w6) := ⟨⟨w6, Below.refl _ _⟩⟩
  have ths0 : (lowS 134695760 4).size ≤ 4 := (Nat.le_of_eq (lowS_size _ _))
  have hs0 : ¬ 9223372036854775807 < (lowS 134695760 4).size + (lowS su 4).size := cat_fits ths0 (show (lowS su 4).size ≤ 4 from (Nat.le_of_eq (lowS_size _ _))) (by decide)
  have ths1 : (lowS 134695760 4 ++ lowS su 4).size ≤ 8 := cat_le ths0 (Nat.le_of_eq (lowS_size _ _))
  have hs1 : ¬ 9223372036854775807 < (lowS 134695760 4 ++ lowS su 4).size + (lowS pk 4).size := cat_fits ths1 (show (lowS pk 4).size ≤ 4 from (Nat.le_of_eq (lowS_size _ _))) (by decide)
  have ths2 : (lowS 134695760 4 ++ lowS su 4 ++ lowS pk 4).size ≤ 12 := cat_le ths1 (Nat.le_of_eq (lowS_size _ _))
  have hs2 : ¬ 9223372036854775807 < (lowS 134695760 4 ++ lowS su 4 ++ lowS pk 4).size + (lowS sz 4).size := cat_fits ths2 (show (lowS sz 4).size ≤ 4 from (Nat.le_of_eq (lowS_size _ _))) (by decide)
  clear ths0 ths1 ths2
  try simp only [List.append]
  refine wp_region_below w6 (by first | exact Below.refl _ _ | exact below_drewO (Below.refl _ _) _) (by kernel_rfl) (by kernel_rfl) ?_
  repeat (go_big_quiet_step ((rename_i u; first | exact calls_since u (HV.out u.1) | exact calls_since u (q16_any _ u.1) | exact calls_since u (q32_any _ u.1) | exact calls_since u (q64_any _ u.1))))
  refine wpQuiet_nil ?_
  intro _ hw'
  obtain ⟨u, rfl⟩ := hw'
  clear hu0 hu1 hu2 hu3 hu4 hu5 hu6 hu7 hu8 hu9 hu10 hne hs0 hs1 hs2
  go_wp2
  go_ret
  refine ⟨?_, B0.out.trans (u.2.mono B0.out.size)⟩
  rw [HE.out]
  first | done | rfl

set_option maxRecDepth 20000 in
set_option maxHeartbeats 16000000 in
theorem qtail_tt (r : Rec) (hr : RightR r) (hf : flag8 r.flags = true) (hw : r.wide = true) (W : World) : Calls Try.prog 17 #[recV r] W fun e w' => e = .returned (.string (tailS r)) ∧ Below W.heap.size W w' := by
  have HE := hide (show tailS r = lowS 134695760 4 ++ lowS r.sum 4 ++ lowS r.packed 8 ++ lowS r.size 8 by
    simp only [tailS, hf, hw]
    first | done | rfl)
  have HV := hide (fun w => qneeds_any r w)
  obtain ⟨n, hn⟩ : ∃ n : Nat, r.flags = (n : Int) := Int.eq_ofNat_of_zero_le hr.flags.1
  have hbb := flag_and n (by have := hr.flags.2; omega)
  rw [← hn, hf] at hbb
  have hba : bits .and .i64 (n : Int) 8 = 8 := by rw [← hn]; exact hbb
  clear hbb
  have hnm := hr.name
  have hnt := hr.note
  have B0 := hide ((Below.refl W.heap.size W).alloc (Nat.le_refl _) (.cells (recCs r) 23))
  have HQ := hide (rec_new W (recCs r) 23)
  clear hf hr
  obtain ⟨nm, nt, fl, me, da, ck, su, sz, pk, at_, wd⟩ := r
  unfold recV at *
  unfold recCs at *
  dsimp only at HE HQ B0 HV hn hnm hnt hw ⊢
  subst hw
  subst hn
  generalize verR ⟨nm, nt, (n : Int), me, da, ck, su, sz, pk, at_, true⟩ = ve at *
  generalize tailS ⟨nm, nt, (n : Int), me, da, ck, su, sz, pk, at_, true⟩ = lo at *
  go_enter Try.func17, Try.ntmps17
  go_wp2_with fail
  obtain ⟨w5, hw5⟩ : ∃ w5, W.alloc (.cells #[.string nm, .string nt, .int .i64 (n : Int), .int .i64 me, .int .i64 da, .int .i64 ck, .int .i64 su, .int .i64 sz, .int .i64 pk, .int .i64 at_, .bool true] 23) = w5 := ⟨_, rfl⟩
  rw [hw5] at HQ B0
  simp only [hw5]
  clear hw5
  clear hba
  have HC := hide (rec_since HQ.out)
  have hu0 := fun u : Since0 w5 => (HC.out u).1
  have hu1 := fun u : Since0 w5 => (HC.out u).2.1
  have hu2 := fun u : Since0 w5 => (HC.out u).2.2.1
  have hu3 := fun u : Since0 w5 => (HC.out u).2.2.2.1
  have hu4 := fun u : Since0 w5 => (HC.out u).2.2.2.2.1
  have hu5 := fun u : Since0 w5 => (HC.out u).2.2.2.2.2.1
  have hu6 := fun u : Since0 w5 => (HC.out u).2.2.2.2.2.2.1
  have hu7 := fun u : Since0 w5 => (HC.out u).2.2.2.2.2.2.2.1
  have hu8 := fun u : Since0 w5 => (HC.out u).2.2.2.2.2.2.2.2.1
  have hu9 := fun u : Since0 w5 => (HC.out u).2.2.2.2.2.2.2.2.2.1
  have hu10 := fun u : Since0 w5 => (HC.out u).2.2.2.2.2.2.2.2.2.2
  have hne : Nonempty (Since0 w5) := ⟨⟨w5, Below.refl _ _⟩⟩
  have ths0 : (lowS 134695760 4).size ≤ 4 := (Nat.le_of_eq (lowS_size _ _))
  have hs0 : ¬ 9223372036854775807 < (lowS 134695760 4).size + (lowS su 4).size := cat_fits ths0 (show (lowS su 4).size ≤ 4 from (Nat.le_of_eq (lowS_size _ _))) (by decide)
  clear ths0
  try simp only [List.append]
  refine wp_region_below w5 (by first | exact Below.refl _ _ | exact below_drewO (Below.refl _ _) _) (by kernel_rfl) (by kernel_rfl) ?_
  repeat (go_big_quiet_step ((rename_i u; first | exact calls_since u (HV.out u.1) | exact calls_since u (q16_any _ u.1) | exact calls_since u (q32_any _ u.1) | exact calls_since u (q64_any _ u.1))))
  refine wpQuiet_nil ?_
  intro _ hw'
  obtain ⟨u, rfl⟩ := hw'
  clear hu0 hu1 hu2 hu3 hu4 hu5 hu6 hu7 hu8 hu9 hu10 hne hs0
  have B5 := hide u.2
  obtain ⟨w6, hw6⟩ : ∃ x, u.1 = x := ⟨_, rfl⟩
  rw [hw6] at B5
  simp only [hw6]
  have HQ := hide (rec_kept HQ.out B5.out)
  have B0 := hide (B0.out.trans (B5.out.mono B0.out.size))
  clear hw6 B5 u HC
  obtain ⟨g0, g1, g2, g3, g4, g5, g6, g7, g8, g9, g10⟩ := rec_cells HQ.out
  go_wp2_with fail
  clear g0 g1 g2 g3 g4 g5 g6 g7 g8 g9 g10
  have HC := hide (rec_since HQ.out)
  have hu0 := fun u : Since0 w6 => (HC.out u).1
  have hu1 := fun u : Since0 w6 => (HC.out u).2.1
  have hu2 := fun u : Since0 w6 => (HC.out u).2.2.1
  have hu3 := fun u : Since0 w6 => (HC.out u).2.2.2.1
  have hu4 := fun u : Since0 w6 => (HC.out u).2.2.2.2.1
  have hu5 := fun u : Since0 w6 => (HC.out u).2.2.2.2.2.1
  have hu6 := fun u : Since0 w6 => (HC.out u).2.2.2.2.2.2.1
  have hu7 := fun u : Since0 w6 => (HC.out u).2.2.2.2.2.2.2.1
  have hu8 := fun u : Since0 w6 => (HC.out u).2.2.2.2.2.2.2.2.1
  have hu9 := fun u : Since0 w6 => (HC.out u).2.2.2.2.2.2.2.2.2.1
  have hu10 := fun u : Since0 w6 => (HC.out u).2.2.2.2.2.2.2.2.2.2
  have hne : Nonempty (Since0 w6) := ⟨⟨w6, Below.refl _ _⟩⟩
  have ths0 : (lowS 134695760 4).size ≤ 4 := (Nat.le_of_eq (lowS_size _ _))
  have hs0 : ¬ 9223372036854775807 < (lowS 134695760 4).size + (lowS su 4).size := cat_fits ths0 (show (lowS su 4).size ≤ 4 from (Nat.le_of_eq (lowS_size _ _))) (by decide)
  have ths1 : (lowS 134695760 4 ++ lowS su 4).size ≤ 8 := cat_le ths0 (Nat.le_of_eq (lowS_size _ _))
  have hs1 : ¬ 9223372036854775807 < (lowS 134695760 4 ++ lowS su 4).size + (lowS pk 8).size := cat_fits ths1 (show (lowS pk 8).size ≤ 8 from (Nat.le_of_eq (lowS_size _ _))) (by decide)
  have ths2 : (lowS 134695760 4 ++ lowS su 4 ++ lowS pk 8).size ≤ 16 := cat_le ths1 (Nat.le_of_eq (lowS_size _ _))
  have hs2 : ¬ 9223372036854775807 < (lowS 134695760 4 ++ lowS su 4 ++ lowS pk 8).size + (lowS sz 8).size := cat_fits ths2 (show (lowS sz 8).size ≤ 8 from (Nat.le_of_eq (lowS_size _ _))) (by decide)
  clear ths0 ths1 ths2
  try simp only [List.append]
  refine wp_region_below w6 (by first | exact Below.refl _ _ | exact below_drewO (Below.refl _ _) _) (by kernel_rfl) (by kernel_rfl) ?_
  repeat (go_big_quiet_step ((rename_i u; first | exact calls_since u (HV.out u.1) | exact calls_since u (q16_any _ u.1) | exact calls_since u (q32_any _ u.1) | exact calls_since u (q64_any _ u.1))))
  refine wpQuiet_nil ?_
  intro _ hw'
  obtain ⟨u, rfl⟩ := hw'
  clear hu0 hu1 hu2 hu3 hu4 hu5 hu6 hu7 hu8 hu9 hu10 hne hs0 hs1 hs2
  go_wp2
  go_ret
  refine ⟨?_, B0.out.trans (u.2.mono B0.out.size)⟩
  rw [HE.out]
  first | done | rfl

end Go.Proofs.Ytbjjcjcobiokcaa
