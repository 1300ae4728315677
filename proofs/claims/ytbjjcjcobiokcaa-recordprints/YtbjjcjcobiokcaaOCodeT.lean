/- The code's contract of layer 14: Tail (printed by tools/mkcode14.py). -/
import Derived.Test.YtbjjcjcobiokcaaOCodeS
import Derived.Test.YtbjjcjcobiokcaaOCodeR
import Derived.Test.YtbjjcjcobiokcaaOReadM
namespace Go.Proofs.Ytbjjcjcobiokcaa
open Go.RowKit Go.Lib
def loc3 (r : Rec) : Rec := ⟨r.name, r.note, r.flags, r.method, r.date, r.clock, sumL r, sizeL r, packL r, r.at_, r.wide⟩
theorem locS_parts (r : Rec) : locS r = lowS 67324752 4 ++ sharedS (loc3 r) (extraS r.wide ((2 : Nat) : Int) [sizeL r, packL r]).size ++ r.name ++ extraS r.wide ((2 : Nat) : Int) [sizeL r, packL r] := by
  have hx : extraL r = extraS r.wide ((2 : Nat) : Int) [sizeL r, packL r] := rfl
  unfold locS
  rw [hx]
  generalize extraS r.wide ((2 : Nat) : Int) [sizeL r, packL r] = X
  refine ba_ext ?_
  unfold sharedS
  simp only [ba_append_list, List.append_assoc]
  rfl
theorem cenS_parts (r : Rec) : cenS r = lowS 33639248 4 ++ lowS (verR r) 2 ++ sharedS r (extraS r.wide ((3 : Nat) : Int) [r.size, r.packed, r.at_]).size ++ lowS r.note.size 2 ++ (lowS 0 2 ++ lowS 0 2 ++ lowS 0 4 ++ lowS (ownF r r.at_) 4) ++ r.name ++ extraS r.wide ((3 : Nat) : Int) [r.size, r.packed, r.at_] ++ r.note := by
  have hx : extraC r = extraS r.wide ((3 : Nat) : Int) [r.size, r.packed, r.at_] := rfl
  unfold cenS
  rw [hx]
  generalize extraS r.wide ((3 : Nat) : Int) [r.size, r.packed, r.at_] = X
  refine ba_ext ?_
  unfold sharedS
  simp only [ba_append_list, List.append_assoc]
theorem extraS_size (b : Bool) (n : Int) (xs : List Int) : (extraS b n xs).size ≤ 4 + 8 * xs.length := by
  unfold extraS
  split
  · exact Nat.le_of_eq (accS_size _ _)
  · exact Nat.zero_le _

set_option maxRecDepth 20000 in
set_option maxHeartbeats 16000000 in
theorem tail14 (r : Rec) (hr : RightR r) (W : World) : Calls Try.prog 16 #[recV r] W fun e w' => e = .returned (.string (tailS r)) ∧ Below W.heap.size W w' := by
  have HT := hide (fun w => hastail14 r hr.flags w)
  have HE := hide (show tailS r = if flag8 r.flags = true then (if r.wide = true then lowS 134695760 4 ++ lowS r.sum 4 ++ lowS r.packed 8 ++ lowS r.size 8 else lowS 134695760 4 ++ lowS r.sum 4 ++ lowS r.packed 4 ++ lowS r.size 4) else ⟨#[]⟩ from rfl)
  have B0 := hide ((Below.refl W.heap.size W).alloc (Nat.le_refl _) (.cells (recCs r) 23))
  have HQ := hide (rec_new W (recCs r) 23)
  clear hr
  obtain ⟨nm, nt, fl, me, da, ck, su, sz, pk, at_, wd⟩ := r
  unfold recV at *
  unfold recCs at *
  dsimp only at HE HQ B0 HT ⊢
  generalize tailS ⟨nm, nt, fl, me, da, ck, su, sz, pk, at_, wd⟩ = lo at *
  cases hf : flag8 fl with
  | false =>
    simp only [hf] at HT HE
    have he : lo = ⟨#[]⟩ := HE.out
    subst he
    clear hf HE
    go_enter Try.func16, Try.ntmps16
    go_wp2_with fail
    refine (HT.out _).mono ?_
    rintro e w1 ⟨rfl, b⟩
    have B0 := hide (B0.out.trans (b.mono B0.out.size))
    clear b HT HQ
    go_wp2
    go_ret
    exact ⟨rfl, B0.out⟩
  | true =>
    simp only [hf] at HT HE
    clear hf
    go_enter Try.func16, Try.ntmps16
    go_wp2_with fail
    refine (HT.out _).mono ?_
    rintro e w1 ⟨rfl, b⟩
    have Bn := hide (B0.out.trans (b.mono B0.out.size))
    have Qn := hide (rec_kept HQ.out b)
    clear b HT B0 HQ
    have B0 := Bn
    have HQ := Qn
    clear Bn Qn
    go_wp2_with fail
    have tha0 : (lowS 134695760 4).size ≤ 4 := (Nat.le_of_eq (lowS_size _ _))
    have ha0 : ¬ 9223372036854775807 < (lowS 134695760 4).size + (lowS su 4).size := cat_fitsO tha0 (show (lowS su 4).size ≤ 4 from (Nat.le_of_eq (lowS_size _ _))) (by decide)
    have tha1 : (lowS 134695760 4 ++ lowS su 4).size ≤ 8 := cat_leO tha0 (Nat.le_of_eq (lowS_size _ _))
    have H8 := hide tha1
    clear tha0 tha1
    have HCC := hide (rec_since HQ.out)
    have hu0 := fun u : Since0 w1 => (HCC.out u).1
    have hu1 := fun u : Since0 w1 => (HCC.out u).2.1
    have hu2 := fun u : Since0 w1 => (HCC.out u).2.2.1
    have hu3 := fun u : Since0 w1 => (HCC.out u).2.2.2.1
    have hu4 := fun u : Since0 w1 => (HCC.out u).2.2.2.2.1
    have hu5 := fun u : Since0 w1 => (HCC.out u).2.2.2.2.2.1
    have hu6 := fun u : Since0 w1 => (HCC.out u).2.2.2.2.2.2.1
    have hu7 := fun u : Since0 w1 => (HCC.out u).2.2.2.2.2.2.2.1
    have hu8 := fun u : Since0 w1 => (HCC.out u).2.2.2.2.2.2.2.2.1
    have hu9 := fun u : Since0 w1 => (HCC.out u).2.2.2.2.2.2.2.2.2.1
    have hu10 := fun u : Since0 w1 => (HCC.out u).2.2.2.2.2.2.2.2.2.2
    have hne : Nonempty (Since0 w1) := ⟨⟨w1, Below.refl _ _⟩⟩
    try simp only [List.append]
    refine wp_region_below w1 (by first | exact Below.refl _ _ | exact below_drewO (Below.refl _ _) _) (by kernel_rfl) (by kernel_rfl) ?_
    repeat (go_big_quiet_step ((rename_i u; first | exact calls_since u (u32_any _ u.1))))
    refine wpQuiet_nil ?_
    intro _ hw'
    obtain ⟨u, rfl⟩ := hw'
    have Bn := hide (B0.out.trans (u.2.mono B0.out.size))
    have Qn := hide (rec_kept HQ.out u.2)
    clear B0 HQ HCC
    have B0 := Bn
    have HQ := Qn
    clear Bn Qn
    obtain ⟨y1, hx⟩ : ∃ y, u.1 = y := ⟨_, rfl⟩
    rw [hx] at B0 HQ
    simp only [hx]
    clear hu0 hu1 hu2 hu3 hu4 hu5 hu6 hu7 hu8 hu9 hu10 hne hx u ha0
    cases wd with
    | true =>
      have he : lo = lowS 134695760 4 ++ lowS su 4 ++ lowS pk 8 ++ lowS sz 8 := HE.out
      subst he
      clear HE
      have hb0 : ¬ 9223372036854775807 < (lowS 134695760 4 ++ lowS su 4).size + (lowS pk 8).size := cat_fitsO H8.out (Nat.le_of_eq (lowS_size _ _)) (by decide)
      have hb1 : ¬ 9223372036854775807 < (lowS 134695760 4 ++ lowS su 4 ++ lowS pk 8).size + (lowS sz 8).size := cat_fitsO (cat_leO H8.out (Nat.le_of_eq (lowS_size _ _))) (Nat.le_of_eq (lowS_size _ _)) (by decide)
      obtain ⟨g0, g1, g2, g3, g4, g5, g6, g7, g8, g9, g10⟩ := rec_cells HQ.out
      go_wp2_with fail
      clear g0 g1 g2 g3 g4 g5 g6 g7 g8 g9 g10
      have HCC := hide (rec_since HQ.out)
      have hu0 := fun u : Since0 y1 => (HCC.out u).1
      have hu1 := fun u : Since0 y1 => (HCC.out u).2.1
      have hu2 := fun u : Since0 y1 => (HCC.out u).2.2.1
      have hu3 := fun u : Since0 y1 => (HCC.out u).2.2.2.1
      have hu4 := fun u : Since0 y1 => (HCC.out u).2.2.2.2.1
      have hu5 := fun u : Since0 y1 => (HCC.out u).2.2.2.2.2.1
      have hu6 := fun u : Since0 y1 => (HCC.out u).2.2.2.2.2.2.1
      have hu7 := fun u : Since0 y1 => (HCC.out u).2.2.2.2.2.2.2.1
      have hu8 := fun u : Since0 y1 => (HCC.out u).2.2.2.2.2.2.2.2.1
      have hu9 := fun u : Since0 y1 => (HCC.out u).2.2.2.2.2.2.2.2.2.1
      have hu10 := fun u : Since0 y1 => (HCC.out u).2.2.2.2.2.2.2.2.2.2
      have hne : Nonempty (Since0 y1) := ⟨⟨y1, Below.refl _ _⟩⟩
      try simp only [List.append]
      refine wp_region_below y1 (by first | exact Below.refl _ _ | exact below_drewO (Below.refl _ _) _) (by kernel_rfl) (by kernel_rfl) ?_
      repeat (go_big_quiet_step ((rename_i u; first | exact calls_since u (u64_any _ u.1))))
      refine wpQuiet_nil ?_
      intro _ hw'
      obtain ⟨u, rfl⟩ := hw'
      have Bn := hide (B0.out.trans (u.2.mono B0.out.size))
      have Qn := hide (rec_kept HQ.out u.2)
      clear B0 HQ HCC
      have B0 := Bn
      have HQ := Qn
      clear Bn Qn
      obtain ⟨y2, hx⟩ : ∃ y, u.1 = y := ⟨_, rfl⟩
      rw [hx] at B0 HQ
      simp only [hx]
      clear hu0 hu1 hu2 hu3 hu4 hu5 hu6 hu7 hu8 hu9 hu10 hne hx u hb0 hb1
      go_wp2
      go_ret
      exact ⟨rfl, B0.out⟩
    | false =>
      have he : lo = lowS 134695760 4 ++ lowS su 4 ++ lowS pk 4 ++ lowS sz 4 := HE.out
      subst he
      clear HE
      have hb0 : ¬ 9223372036854775807 < (lowS 134695760 4 ++ lowS su 4).size + (lowS pk 4).size := cat_fitsO H8.out (Nat.le_of_eq (lowS_size _ _)) (by decide)
      have hb1 : ¬ 9223372036854775807 < (lowS 134695760 4 ++ lowS su 4 ++ lowS pk 4).size + (lowS sz 4).size := cat_fitsO (cat_leO H8.out (Nat.le_of_eq (lowS_size _ _))) (Nat.le_of_eq (lowS_size _ _)) (by decide)
      obtain ⟨g0, g1, g2, g3, g4, g5, g6, g7, g8, g9, g10⟩ := rec_cells HQ.out
      go_wp2_with fail
      clear g0 g1 g2 g3 g4 g5 g6 g7 g8 g9 g10
      have HCC := hide (rec_since HQ.out)
      have hu0 := fun u : Since0 y1 => (HCC.out u).1
      have hu1 := fun u : Since0 y1 => (HCC.out u).2.1
      have hu2 := fun u : Since0 y1 => (HCC.out u).2.2.1
      have hu3 := fun u : Since0 y1 => (HCC.out u).2.2.2.1
      have hu4 := fun u : Since0 y1 => (HCC.out u).2.2.2.2.1
      have hu5 := fun u : Since0 y1 => (HCC.out u).2.2.2.2.2.1
      have hu6 := fun u : Since0 y1 => (HCC.out u).2.2.2.2.2.2.1
      have hu7 := fun u : Since0 y1 => (HCC.out u).2.2.2.2.2.2.2.1
      have hu8 := fun u : Since0 y1 => (HCC.out u).2.2.2.2.2.2.2.2.1
      have hu9 := fun u : Since0 y1 => (HCC.out u).2.2.2.2.2.2.2.2.2.1
      have hu10 := fun u : Since0 y1 => (HCC.out u).2.2.2.2.2.2.2.2.2.2
      have hne : Nonempty (Since0 y1) := ⟨⟨y1, Below.refl _ _⟩⟩
      try simp only [List.append]
      refine wp_region_below y1 (by first | exact Below.refl _ _ | exact below_drewO (Below.refl _ _) _) (by kernel_rfl) (by kernel_rfl) ?_
      repeat (go_big_quiet_step ((rename_i u; first | exact calls_since u (u32_any _ u.1))))
      refine wpQuiet_nil ?_
      intro _ hw'
      obtain ⟨u, rfl⟩ := hw'
      have Bn := hide (B0.out.trans (u.2.mono B0.out.size))
      have Qn := hide (rec_kept HQ.out u.2)
      clear B0 HQ HCC
      have B0 := Bn
      have HQ := Qn
      clear Bn Qn
      obtain ⟨y2, hx⟩ : ∃ y, u.1 = y := ⟨_, rfl⟩
      rw [hx] at B0 HQ
      simp only [hx]
      clear hu0 hu1 hu2 hu3 hu4 hu5 hu6 hu7 hu8 hu9 hu10 hne hx u hb0 hb1
      go_wp2
      go_ret
      exact ⟨rfl, B0.out⟩


end Go.Proofs.Ytbjjcjcobiokcaa
