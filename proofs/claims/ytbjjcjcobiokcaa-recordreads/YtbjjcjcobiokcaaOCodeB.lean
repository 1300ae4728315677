/- The code's contract of layer 14: Local (printed by tools/mkcode14.py). -/
import Derived.Test.YtbjjcjcobiokcaaOCodeT
namespace Go.Proofs.Ytbjjcjcobiokcaa
open Go.RowKit Go.Lib
set_option maxRecDepth 20000 in
set_option maxHeartbeats 16000000 in
theorem local14 (r : Rec) (hr : RightR r) (W : World) : Calls Try.prog 12 #[recV r] W fun e w' => e = .returned (.string (locS r)) ∧ Below W.heap.size W w' := by
  have HT := hide (fun w => hastail14 r hr.flags w)
  have HE := hide (locS_parts r)
  have HS := hide (fun x w => shared14 (loc3 r) x w)
  have HX := hide (fun g w hg => extra14 (loc3 r) [sizeL r, packL r] g 2 w rfl (by decide) hg)
  have HZ := hide (extraS_size r.wide ((2 : Nat) : Int) [sizeL r, packL r])
  have HZ2 := hide (sharedS_size (loc3 r) (extraS r.wide ((2 : Nat) : Int) [sizeL r, packL r]).size)
  have hnm := hr.name
  have B0 := hide ((Below.refl W.heap.size W).alloc (Nat.le_refl _) (.cells (recCs r) 23))
  have HQ := hide (rec_new W (recCs r) 23)
  clear hr
  obtain ⟨nm, nt, fl, me, da, ck, su, sz, pk, at_, wd⟩ := r
  unfold recV at *
  unfold recCs at *
  unfold loc3 sumL sizeL packL at *
  dsimp only at HE HQ B0 HT HS HX HZ HZ2 hnm ⊢
  generalize locS ⟨nm, nt, fl, me, da, ck, su, sz, pk, at_, wd⟩ = lo at *
  cases hf : flag8 fl with
  | true =>
    rw [hf] at HT
    rw [hf] at HE HS HX HZ HZ2
    simp only [if_true] at HE HS HX HZ HZ2
    clear hf
    generalize extraS wd ((2 : Nat) : Int) [0, 0] = X at *
    go_enter Try.func12, Try.ntmps12
    go_wp2_with fail
    refine (HT.out _).mono ?_
    rintro e w1 ⟨rfl, b⟩
    have Bn := hide (B0.out.trans (b.mono B0.out.size))
    have Qn := hide (rec_kept HQ.out b)
    clear B0 HQ
    have B0 := Bn
    have HQ := Qn
    clear Bn Qn b HT
    obtain ⟨g0, g1, g2, g3, g4, g5, g6, g7, g8, g9, g10⟩ := rec_cells HQ.out
    have z6 := rec_frozen HQ.out 6
    have z7 := rec_frozen HQ.out 7
    have z8 := rec_frozen HQ.out 8
    have HN := hide (show (((w1.setCell ⟨W.heap.size, 6, none⟩ (.int .i64 0)).setCell ⟨W.heap.size, 8, none⟩ (.int .i64 0)).setCell ⟨W.heap.size, 7, none⟩ (.int .i64 0)).heap[W.heap.size]? = some (.cells #[.string nm, .string nt, .int .i64 fl, .int .i64 me, .int .i64 da, .int .i64 ck, .int .i64 0, .int .i64 0, .int .i64 0, .int .i64 at_, .bool wd] 23 (0, 0)) from heap_setCell_same _ _ _ _ _ _ _ (heap_setCell_same _ _ _ _ _ _ _ (heap_setCell_same _ _ _ _ _ _ _ HQ.out)))
    have BN := hide (show Below W.heap.size W (((w1.setCell ⟨W.heap.size, 6, none⟩ (.int .i64 0)).setCell ⟨W.heap.size, 8, none⟩ (.int .i64 0)).setCell ⟨W.heap.size, 7, none⟩ (.int .i64 0)) from ((B0.out.setCell (Nat.le_refl _) _).setCell (Nat.le_refl _) _).setCell (Nat.le_refl _) _)
    obtain ⟨l0, l1, l2, l3, l4, l5, l6, l7, l8, l9, l10⟩ := rec_cells HN.out
    go_wp2_with fail
    clear g0 g1 g2 g3 g4 g5 g6 g7 g8 g9 g10 z6 z7 z8 l0 l1 l2 l3 l4 l5 l6 l7 l8 l9 l10 B0 HQ
    obtain ⟨w2, hw2⟩ : ∃ x, (((w1.setCell ⟨W.heap.size, 6, none⟩ (.int .i64 0)).setCell ⟨W.heap.size, 8, none⟩ (.int .i64 0)).setCell ⟨W.heap.size, 7, none⟩ (.int .i64 0)) = x := ⟨_, rfl⟩
    have hs2 : w2.heap.size = w1.heap.size := by rw [← hw2]; simp [World.setCell]
    rw [hw2] at HN BN
    simp only [hw2]
    clear hw2
    have HQ := HN
    have B0 := BN
    clear HN BN
    have b := (Below.refl w2.heap.size w2).alloc (Nat.le_refl _) (.cells #[.int .i64 0, .int .i64 0] 3)
    have Bn := hide (B0.out.trans (b.mono B0.out.size))
    have Qn := hide (rec_kept HQ.out b)
    clear B0 HQ
    have B0 := Bn
    have HQ := Qn
    clear Bn Qn b
    have hnw : (w2.alloc (.cells #[.int .i64 0, .int .i64 0] 3)).heap[w1.heap.size]? = some (.cells #[.int .i64 0, .int .i64 0] 3 (0, 0)) := by
      rw [← hs2]
      exact rec_new _ _ _
    refine (HX.out _ _ hnw).mono ?_
    rintro e w3 ⟨rfl, b⟩
    have Bn := hide (B0.out.trans (b.mono B0.out.size))
    have Qn := hide (rec_kept HQ.out b)
    clear B0 HQ
    have B0 := Bn
    have HQ := Qn
    clear Bn Qn b HX
    have HS := hide (HS.out X)
    generalize sharedS (⟨nm, nt, fl, me, da, ck, 0, 0, 0, at_, wd⟩ : Rec) X.size = sh at *
    have tha0 : (lowS 67324752 4).size ≤ 4 := (Nat.le_of_eq (lowS_size _ _))
    have ha0 : ¬ 9223372036854775807 < (lowS 67324752 4).size + (sh).size := cat_fitsO tha0 (show (sh).size ≤ 26 from (Nat.le_of_eq HZ2.out)) (by decide)
    have tha1 : (lowS 67324752 4 ++ sh).size ≤ 30 := cat_leO tha0 (Nat.le_of_eq HZ2.out)
    have ha1 : ¬ 9223372036854775807 < (lowS 67324752 4 ++ sh).size + (nm).size := cat_fitsO tha1 (show (nm).size ≤ 65535 from hnm) (by decide)
    have tha2 : (lowS 67324752 4 ++ sh ++ nm).size ≤ 65565 := cat_leO tha1 hnm
    have ha2 : ¬ 9223372036854775807 < (lowS 67324752 4 ++ sh ++ nm).size + (X).size := cat_fitsO tha2 (show (X).size ≤ 20 from HZ.out) (by decide)
    have tha3 : (lowS 67324752 4 ++ sh ++ nm ++ X).size ≤ 65585 := cat_leO tha2 HZ.out
    clear tha0 tha1 tha2 tha3 hnm
    go_wp2_with fail
    have HCC := hide (rec_since HQ.out)
    have hu0 := fun u : Since0 w3 => (HCC.out u).1
    have hu1 := fun u : Since0 w3 => (HCC.out u).2.1
    have hu2 := fun u : Since0 w3 => (HCC.out u).2.2.1
    have hu3 := fun u : Since0 w3 => (HCC.out u).2.2.2.1
    have hu4 := fun u : Since0 w3 => (HCC.out u).2.2.2.2.1
    have hu5 := fun u : Since0 w3 => (HCC.out u).2.2.2.2.2.1
    have hu6 := fun u : Since0 w3 => (HCC.out u).2.2.2.2.2.2.1
    have hu7 := fun u : Since0 w3 => (HCC.out u).2.2.2.2.2.2.2.1
    have hu8 := fun u : Since0 w3 => (HCC.out u).2.2.2.2.2.2.2.2.1
    have hu9 := fun u : Since0 w3 => (HCC.out u).2.2.2.2.2.2.2.2.2.1
    have hu10 := fun u : Since0 w3 => (HCC.out u).2.2.2.2.2.2.2.2.2.2
    have hne : Nonempty (Since0 w3) := ⟨⟨w3, Below.refl _ _⟩⟩
    try simp only [List.append]
    refine wp_region_below w3 (by first | exact Below.refl _ _ | exact below_drewO (Below.refl _ _) _) (by kernel_rfl) (by kernel_rfl) ?_
    repeat (go_big_quiet_step ((rename_i u; first | exact calls_since u (HS.out u.1) | exact calls_since u (u32_any _ u.1))))
    refine wpQuiet_nil ?_
    intro _ hw'
    obtain ⟨u, rfl⟩ := hw'
    have Bn := hide (B0.out.trans (u.2.mono B0.out.size))
    have Qn := hide (rec_kept HQ.out u.2)
    clear B0 HQ HCC
    have B0 := Bn
    have HQ := Qn
    clear Bn Qn
    obtain ⟨y1, hx⟩ : ∃ y, u.1 = y := ⟨_, rfl⟩
    rw [hx] at B0 HQ
    simp only [hx]
    clear hu0 hu1 hu2 hu3 hu4 hu5 hu6 hu7 hu8 hu9 hu10 hne hx u ha0 ha1 ha2
    go_wp2
    go_ret
    rw [HE.out]
    exact ⟨rfl, B0.out⟩
  | false =>
    rw [hf] at HT
    rw [hf] at HE HS HX HZ HZ2
    simp only [Bool.false_eq_true, if_false] at HE HS HX HZ HZ2
    clear hf
    generalize extraS wd ((2 : Nat) : Int) [sz, pk] = X at *
    go_enter Try.func12, Try.ntmps12
    go_wp2_with fail
    refine (HT.out _).mono ?_
    rintro e w1 ⟨rfl, b⟩
    have Bn := hide (B0.out.trans (b.mono B0.out.size))
    have Qn := hide (rec_kept HQ.out b)
    clear B0 HQ
    have B0 := Bn
    have HQ := Qn
    clear Bn Qn b HT
    obtain ⟨g0, g1, g2, g3, g4, g5, g6, g7, g8, g9, g10⟩ := rec_cells HQ.out
    go_wp2_with fail
    clear g0 g1 g2 g3 g4 g5 g6 g7 g8 g9 g10
    have b := (Below.refl w1.heap.size w1).alloc (Nat.le_refl _) (.cells #[.int .i64 sz, .int .i64 pk] 3)
    have Bn := hide (B0.out.trans (b.mono B0.out.size))
    have Qn := hide (rec_kept HQ.out b)
    clear B0 HQ
    have B0 := Bn
    have HQ := Qn
    clear Bn Qn b
    have hnw : (w1.alloc (.cells #[.int .i64 sz, .int .i64 pk] 3)).heap[w1.heap.size]? = some (.cells #[.int .i64 sz, .int .i64 pk] 3 (0, 0)) := by
      exact rec_new _ _ _
    refine (HX.out _ _ hnw).mono ?_
    rintro e w3 ⟨rfl, b⟩
    have Bn := hide (B0.out.trans (b.mono B0.out.size))
    have Qn := hide (rec_kept HQ.out b)
    clear B0 HQ
    have B0 := Bn
    have HQ := Qn
    clear Bn Qn b HX
    have HS := hide (HS.out X)
    generalize sharedS (⟨nm, nt, fl, me, da, ck, su, sz, pk, at_, wd⟩ : Rec) X.size = sh at *
    have tha0 : (lowS 67324752 4).size ≤ 4 := (Nat.le_of_eq (lowS_size _ _))
    have ha0 : ¬ 9223372036854775807 < (lowS 67324752 4).size + (sh).size := cat_fitsO tha0 (show (sh).size ≤ 26 from (Nat.le_of_eq HZ2.out)) (by decide)
    have tha1 : (lowS 67324752 4 ++ sh).size ≤ 30 := cat_leO tha0 (Nat.le_of_eq HZ2.out)
    have ha1 : ¬ 9223372036854775807 < (lowS 67324752 4 ++ sh).size + (nm).size := cat_fitsO tha1 (show (nm).size ≤ 65535 from hnm) (by decide)
    have tha2 : (lowS 67324752 4 ++ sh ++ nm).size ≤ 65565 := cat_leO tha1 hnm
    have ha2 : ¬ 9223372036854775807 < (lowS 67324752 4 ++ sh ++ nm).size + (X).size := cat_fitsO tha2 (show (X).size ≤ 20 from HZ.out) (by decide)
    have tha3 : (lowS 67324752 4 ++ sh ++ nm ++ X).size ≤ 65585 := cat_leO tha2 HZ.out
    clear tha0 tha1 tha2 tha3 hnm
    go_wp2_with fail
    have HCC := hide (rec_since HQ.out)
    have hu0 := fun u : Since0 w3 => (HCC.out u).1
    have hu1 := fun u : Since0 w3 => (HCC.out u).2.1
    have hu2 := fun u : Since0 w3 => (HCC.out u).2.2.1
    have hu3 := fun u : Since0 w3 => (HCC.out u).2.2.2.1
    have hu4 := fun u : Since0 w3 => (HCC.out u).2.2.2.2.1
    have hu5 := fun u : Since0 w3 => (HCC.out u).2.2.2.2.2.1
    have hu6 := fun u : Since0 w3 => (HCC.out u).2.2.2.2.2.2.1
    have hu7 := fun u : Since0 w3 => (HCC.out u).2.2.2.2.2.2.2.1
    have hu8 := fun u : Since0 w3 => (HCC.out u).2.2.2.2.2.2.2.2.1
    have hu9 := fun u : Since0 w3 => (HCC.out u).2.2.2.2.2.2.2.2.2.1
    have hu10 := fun u : Since0 w3 => (HCC.out u).2.2.2.2.2.2.2.2.2.2
    have hne : Nonempty (Since0 w3) := ⟨⟨w3, Below.refl _ _⟩⟩
    try simp only [List.append]
    refine wp_region_below w3 (by first | exact Below.refl _ _ | exact below_drewO (Below.refl _ _) _) (by kernel_rfl) (by kernel_rfl) ?_
    repeat (go_big_quiet_step ((rename_i u; first | exact calls_since u (HS.out u.1) | exact calls_since u (u32_any _ u.1))))
    refine wpQuiet_nil ?_
    intro _ hw'
    obtain ⟨u, rfl⟩ := hw'
    have Bn := hide (B0.out.trans (u.2.mono B0.out.size))
    have Qn := hide (rec_kept HQ.out u.2)
    clear B0 HQ HCC
    have B0 := Bn
    have HQ := Qn
    clear Bn Qn
    obtain ⟨y1, hx⟩ : ∃ y, u.1 = y := ⟨_, rfl⟩
    rw [hx] at B0 HQ
    simp only [hx]
    clear hu0 hu1 hu2 hu3 hu4 hu5 hu6 hu7 hu8 hu9 hu10 hne hx u ha0 ha1 ha2
    go_wp2
    go_ret
    rw [HE.out]
    exact ⟨rfl, B0.out⟩


end Go.Proofs.Ytbjjcjcobiokcaa
