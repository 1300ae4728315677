/- RecordPrints, the walk: the record's texts are the document's (printed by tools/mkrec3.py). -/
import Derived.Test.YtbjjcjcobiokcaaOAwake
import Derived.Test.YtbjjcjcobiokcaaORefC
namespace Go.Proofs.Ytbjjcjcobiokcaa
open Go.RowKit Go.Lib

set_option maxRecDepth 20000 in
set_option maxHeartbeats 16000000 in
theorem prints_long (S : OSpec) (r : Rec) (hi : RecIn r) (hs : shortR r = false) (W : World) : Calls Try.prog 3 #[recV r] W fun e w' => e = .returned (.bool true) ∧ Below W.heap.size W w' := by
  have HA := hide (fun w => awake14 S w)
  have HSH := hide (fun w => short_any r w)
  have HR1 := hide (fun w => S.right r w hi)
  have HR2 := hide (fun w => qright_any r w)
  have B0 := hide ((Below.refl W.heap.size W).alloc (Nat.le_refl _) (.cells (recCs r) 23))
  have HQ := hide (rec_new W (recCs r) 23)
  rw [hs] at HSH
  clear hs S hi HR1 HR2
  obtain ⟨nm, nt, fl, me, da, ck, su, sz, pk, at_, wd⟩ := r
  unfold recV at *
  unfold recCs at *
  dsimp only at HQ B0 HSH ⊢
  go_enter Try.func3, Try.ntmps3
  go_wp2_with fail
  refine (HSH.out _).mono ?_
  rintro e w1 ⟨rfl, b⟩
  have HQ := hide (rec_kept HQ.out b)
  have B0 := hide (B0.out.trans (b.mono B0.out.size))
  clear b
  go_wp2_with fail
  refine (HA.out _).mono ?_
  rintro e w2 ⟨rfl, b⟩
  have HQ := hide (rec_kept HQ.out b)
  have B0 := hide (B0.out.trans (b.mono B0.out.size))
  clear b
  go_wp2
  go_ret
  exact ⟨rfl, B0.out⟩

set_option maxRecDepth 20000 in
set_option maxHeartbeats 16000000 in
theorem prints_not (S : OSpec) (r : Rec) (hi : RecIn r) (hs : shortR r = true) (hr : rightR r = false) (W : World) : Calls Try.prog 3 #[recV r] W fun e w' => e = .returned (.bool true) ∧ Below W.heap.size W w' := by
  have HA := hide (fun w => awake14 S w)
  have HSH := hide (fun w => short_any r w)
  have HR1 := hide (fun w => S.right r w hi)
  have HR2 := hide (fun w => qright_any r w)
  have B0 := hide ((Below.refl W.heap.size W).alloc (Nat.le_refl _) (.cells (recCs r) 23))
  have HQ := hide (rec_new W (recCs r) 23)
  rw [hs] at HSH
  rw [hr] at HR1 HR2
  clear hs hr S hi
  obtain ⟨nm, nt, fl, me, da, ck, su, sz, pk, at_, wd⟩ := r
  unfold recV at *
  unfold recCs at *
  dsimp only at HQ B0 HSH HR1 HR2 ⊢
  go_enter Try.func3, Try.ntmps3
  go_wp2_with fail
  refine (HSH.out _).mono ?_
  rintro e w1 ⟨rfl, b⟩
  have HQ := hide (rec_kept HQ.out b)
  have B0 := hide (B0.out.trans (b.mono B0.out.size))
  clear b
  obtain ⟨g0, g1, g2, g3, g4, g5, g6, g7, g8, g9, g10⟩ := rec_cells HQ.out
  go_wp2_with fail
  refine (HR1.out _).mono ?_
  rintro e w2 ⟨rfl, b⟩
  have HQ := hide (rec_kept HQ.out b)
  have B0 := hide (B0.out.trans (b.mono B0.out.size))
  clear b
  clear g0 g1 g2 g3 g4 g5 g6 g7 g8 g9 g10
  obtain ⟨g0, g1, g2, g3, g4, g5, g6, g7, g8, g9, g10⟩ := rec_cells HQ.out
  go_wp2_with fail
  clear g0 g1 g2 g3 g4 g5 g6 g7 g8 g9 g10
  have HC := hide (rec_since HQ.out)
  have hu0 := fun u : Since0 w2 => (HC.out u).1
  have hu1 := fun u : Since0 w2 => (HC.out u).2.1
  have hu2 := fun u : Since0 w2 => (HC.out u).2.2.1
  have hu3 := fun u : Since0 w2 => (HC.out u).2.2.2.1
  have hu4 := fun u : Since0 w2 => (HC.out u).2.2.2.2.1
  have hu5 := fun u : Since0 w2 => (HC.out u).2.2.2.2.2.1
  have hu6 := fun u : Since0 w2 => (HC.out u).2.2.2.2.2.2.1
  have hu7 := fun u : Since0 w2 => (HC.out u).2.2.2.2.2.2.2.1
  have hu8 := fun u : Since0 w2 => (HC.out u).2.2.2.2.2.2.2.2.1
  have hu9 := fun u : Since0 w2 => (HC.out u).2.2.2.2.2.2.2.2.2.1
  have hu10 := fun u : Since0 w2 => (HC.out u).2.2.2.2.2.2.2.2.2.2
  have hne : Nonempty (Since0 w2) := ⟨⟨w2, Below.refl _ _⟩⟩
  try simp only [List.append]
  refine wp_region_below w2 (Below.refl _ _) (by kernel_rfl) (by kernel_rfl) ?_
  repeat (go_big_quiet_step ((rename_i u; first | exact calls_since u (HA.out u.1) | exact calls_since u (HR2.out u.1))))
  refine wpQuiet_nil ?_
  intro _ hw'
  obtain ⟨u, rfl⟩ := hw'
  clear hu0 hu1 hu2 hu3 hu4 hu5 hu6 hu7 hu8 hu9 hu10 hne
  go_wp2
  go_ret
  exact ⟨rfl, B0.out.trans (u.2.mono B0.out.size)⟩

set_option maxRecDepth 20000 in
set_option maxHeartbeats 16000000 in
theorem prints_right (S : OSpec) (r : Rec) (hi : RecIn r) (hs : shortR r = true) (hr : rightR r = true) (W : World) : Calls Try.prog 3 #[recV r] W fun e w' => e = .returned (.bool true) ∧ Below W.heap.size W w' := by
  have HA := hide (fun w => awake14 S w)
  have HSH := hide (fun w => short_any r w)
  have HR1 := hide (fun w => S.right r w hi)
  have HR2 := hide (fun w => qright_any r w)
  have B0 := hide ((Below.refl W.heap.size W).alloc (Nat.le_refl _) (.cells (recCs r) 23))
  have HQ := hide (rec_new W (recCs r) 23)
  rw [hs] at HSH
  rw [hr] at HR1 HR2
  have hR := (rightR_iff r).1 hr
  have HL1 := hide (fun w => S.locl r w hR)
  have HL2 := hide (fun w => qlocal_any r hR w)
  have HC1 := hide (fun w => S.cent r w hR)
  have HC2 := hide (fun w => qcentral_any r hR w)
  have HT1 := hide (fun w => S.tail r w hR)
  have HT2 := hide (fun w => qtail_any r hR w)
  generalize locS r = L at *
  generalize cenS r = C at *
  generalize tailS r = T at *
  clear hs hr S hi hR
  obtain ⟨nm, nt, fl, me, da, ck, su, sz, pk, at_, wd⟩ := r
  unfold recV at *
  unfold recCs at *
  dsimp only at HQ B0 HSH HR1 HR2 HL1 HL2 HC1 HC2 HT1 HT2 ⊢
  go_enter Try.func3, Try.ntmps3
  go_wp2_with fail
  refine (HSH.out _).mono ?_
  rintro e w1 ⟨rfl, b⟩
  have HQ := hide (rec_kept HQ.out b)
  have B0 := hide (B0.out.trans (b.mono B0.out.size))
  clear b
  obtain ⟨g0, g1, g2, g3, g4, g5, g6, g7, g8, g9, g10⟩ := rec_cells HQ.out
  go_wp2_with fail
  refine (HR1.out _).mono ?_
  rintro e w2 ⟨rfl, b⟩
  have HQ := hide (rec_kept HQ.out b)
  have B0 := hide (B0.out.trans (b.mono B0.out.size))
  clear b
  clear g0 g1 g2 g3 g4 g5 g6 g7 g8 g9 g10
  obtain ⟨g0, g1, g2, g3, g4, g5, g6, g7, g8, g9, g10⟩ := rec_cells HQ.out
  go_wp2_with fail
  clear g0 g1 g2 g3 g4 g5 g6 g7 g8 g9 g10
  have HC := hide (rec_since HQ.out)
  have hu0 := fun u : Since0 w2 => (HC.out u).1
  have hu1 := fun u : Since0 w2 => (HC.out u).2.1
  have hu2 := fun u : Since0 w2 => (HC.out u).2.2.1
  have hu3 := fun u : Since0 w2 => (HC.out u).2.2.2.1
  have hu4 := fun u : Since0 w2 => (HC.out u).2.2.2.2.1
  have hu5 := fun u : Since0 w2 => (HC.out u).2.2.2.2.2.1
  have hu6 := fun u : Since0 w2 => (HC.out u).2.2.2.2.2.2.1
  have hu7 := fun u : Since0 w2 => (HC.out u).2.2.2.2.2.2.2.1
  have hu8 := fun u : Since0 w2 => (HC.out u).2.2.2.2.2.2.2.2.1
  have hu9 := fun u : Since0 w2 => (HC.out u).2.2.2.2.2.2.2.2.2.1
  have hu10 := fun u : Since0 w2 => (HC.out u).2.2.2.2.2.2.2.2.2.2
  have hne : Nonempty (Since0 w2) := ⟨⟨w2, Below.refl _ _⟩⟩
  try simp only [List.append]
  refine wp_region_below w2 (Below.refl _ _) (by kernel_rfl) (by kernel_rfl) ?_
  repeat (go_big_quiet_step ((rename_i u; first | exact calls_since u (HA.out u.1) | exact calls_since u (HR2.out u.1) | exact calls_since u (HL1.out u.1) | exact calls_since u (HL2.out u.1) | exact calls_since u (HC1.out u.1) | exact calls_since u (HC2.out u.1) | exact calls_since u (HT1.out u.1) | exact calls_since u (HT2.out u.1))))
  refine wpQuiet_nil ?_
  intro _ hw'
  obtain ⟨u, rfl⟩ := hw'
  clear hu0 hu1 hu2 hu3 hu4 hu5 hu6 hu7 hu8 hu9 hu10 hne
  go_wp2
  go_ret
  exact ⟨rfl, B0.out.trans (u.2.mono B0.out.size)⟩

theorem prints_walk (S : OSpec) (r : Rec) (hi : RecIn r) (W : World) : Calls Try.prog 3 #[recV r] W fun e w' => e = .returned (.bool true) ∧ Below W.heap.size W w' := by
  cases hs : shortR r with
  | false => exact prints_long S r hi hs W
  | true => cases hr : rightR r with
    | false => exact prints_not S r hi hs hr W
    | true => exact prints_right S r hi hs hr W

end Go.Proofs.Ytbjjcjcobiokcaa
