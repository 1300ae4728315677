/- RecordSizes, the walk: how many bytes a record's texts have (printed by tools/mkrec3.py). -/
import Derived.Test.YtbjjcjcobiokcaaOAwake
import Derived.Test.YtbjjcjcobiokcaaORefC
namespace Go.Proofs.Ytbjjcjcobiokcaa
open Go.RowKit Go.Lib

theorem wrapO (x : Int) (h1 : 0 ≤ x) (h2 : x ≤ 1099511627776) : wrap64 x = x ∧ IntKind.i64.wrap x = x := by
  constructor
  · unfold wrap64; omega
  · rw [IntKind.wrap_i64]; omega

set_option maxRecDepth 20000 in
set_option maxHeartbeats 16000000 in
theorem sizes_long (S : OSpec) (r : Rec) (hi : RecIn r) (hs : shortR r = false) (W : World) : Calls Try.prog 6 #[recV r] W fun e w' => e = .returned (.bool true) ∧ Below W.heap.size W w' := by
  have HA := hide (fun w => awake14 S w)
  have HSH := hide (fun w => short_any r w)
  have HR1 := hide (fun w => S.right r w hi)
  have HR2 := hide (fun w => qright_any r w)
  have B0 := hide ((Below.refl W.heap.size W).alloc (Nat.le_refl _) (.cells (recCs r) 23))
  have HQ := hide (rec_new W (recCs r) 23)
  rw [hs] at HSH
  clear hs S hi HR1 HR2
  obtain ⟨nm, nt, fl, me, da, ck, su, sz, pk, at_, wd⟩ := r
  unfold recV at *
  unfold recCs at *
  dsimp only at HQ B0 HSH ⊢
  go_enter Try.func6, Try.ntmps6
  go_wp2_with fail
  refine (HSH.out _).mono ?_
  rintro e w1 ⟨rfl, b⟩
  have HQ := hide (rec_kept HQ.out b)
  have B0 := hide (B0.out.trans (b.mono B0.out.size))
  clear b
  go_wp2_with fail
  refine (HA.out _).mono ?_
  rintro e w2 ⟨rfl, b⟩
  have HQ := hide (rec_kept HQ.out b)
  have B0 := hide (B0.out.trans (b.mono B0.out.size))
  clear b
  go_wp2
  go_ret
  exact ⟨rfl, B0.out⟩

set_option maxRecDepth 20000 in
set_option maxHeartbeats 16000000 in
theorem sizes_not (S : OSpec) (r : Rec) (hi : RecIn r) (hs : shortR r = true) (hr : rightR r = false) (W : World) : Calls Try.prog 6 #[recV r] W fun e w' => e = .returned (.bool true) ∧ Below W.heap.size W w' := by
  have HA := hide (fun w => awake14 S w)
  have HSH := hide (fun w => short_any r w)
  have HR1 := hide (fun w => S.right r w hi)
  have HR2 := hide (fun w => qright_any r w)
  have B0 := hide ((Below.refl W.heap.size W).alloc (Nat.le_refl _) (.cells (recCs r) 23))
  have HQ := hide (rec_new W (recCs r) 23)
  rw [hs] at HSH
  rw [hr] at HR1
  clear hs hr S hi HR2
  obtain ⟨nm, nt, fl, me, da, ck, su, sz, pk, at_, wd⟩ := r
  unfold recV at *
  unfold recCs at *
  dsimp only at HQ B0 HSH HR1 ⊢
  go_enter Try.func6, Try.ntmps6
  go_wp2_with fail
  refine (HSH.out _).mono ?_
  rintro e w1 ⟨rfl, b⟩
  have HQ := hide (rec_kept HQ.out b)
  have B0 := hide (B0.out.trans (b.mono B0.out.size))
  clear b
  obtain ⟨g0, g1, g2, g3, g4, g5, g6, g7, g8, g9, g10⟩ := rec_cells HQ.out
  go_wp2_with fail
  refine (HR1.out _).mono ?_
  rintro e w2 ⟨rfl, b⟩
  have HQ := hide (rec_kept HQ.out b)
  have B0 := hide (B0.out.trans (b.mono B0.out.size))
  clear b
  clear g0 g1 g2 g3 g4 g5 g6 g7 g8 g9 g10
  go_wp2_with fail
  refine (HA.out _).mono ?_
  rintro e w3 ⟨rfl, b⟩
  have HQ := hide (rec_kept HQ.out b)
  have B0 := hide (B0.out.trans (b.mono B0.out.size))
  clear b
  go_wp2
  go_ret
  exact ⟨rfl, B0.out⟩

set_option maxRecDepth 20000 in
set_option maxHeartbeats 16000000 in
theorem sizes_ff (S : OSpec) (r : Rec) (hi : RecIn r) (hs : shortR r = true) (hr : rightR r = true) (hf : flag8 r.flags = false) (hw : r.wide = false) (W : World) : Calls Try.prog 6 #[recV r] W fun e w' => e = .returned (.bool true) ∧ Below W.heap.size W w' := by
  have HA := hide (fun w => awake14 S w)
  have HSH := hide (fun w => short_any r w)
  have HR1 := hide (fun w => S.right r w hi)
  have HR2 := hide (fun w => qright_any r w)
  have B0 := hide ((Below.refl W.heap.size W).alloc (Nat.le_refl _) (.cells (recCs r) 23))
  have HQ := hide (rec_new W (recCs r) 23)
  rw [hs] at HSH
  rw [hr] at HR1
  have hR := (rightR_iff r).1 hr
  have HL1 := hide (fun w => S.locl r w hR)
  have HC1 := hide (fun w => S.cent r w hR)
  have HT1 := hide (fun w => S.tail r w hR)
  have cL : ((locS r).size : Int) = 30 + (r.name.size : Int) := by rw [locS_size, hw]; simp
  have cC : ((cenS r).size : Int) = 46 + (r.name.size : Int) + (r.note.size : Int) := by rw [cenS_size, hw]; simp
  have cT : ((tailS r).size : Int) = 0 := by rw [tailS_size, hf]; rfl
  obtain ⟨n, hn⟩ : ∃ n : Nat, r.flags = (n : Int) := Int.eq_ofNat_of_zero_le hR.flags.1
  have hbb := flag_and n (by have := hR.flags.2; omega)
  rw [← hn, hf] at hbb
  have hba : bits .and .i64 (n : Int) 8 = 0 := by rw [← hn]; exact hbb
  have hnm := hR.name
  have hnt := hR.note
  generalize locS r = L at *
  generalize cenS r = C at *
  generalize tailS r = T at *
  clear hs hr S hi hR HR2 hf hbb
  obtain ⟨nm, nt, fl, me, da, ck, su, sz, pk, at_, wd⟩ := r
  unfold recV at *
  unfold recCs at *
  dsimp only at HQ B0 HSH HR1 HL1 HC1 HT1 cL cC hn hw hnm hnt ⊢
  subst hw
  subst hn
  obtain ⟨e0, f0⟩ := wrapO (30 + (nm.size : Int)) (by clear hba; omega) (by clear hba; omega)
  obtain ⟨e1, f1⟩ := wrapO (46 + (nm.size : Int)) (by clear e0 f0; omega) (by clear e0 f0; omega)
  obtain ⟨e2, f2⟩ := wrapO (46 + (nm.size : Int) + (nt.size : Int)) (by clear e0 f0 e1 f1; omega) (by clear e0 f0 e1 f1; omega)
  go_enter Try.func6, Try.ntmps6
  go_wp2_with fail
  refine (HSH.out _).mono ?_
  rintro e w1 ⟨rfl, b⟩
  have HQ := hide (rec_kept HQ.out b)
  have B0 := hide (B0.out.trans (b.mono B0.out.size))
  clear b
  obtain ⟨g0, g1, g2, g3, g4, g5, g6, g7, g8, g9, g10⟩ := rec_cells HQ.out
  go_wp2_with fail
  refine (HR1.out _).mono ?_
  rintro e w2 ⟨rfl, b⟩
  have HQ := hide (rec_kept HQ.out b)
  have B0 := hide (B0.out.trans (b.mono B0.out.size))
  clear b
  clear g0 g1 g2 g3 g4 g5 g6 g7 g8 g9 g10
  obtain ⟨g0, g1, g2, g3, g4, g5, g6, g7, g8, g9, g10⟩ := rec_cells HQ.out
  go_wp2_with fail
  clear g0 g1 g2 g3 g4 g5 g6 g7 g8 g9 g10
  have HC := hide (rec_since HQ.out)
  have hu0 := fun u : Since0 w2 => (HC.out u).1
  have hu1 := fun u : Since0 w2 => (HC.out u).2.1
  have hu2 := fun u : Since0 w2 => (HC.out u).2.2.1
  have hu3 := fun u : Since0 w2 => (HC.out u).2.2.2.1
  have hu4 := fun u : Since0 w2 => (HC.out u).2.2.2.2.1
  have hu5 := fun u : Since0 w2 => (HC.out u).2.2.2.2.2.1
  have hu6 := fun u : Since0 w2 => (HC.out u).2.2.2.2.2.2.1
  have hu7 := fun u : Since0 w2 => (HC.out u).2.2.2.2.2.2.2.1
  have hu8 := fun u : Since0 w2 => (HC.out u).2.2.2.2.2.2.2.2.1
  have hu9 := fun u : Since0 w2 => (HC.out u).2.2.2.2.2.2.2.2.2.1
  have hu10 := fun u : Since0 w2 => (HC.out u).2.2.2.2.2.2.2.2.2.2
  have hne : Nonempty (Since0 w2) := ⟨⟨w2, Below.refl _ _⟩⟩
  try simp only [List.append]
  refine wp_region_below w2 (Below.refl _ _) (by kernel_rfl) (by kernel_rfl) ?_
  repeat (go_big_quiet_step ((rename_i u; first | exact calls_since u (HA.out u.1) | exact calls_since u (HL1.out u.1) | exact calls_since u (HC1.out u.1) | exact calls_since u (HT1.out u.1))))
  refine wpQuiet_nil ?_
  intro _ hw'
  obtain ⟨u, rfl⟩ := hw'
  clear hu0 hu1 hu2 hu3 hu4 hu5 hu6 hu7 hu8 hu9 hu10 hne
  go_wp2
  go_ret
  exact ⟨rfl, B0.out.trans (u.2.mono B0.out.size)⟩

set_option maxRecDepth 20000 in
set_option maxHeartbeats 16000000 in
theorem sizes_ft (S : OSpec) (r : Rec) (hi : RecIn r) (hs : shortR r = true) (hr : rightR r = true) (hf : flag8 r.flags = false) (hw : r.wide = true) (W : World) : Calls Try.prog 6 #[recV r] W fun e w' => e = .returned (.bool true) ∧ Below W.heap.size W w' := by
  have HA := hide (fun w => awake14 S w)
  have HSH := hide (fun w => short_any r w)
  have HR1 := hide (fun w => S.right r w hi)
  have HR2 := hide (fun w => qright_any r w)
  have B0 := hide ((Below.refl W.heap.size W).alloc (Nat.le_refl _) (.cells (recCs r) 23))
  have HQ := hide (rec_new W (recCs r) 23)
  rw [hs] at HSH
  rw [hr] at HR1
  have hR := (rightR_iff r).1 hr
  have HL1 := hide (fun w => S.locl r w hR)
  have HC1 := hide (fun w => S.cent r w hR)
  have HT1 := hide (fun w => S.tail r w hR)
  have cL : ((locS r).size : Int) = 30 + (r.name.size : Int) + 20 := by rw [locS_size, hw]; simp
  have cC : ((cenS r).size : Int) = 46 + (r.name.size : Int) + (r.note.size : Int) + 28 := by rw [cenS_size, hw]; simp
  have cT : ((tailS r).size : Int) = 0 := by rw [tailS_size, hf]; rfl
  obtain ⟨n, hn⟩ : ∃ n : Nat, r.flags = (n : Int) := Int.eq_ofNat_of_zero_le hR.flags.1
  have hbb := flag_and n (by have := hR.flags.2; omega)
  rw [← hn, hf] at hbb
  have hba : bits .and .i64 (n : Int) 8 = 0 := by rw [← hn]; exact hbb
  have hnm := hR.name
  have hnt := hR.note
  generalize locS r = L at *
  generalize cenS r = C at *
  generalize tailS r = T at *
  clear hs hr S hi hR HR2 hf hbb
  obtain ⟨nm, nt, fl, me, da, ck, su, sz, pk, at_, wd⟩ := r
  unfold recV at *
  unfold recCs at *
  dsimp only at HQ B0 HSH HR1 HL1 HC1 HT1 cL cC hn hw hnm hnt ⊢
  subst hw
  subst hn
  obtain ⟨e0, f0⟩ := wrapO (30 + (nm.size : Int)) (by clear hba; omega) (by clear hba; omega)
  obtain ⟨e1, f1⟩ := wrapO (46 + (nm.size : Int)) (by clear e0 f0; omega) (by clear e0 f0; omega)
  obtain ⟨e2, f2⟩ := wrapO (46 + (nm.size : Int) + (nt.size : Int)) (by clear e0 f0 e1 f1; omega) (by clear e0 f0 e1 f1; omega)
  obtain ⟨e3, f3⟩ := wrapO (30 + (nm.size : Int) + 20) (by clear e0 f0 e1 f1 e2 f2; omega) (by clear e0 f0 e1 f1 e2 f2; omega)
  obtain ⟨e4, f4⟩ := wrapO (46 + (nm.size : Int) + (nt.size : Int) + 28) (by clear e0 f0 e1 f1 e2 f2 e3 f3; omega) (by clear e0 f0 e1 f1 e2 f2 e3 f3; omega)
  go_enter Try.func6, Try.ntmps6
  go_wp2_with fail
  refine (HSH.out _).mono ?_
  rintro e w1 ⟨rfl, b⟩
  have HQ := hide (rec_kept HQ.out b)
  have B0 := hide (B0.out.trans (b.mono B0.out.size))
  clear b
  obtain ⟨g0, g1, g2, g3, g4, g5, g6, g7, g8, g9, g10⟩ := rec_cells HQ.out
  go_wp2_with fail
  refine (HR1.out _).mono ?_
  rintro e w2 ⟨rfl, b⟩
  have HQ := hide (rec_kept HQ.out b)
  have B0 := hide (B0.out.trans (b.mono B0.out.size))
  clear b
  clear g0 g1 g2 g3 g4 g5 g6 g7 g8 g9 g10
  obtain ⟨g0, g1, g2, g3, g4, g5, g6, g7, g8, g9, g10⟩ := rec_cells HQ.out
  go_wp2_with fail
  clear g0 g1 g2 g3 g4 g5 g6 g7 g8 g9 g10
  have HC := hide (rec_since HQ.out)
  have hu0 := fun u : Since0 w2 => (HC.out u).1
  have hu1 := fun u : Since0 w2 => (HC.out u).2.1
  have hu2 := fun u : Since0 w2 => (HC.out u).2.2.1
  have hu3 := fun u : Since0 w2 => (HC.out u).2.2.2.1
  have hu4 := fun u : Since0 w2 => (HC.out u).2.2.2.2.1
  have hu5 := fun u : Since0 w2 => (HC.out u).2.2.2.2.2.1
  have hu6 := fun u : Since0 w2 => (HC.out u).2.2.2.2.2.2.1
  have hu7 := fun u : Since0 w2 => (HC.out u).2.2.2.2.2.2.2.1
  have hu8 := fun u : Since0 w2 => (HC.out u).2.2.2.2.2.2.2.2.1
  have hu9 := fun u : Since0 w2 => (HC.out u).2.2.2.2.2.2.2.2.2.1
  have hu10 := fun u : Since0 w2 => (HC.out u).2.2.2.2.2.2.2.2.2.2
  have hne : Nonempty (Since0 w2) := ⟨⟨w2, Below.refl _ _⟩⟩
  try simp only [List.append]
  refine wp_region_below w2 (Below.refl _ _) (by kernel_rfl) (by kernel_rfl) ?_
  repeat (go_big_quiet_step ((rename_i u; first | exact calls_since u (HA.out u.1) | exact calls_since u (HL1.out u.1) | exact calls_since u (HC1.out u.1) | exact calls_since u (HT1.out u.1))))
  refine wpQuiet_nil ?_
  intro _ hw'
  obtain ⟨u, rfl⟩ := hw'
  clear hu0 hu1 hu2 hu3 hu4 hu5 hu6 hu7 hu8 hu9 hu10 hne
  go_wp2
  go_ret
  exact ⟨rfl, B0.out.trans (u.2.mono B0.out.size)⟩

set_option maxRecDepth 20000 in
set_option maxHeartbeats 16000000 in
theorem sizes_tf (S : OSpec) (r : Rec) (hi : RecIn r) (hs : shortR r = true) (hr : rightR r = true) (hf : flag8 r.flags = true) (hw : r.wide = false) (W : World) : Calls Try.prog 6 #[recV r] W fun e w' => e = .returned (.bool true) ∧ Below W.heap.size W w' := by
  have HA := hide (fun w => awake14 S w)
  have HSH := hide (fun w => short_any r w)
  have HR1 := hide (fun w => S.right r w hi)
  have HR2 := hide (fun w => qright_any r w)
  have B0 := hide ((Below.refl W.heap.size W).alloc (Nat.le_refl _) (.cells (recCs r) 23))
  have HQ := hide (rec_new W (recCs r) 23)
  rw [hs] at HSH
  rw [hr] at HR1
  have hR := (rightR_iff r).1 hr
  have HL1 := hide (fun w => S.locl r w hR)
  have HC1 := hide (fun w => S.cent r w hR)
  have HT1 := hide (fun w => S.tail r w hR)
  have cL : ((locS r).size : Int) = 30 + (r.name.size : Int) := by rw [locS_size, hw]; simp
  have cC : ((cenS r).size : Int) = 46 + (r.name.size : Int) + (r.note.size : Int) := by rw [cenS_size, hw]; simp
  have cT : ((tailS r).size : Int) = 16 := by rw [tailS_size, hf, hw]; rfl
  obtain ⟨n, hn⟩ : ∃ n : Nat, r.flags = (n : Int) := Int.eq_ofNat_of_zero_le hR.flags.1
  have hbb := flag_and n (by have := hR.flags.2; omega)
  rw [← hn, hf] at hbb
  have hba : bits .and .i64 (n : Int) 8 = 8 := by rw [← hn]; exact hbb
  have hnm := hR.name
  have hnt := hR.note
  generalize locS r = L at *
  generalize cenS r = C at *
  generalize tailS r = T at *
  clear hs hr S hi hR HR2 hf hbb
  obtain ⟨nm, nt, fl, me, da, ck, su, sz, pk, at_, wd⟩ := r
  unfold recV at *
  unfold recCs at *
  dsimp only at HQ B0 HSH HR1 HL1 HC1 HT1 cL cC hn hw hnm hnt ⊢
  subst hw
  subst hn
  obtain ⟨e0, f0⟩ := wrapO (30 + (nm.size : Int)) (by clear hba; omega) (by clear hba; omega)
  obtain ⟨e1, f1⟩ := wrapO (46 + (nm.size : Int)) (by clear e0 f0; omega) (by clear e0 f0; omega)
  obtain ⟨e2, f2⟩ := wrapO (46 + (nm.size : Int) + (nt.size : Int)) (by clear e0 f0 e1 f1; omega) (by clear e0 f0 e1 f1; omega)
  go_enter Try.func6, Try.ntmps6
  go_wp2_with fail
  refine (HSH.out _).mono ?_
  rintro e w1 ⟨rfl, b⟩
  have HQ := hide (rec_kept HQ.out b)
  have B0 := hide (B0.out.trans (b.mono B0.out.size))
  clear b
  obtain ⟨g0, g1, g2, g3, g4, g5, g6, g7, g8, g9, g10⟩ := rec_cells HQ.out
  go_wp2_with fail
  refine (HR1.out _).mono ?_
  rintro e w2 ⟨rfl, b⟩
  have HQ := hide (rec_kept HQ.out b)
  have B0 := hide (B0.out.trans (b.mono B0.out.size))
  clear b
  clear g0 g1 g2 g3 g4 g5 g6 g7 g8 g9 g10
  obtain ⟨g0, g1, g2, g3, g4, g5, g6, g7, g8, g9, g10⟩ := rec_cells HQ.out
  go_wp2_with fail
  clear g0 g1 g2 g3 g4 g5 g6 g7 g8 g9 g10
  have HC := hide (rec_since HQ.out)
  have hu0 := fun u : Since0 w2 => (HC.out u).1
  have hu1 := fun u : Since0 w2 => (HC.out u).2.1
  have hu2 := fun u : Since0 w2 => (HC.out u).2.2.1
  have hu3 := fun u : Since0 w2 => (HC.out u).2.2.2.1
  have hu4 := fun u : Since0 w2 => (HC.out u).2.2.2.2.1
  have hu5 := fun u : Since0 w2 => (HC.out u).2.2.2.2.2.1
  have hu6 := fun u : Since0 w2 => (HC.out u).2.2.2.2.2.2.1
  have hu7 := fun u : Since0 w2 => (HC.out u).2.2.2.2.2.2.2.1
  have hu8 := fun u : Since0 w2 => (HC.out u).2.2.2.2.2.2.2.2.1
  have hu9 := fun u : Since0 w2 => (HC.out u).2.2.2.2.2.2.2.2.2.1
  have hu10 := fun u : Since0 w2 => (HC.out u).2.2.2.2.2.2.2.2.2.2
  have hne : Nonempty (Since0 w2) := ⟨⟨w2, Below.refl _ _⟩⟩
  try simp only [List.append]
  refine wp_region_below w2 (Below.refl _ _) (by kernel_rfl) (by kernel_rfl) ?_
  repeat (go_big_quiet_step ((rename_i u; first | exact calls_since u (HA.out u.1) | exact calls_since u (HL1.out u.1) | exact calls_since u (HC1.out u.1) | exact calls_since u (HT1.out u.1))))
  refine wpQuiet_nil ?_
  intro _ hw'
  obtain ⟨u, rfl⟩ := hw'
  clear hu0 hu1 hu2 hu3 hu4 hu5 hu6 hu7 hu8 hu9 hu10 hne
  go_wp2
  go_ret
  exact ⟨rfl, B0.out.trans (u.2.mono B0.out.size)⟩

set_option maxRecDepth 20000 in
set_option maxHeartbeats 16000000 in
theorem sizes_tt (S : OSpec) (r : Rec) (hi : RecIn r) (hs : shortR r = true) (hr : rightR r = true) (hf : flag8 r.flags = true) (hw : r.wide = true) (W : World) : Calls Try.prog 6 #[recV r] W fun e w' => e = .returned (.bool true) ∧ Below W.heap.size W w' := by
  have HA := hide (fun w => awake14 S w)
  have HSH := hide (fun w => short_any r w)
  have HR1 := hide (fun w => S.right r w hi)
  have HR2 := hide (fun w => qright_any r w)
  have B0 := hide ((Below.refl W.heap.size W).alloc (Nat.le_refl _) (.cells (recCs r) 23))
  have HQ := hide (rec_new W (recCs r) 23)
  rw [hs] at HSH
  rw [hr] at HR1
  have hR := (rightR_iff r).1 hr
  have HL1 := hide (fun w => S.locl r w hR)
  have HC1 := hide (fun w => S.cent r w hR)
  have HT1 := hide (fun w => S.tail r w hR)
  have cL : ((locS r).size : Int) = 30 + (r.name.size : Int) + 20 := by rw [locS_size, hw]; simp
  have cC : ((cenS r).size : Int) = 46 + (r.name.size : Int) + (r.note.size : Int) + 28 := by rw [cenS_size, hw]; simp
  have cT : ((tailS r).size : Int) = 24 := by rw [tailS_size, hf, hw]; rfl
  obtain ⟨n, hn⟩ : ∃ n : Nat, r.flags = (n : Int) := Int.eq_ofNat_of_zero_le hR.flags.1
  have hbb := flag_and n (by have := hR.flags.2; omega)
  rw [← hn, hf] at hbb
  have hba : bits .and .i64 (n : Int) 8 = 8 := by rw [← hn]; exact hbb
  have hnm := hR.name
  have hnt := hR.note
  generalize locS r = L at *
  generalize cenS r = C at *
  generalize tailS r = T at *
  clear hs hr S hi hR HR2 hf hbb
  obtain ⟨nm, nt, fl, me, da, ck, su, sz, pk, at_, wd⟩ := r
  unfold recV at *
  unfold recCs at *
  dsimp only at HQ B0 HSH HR1 HL1 HC1 HT1 cL cC hn hw hnm hnt ⊢
  subst hw
  subst hn
  obtain ⟨e0, f0⟩ := wrapO (30 + (nm.size : Int)) (by clear hba; omega) (by clear hba; omega)
  obtain ⟨e1, f1⟩ := wrapO (46 + (nm.size : Int)) (by clear e0 f0; omega) (by clear e0 f0; omega)
  obtain ⟨e2, f2⟩ := wrapO (46 + (nm.size : Int) + (nt.size : Int)) (by clear e0 f0 e1 f1; omega) (by clear e0 f0 e1 f1; omega)
  obtain ⟨e3, f3⟩ := wrapO (30 + (nm.size : Int) + 20) (by clear e0 f0 e1 f1 e2 f2; omega) (by clear e0 f0 e1 f1 e2 f2; omega)
  obtain ⟨e4, f4⟩ := wrapO (46 + (nm.size : Int) + (nt.size : Int) + 28) (by clear e0 f0 e1 f1 e2 f2 e3 f3; omega) (by clear e0 f0 e1 f1 e2 f2 e3 f3; omega)
  go_enter Try.func6, Try.ntmps6
  go_wp2_with fail
  refine (HSH.out _).mono ?_
  rintro e w1 ⟨rfl, b⟩
  have HQ := hide (rec_kept HQ.out b)
  have B0 := hide (B0.out.trans (b.mono B0.out.size))
  clear b
  obtain ⟨g0, g1, g2, g3, g4, g5, g6, g7, g8, g9, g10⟩ := rec_cells HQ.out
  go_wp2_with fail
  refine (HR1.out _).mono ?_
  rintro e w2 ⟨rfl, b⟩
  have HQ := hide (rec_kept HQ.out b)
  have B0 := hide (B0.out.trans (b.mono B0.out.size))
  clear b
  clear g0 g1 g2 g3 g4 g5 g6 g7 g8 g9 g10
  obtain ⟨g0, g1, g2, g3, g4, g5, g6, g7, g8, g9, g10⟩ := rec_cells HQ.out
  go_wp2_with fail
  clear g0 g1 g2 g3 g4 g5 g6 g7 g8 g9 g10
  have HC := hide (rec_since HQ.out)
  have hu0 := fun u : Since0 w2 => (HC.out u).1
  have hu1 := fun u : Since0 w2 => (HC.out u).2.1
  have hu2 := fun u : Since0 w2 => (HC.out u).2.2.1
  have hu3 := fun u : Since0 w2 => (HC.out u).2.2.2.1
  have hu4 := fun u : Since0 w2 => (HC.out u).2.2.2.2.1
  have hu5 := fun u : Since0 w2 => (HC.out u).2.2.2.2.2.1
  have hu6 := fun u : Since0 w2 => (HC.out u).2.2.2.2.2.2.1
  have hu7 := fun u : Since0 w2 => (HC.out u).2.2.2.2.2.2.2.1
  have hu8 := fun u : Since0 w2 => (HC.out u).2.2.2.2.2.2.2.2.1
  have hu9 := fun u : Since0 w2 => (HC.out u).2.2.2.2.2.2.2.2.2.1
  have hu10 := fun u : Since0 w2 => (HC.out u).2.2.2.2.2.2.2.2.2.2
  have hne : Nonempty (Since0 w2) := ⟨⟨w2, Below.refl _ _⟩⟩
  try simp only [List.append]
  refine wp_region_below w2 (Below.refl _ _) (by kernel_rfl) (by kernel_rfl) ?_
  repeat (go_big_quiet_step ((rename_i u; first | exact calls_since u (HA.out u.1) | exact calls_since u (HL1.out u.1) | exact calls_since u (HC1.out u.1) | exact calls_since u (HT1.out u.1))))
  refine wpQuiet_nil ?_
  intro _ hw'
  obtain ⟨u, rfl⟩ := hw'
  clear hu0 hu1 hu2 hu3 hu4 hu5 hu6 hu7 hu8 hu9 hu10 hne
  go_wp2
  go_ret
  exact ⟨rfl, B0.out.trans (u.2.mono B0.out.size)⟩

theorem sizes_walk (S : OSpec) (r : Rec) (hi : RecIn r) (W : World) : Calls Try.prog 6 #[recV r] W fun e w' => e = .returned (.bool true) ∧ Below W.heap.size W w' := by
  cases hs : shortR r with
  | false => exact sizes_long S r hi hs W
  | true => cases hr : rightR r with
    | false => exact sizes_not S r hi hs hr W
    | true => cases hf : flag8 r.flags with
      | false => cases hw : r.wide with
        | false => exact sizes_ff S r hi hs hr hf hw W
        | true => exact sizes_ft S r hi hs hr hf hw W
      | true => cases hw : r.wide with
        | false => exact sizes_tf S r hi hs hr hf hw W
        | true => exact sizes_tt S r hi hs hr hf hw W

end Go.Proofs.Ytbjjcjcobiokcaa
