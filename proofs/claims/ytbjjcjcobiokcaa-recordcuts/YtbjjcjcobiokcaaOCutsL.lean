/- RecordCuts, the walk (printed by tools/mkcuts14.py). -/
import Derived.Test.YtbjjcjcobiokcaaOBackL
import Derived.Deep.RegionHeld3
import Derived.Deep.MidRow
namespace Go.Proofs.Ytbjjcjcobiokcaa
open Go.RowKit Go.Lib

/-- A central record without its end is none. -/
theorem cen_cut {r : Rec} (hr : RightR r) (k : Nat) (hk : k < (cenS r).size) (q : Rec) : ¬ CenAt ((cenS r).extract 0 k) 0 q := by
  rintro ⟨hq, C, hc⟩
  rw [List.drop_zero, extract_list, List.drop_zero, Nat.sub_zero] at hc
  have h1 : CenAt (cenS r) 0 q := by
    refine ⟨hq, C ++ (cenS r).data.toList.drop k, ?_⟩
    rw [List.drop_zero, ← List.append_assoc, ← hc, List.take_append_drop]
  have h2 : CenAt (cenS r) 0 r := ⟨hr, [], by rw [List.drop_zero, List.append_nil]⟩
  obtain rfl := h1.uniq h2 (Nat.zero_le _)
  have hl := congrArg List.length hc
  rw [List.length_take, List.length_append, ba_size] at hl
  omega
/-- A local header without its end is none. -/
theorem loc_cut (r : Rec) (k : Nat) (hk : k < (locS r).size) : ¬ LocAt ((locS r).extract 0 k) 0 r := by
  rintro ⟨C, hc⟩
  rw [List.drop_zero, extract_list, List.drop_zero, Nat.sub_zero] at hc
  have hl := congrArg List.length hc
  rw [List.length_take, List.length_append, ba_size] at hl
  omega
theorem locS_list (r : Rec) : ∃ B C : List UInt8, B.length = 26 ∧ (locS r).data.toList = B ++ (lowB r.name.size 2 ++ C) := by
  refine ⟨lowB 67324752 4 ++ (lowB (verR r) 2 ++ (lowB r.flags 2 ++ (lowB r.method 2 ++ (lowB r.clock 2 ++ (lowB r.date 2 ++ (lowB (sumL r) 4 ++ (lowB (ownF r (packL r)) 4 ++ lowB (ownF r (sizeL r)) 4))))))), lowB (extraL r).size 2 ++ (r.name.data.toList ++ (extraL r).data.toList), ?_, ?_⟩
  · simp only [List.length_append, lowB_length]
  · unfold locS
    simp only [ba_append_list, lowS_list, List.append_assoc]
theorem LocAt.name_size {s : ByteArray} {i : Nat} {r : Rec} (h : LocAt s i r) (hr : RightR r) (hi : i ≤ s.size) : numV (textV s ((i + 26 : Nat) : Int) 2 false) = (r.name.size : Int) := by
  obtain ⟨D, hd⟩ := h
  obtain ⟨B, C, hB, hl⟩ := locS_list r
  rw [hl, List.append_assoc, List.append_assoc] at hd
  obtain ⟨_, _, _, d, hi⟩ := text_next hd hB hi
  exact (num_next d hi (Int.natCast_nonneg _) (by have := hr.name; omega) (by have := hr.name; omega)).1
theorem loc_other {r : Rec} (hr : RightR r) (hn : r.name.size ≤ 300) (x : ByteArray) (hx : x.size = 1) (s : ByteArray) : ¬ LocAt (locS r ++ s) 0 { r with name := r.name ++ x } := by
  intro h
  have e1 := (loc_at_app r s).name_size hr (Nat.zero_le _)
  have hr2 : RightR { r with name := r.name ++ x } := ⟨hr.flags, hr.method, hr.date, hr.clock, hr.size, hr.packed, hr.at_, hr.sum, by show (r.name ++ x).size ≤ 65535; rw [ba_size_append]; omega, hr.note⟩
  have e2 := h.name_size hr2 (Nat.zero_le _)
  rw [e1] at e2
  have e3 : (r.name ++ x).size = r.name.size + 1 := by rw [ba_size_append, hx]
  have e4 : ((r.name.size : Nat) : Int) = (((r.name ++ x).size : Nat) : Int) := e2
  omega
theorem range_ofL {w : World} {k : Nat} {rl : List Value} {T : TypeId} (h : w.heap[k]? = some (.cells rl.toArray T (0, 0))) : w.rangeAt k 0 rl := by simpa using range_of h
theorem rem_nat' (a b : Nat) : (a : Int).tmod (b : Int) = ((a % b : Nat) : Int) := rfl

set_option maxRecDepth 20000 in
set_option maxHeartbeats 16000000 in
theorem cuts_long (S : OSpec) (r : Rec) (ct : Nat) (_hct : ct < 65536) (hi : RecIn r) (hsh : shortR r = false) (W : World) : Calls Try.prog 7 #[recV r, .int .u16 (ct : Nat)] W fun e w' => e = .returned (.bool true) ∧ Below W.heap.size W w' := by
  have HA := hide (fun w => awake14 S w)
  have HSH := hide (fun w => short_any r w)
  have HR1 := hide (fun w => S.right r w hi)
  have B0 := hide ((Below.refl W.heap.size W).alloc (Nat.le_refl _) (.cells (recCs r) 23))
  have HQ := hide (rec_new W (recCs r) 23)
  rw [hsh] at HSH
  clear hsh S hi HR1
  obtain ⟨nm, nt, fl, me, da, ck, su, sz, pk, at_, wd⟩ := r
  unfold recV at *
  unfold recCs at *
  dsimp only at HQ B0 HSH ⊢
  go_enter Try.func7, Try.ntmps7
  go_wp2_with fail
  refine (HSH.out _).mono ?_
  rintro e w1 ⟨rfl, b⟩
  have HQ := hide (rec_kept HQ.out b)
  have B0 := hide (B0.out.trans (b.mono B0.out.size))
  clear b
  go_wp2_with fail
  refine (HA.out _).mono ?_
  rintro e w2 ⟨rfl, b⟩
  have HQ := hide (rec_kept HQ.out b)
  have B0 := hide (B0.out.trans (b.mono B0.out.size))
  clear b
  go_wp2
  go_ret
  exact ⟨rfl, B0.out⟩

set_option maxRecDepth 20000 in
set_option maxHeartbeats 16000000 in
theorem cuts_not (S : OSpec) (r : Rec) (ct : Nat) (_hct : ct < 65536) (hi : RecIn r) (hsh : shortR r = true) (hr : rightR r = false) (W : World) : Calls Try.prog 7 #[recV r, .int .u16 (ct : Nat)] W fun e w' => e = .returned (.bool true) ∧ Below W.heap.size W w' := by
  have HA := hide (fun w => awake14 S w)
  have HSH := hide (fun w => short_any r w)
  have HR1 := hide (fun w => S.right r w hi)
  have B0 := hide ((Below.refl W.heap.size W).alloc (Nat.le_refl _) (.cells (recCs r) 23))
  have HQ := hide (rec_new W (recCs r) 23)
  rw [hsh] at HSH
  rw [hr] at HR1
  clear hsh hr S hi
  obtain ⟨nm, nt, fl, me, da, ck, su, sz, pk, at_, wd⟩ := r
  unfold recV at *
  unfold recCs at *
  dsimp only at HQ B0 HSH HR1 ⊢
  go_enter Try.func7, Try.ntmps7
  go_wp2_with fail
  refine (HSH.out _).mono ?_
  rintro e w1 ⟨rfl, b⟩
  have HQ := hide (rec_kept HQ.out b)
  have B0 := hide (B0.out.trans (b.mono B0.out.size))
  clear b
  obtain ⟨g0, g1, g2, g3, g4, g5, g6, g7, g8, g9, g10⟩ := rec_cells HQ.out
  go_wp2_with fail
  refine (HR1.out _).mono ?_
  rintro e w2 ⟨rfl, b⟩
  have HQ := hide (rec_kept HQ.out b)
  have B0 := hide (B0.out.trans (b.mono B0.out.size))
  clear b
  clear g0 g1 g2 g3 g4 g5 g6 g7 g8 g9 g10
  go_wp2_with fail
  refine (HA.out _).mono ?_
  rintro e w3 ⟨rfl, b⟩
  have HQ := hide (rec_kept HQ.out b)
  have B0 := hide (B0.out.trans (b.mono B0.out.size))
  clear b
  go_wp2
  go_ret
  exact ⟨rfl, B0.out⟩

set_option maxRecDepth 20000 in
set_option maxHeartbeats 16000000 in
theorem cuts_right (S : OSpec) (r : Rec) (ct : Nat) (_hct : ct < 65536) (hi : RecIn r) (hsh : shortR r = true) (hr : rightR r = true) (W : World) : Calls Try.prog 7 #[recV r, .int .u16 (ct : Nat)] W fun e w' => e = .returned (.bool true) ∧ Below W.heap.size W w' := by
  have HA := hide (fun w => awake14 S w)
  have HSH := hide (fun w => short_any r w)
  have HR1 := hide (fun w => S.right r w hi)
  have B0 := hide ((Below.refl W.heap.size W).alloc (Nat.le_refl _) (.cells (recCs r) 23))
  have HQ := hide (rec_new W (recCs r) 23)
  have hn : r.name.size ≤ 300 := by
    unfold shortR at hsh
    rw [Bool.and_eq_true, decide_eq_true_eq, decide_eq_true_eq] at hsh
    omega
  rw [hsh] at HSH
  rw [hr] at HR1
  have hR := (rightR_iff r).1 hr
  have hcp : 0 < (cenS r).size := by rw [cenS_size]; omega
  have hlp : 0 < (locS r).size := by rw [locS_size]; omega
  have hct := _hct
  have hk1 := Nat.mod_lt ct hcp
  have hk2 := Nat.mod_lt ct hlp
  have hcc := cen_cap hR
  have hlc := loc_cap hR
  have HCR := hide (fun w => S.cent r w hR)
  have HLR := hide (fun w => S.locl r w hR)
  have z1 : ((cenS r).extract 0 (ct % (cenS r).size)).size ≤ 1000000000 := by rw [ByteArray.size_extract]; omega
  have z2 : ((locS r).extract 0 (ct % (locS r).size)).size ≤ 1000000000 := by rw [ByteArray.size_extract]; omega
  have HCA := hide (fun p w (h : CurAt 29 w p ((cenS r).extract 0 (ct % (cenS r).size)) (0 : Nat) false) => (S.readC _ p 0 w h (Nat.zero_le _) z1).mono fun e w' g => rdC_no g (cen_cut hR _ hk1))
  have HLA := hide (fun p w (h : CurAt 29 w p ((locS r).extract 0 (ct % (locS r).size)) (0 : Nat) false) => (S.readL _ p 0 r w h (Nat.zero_le _) z2 hR).mono fun e w' g => rdL_no g (loc_cut r _ hk2))
  have hr2 : RightR { r with name := r.name ++ ⟨#[120]⟩ } := ⟨hR.flags, hR.method, hR.date, hR.clock, hR.size, hR.packed, hR.at_, hR.sum, by show (r.name ++ ⟨#[120]⟩).size ≤ 65535; rw [ba_size_append]; exact (show r.name.size + 1 ≤ 65535 by omega), hR.note⟩
  have HRX := hide (fun w => S.right { r with name := r.name ++ ⟨#[120]⟩ } w ⟨hi.flags, hi.method, hi.date, hi.clock, hi.sum, hi.size, hi.packed, hi.at_⟩)
  rw [(rightR_iff _).2 hr2] at HRX
  have HLX := hide (fun p w (h : CurAt 29 w p (locS r ++ ⟨#[120, 120, 120, 120]⟩) (0 : Nat) false) => (S.readL _ p 0 { r with name := r.name ++ ⟨#[120]⟩ } w h (Nat.zero_le _) (by rw [ba_size_append]; exact (show (locS r).size + 4 ≤ 1000000000 by omega)) hr2).mono fun e w' g => rdL_no g (loc_other hR hn _ rfl _))
  have hs1 := ext_slice (cenS r) _ (ct % (cenS r).size) (by omega) rfl
  have hs2 := ext_slice (locS r) _ (ct % (locS r).size) (by omega) rfl
  have q1 : (9223372036854775807 < r.name.size + (⟨#[120]⟩ : ByteArray).size) = False := eq_false (show ¬ 9223372036854775807 < r.name.size + 1 by omega)
  have q2 : (9223372036854775807 < (locS r).size + (⟨#[120, 120, 120, 120]⟩ : ByteArray).size) = False := eq_false (show ¬ 9223372036854775807 < (locS r).size + 4 by omega)
  have q3 : (9223372036854775807 < r.name.size + 1) = False := eq_false (by omega)
  have q4 : (9223372036854775807 < (locS r).size + 4) = False := eq_false (by omega)
  have hm1 := rem_nat' ct (cenS r).size
  have hm2 := rem_nat' ct (locS r).size
  generalize cenS r = C at *
  generalize locS r = L at *
  obtain ⟨k1, hk1e⟩ : ∃ k, ct % C.size = k := ⟨_, rfl⟩
  obtain ⟨k2, hk2e⟩ : ∃ k, ct % L.size = k := ⟨_, rfl⟩
  rw [hk1e] at HCA hs1 hm1 hk1 z1
  rw [hk2e] at HLA hs2 hm2 hk2 z2
  generalize C.extract 0 k1 = P at *
  generalize L.extract 0 k2 = Q at *
  obtain ⟨c, hc⟩ : ∃ c, C.size = c := ⟨_, rfl⟩
  obtain ⟨d, hd⟩ : ∃ d, L.size = d := ⟨_, rfl⟩
  have ec : (C.size : Int) = (c : Int) := by omega
  have ed : (L.size : Int) = (d : Int) := by omega
  rw [hc] at hm1 hcp hk1
  rw [hd] at hm2 hlp hk2
  have zc : ((c : Int) == 0) = false := by simp; omega
  have zd : ((d : Int) == 0) = false := by simp; omega
  have yc : ¬ (c : Int) = 0 := by omega
  have yd : ¬ (d : Int) = 0 := by omega
  have xc : ¬ c = 0 := by omega
  have xd : ¬ d = 0 := by omega
  have hwc : IntKind.i64.wrap (ct : Int) = (ct : Int) := by rw [IntKind.wrap_i64]; omega
  clear hk1e hk2e hc hd hsh hr S hi hR hr2 z1 z2 hcc hlc
  unfold RdC RdL at *
  obtain ⟨nm, nt, fl, me, da, ck, su, sz, pk, at_, wd⟩ := r
  dsimp only at q1 q3 HRX HLX
  obtain ⟨nx, hnx⟩ : ∃ x, nm ++ (⟨#[120]⟩ : ByteArray) = x := ⟨_, rfl⟩
  obtain ⟨tx, htx⟩ : ∃ x, L ++ (⟨#[120, 120, 120, 120]⟩ : ByteArray) = x := ⟨_, rfl⟩
  rw [hnx] at HRX HLX
  rw [htx] at HLX
  unfold zeroR at HCA
  unfold recV at *
  unfold recCs at *
  dsimp only at HQ B0 HSH HR1 HCR HLR HCA HLA HRX HLX hn ⊢
  go_enter Try.func7, Try.ntmps7
  go_wp2_with fail
  refine (HSH.out _).mono ?_
  rintro e w1 ⟨rfl, b⟩
  have HQ := hide (rec_kept HQ.out b)
  have B0 := hide (B0.out.trans (b.mono B0.out.size))
  clear b
  obtain ⟨g0, g1, g2, g3, g4, g5, g6, g7, g8, g9, g10⟩ := rec_cells HQ.out
  go_wp2_with fail
  refine (HR1.out _).mono ?_
  rintro e w2 ⟨rfl, b⟩
  have HQ := hide (rec_kept HQ.out b)
  have B0 := hide (B0.out.trans (b.mono B0.out.size))
  clear b
  clear g0 g1 g2 g3 g4 g5 g6 g7 g8 g9 g10
  go_wp2_with fail
  have HC := hide (rec_since HQ.out)
  have hu0 := fun u : Since0 w2 => (HC.out u).1
  have hu1 := fun u : Since0 w2 => (HC.out u).2.1
  have hu2 := fun u : Since0 w2 => (HC.out u).2.2.1
  have hu3 := fun u : Since0 w2 => (HC.out u).2.2.2.1
  have hu4 := fun u : Since0 w2 => (HC.out u).2.2.2.2.1
  have hu5 := fun u : Since0 w2 => (HC.out u).2.2.2.2.2.1
  have hu6 := fun u : Since0 w2 => (HC.out u).2.2.2.2.2.2.1
  have hu7 := fun u : Since0 w2 => (HC.out u).2.2.2.2.2.2.2.1
  have hu8 := fun u : Since0 w2 => (HC.out u).2.2.2.2.2.2.2.2.1
  have hu9 := fun u : Since0 w2 => (HC.out u).2.2.2.2.2.2.2.2.2.1
  have hu10 := fun u : Since0 w2 => (HC.out u).2.2.2.2.2.2.2.2.2.2
  have hne : Nonempty (Since0 w2) := ⟨⟨w2, Below.refl _ _⟩⟩
  refine wp_region_below w2 (Below.refl _ _) (by kernel_rfl) (by kernel_rfl) ?_
  repeat (go_big_quiet_step ((rename_i u; first | exact calls_since u (HCR.out u.1) | exact calls_since u (HLR.out u.1))))
  refine wpQuiet_nil ?_
  intro _ hw'
  obtain ⟨z, rfl⟩ := hw'
  have HQ := hide (rec_kept HQ.out z.2)
  have B0 := hide (B0.out.trans (z.2.mono B0.out.size))
  obtain ⟨w3, hw3⟩ : ∃ x, z.1 = x := ⟨_, rfl⟩
  rw [hw3] at HQ B0 ⊢
  clear hw3 hne HC hu0 hu1 hu2 hu3 hu4 hu5 hu6 hu7 hu8 hu9 hu10
  clear z
  go_wp2_with fail
  refine (HCA.out _ _ (CurAt.made 29 w3 P 0)).mono ?_
  rintro e w4 ⟨k, rfl, ia, ca, hia⟩
  have HQ := hide (k.keep (rec_alloc HQ.out _) (Nat.ne_of_lt (Array.getElem?_eq_some_iff.1 HQ.out).1))
  have B0 := hide (k.bel (B0.out.alloc B0.out.size _) B0.out.size)
  have HQ := hide (rec_alloc HQ.out (.cells #[.string ⟨#[]⟩, .string ⟨#[]⟩, .int .i64 0, .int .i64 0, .int .i64 0, .int .i64 0, .int .i64 0, .int .i64 0, .int .i64 0, .int .i64 0, .bool false] 23))
  have B0 := hide (B0.out.alloc B0.out.size (.cells #[.string ⟨#[]⟩, .string ⟨#[]⟩, .int .i64 0, .int .i64 0, .int .i64 0, .int .i64 0, .int .i64 0, .int .i64 0, .int .i64 0, .int .i64 0, .bool false] 23))
  clear k ca hia HCA
  go_wp2_with fail
  obtain ⟨v, hv⟩ : ∃ v, w4.alloc (.cells #[.string ⟨#[]⟩, .string ⟨#[]⟩, .int .i64 0, .int .i64 0, .int .i64 0, .int .i64 0, .int .i64 0, .int .i64 0, .int .i64 0, .int .i64 0, .bool false] 23) = v := ⟨_, rfl⟩
  rw [hv] at HQ B0 ⊢
  clear hv
  have hu := Try.underlying23
  obtain ⟨rl, hrl⟩ : ∃ rl : List Value, [.string nm, .string nt, .int .i64 fl, .int .i64 me, .int .i64 da, .int .i64 ck, .int .i64 su, .int .i64 sz, .int .i64 pk, .int .i64 at_, .bool wd] = rl := ⟨_, rfl⟩
  have HRG := hide HQ.out
  have hla := HLA.out
  rw [show #[.string nm, .string nt, .int .i64 fl, .int .i64 me, .int .i64 da, .int .i64 ck, .int .i64 su, .int .i64 sz, .int .i64 pk, .int .i64 at_, .bool wd] = rl.toArray by rw [← hrl]] at hla
  rw [show #[.string nm, .string nt, .int .i64 fl, .int .i64 me, .int .i64 da, .int .i64 ck, .int .i64 su, .int .i64 sz, .int .i64 pk, .int .i64 at_, .bool wd] = rl.toArray by rw [← hrl]] at HRG
  have HLA := hide hla
  have hir : (Try.prog.info? 23).map (·.size) = some rl.length := by rw [← hrl]; exact Try.recSize
  have HWV := hide (Array.getElem?_eq_some_iff.1 HQ.out).1
  clear hla hrl
  refine wp_region_noPanic ?_
  refine wp_region_held_drew (S := (fun w' => w'.rangeAt W.heap.size 0 rl)) (by kernel_rfl) ?_ (fun hHeld => ?_)
  · exact ((World.rangeAt_drew _ _ _ _).2 (range_ofL HRG.out))
  refine wpAnyH_take (i := 0) (oi := _) (v := ?_) rfl (by kernel_rfl) (by kernel_rfl) (by kernel_rfl) (fun _ _ _ h => h) (Or.inl ⟨by rfl, ?_⟩) hHeld ?_
  rotate_left
  · (intro w hSw; (try dsimp only at hSw); go_simp; try with_reducible rfl)
  (try simp only [Act.put, List.getElem_toArray, List.getElem_cons_zero, List.setIfInBounds_toArray, List.set_cons_zero, List.set_cons_succ])
  refine wpAnyH_take (i := 1) (oi := _) (v := ?_) rfl (by kernel_rfl) (by kernel_rfl) (by kernel_rfl) (fun _ _ _ h => h) (Or.inl ⟨by rfl, ?_⟩) hHeld ?_
  rotate_left
  · (intro w hSw; (try dsimp only at hSw); go_simp; try with_reducible rfl)
  (try simp only [Act.put, List.getElem_toArray, List.getElem_cons_zero, List.getElem_cons_succ, List.setIfInBounds_toArray, List.set_cons_zero, List.set_cons_succ])
  refine wpAnyH_take (i := 2) (oi := _) (v := ?_) rfl (by kernel_rfl) (by kernel_rfl) (by kernel_rfl) (fun _ _ _ h => h) (Or.inl ⟨by rfl, ?_⟩) hHeld ?_
  rotate_left
  · (intro w hSw; (try dsimp only at hSw); go_simp; try with_reducible rfl)
  (try simp only [Act.put, List.getElem_toArray, List.getElem_cons_zero, List.getElem_cons_succ, List.setIfInBounds_toArray, List.set_cons_zero, List.set_cons_succ])
  refine wpAnyH_take (i := 3) (oi := _) (v := ?_) rfl (by kernel_rfl) (by kernel_rfl) (by kernel_rfl) (fun _ _ _ h => h) (Or.inl ⟨by rfl, ?_⟩) hHeld ?_
  rotate_left
  · (intro w hSw; (try dsimp only at hSw); go_simp; try with_reducible rfl)
  (try simp only [Act.put, List.getElem_toArray, List.getElem_cons_zero, List.getElem_cons_succ, List.setIfInBounds_toArray, List.set_cons_zero, List.set_cons_succ])
  refine wpAnyH_take (i := 4) (oi := _) (v := ?_) rfl (by kernel_rfl) (by kernel_rfl) (by kernel_rfl) (fun _ _ _ h => h) (Or.inl ⟨by rfl, ?_⟩) hHeld ?_
  rotate_left
  · (intro w hSw; (try dsimp only at hSw); go_simp; try with_reducible rfl)
  (try simp only [Act.put, List.getElem_toArray, List.getElem_cons_zero, List.getElem_cons_succ, List.setIfInBounds_toArray, List.set_cons_zero, List.set_cons_succ])
  refine wpAnyH_take (i := 5) (oi := _) (v := ?_) rfl (by kernel_rfl) (by kernel_rfl) (by kernel_rfl) (fun _ _ _ h => h) (Or.inl ⟨by rfl, ?_⟩) hHeld ?_
  rotate_left
  · (intro w hSw; (try dsimp only at hSw); go_simp; try with_reducible rfl)
  (try simp only [Act.put, List.getElem_toArray, List.getElem_cons_zero, List.getElem_cons_succ, List.setIfInBounds_toArray, List.set_cons_zero, List.set_cons_succ])
  refine wpAnyH_take (i := 6) (oi := _) (v := ?_) rfl (by kernel_rfl) (by kernel_rfl) (by kernel_rfl) (fun _ _ _ h => h) (Or.inl ⟨by rfl, ?_⟩) hHeld ?_
  rotate_left
  · (intro w hSw; (try dsimp only at hSw); go_simp; try with_reducible rfl)
  (try simp only [Act.put, List.getElem_toArray, List.getElem_cons_zero, List.getElem_cons_succ, List.setIfInBounds_toArray, List.set_cons_zero, List.set_cons_succ])
  refine wpAnyH_take (i := 7) (oi := _) (v := ?_) rfl (by kernel_rfl) (by kernel_rfl) (by kernel_rfl) (fun _ _ _ h => h) (Or.inl ⟨by rfl, ?_⟩) hHeld ?_
  rotate_left
  · (intro w hSw; (try dsimp only at hSw); go_simp; try with_reducible rfl)
  (try simp only [Act.put, List.getElem_toArray, List.getElem_cons_zero, List.getElem_cons_succ, List.setIfInBounds_toArray, List.set_cons_zero, List.set_cons_succ])
  refine wpAnyH_take (i := 9) (oi := _) (v := _) rfl (by kernel_rfl) (by kernel_rfl) (by kernel_rfl) (fun _ _ _ h => h) (yieldsIf_load_mid (by rfl) _ _ rfl _ _ rfl rl _ (fun _ h => h) hu rfl hir) hHeld ?_
  (try simp only [Act.put, List.getElem_toArray, List.getElem_cons_zero, List.getElem_cons_succ, List.setIfInBounds_toArray, List.set_cons_zero, List.set_cons_succ])
  refine wpAnyH_ready (rs := [8]) (by kernel_rfl) (by simp) ?_
  refine AllReadyH.cons rfl (fun K hK => ?_) AllReadyH.nil
  rw [if_pos (by rfl)]
  go_simp
  have HQ := hide (rec_alloc HQ.out (.cells #[.string Q, .int .i64 0, .bool false] 29))
  have HRG := hide (rec_alloc HRG.out (.cells #[.string Q, .int .i64 0, .bool false] 29))
  have B0 := hide (B0.out.alloc B0.out.size (.cells #[.string Q, .int .i64 0, .bool false] 29))
  refine hK.out _ _ ?_ (fun hNext => ?_)
  · exact ((World.rangeAt_drew _ _ _ _).2 (range_ofL HRG.out))
  clear hK K hHeld
  have hHeld := hNext
  clear hNext
  (try simp only [Act.put, List.getElem_toArray, List.getElem_cons_zero, List.getElem_cons_succ, List.setIfInBounds_toArray, List.set_cons_zero, List.set_cons_succ])
  refine wpAnyH_ready (rs := [10]) (by kernel_rfl) (by simp) ?_
  refine AllReadyH.cons rfl (fun K hK => ?_) AllReadyH.nil
  go_simp
  refine (HLA.out v.heap.size _ (show CurAt 29 (v.alloc (.cells #[.string Q, .int .i64 0, .bool false] 29)).drew v.heap.size Q (0 : Nat) false from CurAt.made 29 v Q 0)).mono ?_
  rintro e w5 ⟨k, rfl⟩
  have hne : W.heap.size ≠ v.heap.size := Nat.ne_of_lt HWV.out
  have HQ := hide (k.keep HQ.out hne)
  have HRG := hide (k.keep HRG.out hne)
  have B0 := hide (k.bel B0.out.drew (Nat.le_of_lt HWV.out))
  clear k hne HLA
  go_wp2_with fail
  refine hK.out _ _ ?_ (fun hNext => ?_)
  · exact (range_ofL HRG.out)
  clear hK K hHeld
  have hHeld := hNext
  clear hNext
  (try simp only [Act.put, List.getElem_toArray, List.getElem_cons_zero, List.getElem_cons_succ, List.setIfInBounds_toArray, List.set_cons_zero, List.set_cons_succ])
  clear HRG
  refine wpAnyH_take (i := 11) (oi := _) (v := ?_) rfl (by kernel_rfl) (by kernel_rfl) (by kernel_rfl) (fun _ _ _ h => h) (Or.inl ⟨by rfl, ?_⟩) hHeld ?_
  rotate_left
  · (intro w hSw; (try dsimp only at hSw); go_simp; try with_reducible rfl)
  (try simp only [Act.put, List.getElem_toArray, List.getElem_cons_zero, List.getElem_cons_succ, List.setIfInBounds_toArray, List.set_cons_zero, List.set_cons_succ])
  refine wpAnyH_done (by kernel_rfl) ?_ _
  refine NoPanic.normal ?_
  obtain ⟨g0, g1, g2, g3, g4, g5, g6, g7, g8, g9, g10⟩ := rec_cells HQ.out
  have y0 := (rec_cells (rec_alloc HQ.out (.cells #[.string nm, .string nt, .int .i64 fl, .int .i64 me, .int .i64 da, .int .i64 ck, .int .i64 su, .int .i64 sz, .int .i64 pk, .int .i64 at_, .bool wd] 23))).1
  go_wp2_with fail
  refine (HRX.out _).mono ?_
  rintro e w6 ⟨rfl, b⟩
  have hb := B0.out.alloc B0.out.size (.cells #[.string nx, .string nt, .int .i64 fl, .int .i64 me, .int .i64 da, .int .i64 ck, .int .i64 su, .int .i64 sz, .int .i64 pk, .int .i64 at_, .bool wd] 23)
  have HQ := hide (rec_kept (rec_new w5 #[.string nx, .string nt, .int .i64 fl, .int .i64 me, .int .i64 da, .int .i64 ck, .int .i64 su, .int .i64 sz, .int .i64 pk, .int .i64 at_, .bool wd] 23) b)
  have B0 := hide (hb.trans (b.mono hb.size))
  clear hb b y0 g0 g1 g2 g3 g4 g5 g6 g7 g8 g9 g10
  obtain ⟨g0, g1, g2, g3, g4, g5, g6, g7, g8, g9, g10⟩ := rec_cells (rec_alloc HQ.out (.cells #[.string tx, .int .i64 0, .bool false] 29))
  go_wp2_with fail
  refine (HLX.out w6.heap.size _ (CurAt.made 29 w6 tx 0)).mono ?_
  rintro e w7 ⟨k, rfl⟩
  have B0 := hide (k.bel (B0.out.alloc B0.out.size (.cells #[.string tx, .int .i64 0, .bool false] 29)) B0.out.size)
  clear k HQ g0 g1 g2 g3 g4 g5 g6 g7 g8 g9 g10
  go_wp2_with fail
  refine (HA.out _).mono ?_
  rintro e w8 ⟨rfl, b⟩
  have B0 := hide (B0.out.trans (b.mono B0.out.size))
  clear b
  go_wp2
  go_ret
  exact ⟨rfl, B0.out⟩

theorem cuts_walk (S : OSpec) (r : Rec) (ct : Nat) (hct : ct < 65536) (hi : RecIn r) (W : World) : Calls Try.prog 7 #[recV r, .int .u16 (ct : Nat)] W fun e w' => e = .returned (.bool true) ∧ Below W.heap.size W w' := by
  cases hsh : shortR r with
  | false => exact cuts_long S r ct hct hi hsh W
  | true => cases hr : rightR r with
    | false => exact cuts_not S r ct hct hi hsh hr W
    | true => exact cuts_right S r ct hct hi hsh hr W

end Go.Proofs.Ytbjjcjcobiokcaa
