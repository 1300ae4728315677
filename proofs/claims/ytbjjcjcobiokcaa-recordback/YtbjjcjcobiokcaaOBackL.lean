/- RecordBack, the walk (printed by tools/mkback14.py). -/
import Derived.Test.YtbjjcjcobiokcaaOMem
namespace Go.Proofs.Ytbjjcjcobiokcaa
open Go.RowKit Go.Lib

/-- The boxes of the last line: the record twice, the two cursors. -/
structure MX (w W : World) (R Y A B : Nat) (rc : Array Value) (t u : ByteArray) (ia ib : Int) : Prop where
  bel : Below W.heap.size W w
  r : w.heap[R]? = some (.cells rc 23 (0, 0))
  y : w.heap[Y]? = some (.cells rc 23 (0, 0))
  a : CurAt 29 w A t ia false
  b : CurAt 29 w B u ib false
  lt : R < B ∧ Y < B ∧ A < B ∧ W.heap.size ≤ B
section
variable {w w' W : World} {R Y A B : Nat} {rc : Array Value} {t u : ByteArray} {ia ib : Int}
theorem MX.below (h : MX w W R Y A B rc t u ia ib) (b : Below w.heap.size w w') : MX w' W R Y A B rc t u ia ib :=
  ⟨h.bel.trans (b.mono h.bel.size), rec_kept h.r b, rec_kept h.y b, h.a.below b h.a.lt, h.b.below b h.b.lt, h.lt⟩
theorem MX.but {j : Int} (h : MX w W R Y A B rc t u ia ib) (k : ButP B w w') (c : CurAt 29 w' B u j false) : MX w' W R Y A B rc t u ia j := by
  have h1 := h.lt
  exact ⟨k.bel h.bel h1.2.2.2, k.keep h.r (by omega), k.keep h.y (by omega), h.a.block (k.blk A h.a.lt (by omega)), c, h1⟩
theorem MX.start (b : Below W.heap.size W w) (r : w.heap[R]? = some (.cells rc 23 (0, 0))) (y : w.heap[Y]? = some (.cells rc 23 (0, 0))) (a : CurAt 29 w A t ia false) :
    MX (w.alloc (.cells #[.string u, .int .i64 0, .bool false] 29)) W R Y A w.heap.size rc t u ia 0 :=
  ⟨b.alloc b.size _, rec_alloc r _, rec_alloc y _, a.alloc _, CurAt.made _ w u 0, (Array.getElem?_eq_some_iff.1 r).1, (Array.getElem?_eq_some_iff.1 y).1, a.lt, b.size⟩
end
theorem ext_slice (s C : ByteArray) (n : Nat) (hn : n ≤ s.size) (h : s.extract 0 n = C) (w : World) : (Instr.slice 9 (.string s) none (some (.int .i64 (n : Nat))) none).run Try.prog w = .ok (.string C) w := by
  rw [run_slice_string_h (P := Try.prog) w 9 s Try.underlying9 .i64 (n : Int) (by omega) (by omega), Int.toNat_natCast, h]
theorem loc_at_app (r : Rec) (s : ByteArray) : LocAt (locS r ++ s) 0 r := ⟨s.data.toList, by rw [List.drop_zero, ba_append_list]⟩
theorem cen_at_app (r : Rec) (hr : RightR r) (s : ByteArray) : CenAt (cenS r ++ s) 0 r := ⟨hr, s.data.toList, by rw [List.drop_zero, ba_append_list]⟩
theorem loc_cap {r : Rec} (h : RightR r) : (locS r).size ≤ 70000 := by
  rw [locS_size]
  have := h.name
  split <;> omega
theorem cen_cap {r : Rec} (h : RightR r) : (cenS r).size ≤ 140000 := by
  rw [cenS_size]
  have := h.name
  have := h.note
  split <;> omega

set_option maxRecDepth 20000 in
set_option maxHeartbeats 16000000 in
theorem back_long (S : OSpec) (r : Rec) (s : ByteArray) (hi : RecIn r) (hsh : shortR r = false) (W : World) : Calls Try.prog 5 #[recV r, .string s] W fun e w' => e = .returned (.bool true) ∧ Below W.heap.size W w' := by
  have HA := hide (fun w => awake14 S w)
  have HSH := hide (fun w => short_any r w)
  have HR1 := hide (fun w => S.right r w hi)
  have B0 := hide ((Below.refl W.heap.size W).alloc (Nat.le_refl _) (.cells (recCs r) 23))
  have HQ := hide (rec_new W (recCs r) 23)
  rw [hsh] at HSH
  clear hsh S hi HR1
  obtain ⟨nm, nt, fl, me, da, ck, su, sz, pk, at_, wd⟩ := r
  unfold recV at *
  unfold recCs at *
  dsimp only at HQ B0 HSH ⊢
  go_enter Try.func5, Try.ntmps5
  go_wp2_with fail
  refine (HSH.out _).mono ?_
  rintro e w1 ⟨rfl, b⟩
  have HQ := hide (rec_kept HQ.out b)
  have B0 := hide (B0.out.trans (b.mono B0.out.size))
  clear b
  go_wp2_with fail
  refine (HA.out _).mono ?_
  rintro e w2 ⟨rfl, b⟩
  have HQ := hide (rec_kept HQ.out b)
  have B0 := hide (B0.out.trans (b.mono B0.out.size))
  clear b
  go_wp2
  go_ret
  exact ⟨rfl, B0.out⟩

set_option maxRecDepth 20000 in
set_option maxHeartbeats 16000000 in
theorem back_far (S : OSpec) (r : Rec) (s : ByteArray) (hi : RecIn r) (hsh : shortR r = true) (hs : ¬ s.size ≤ 500) (W : World) : Calls Try.prog 5 #[recV r, .string s] W fun e w' => e = .returned (.bool true) ∧ Below W.heap.size W w' := by
  have HA := hide (fun w => awake14 S w)
  have HSH := hide (fun w => short_any r w)
  have HR1 := hide (fun w => S.right r w hi)
  have B0 := hide ((Below.refl W.heap.size W).alloc (Nat.le_refl _) (.cells (recCs r) 23))
  have HQ := hide (rec_new W (recCs r) 23)
  have d0 : decide ((500 : Int) < (s.size : Int)) = true := decide_eq_true (by omega)
  have z0 : (500 : Int) < (s.size : Int) := by omega
  rw [hsh] at HSH
  clear hs hsh S hi HR1
  obtain ⟨nm, nt, fl, me, da, ck, su, sz, pk, at_, wd⟩ := r
  unfold recV at *
  unfold recCs at *
  dsimp only at HQ B0 HSH ⊢
  go_enter Try.func5, Try.ntmps5
  go_wp2_with fail
  refine (HSH.out _).mono ?_
  rintro e w1 ⟨rfl, b⟩
  have HQ := hide (rec_kept HQ.out b)
  have B0 := hide (B0.out.trans (b.mono B0.out.size))
  clear b
  go_wp2_with fail
  refine (HA.out _).mono ?_
  rintro e w2 ⟨rfl, b⟩
  have HQ := hide (rec_kept HQ.out b)
  have B0 := hide (B0.out.trans (b.mono B0.out.size))
  clear b
  go_wp2
  go_ret
  exact ⟨rfl, B0.out⟩

theorem most_le (q : Rec) : mostR q ≤ 4611686018427387903 := by
  unfold mostR
  split <;> omega
set_option maxRecDepth 20000 in
set_option maxHeartbeats 16000000 in
theorem back_no_not (S : OSpec) (r : Rec) (s : ByteArray) (hi : RecIn r) (hsh : shortR r = true) (hs : s.size ≤ 500) (hr : rightR r = false) (hq : ∀ q, ¬ CenAt s 0 q) (W : World) : Calls Try.prog 5 #[recV r, .string s] W fun e w' => e = .returned (.bool true) ∧ Below W.heap.size W w' := by
  have HA := hide (fun w => awake14 S w)
  have HSH := hide (fun w => short_any r w)
  have HR1 := hide (fun w => S.right r w hi)
  have B0 := hide ((Below.refl W.heap.size W).alloc (Nat.le_refl _) (.cells (recCs r) 23))
  have HQ := hide (rec_new W (recCs r) 23)
  have d0 : decide ((500 : Int) < (s.size : Int)) = false := decide_eq_false (by omega)
  have z0 : ¬ (500 : Int) < (s.size : Int) := by omega
  rw [hsh] at HSH
  rw [hr] at HR1
  have HC1 := hide (fun p w (h : CurAt 29 w p s (0 : Nat) false) => (S.readC s p 0 w h (Nat.zero_le _) (by omega)).mono fun e w' g => rdC_no g hq)
  unfold RdC at *
  clear hsh hs hr S hi hq
  obtain ⟨nm, nt, fl, me, da, ck, su, sz, pk, at_, wd⟩ := r
  unfold zeroR at HC1
  unfold recV at *
  unfold recCs at *
  dsimp only at HQ B0 HSH HR1 HC1 ⊢
  go_enter Try.func5, Try.ntmps5
  go_wp2_with fail
  refine (HSH.out _).mono ?_
  rintro e w1 ⟨rfl, b⟩
  have HQ := hide (rec_kept HQ.out b)
  have B0 := hide (B0.out.trans (b.mono B0.out.size))
  clear b
  go_wp2_with fail
  refine (HC1.out _ _ (CurAt.made 29 w1 s 0)).mono ?_
  rintro e w2 ⟨k, rfl, ia, ca, hia⟩
  have HQ := hide (k.keep (rec_alloc HQ.out _) (Nat.ne_of_lt (Array.getElem?_eq_some_iff.1 HQ.out).1))
  have B0 := hide (k.bel (B0.out.alloc B0.out.size _) B0.out.size)
  have HXX := hide (rec_new w2 #[.string ⟨#[]⟩, .string ⟨#[]⟩, .int .i64 0, .int .i64 0, .int .i64 0, .int .i64 0, .int .i64 0, .int .i64 0, .int .i64 0, .int .i64 0, .bool false] 23)
  have HCC := hide (ca.alloc (.cells #[.string ⟨#[]⟩, .string ⟨#[]⟩, .int .i64 0, .int .i64 0, .int .i64 0, .int .i64 0, .int .i64 0, .int .i64 0, .int .i64 0, .int .i64 0, .bool false] 23))
  have HQ := hide (rec_alloc HQ.out (.cells #[.string ⟨#[]⟩, .string ⟨#[]⟩, .int .i64 0, .int .i64 0, .int .i64 0, .int .i64 0, .int .i64 0, .int .i64 0, .int .i64 0, .int .i64 0, .bool false] 23))
  have B0 := hide (B0.out.alloc B0.out.size (.cells #[.string ⟨#[]⟩, .string ⟨#[]⟩, .int .i64 0, .int .i64 0, .int .i64 0, .int .i64 0, .int .i64 0, .int .i64 0, .int .i64 0, .int .i64 0, .bool false] 23))
  clear k ca hia HC1
  go_wp2_with fail
  try simp only [List.append]
  obtain ⟨v, hv⟩ : ∃ v, w2.alloc (.cells #[.string ⟨#[]⟩, .string ⟨#[]⟩, .int .i64 0, .int .i64 0, .int .i64 0, .int .i64 0, .int .i64 0, .int .i64 0, .int .i64 0, .int .i64 0, .bool false] 23) = v := ⟨_, rfl⟩
  rw [hv] at HXX HCC HQ B0 ⊢
  obtain ⟨X, hX⟩ : ∃ X, w2.heap.size = X := ⟨_, rfl⟩
  rw [hX] at HXX
  simp only [hX]
  obtain ⟨A, hA⟩ : ∃ A, w1.heap.size = A := ⟨_, rfl⟩
  rw [hA] at HCC
  simp only [hA]
  clear hv hX hA
  have hne : Nonempty (Since0 v) := ⟨⟨v, Below.refl _ _⟩⟩
  refine wp_region_below v (Below.refl _ _) (by kernel_rfl) (by kernel_rfl) ?_
  repeat (go_big_quiet_step (fail))
  refine wpQuiet_nil ?_
  intro _ hw'
  obtain ⟨z, rfl⟩ := hw'
  have HQ := hide (rec_kept HQ.out z.2)
  have B0 := hide (B0.out.trans (z.2.mono B0.out.size))
  obtain ⟨w3, hw3⟩ : ∃ x, z.1 = x := ⟨_, rfl⟩
  rw [hw3] at HQ B0 ⊢
  clear hw3 hne HXX HCC
  clear z
  obtain ⟨g0, g1, g2, g3, g4, g5, g6, g7, g8, g9, g10⟩ := rec_cells HQ.out
  go_wp2_with fail
  refine (HR1.out _).mono ?_
  rintro e w4 ⟨rfl, b⟩
  have HQ := hide (rec_kept HQ.out b)
  have B0 := hide (B0.out.trans (b.mono B0.out.size))
  clear b
  clear g0 g1 g2 g3 g4 g5 g6 g7 g8 g9 g10
  go_wp2_with fail
  refine (HA.out _).mono ?_
  rintro e w5 ⟨rfl, b⟩
  have HQ := hide (rec_kept HQ.out b)
  have B0 := hide (B0.out.trans (b.mono B0.out.size))
  clear b
  go_wp2
  go_ret
  exact ⟨rfl, B0.out⟩

set_option maxRecDepth 20000 in
set_option maxHeartbeats 16000000 in
theorem back_no_right (S : OSpec) (r : Rec) (s : ByteArray) (hi : RecIn r) (hsh : shortR r = true) (hs : s.size ≤ 500) (hr : rightR r = true) (hq : ∀ q, ¬ CenAt s 0 q) (W : World) : Calls Try.prog 5 #[recV r, .string s] W fun e w' => e = .returned (.bool true) ∧ Below W.heap.size W w' := by
  have HA := hide (fun w => awake14 S w)
  have HSH := hide (fun w => short_any r w)
  have HR1 := hide (fun w => S.right r w hi)
  have B0 := hide ((Below.refl W.heap.size W).alloc (Nat.le_refl _) (.cells (recCs r) 23))
  have HQ := hide (rec_new W (recCs r) 23)
  have d0 : decide ((500 : Int) < (s.size : Int)) = false := decide_eq_false (by omega)
  have z0 : ¬ (500 : Int) < (s.size : Int) := by omega
  rw [hsh] at HSH
  rw [hr] at HR1
  have HC1 := hide (fun p w (h : CurAt 29 w p s (0 : Nat) false) => (S.readC s p 0 w h (Nat.zero_le _) (by omega)).mono fun e w' g => rdC_no g hq)
  have hR := (rightR_iff r).1 hr
  have HCR := hide (fun w => S.cent r w hR)
  have HLR := hide (fun w => S.locl r w hR)
  have HCA := hide (fun p w (h : CurAt 29 w p (cenS r ++ s) (0 : Nat) false) => (S.readC (cenS r ++ s) p 0 w h (Nat.zero_le _) (by rw [ba_size_append]; have := cen_cap hR; omega)).mono fun e w' g => rdC_yes g (cen_at_app r hR s) (Nat.zero_le _))
  have HLA := hide (fun p w (h : CurAt 29 w p (locS r ++ s) (0 : Nat) false) => (S.readL (locS r ++ s) p 0 r w h (Nat.zero_le _) (by rw [ba_size_append]; have := loc_cap hR; omega) hR).mono fun e w' g => rdL_yes g (loc_at_app r s))
  rw [Nat.zero_add] at HCA HLA
  have HRE := hide (rec_eql r)
  have hcc := cen_cap hR
  have hlc := loc_cap hR
  obtain ⟨C, hC⟩ : ∃ C, cenS r = C := ⟨_, rfl⟩
  obtain ⟨L, hL⟩ : ∃ L, locS r = L := ⟨_, rfl⟩
  rw [hC] at HCR HCA hcc
  rw [hL] at HLR HLA hlc
  have q1 : (9223372036854775807 < C.size + s.size) = False := eq_false (by omega)
  have q2 : (9223372036854775807 < L.size + s.size) = False := eq_false (by omega)
  obtain ⟨t, ht⟩ : ∃ t, C ++ s = t := ⟨_, rfl⟩
  obtain ⟨u, hu⟩ : ∃ u, L ++ s = u := ⟨_, rfl⟩
  rw [ht] at HCA
  rw [hu] at HLA
  clear hR hC hL hcc hlc
  unfold RdC RdL at *
  clear hsh hs hr S hi hq
  obtain ⟨nm, nt, fl, me, da, ck, su, sz, pk, at_, wd⟩ := r
  unfold zeroR at HC1
  unfold recV at *
  unfold recCs at *
  dsimp only at HQ B0 HSH HR1 HC1 HCR HLR HCA HLA HRE ⊢
  go_enter Try.func5, Try.ntmps5
  go_wp2_with fail
  refine (HSH.out _).mono ?_
  rintro e w1 ⟨rfl, b⟩
  have HQ := hide (rec_kept HQ.out b)
  have B0 := hide (B0.out.trans (b.mono B0.out.size))
  clear b
  go_wp2_with fail
  refine (HC1.out _ _ (CurAt.made 29 w1 s 0)).mono ?_
  rintro e w2 ⟨k, rfl, ia, ca, hia⟩
  have HQ := hide (k.keep (rec_alloc HQ.out _) (Nat.ne_of_lt (Array.getElem?_eq_some_iff.1 HQ.out).1))
  have B0 := hide (k.bel (B0.out.alloc B0.out.size _) B0.out.size)
  have HXX := hide (rec_new w2 #[.string ⟨#[]⟩, .string ⟨#[]⟩, .int .i64 0, .int .i64 0, .int .i64 0, .int .i64 0, .int .i64 0, .int .i64 0, .int .i64 0, .int .i64 0, .bool false] 23)
  have HCC := hide (ca.alloc (.cells #[.string ⟨#[]⟩, .string ⟨#[]⟩, .int .i64 0, .int .i64 0, .int .i64 0, .int .i64 0, .int .i64 0, .int .i64 0, .int .i64 0, .int .i64 0, .bool false] 23))
  have HQ := hide (rec_alloc HQ.out (.cells #[.string ⟨#[]⟩, .string ⟨#[]⟩, .int .i64 0, .int .i64 0, .int .i64 0, .int .i64 0, .int .i64 0, .int .i64 0, .int .i64 0, .int .i64 0, .bool false] 23))
  have B0 := hide (B0.out.alloc B0.out.size (.cells #[.string ⟨#[]⟩, .string ⟨#[]⟩, .int .i64 0, .int .i64 0, .int .i64 0, .int .i64 0, .int .i64 0, .int .i64 0, .int .i64 0, .int .i64 0, .bool false] 23))
  clear k ca hia HC1
  go_wp2_with fail
  try simp only [List.append]
  obtain ⟨v, hv⟩ : ∃ v, w2.alloc (.cells #[.string ⟨#[]⟩, .string ⟨#[]⟩, .int .i64 0, .int .i64 0, .int .i64 0, .int .i64 0, .int .i64 0, .int .i64 0, .int .i64 0, .int .i64 0, .bool false] 23) = v := ⟨_, rfl⟩
  rw [hv] at HXX HCC HQ B0 ⊢
  obtain ⟨X, hX⟩ : ∃ X, w2.heap.size = X := ⟨_, rfl⟩
  rw [hX] at HXX
  simp only [hX]
  obtain ⟨A, hA⟩ : ∃ A, w1.heap.size = A := ⟨_, rfl⟩
  rw [hA] at HCC
  simp only [hA]
  clear hv hX hA
  have hne : Nonempty (Since0 v) := ⟨⟨v, Below.refl _ _⟩⟩
  refine wp_region_below v (Below.refl _ _) (by kernel_rfl) (by kernel_rfl) ?_
  repeat (go_big_quiet_step (fail))
  refine wpQuiet_nil ?_
  intro _ hw'
  obtain ⟨z, rfl⟩ := hw'
  have HQ := hide (rec_kept HQ.out z.2)
  have B0 := hide (B0.out.trans (z.2.mono B0.out.size))
  obtain ⟨w3, hw3⟩ : ∃ x, z.1 = x := ⟨_, rfl⟩
  rw [hw3] at HQ B0 ⊢
  clear hw3 hne HXX HCC
  clear z
  obtain ⟨g0, g1, g2, g3, g4, g5, g6, g7, g8, g9, g10⟩ := rec_cells HQ.out
  go_wp2_with fail
  refine (HR1.out _).mono ?_
  rintro e w4 ⟨rfl, b⟩
  have HQ := hide (rec_kept HQ.out b)
  have B0 := hide (B0.out.trans (b.mono B0.out.size))
  clear b
  clear g0 g1 g2 g3 g4 g5 g6 g7 g8 g9 g10
  obtain ⟨g0, g1, g2, g3, g4, g5, g6, g7, g8, g9, g10⟩ := rec_cells HQ.out
  go_wp2_with fail
  refine (HCR.out _).mono ?_
  rintro e w5 ⟨rfl, b⟩
  have HQ := hide (rec_kept HQ.out b)
  have B0 := hide (B0.out.trans (b.mono B0.out.size))
  clear b
  clear g0 g1 g2 g3 g4 g5 g6 g7 g8 g9 g10
  go_wp2_with fail
  try simp only [ht]
  refine (HCA.out _ _ (CurAt.made 29 w5 t 0)).mono ?_
  rintro e w6 ⟨k, rfl, ia, ca, hia⟩
  obtain rfl := hia (by simp)
  have HQ := hide (k.keep (rec_alloc HQ.out _) (Nat.ne_of_lt (Array.getElem?_eq_some_iff.1 HQ.out).1))
  have B0 := hide (k.bel (B0.out.alloc B0.out.size _) B0.out.size)
  have HY := hide (rec_new w6 #[.string nm, .string nt, .int .i64 fl, .int .i64 me, .int .i64 da, .int .i64 ck, .int .i64 su, .int .i64 sz, .int .i64 pk, .int .i64 at_, .bool wd] 23)
  have HCC := hide (ca.alloc (.cells #[.string nm, .string nt, .int .i64 fl, .int .i64 me, .int .i64 da, .int .i64 ck, .int .i64 su, .int .i64 sz, .int .i64 pk, .int .i64 at_, .bool wd] 23))
  have HQ := hide (rec_alloc HQ.out (.cells #[.string nm, .string nt, .int .i64 fl, .int .i64 me, .int .i64 da, .int .i64 ck, .int .i64 su, .int .i64 sz, .int .i64 pk, .int .i64 at_, .bool wd] 23))
  have B0 := hide (B0.out.alloc B0.out.size (.cells #[.string nm, .string nt, .int .i64 fl, .int .i64 me, .int .i64 da, .int .i64 ck, .int .i64 su, .int .i64 sz, .int .i64 pk, .int .i64 at_, .bool wd] 23))
  clear k ca hia HCA
  obtain ⟨g0, g1, g2, g3, g4, g5, g6, g7, g8, g9, g10⟩ := rec_cells HQ.out
  go_wp2_with fail
  refine (HLR.out _).mono ?_
  rintro e w7 ⟨rfl, b⟩
  have HM := hide (MX.start (u := u) (B0.out.trans (b.mono B0.out.size)) (rec_kept HQ.out b) (rec_kept HY.out b) (HCC.out.below b HCC.out.lt))
  clear b HQ HY HCC B0
  clear g0 g1 g2 g3 g4 g5 g6 g7 g8 g9 g10
  go_wp2_with fail
  try simp only [hu]
  refine (HA.out _).mono ?_
  rintro e w8 ⟨rfl, b⟩
  have HM := hide (HM.out.below b)
  clear b
  obtain ⟨g0, g1, g2, g3, g4, g5, g6, g7, g8, g9, g10⟩ := rec_cells HM.out.r
  obtain ⟨h0, h1, h2, h3, h4, h5, h6, h7, h8, h9, h10⟩ := rec_cells HM.out.y
  have a1 := HM.out.a.c1
  have heq := HRE.out
  go_wp2_with fail
  refine (HLA.out _ _ HM.out.b).mono ?_
  rintro e w9 ⟨⟨k, rfl⟩, cb⟩
  have HM := hide (HM.out.but k cb)
  clear k cb a1 heq g0 g1 g2 g3 g4 g5 g6 g7 g8 g9 g10 h0 h1 h2 h3 h4 h5 h6 h7 h8 h9 h10
  have b1 := HM.out.b.c1
  go_wp2
  go_ret
  exact ⟨rfl, HM.out.bel⟩

set_option maxRecDepth 20000 in
set_option maxHeartbeats 16000000 in
theorem back_yes_not (S : OSpec) (r : Rec) (s : ByteArray) (hi : RecIn r) (hsh : shortR r = true) (hs : s.size ≤ 500) (hr : rightR r = false) (q : Rec) (hq : CenAt s 0 q) (W : World) : Calls Try.prog 5 #[recV r, .string s] W fun e w' => e = .returned (.bool true) ∧ Below W.heap.size W w' := by
  have HA := hide (fun w => awake14 S w)
  have HSH := hide (fun w => short_any r w)
  have HR1 := hide (fun w => S.right r w hi)
  have B0 := hide ((Below.refl W.heap.size W).alloc (Nat.le_refl _) (.cells (recCs r) 23))
  have HQ := hide (rec_new W (recCs r) 23)
  have d0 : decide ((500 : Int) < (s.size : Int)) = false := decide_eq_false (by omega)
  have z0 : ¬ (500 : Int) < (s.size : Int) := by omega
  rw [hsh] at HSH
  rw [hr] at HR1
  have hst := hq.st (Nat.zero_le _)
  have HC1 := hide (fun p w (h : CurAt 29 w p s (0 : Nat) false) => (S.readC s p 0 w h (Nat.zero_le _) (by omega)).mono fun e w' g => rdC_yes g hq (Nat.zero_le _))
  have HCQ := hide (fun w => S.cent q w hq.1)
  have HRQ := hide (fun w => S.right q w ⟨by have := hq.1.flags; unfold IntIn; omega, by have := hq.1.method; unfold IntIn; omega, by have := hq.1.date; unfold IntIn; omega, by have := hq.1.clock; unfold IntIn; omega, by have := hq.1.sum; unfold IntIn; omega, by have := hq.1.size; have := most_le q; unfold IntIn; omega, by have := hq.1.packed; have := most_le q; unfold IntIn; omega, by have := hq.1.at_; have := most_le q; unfold IntIn; omega⟩)
  rw [(rightR_iff q).2 hq.1] at HRQ
  have hsl := ext_slice s (cenS q) (cenS q).size (by have := hst.fit; omega) (by have := hst.ext; rw [Nat.zero_add] at this; exact this)
  obtain ⟨CQ, hCQ⟩ : ∃ C, cenS q = C := ⟨_, rfl⟩
  rw [hCQ] at HCQ HC1 hsl
  rw [Nat.zero_add] at HC1
  unfold RdC at *
  clear hsh hs hr S hi hq hst hCQ
  obtain ⟨nm, nt, fl, me, da, ck, su, sz, pk, at_, wd⟩ := r
  obtain ⟨qn, qt, qf, qm, qd, qc, qs, qz, qp, qa, qw⟩ := q
  unfold recV at *
  unfold recCs at *
  dsimp only at HQ B0 HSH HR1 HC1 HCQ HRQ ⊢
  go_enter Try.func5, Try.ntmps5
  go_wp2_with fail
  refine (HSH.out _).mono ?_
  rintro e w1 ⟨rfl, b⟩
  have HQ := hide (rec_kept HQ.out b)
  have B0 := hide (B0.out.trans (b.mono B0.out.size))
  clear b
  go_wp2_with fail
  refine (HC1.out _ _ (CurAt.made 29 w1 s 0)).mono ?_
  rintro e w2 ⟨k, rfl, ia, ca, hia⟩
  have HQ := hide (k.keep (rec_alloc HQ.out _) (Nat.ne_of_lt (Array.getElem?_eq_some_iff.1 HQ.out).1))
  have B0 := hide (k.bel (B0.out.alloc B0.out.size _) B0.out.size)
  obtain rfl := hia (by simp)
  have HXX := hide (rec_new w2 #[.string qn, .string qt, .int .i64 qf, .int .i64 qm, .int .i64 qd, .int .i64 qc, .int .i64 qs, .int .i64 qz, .int .i64 qp, .int .i64 qa, .bool qw] 23)
  have HCC := hide (ca.alloc (.cells #[.string qn, .string qt, .int .i64 qf, .int .i64 qm, .int .i64 qd, .int .i64 qc, .int .i64 qs, .int .i64 qz, .int .i64 qp, .int .i64 qa, .bool qw] 23))
  have HQ := hide (rec_alloc HQ.out (.cells #[.string qn, .string qt, .int .i64 qf, .int .i64 qm, .int .i64 qd, .int .i64 qc, .int .i64 qs, .int .i64 qz, .int .i64 qp, .int .i64 qa, .bool qw] 23))
  have B0 := hide (B0.out.alloc B0.out.size (.cells #[.string qn, .string qt, .int .i64 qf, .int .i64 qm, .int .i64 qd, .int .i64 qc, .int .i64 qs, .int .i64 qz, .int .i64 qp, .int .i64 qa, .bool qw] 23))
  clear k ca hia HC1
  go_wp2_with fail
  try simp only [List.append]
  obtain ⟨v, hv⟩ : ∃ v, w2.alloc (.cells #[.string qn, .string qt, .int .i64 qf, .int .i64 qm, .int .i64 qd, .int .i64 qc, .int .i64 qs, .int .i64 qz, .int .i64 qp, .int .i64 qa, .bool qw] 23) = v := ⟨_, rfl⟩
  rw [hv] at HXX HCC HQ B0 ⊢
  obtain ⟨X, hX⟩ : ∃ X, w2.heap.size = X := ⟨_, rfl⟩
  rw [hX] at HXX
  simp only [hX]
  obtain ⟨A, hA⟩ : ∃ A, w1.heap.size = A := ⟨_, rfl⟩
  rw [hA] at HCC
  simp only [hA]
  clear hv hX hA
  have HC := hide (rec_since HXX.out)
  have hu0 := fun u : Since0 v => (HC.out u).1
  have hu1 := fun u : Since0 v => (HC.out u).2.1
  have hu2 := fun u : Since0 v => (HC.out u).2.2.1
  have hu3 := fun u : Since0 v => (HC.out u).2.2.2.1
  have hu4 := fun u : Since0 v => (HC.out u).2.2.2.2.1
  have hu5 := fun u : Since0 v => (HC.out u).2.2.2.2.2.1
  have hu6 := fun u : Since0 v => (HC.out u).2.2.2.2.2.2.1
  have hu7 := fun u : Since0 v => (HC.out u).2.2.2.2.2.2.2.1
  have hu8 := fun u : Since0 v => (HC.out u).2.2.2.2.2.2.2.2.1
  have hu9 := fun u : Since0 v => (HC.out u).2.2.2.2.2.2.2.2.2.1
  have hu10 := fun u : Since0 v => (HC.out u).2.2.2.2.2.2.2.2.2.2
  have hc1 := fun u : Since0 v => (HCC.out.below u.2 HCC.out.lt).c1
  have hne : Nonempty (Since0 v) := ⟨⟨v, Below.refl _ _⟩⟩
  refine wp_region_below v (Below.refl _ _) (by kernel_rfl) (by kernel_rfl) ?_
  repeat (go_big_quiet_step ((rename_i u; first | exact calls_since u (HCQ.out u.1) | exact calls_since u (HRQ.out u.1))))
  refine wpQuiet_nil ?_
  intro _ hw'
  obtain ⟨z, rfl⟩ := hw'
  have HQ := hide (rec_kept HQ.out z.2)
  have B0 := hide (B0.out.trans (z.2.mono B0.out.size))
  obtain ⟨w3, hw3⟩ : ∃ x, z.1 = x := ⟨_, rfl⟩
  rw [hw3] at HQ B0 ⊢
  clear hw3 hne HXX HCC hc1 HC HCQ HRQ hu0 hu1 hu2 hu3 hu4 hu5 hu6 hu7 hu8 hu9 hu10
  clear z
  obtain ⟨g0, g1, g2, g3, g4, g5, g6, g7, g8, g9, g10⟩ := rec_cells HQ.out
  go_wp2_with fail
  refine (HR1.out _).mono ?_
  rintro e w4 ⟨rfl, b⟩
  have HQ := hide (rec_kept HQ.out b)
  have B0 := hide (B0.out.trans (b.mono B0.out.size))
  clear b
  clear g0 g1 g2 g3 g4 g5 g6 g7 g8 g9 g10
  go_wp2_with fail
  refine (HA.out _).mono ?_
  rintro e w5 ⟨rfl, b⟩
  have HQ := hide (rec_kept HQ.out b)
  have B0 := hide (B0.out.trans (b.mono B0.out.size))
  clear b
  go_wp2
  go_ret
  exact ⟨rfl, B0.out⟩

set_option maxRecDepth 20000 in
set_option maxHeartbeats 16000000 in
theorem back_yes_right (S : OSpec) (r : Rec) (s : ByteArray) (hi : RecIn r) (hsh : shortR r = true) (hs : s.size ≤ 500) (hr : rightR r = true) (q : Rec) (hq : CenAt s 0 q) (W : World) : Calls Try.prog 5 #[recV r, .string s] W fun e w' => e = .returned (.bool true) ∧ Below W.heap.size W w' := by
  have HA := hide (fun w => awake14 S w)
  have HSH := hide (fun w => short_any r w)
  have HR1 := hide (fun w => S.right r w hi)
  have B0 := hide ((Below.refl W.heap.size W).alloc (Nat.le_refl _) (.cells (recCs r) 23))
  have HQ := hide (rec_new W (recCs r) 23)
  have d0 : decide ((500 : Int) < (s.size : Int)) = false := decide_eq_false (by omega)
  have z0 : ¬ (500 : Int) < (s.size : Int) := by omega
  rw [hsh] at HSH
  rw [hr] at HR1
  have hst := hq.st (Nat.zero_le _)
  have HC1 := hide (fun p w (h : CurAt 29 w p s (0 : Nat) false) => (S.readC s p 0 w h (Nat.zero_le _) (by omega)).mono fun e w' g => rdC_yes g hq (Nat.zero_le _))
  have HCQ := hide (fun w => S.cent q w hq.1)
  have HRQ := hide (fun w => S.right q w ⟨by have := hq.1.flags; unfold IntIn; omega, by have := hq.1.method; unfold IntIn; omega, by have := hq.1.date; unfold IntIn; omega, by have := hq.1.clock; unfold IntIn; omega, by have := hq.1.sum; unfold IntIn; omega, by have := hq.1.size; have := most_le q; unfold IntIn; omega, by have := hq.1.packed; have := most_le q; unfold IntIn; omega, by have := hq.1.at_; have := most_le q; unfold IntIn; omega⟩)
  rw [(rightR_iff q).2 hq.1] at HRQ
  have hsl := ext_slice s (cenS q) (cenS q).size (by have := hst.fit; omega) (by have := hst.ext; rw [Nat.zero_add] at this; exact this)
  obtain ⟨CQ, hCQ⟩ : ∃ C, cenS q = C := ⟨_, rfl⟩
  rw [hCQ] at HCQ HC1 hsl
  rw [Nat.zero_add] at HC1
  have hR := (rightR_iff r).1 hr
  have HCR := hide (fun w => S.cent r w hR)
  have HLR := hide (fun w => S.locl r w hR)
  have HCA := hide (fun p w (h : CurAt 29 w p (cenS r ++ s) (0 : Nat) false) => (S.readC (cenS r ++ s) p 0 w h (Nat.zero_le _) (by rw [ba_size_append]; have := cen_cap hR; omega)).mono fun e w' g => rdC_yes g (cen_at_app r hR s) (Nat.zero_le _))
  have HLA := hide (fun p w (h : CurAt 29 w p (locS r ++ s) (0 : Nat) false) => (S.readL (locS r ++ s) p 0 r w h (Nat.zero_le _) (by rw [ba_size_append]; have := loc_cap hR; omega) hR).mono fun e w' g => rdL_yes g (loc_at_app r s))
  rw [Nat.zero_add] at HCA HLA
  have HRE := hide (rec_eql r)
  have hcc := cen_cap hR
  have hlc := loc_cap hR
  obtain ⟨C, hC⟩ : ∃ C, cenS r = C := ⟨_, rfl⟩
  obtain ⟨L, hL⟩ : ∃ L, locS r = L := ⟨_, rfl⟩
  rw [hC] at HCR HCA hcc
  rw [hL] at HLR HLA hlc
  have q1 : (9223372036854775807 < C.size + s.size) = False := eq_false (by omega)
  have q2 : (9223372036854775807 < L.size + s.size) = False := eq_false (by omega)
  obtain ⟨t, ht⟩ : ∃ t, C ++ s = t := ⟨_, rfl⟩
  obtain ⟨u, hu⟩ : ∃ u, L ++ s = u := ⟨_, rfl⟩
  rw [ht] at HCA
  rw [hu] at HLA
  clear hR hC hL hcc hlc
  unfold RdC RdL at *
  clear hsh hs hr S hi hq hst hCQ
  obtain ⟨nm, nt, fl, me, da, ck, su, sz, pk, at_, wd⟩ := r
  obtain ⟨qn, qt, qf, qm, qd, qc, qs, qz, qp, qa, qw⟩ := q
  unfold recV at *
  unfold recCs at *
  dsimp only at HQ B0 HSH HR1 HC1 HCQ HRQ HCR HLR HCA HLA HRE ⊢
  go_enter Try.func5, Try.ntmps5
  go_wp2_with fail
  refine (HSH.out _).mono ?_
  rintro e w1 ⟨rfl, b⟩
  have HQ := hide (rec_kept HQ.out b)
  have B0 := hide (B0.out.trans (b.mono B0.out.size))
  clear b
  go_wp2_with fail
  refine (HC1.out _ _ (CurAt.made 29 w1 s 0)).mono ?_
  rintro e w2 ⟨k, rfl, ia, ca, hia⟩
  have HQ := hide (k.keep (rec_alloc HQ.out _) (Nat.ne_of_lt (Array.getElem?_eq_some_iff.1 HQ.out).1))
  have B0 := hide (k.bel (B0.out.alloc B0.out.size _) B0.out.size)
  obtain rfl := hia (by simp)
  have HXX := hide (rec_new w2 #[.string qn, .string qt, .int .i64 qf, .int .i64 qm, .int .i64 qd, .int .i64 qc, .int .i64 qs, .int .i64 qz, .int .i64 qp, .int .i64 qa, .bool qw] 23)
  have HCC := hide (ca.alloc (.cells #[.string qn, .string qt, .int .i64 qf, .int .i64 qm, .int .i64 qd, .int .i64 qc, .int .i64 qs, .int .i64 qz, .int .i64 qp, .int .i64 qa, .bool qw] 23))
  have HQ := hide (rec_alloc HQ.out (.cells #[.string qn, .string qt, .int .i64 qf, .int .i64 qm, .int .i64 qd, .int .i64 qc, .int .i64 qs, .int .i64 qz, .int .i64 qp, .int .i64 qa, .bool qw] 23))
  have B0 := hide (B0.out.alloc B0.out.size (.cells #[.string qn, .string qt, .int .i64 qf, .int .i64 qm, .int .i64 qd, .int .i64 qc, .int .i64 qs, .int .i64 qz, .int .i64 qp, .int .i64 qa, .bool qw] 23))
  clear k ca hia HC1
  go_wp2_with fail
  try simp only [List.append]
  obtain ⟨v, hv⟩ : ∃ v, w2.alloc (.cells #[.string qn, .string qt, .int .i64 qf, .int .i64 qm, .int .i64 qd, .int .i64 qc, .int .i64 qs, .int .i64 qz, .int .i64 qp, .int .i64 qa, .bool qw] 23) = v := ⟨_, rfl⟩
  rw [hv] at HXX HCC HQ B0 ⊢
  obtain ⟨X, hX⟩ : ∃ X, w2.heap.size = X := ⟨_, rfl⟩
  rw [hX] at HXX
  simp only [hX]
  obtain ⟨A, hA⟩ : ∃ A, w1.heap.size = A := ⟨_, rfl⟩
  rw [hA] at HCC
  simp only [hA]
  clear hv hX hA
  have HC := hide (rec_since HXX.out)
  have hu0 := fun u : Since0 v => (HC.out u).1
  have hu1 := fun u : Since0 v => (HC.out u).2.1
  have hu2 := fun u : Since0 v => (HC.out u).2.2.1
  have hu3 := fun u : Since0 v => (HC.out u).2.2.2.1
  have hu4 := fun u : Since0 v => (HC.out u).2.2.2.2.1
  have hu5 := fun u : Since0 v => (HC.out u).2.2.2.2.2.1
  have hu6 := fun u : Since0 v => (HC.out u).2.2.2.2.2.2.1
  have hu7 := fun u : Since0 v => (HC.out u).2.2.2.2.2.2.2.1
  have hu8 := fun u : Since0 v => (HC.out u).2.2.2.2.2.2.2.2.1
  have hu9 := fun u : Since0 v => (HC.out u).2.2.2.2.2.2.2.2.2.1
  have hu10 := fun u : Since0 v => (HC.out u).2.2.2.2.2.2.2.2.2.2
  have hc1 := fun u : Since0 v => (HCC.out.below u.2 HCC.out.lt).c1
  have hne : Nonempty (Since0 v) := ⟨⟨v, Below.refl _ _⟩⟩
  refine wp_region_below v (Below.refl _ _) (by kernel_rfl) (by kernel_rfl) ?_
  repeat (go_big_quiet_step ((rename_i u; first | exact calls_since u (HCQ.out u.1) | exact calls_since u (HRQ.out u.1))))
  refine wpQuiet_nil ?_
  intro _ hw'
  obtain ⟨z, rfl⟩ := hw'
  have HQ := hide (rec_kept HQ.out z.2)
  have B0 := hide (B0.out.trans (z.2.mono B0.out.size))
  obtain ⟨w3, hw3⟩ : ∃ x, z.1 = x := ⟨_, rfl⟩
  rw [hw3] at HQ B0 ⊢
  clear hw3 hne HXX HCC hc1 HC HCQ HRQ hu0 hu1 hu2 hu3 hu4 hu5 hu6 hu7 hu8 hu9 hu10
  clear z
  obtain ⟨g0, g1, g2, g3, g4, g5, g6, g7, g8, g9, g10⟩ := rec_cells HQ.out
  go_wp2_with fail
  refine (HR1.out _).mono ?_
  rintro e w4 ⟨rfl, b⟩
  have HQ := hide (rec_kept HQ.out b)
  have B0 := hide (B0.out.trans (b.mono B0.out.size))
  clear b
  clear g0 g1 g2 g3 g4 g5 g6 g7 g8 g9 g10
  obtain ⟨g0, g1, g2, g3, g4, g5, g6, g7, g8, g9, g10⟩ := rec_cells HQ.out
  go_wp2_with fail
  refine (HCR.out _).mono ?_
  rintro e w5 ⟨rfl, b⟩
  have HQ := hide (rec_kept HQ.out b)
  have B0 := hide (B0.out.trans (b.mono B0.out.size))
  clear b
  clear g0 g1 g2 g3 g4 g5 g6 g7 g8 g9 g10
  go_wp2_with fail
  try simp only [ht]
  refine (HCA.out _ _ (CurAt.made 29 w5 t 0)).mono ?_
  rintro e w6 ⟨k, rfl, ia, ca, hia⟩
  obtain rfl := hia (by simp)
  have HQ := hide (k.keep (rec_alloc HQ.out _) (Nat.ne_of_lt (Array.getElem?_eq_some_iff.1 HQ.out).1))
  have B0 := hide (k.bel (B0.out.alloc B0.out.size _) B0.out.size)
  have HY := hide (rec_new w6 #[.string nm, .string nt, .int .i64 fl, .int .i64 me, .int .i64 da, .int .i64 ck, .int .i64 su, .int .i64 sz, .int .i64 pk, .int .i64 at_, .bool wd] 23)
  have HCC := hide (ca.alloc (.cells #[.string nm, .string nt, .int .i64 fl, .int .i64 me, .int .i64 da, .int .i64 ck, .int .i64 su, .int .i64 sz, .int .i64 pk, .int .i64 at_, .bool wd] 23))
  have HQ := hide (rec_alloc HQ.out (.cells #[.string nm, .string nt, .int .i64 fl, .int .i64 me, .int .i64 da, .int .i64 ck, .int .i64 su, .int .i64 sz, .int .i64 pk, .int .i64 at_, .bool wd] 23))
  have B0 := hide (B0.out.alloc B0.out.size (.cells #[.string nm, .string nt, .int .i64 fl, .int .i64 me, .int .i64 da, .int .i64 ck, .int .i64 su, .int .i64 sz, .int .i64 pk, .int .i64 at_, .bool wd] 23))
  clear k ca hia HCA
  obtain ⟨g0, g1, g2, g3, g4, g5, g6, g7, g8, g9, g10⟩ := rec_cells HQ.out
  go_wp2_with fail
  refine (HLR.out _).mono ?_
  rintro e w7 ⟨rfl, b⟩
  have HM := hide (MX.start (u := u) (B0.out.trans (b.mono B0.out.size)) (rec_kept HQ.out b) (rec_kept HY.out b) (HCC.out.below b HCC.out.lt))
  clear b HQ HY HCC B0
  clear g0 g1 g2 g3 g4 g5 g6 g7 g8 g9 g10
  go_wp2_with fail
  try simp only [hu]
  refine (HA.out _).mono ?_
  rintro e w8 ⟨rfl, b⟩
  have HM := hide (HM.out.below b)
  clear b
  obtain ⟨g0, g1, g2, g3, g4, g5, g6, g7, g8, g9, g10⟩ := rec_cells HM.out.r
  obtain ⟨h0, h1, h2, h3, h4, h5, h6, h7, h8, h9, h10⟩ := rec_cells HM.out.y
  have a1 := HM.out.a.c1
  have heq := HRE.out
  go_wp2_with fail
  refine (HLA.out _ _ HM.out.b).mono ?_
  rintro e w9 ⟨⟨k, rfl⟩, cb⟩
  have HM := hide (HM.out.but k cb)
  clear k cb a1 heq g0 g1 g2 g3 g4 g5 g6 g7 g8 g9 g10 h0 h1 h2 h3 h4 h5 h6 h7 h8 h9 h10
  have b1 := HM.out.b.c1
  go_wp2
  go_ret
  exact ⟨rfl, HM.out.bel⟩

theorem back_walk (S : OSpec) (r : Rec) (s : ByteArray) (hi : RecIn r) (W : World) : Calls Try.prog 5 #[recV r, .string s] W fun e w' => e = .returned (.bool true) ∧ Below W.heap.size W w' := by
  cases hsh : shortR r with
  | false => exact back_long S r s hi hsh W
  | true =>
    by_cases hs : s.size ≤ 500
    · by_cases h : ∃ q, CenAt s 0 q
      · obtain ⟨q, hq⟩ := h
        cases hr : rightR r with
        | false => exact back_yes_not S r s hi hsh hs hr q hq W
        | true => exact back_yes_right S r s hi hsh hs hr q hq W
      · have hno : ∀ q, ¬ CenAt s 0 q := fun q hq => h ⟨q, hq⟩
        cases hr : rightR r with
        | false => exact back_no_not S r s hi hsh hs hr hno W
        | true => exact back_no_right S r s hi hsh hs hr hno W
    · exact back_far S r s hi hsh hs W

end Go.Proofs.Ytbjjcjcobiokcaa
