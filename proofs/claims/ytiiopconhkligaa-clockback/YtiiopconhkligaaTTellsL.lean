/- ClockTells, the walk. -/
import Derived.Test.YtiiopconhkligaaTSpec
import Derived.Test.YtiiopconhkligaaTRef2
namespace Go.Proofs.Ytiiopconhkligaa
open Go.RowKit

set_option maxRecDepth 20000 in
set_option maxHeartbeats 16000000 in
theorem clockTells_walk (S : TSpec) (t : Tm) (date time : Int) (ht : TIn t) (hd : I64 date) (hc : I64 time) (W : World) :
    Calls Try.prog 3 #[tmV t, .int .i64 date, .int .i64 time] W fun e w' => e = .returned (.bool true) ∧ Below W.heap.size W w' := by
  have HA := hide (fun w => awake13 S w)
  have HP1 := hide (fun w => S.pack t w ht)
  have HP2 := hide (fun w => qpack13 t w)
  have HO1 := hide (fun w => S.opens date time w hd hc)
  have HO2 := hide (fun w => qopen13 date time w)
  have HR1 := hide (fun w => S.right t w ht)
  have HR2 := hide (fun w => qright13 t w)
  have HD1 := hide (fun w => S.days t.y t.mo w ht.1 ht.2.1)
  have HD2 := hide (fun w => (qdays13 t.y t.mo w).mono fun e w' g => (⟨g.1, g.2 ▸ Below.refl _ _⟩ : e = .returned (.int .i64 (daysI t.y t.mo)) ∧ Below w.heap.size w w'))
  clear S ht hd hc
  obtain ⟨A, hA⟩ : ∃ A, rightT t = A := ⟨_, rfl⟩
  obtain ⟨D, hD⟩ : ∃ A, daysI t.y t.mo = A := ⟨_, rfl⟩
  obtain ⟨p, hp⟩ : ∃ A, (if rightT t = true then dateT t else 0) = A := ⟨_, rfl⟩
  obtain ⟨q, hq⟩ : ∃ A, (if rightT t = true then clockT t else 0) = A := ⟨_, rfl⟩
  obtain ⟨Z, hZ⟩ : ∃ A, okO date time = A := ⟨_, rfl⟩
  obtain ⟨O, hO⟩ : ∃ A, (if okO date time = true then openT date time else zeroT) = A := ⟨_, rfl⟩
  simp only [hp, hq, hO] at HP1 HP2 HO1 HO2
  simp only [hA, hZ, hD] at HP1 HP2 HO1 HO2 HR1 HR2 HD1 HD2
  clear hA hD hp hq hZ hO
  obtain ⟨y, mo, d, h, mi, s⟩ := t
  obtain ⟨o1, o2, o3, o4, o5, o6⟩ := O
  unfold tmV at *
  dsimp only at HP1 HP2 HO1 HO2 HR1 HR2 HD1 HD2 ⊢
  go_enter Try.func3, Try.ntmps3
  go_wp2_with fail
  refine (HP1.out _).mono ?_
  rintro e w1 ⟨rfl, b1⟩
  have T1 := box_kept (box_new W _ _) b1
  obtain ⟨t0, t1, t2, t3, t4, t5⟩ := box_cells T1
  have HT1 := hide T1
  clear T1
  have B1 := hide b1
  clear b1
  go_wp2_with fail
  refine (HP2.out _).mono ?_
  rintro e w2 ⟨rfl, b2⟩
  have HT2 := hide (box_kept HT1.out b2)
  have B2 := hide b2
  clear b2 t0 t1 t2 t3 t4 t5
  go_wp2_with fail
  refine (HO1.out _).mono ?_
  rintro e w3 ⟨rfl, b3⟩
  have HT3 := hide (box_kept HT2.out b3)
  have B3 := hide b3
  clear b3
  have BE := hide ((Below.refl _ w3).alloc (Nat.le_refl _) (.cells #[.int .i64 o1, .int .i64 o2, .int .i64 o3, .int .i64 o4, .int .i64 o5, .int .i64 o6] 23))
  have HE3 := hide (box_new w3 #[.int .i64 o1, .int .i64 o2, .int .i64 o3, .int .i64 o4, .int .i64 o5, .int .i64 o6] 23)
  have HT3' := hide (box_alloc HT3.out (.cells #[.int .i64 o1, .int .i64 o2, .int .i64 o3, .int .i64 o4, .int .i64 o5, .int .i64 o6] 23))
  go_wp2_with fail
  generalize hv : w3.alloc (.cells #[.int .i64 o1, .int .i64 o2, .int .i64 o3, .int .i64 o4, .int .i64 o5, .int .i64 o6] 23) = v3 at *
  clear hv
  refine (HO2.out _).mono ?_
  rintro e w4 ⟨rfl, b4⟩
  have HT4 := hide (box_kept HT3'.out b4)
  have HE4 := hide (box_kept HE3.out b4)
  have B4 := hide b4
  clear b4
  have BF := hide ((Below.refl _ w4).alloc (Nat.le_refl _) (.cells #[.int .i64 o1, .int .i64 o2, .int .i64 o3, .int .i64 o4, .int .i64 o5, .int .i64 o6] 23))
  have HF5 := hide (box_new w4 #[.int .i64 o1, .int .i64 o2, .int .i64 o3, .int .i64 o4, .int .i64 o5, .int .i64 o6] 23)
  have HT5 := hide (box_alloc HT4.out (.cells #[.int .i64 o1, .int .i64 o2, .int .i64 o3, .int .i64 o4, .int .i64 o5, .int .i64 o6] 23))
  have HE5 := hide (box_alloc HE4.out (.cells #[.int .i64 o1, .int .i64 o2, .int .i64 o3, .int .i64 o4, .int .i64 o5, .int .i64 o6] 23))
  clear HT1 HT2 HT3 HT3' HT4 HE3 HE4
  go_wp2_with fail
  generalize hv : w4.alloc (.cells #[.int .i64 o1, .int .i64 o2, .int .i64 o3, .int .i64 o4, .int .i64 o5, .int .i64 o6] 23) = v5 at *
  clear hv
  have hut0 := fun u : Since0 v5 => (since_box HT5.out u).1
  have hut1 := fun u : Since0 v5 => (since_box HT5.out u).2.1
  have hut2 := fun u : Since0 v5 => (since_box HT5.out u).2.2.1
  have hut3 := fun u : Since0 v5 => (since_box HT5.out u).2.2.2.1
  have hut4 := fun u : Since0 v5 => (since_box HT5.out u).2.2.2.2.1
  have hut5 := fun u : Since0 v5 => (since_box HT5.out u).2.2.2.2.2
  have hue0 := fun u : Since0 v5 => (since_box HE5.out u).1
  have hue1 := fun u : Since0 v5 => (since_box HE5.out u).2.1
  have hue2 := fun u : Since0 v5 => (since_box HE5.out u).2.2.1
  have hue3 := fun u : Since0 v5 => (since_box HE5.out u).2.2.2.1
  have hue4 := fun u : Since0 v5 => (since_box HE5.out u).2.2.2.2.1
  have hue5 := fun u : Since0 v5 => (since_box HE5.out u).2.2.2.2.2
  have huf0 := fun u : Since0 v5 => (since_box HF5.out u).1
  have huf1 := fun u : Since0 v5 => (since_box HF5.out u).2.1
  have huf2 := fun u : Since0 v5 => (since_box HF5.out u).2.2.1
  have huf3 := fun u : Since0 v5 => (since_box HF5.out u).2.2.2.1
  have huf4 := fun u : Since0 v5 => (since_box HF5.out u).2.2.2.2.1
  have huf5 := fun u : Since0 v5 => (since_box HF5.out u).2.2.2.2.2
  have hne : Nonempty (Since0 v5) := ⟨⟨v5, Below.refl _ _⟩⟩
  try simp only [List.append]
  refine wp_region_below v5 (Below.refl _ _) (by kernel_rfl) (by kernel_rfl) ?_
  repeat (go_big_quiet_step ((rename_i u; first | exact calls_since u (HA.out u.1) | exact calls_since u (HR1.out u.1) | exact calls_since u (HR2.out u.1) | exact calls_since u (HD1.out u.1) | exact calls_since u (HD2.out u.1))))
  refine wpQuiet_nil ?_
  intro _ hw'
  obtain ⟨u, rfl⟩ := hw'
  clear hut0 hut1 hut2 hut3 hut4 hut5 hue0 hue1 hue2 hue3 hue4 hue5 huf0 huf1 huf2 huf3 huf4 huf5 hne
  go_wp2
  go_ret
  refine ⟨rfl, ?_⟩
  have c0 := (Below.refl _ W).alloc (Nat.le_refl _) (.cells #[.int .i64 y, .int .i64 mo, .int .i64 d, .int .i64 h, .int .i64 mi, .int .i64 s] 23)
  have c1 := c0.trans (B1.out.mono c0.size)
  have c2 := c1.trans (B2.out.mono c1.size)
  have c3 := c2.trans (B3.out.mono c2.size)
  have ce := c3.trans (BE.out.mono c3.size)
  have c4 := ce.trans (B4.out.mono ce.size)
  have cf := c4.trans (BF.out.mono c4.size)
  exact cf.trans (u.2.mono cf.size)

end Go.Proofs.Ytiiopconhkligaa
