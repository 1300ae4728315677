/- The code's ReadCentral and ReadLocal of layer 14, and all its contracts together (printed by tools/mkcode14d.py). -/
import Derived.Test.YtbjjcjcobiokcaaOCodeR
import Derived.Test.YtbjjcjcobiokcaaOCodeB
import Derived.Test.YtbjjcjcobiokcaaOCodeD
import Derived.Test.YtbjjcjcobiokcaaOCodeC
import Derived.Test.YtbjjcjcobiokcaaORefE
namespace Go.Proofs.Ytbjjcjcobiokcaa
open Go.RowKit Go.Lib

/-- Behind 'taken': the result's box, the record's. -/
theorem RW.took {T : TypeId} {W w1 : World} {p : Nat} {s : ByteArray} {i q : Int} {b : Bool} (cs : Array Value) (c : CurAt T W p s i false) (k : CurAt T w1 p s q b)
    (h1 : w1.os = (W.alloc (.cells (recCs zeroR) 23)).os) (h2 : w1.tape = (W.alloc (.cells (recCs zeroR) 23)).tape) (h3 : w1.output = (W.alloc (.cells (recCs zeroR) 23)).output)
    (h4 : (W.alloc (.cells (recCs zeroR) 23)).heap.size ≤ w1.heap.size) (h5 : ∀ k, k < (W.alloc (.cells (recCs zeroR) 23)).heap.size → k ≠ p → w1.heap[k]? = (W.alloc (.cells (recCs zeroR) 23)).heap[k]?) :
    RW T (w1.alloc (.cells cs 23)) W p s q b W.heap.size w1.heap.size cs := by
  have hp := c.lt
  have s1 : (W.alloc (.cells (recCs zeroR) 23)).heap.size = W.heap.size + 1 := by show (W.heap.push _).size = _; simp
  have s3 : (w1.alloc (.cells cs 23)).heap.size = w1.heap.size + 1 := by show (w1.heap.push _).size = _; simp
  have bb : Below w1.heap.size w1 (w1.alloc (.cells cs 23)) := (Below.refl _ _).alloc (Nat.le_refl _) _
  have ba : Below W.heap.size W (W.alloc (.cells (recCs zeroR) 23)) := (Below.refl _ _).alloc (Nat.le_refl _) _
  refine ⟨k.alloc _, h1, h2, h3, by omega, fun q hq hne => ?_, ?_, rec_new _ _ _, Nat.le_refl _, by omega, by omega, hp⟩
  · rw [bb.block q (by omega), h5 q (by omega) hne, ba.block q hq]
  · rw [bb.block _ (by omega), h5 _ (by omega) (by omega)]
    exact rec_new _ _ _

set_option maxRecDepth 20000 in
set_option maxHeartbeats 16000000 in
theorem readC14 (s : ByteArray) (p i : Nat) (W : World) (h : CurAt 29 W p s (i : Nat) false) (hi : i ≤ s.size) (hs : s.size ≤ 1000000000) : Calls Try.prog 18 #[.pointer (some ⟨p, 0, none⟩)] W fun e w' => ReadCP 29 s p i W e w' := by
  have H := hide h
  have HA := hide (h.alloc (.cells (recCs zeroR) 23))
  have HT := hide (taken14 s p i (W.alloc (.cells (recCs zeroR) 23)) HA.out hi hs)
  have _c1 : (W.alloc (.cells #[.string ⟨#[]⟩, .string ⟨#[]⟩, .int .i64 0, .int .i64 0, .int .i64 0, .int .i64 0, .int .i64 0, .int .i64 0, .int .i64 0, .int .i64 0, .bool false] 23)).cell? ⟨p, 1, none⟩ = some (.int .i64 (i : Nat)) := HA.out.c1
  have hsz : s.size ≤ 1000000000000 := by omega
  clear h hs
  go_enter Try.func18, Try.ntmps18
  go_wp2_with fail
  refine HT.out.mono ?_
  rintro e w1 ⟨k1, k2, k3, k4, k5, r, q, b, rfl, hc, hq, he⟩
  have H1 := hide (RW.took (recCs r) H.out hc k1 k2 k3 k4 k5)
  have HEQ := hide he
  have hq1 := hq.1
  have hq2 := hq.2
  clear hc k1 k2 k3 k4 k5 he hq HT HA _c1 H
  obtain ⟨Q, hQ⟩ : ∃ x, W.heap.size = x := ⟨_, rfl⟩
  obtain ⟨S, hS⟩ : ∃ x, w1.heap.size = x := ⟨_, rfl⟩
  have HRR := hide (fun w => right14 r w)
  obtain ⟨nm, nt, fl, me, da, ck, su, sz, pk, at_, wd⟩ := r
  unfold recV at *
  unfold recCs at H1 HRR ⊢
  dsimp only at H1 HRR HEQ ⊢
  obtain ⟨v1, hv1⟩ : ∃ x, w1.alloc (.cells #[.string nm, .string nt, .int .i64 fl, .int .i64 me, .int .i64 da, .int .i64 ck, .int .i64 su, .int .i64 sz, .int .i64 pk, .int .i64 at_, .bool wd] 23) = x := ⟨_, rfl⟩
  rw [hQ, hS, hv1] at H1
  go_wp2_with fail
  try simp only [hQ]
  try simp only [hS]
  try simp only [hv1]
  clear hQ hS hv1
  cases b with
  | true =>
    clear HRR
    have HC := hide (rec_since H1.out.ra)
    have hu0 := fun u : Since0 v1 => (HC.out u).1
    have hu1 := fun u : Since0 v1 => (HC.out u).2.1
    have hu2 := fun u : Since0 v1 => (HC.out u).2.2.1
    have hu3 := fun u : Since0 v1 => (HC.out u).2.2.2.1
    have hu4 := fun u : Since0 v1 => (HC.out u).2.2.2.2.1
    have hu5 := fun u : Since0 v1 => (HC.out u).2.2.2.2.2.1
    have hu6 := fun u : Since0 v1 => (HC.out u).2.2.2.2.2.2.1
    have hu7 := fun u : Since0 v1 => (HC.out u).2.2.2.2.2.2.2.1
    have hu8 := fun u : Since0 v1 => (HC.out u).2.2.2.2.2.2.2.2.1
    have hu9 := fun u : Since0 v1 => (HC.out u).2.2.2.2.2.2.2.2.2.1
    have hu10 := fun u : Since0 v1 => (HC.out u).2.2.2.2.2.2.2.2.2.2
    have hp0 := fun u : Since0 v1 => (u.2.cell (p := ⟨p, 0, none⟩) H1.out.cur.lt).trans H1.out.cur.c0
    have hp1 := fun u : Since0 v1 => (u.2.cell (p := ⟨p, 1, none⟩) H1.out.cur.lt).trans H1.out.cur.c1
    have hp2 := fun u : Since0 v1 => (u.2.cell (p := ⟨p, 2, none⟩) H1.out.cur.lt).trans H1.out.cur.c2
    have hne : Nonempty (Since0 v1) := ⟨⟨v1, Below.refl _ _⟩⟩
    try simp only [List.append]
    refine wp_region_below v1 (Below.refl _ _) (by kernel_rfl) (by kernel_rfl) ?_
    repeat (go_big_quiet_step (fail))
    refine wpQuiet_nil ?_
    intro _ hw'
    obtain ⟨u, rfl⟩ := hw'
    clear hu0 hu1 hu2 hu3 hu4 hu5 hu6 hu7 hu8 hu9 hu10 hp0 hp1 hp2 hne
    have HU := hide (H1.out.below u.2)
    have HNO := hide (show ∀ r, ¬ CenAt s i r from fun r hr => Bool.noConfusion ((HEQ.out r hr).1 : true = false))
    obtain ⟨u5, hu5⟩ : ∃ x, u.1 = x := ⟨_, rfl⟩
    rw [hu5] at HU
    simp only [hu5]
    clear hu5 HC u
    have hcb := HU.out.cur.c2
    have hfb := HU.out.cur.fz 2
    have hqz : u5.heap[Q]? = some (.cells #[.string ⟨#[]⟩, .string ⟨#[]⟩, .int .i64 0, .int .i64 0, .int .i64 0, .int .i64 0, .int .i64 0, .int .i64 0, .int .i64 0, .int .i64 0, .bool false] 23 (0, 0)) := HU.out.qa
    have hqp : (u5.setCell ⟨p, 2, none⟩ (.bool true)).heap[Q]? = some (.cells #[.string ⟨#[]⟩, .string ⟨#[]⟩, .int .i64 0, .int .i64 0, .int .i64 0, .int .i64 0, .int .i64 0, .int .i64 0, .int .i64 0, .int .i64 0, .bool false] 23 (0, 0)) := by rw [Below.heap_setCell _ _ _ _ (show Q ≠ p by have := HU.out.lq; have := HU.out.pw; omega)]; exact hqz
    have HQP := hide hqp
    obtain ⟨g0, g1, g2, g3, g4, g5, g6, g7, g8, g9, g10⟩ := rec_cells hqp
    have z0 := rec_frozen hqp 0
    have z1 := rec_frozen hqp 1
    have z2 := rec_frozen hqp 2
    have z3 := rec_frozen hqp 3
    have z4 := rec_frozen hqp 4
    have z5 := rec_frozen hqp 5
    have z6 := rec_frozen hqp 6
    have z7 := rec_frozen hqp 7
    have z8 := rec_frozen hqp 8
    have z9 := rec_frozen hqp 9
    have z10 := rec_frozen hqp 10
    clear hqz hqp
    go_wp2
    (try simp only [Exit.inBlock, Exit.then])
    refine bodyPost_ret (results_boxO rfl _ _ _ _ _ rfl (set_eleven _ _ _ _ _ _ _ _ _ _ _ _ _ _ _ _ _ _ _ _ _ _ _ _ _ HQP.out) Try.underlying23 rfl) rfl ?_
    exact HU.out.no HNO.out rfl (set11_only _ _ _ _ _ _ _ _ _ _ _ _ _)
  | false =>
    by_cases hR : RightR (⟨nm, nt, fl, me, da, ck, su, sz, pk, at_, wd⟩ : Rec)
    case neg =>
      have HRT := hide (fun w => show Calls Try.prog 10 #[.agg #[.string nm, .string nt, .int .i64 fl, .int .i64 me, .int .i64 da, .int .i64 ck, .int .i64 su, .int .i64 sz, .int .i64 pk, .int .i64 at_, .bool wd]] w fun e w' => e = .returned (.bool false) ∧ Below w.heap.size w w' from by
        have hq := HRR.out w
        rw [rightR_no hR] at hq
        exact hq)
      clear HRR
      have HC := hide (rec_since H1.out.ra)
      have hu0 := fun u : Since0 v1 => (HC.out u).1
      have hu1 := fun u : Since0 v1 => (HC.out u).2.1
      have hu2 := fun u : Since0 v1 => (HC.out u).2.2.1
      have hu3 := fun u : Since0 v1 => (HC.out u).2.2.2.1
      have hu4 := fun u : Since0 v1 => (HC.out u).2.2.2.2.1
      have hu5 := fun u : Since0 v1 => (HC.out u).2.2.2.2.2.1
      have hu6 := fun u : Since0 v1 => (HC.out u).2.2.2.2.2.2.1
      have hu7 := fun u : Since0 v1 => (HC.out u).2.2.2.2.2.2.2.1
      have hu8 := fun u : Since0 v1 => (HC.out u).2.2.2.2.2.2.2.2.1
      have hu9 := fun u : Since0 v1 => (HC.out u).2.2.2.2.2.2.2.2.2.1
      have hu10 := fun u : Since0 v1 => (HC.out u).2.2.2.2.2.2.2.2.2.2
      have hp0 := fun u : Since0 v1 => (u.2.cell (p := ⟨p, 0, none⟩) H1.out.cur.lt).trans H1.out.cur.c0
      have hp1 := fun u : Since0 v1 => (u.2.cell (p := ⟨p, 1, none⟩) H1.out.cur.lt).trans H1.out.cur.c1
      have hp2 := fun u : Since0 v1 => (u.2.cell (p := ⟨p, 2, none⟩) H1.out.cur.lt).trans H1.out.cur.c2
      have hne : Nonempty (Since0 v1) := ⟨⟨v1, Below.refl _ _⟩⟩
      try simp only [List.append]
      refine wp_region_below v1 (Below.refl _ _) (by kernel_rfl) (by kernel_rfl) ?_
      repeat (go_big_quiet_step ((rename_i u; first | exact calls_since u (HRT.out u.1))))
      refine wpQuiet_nil ?_
      intro _ hw'
      obtain ⟨u, rfl⟩ := hw'
      clear hu0 hu1 hu2 hu3 hu4 hu5 hu6 hu7 hu8 hu9 hu10 hp0 hp1 hp2 hne
      have HU := hide (H1.out.below u.2)
      have HNO := hide (show ∀ r, ¬ CenAt s i r from fun r hr => hR ((HEQ.out r hr).2.1 ▸ hr.1))
      obtain ⟨u5, hu5⟩ : ∃ x, u.1 = x := ⟨_, rfl⟩
      rw [hu5] at HU
      simp only [hu5]
      clear hu5 HC u
      have hcb := HU.out.cur.c2
      have hfb := HU.out.cur.fz 2
      have hqz : u5.heap[Q]? = some (.cells #[.string ⟨#[]⟩, .string ⟨#[]⟩, .int .i64 0, .int .i64 0, .int .i64 0, .int .i64 0, .int .i64 0, .int .i64 0, .int .i64 0, .int .i64 0, .bool false] 23 (0, 0)) := HU.out.qa
      have hqp : (u5.setCell ⟨p, 2, none⟩ (.bool true)).heap[Q]? = some (.cells #[.string ⟨#[]⟩, .string ⟨#[]⟩, .int .i64 0, .int .i64 0, .int .i64 0, .int .i64 0, .int .i64 0, .int .i64 0, .int .i64 0, .int .i64 0, .bool false] 23 (0, 0)) := by rw [Below.heap_setCell _ _ _ _ (show Q ≠ p by have := HU.out.lq; have := HU.out.pw; omega)]; exact hqz
      have HQP := hide hqp
      obtain ⟨g0, g1, g2, g3, g4, g5, g6, g7, g8, g9, g10⟩ := rec_cells hqp
      have z0 := rec_frozen hqp 0
      have z1 := rec_frozen hqp 1
      have z2 := rec_frozen hqp 2
      have z3 := rec_frozen hqp 3
      have z4 := rec_frozen hqp 4
      have z5 := rec_frozen hqp 5
      have z6 := rec_frozen hqp 6
      have z7 := rec_frozen hqp 7
      have z8 := rec_frozen hqp 8
      have z9 := rec_frozen hqp 9
      have z10 := rec_frozen hqp 10
      clear hqz hqp
      go_wp2
      (try simp only [Exit.inBlock, Exit.then])
      refine bodyPost_ret (results_boxO rfl _ _ _ _ _ rfl (set_eleven _ _ _ _ _ _ _ _ _ _ _ _ _ _ _ _ _ _ _ _ _ _ _ _ _ HQP.out) Try.underlying23 rfl) rfl ?_
      exact HU.out.no HNO.out rfl (set11_only _ _ _ _ _ _ _ _ _ _ _ _ _)
    have HRT := hide (fun w => show Calls Try.prog 10 #[.agg #[.string nm, .string nt, .int .i64 fl, .int .i64 me, .int .i64 da, .int .i64 ck, .int .i64 su, .int .i64 sz, .int .i64 pk, .int .i64 at_, .bool wd]] w fun e w' => e = .returned (.bool true) ∧ Below w.heap.size w w' from by
      have hq := HRR.out w
      rw [(rightR_iff _).2 hR] at hq
      exact hq)
    clear HRR
    have HCN := hide (fun w => show Calls Try.prog 14 #[.agg #[.string nm, .string nt, .int .i64 fl, .int .i64 me, .int .i64 da, .int .i64 ck, .int .i64 su, .int .i64 sz, .int .i64 pk, .int .i64 at_, .bool wd]] w fun e w' => e = .returned (.string (cenS (⟨nm, nt, fl, me, da, ck, su, sz, pk, at_, wd⟩ : Rec))) ∧ Below w.heap.size w w' from central14 (⟨nm, nt, fl, me, da, ck, su, sz, pk, at_, wd⟩ : Rec) hR w)
    obtain ⟨j, rfl⟩ : ∃ j : Nat, q = (j : Int) := ⟨q.toNat, by omega⟩
    have hsl : ∀ w, (Instr.slice 9 (.string s) (some (.int .i64 (i : Int))) (some (.int .i64 (j : Int))) none).run Try.prog w = .ok (.string (s.extract i j)) w := fun w => by
      rw [run_slice_string (P := Try.prog) w 9 s .i64 .i64 (i : Int) (j : Int) Try.underlying9 (by omega) (by omega) (by omega)]
      first | rfl | simp
    by_cases hE : s.extract i j = cenS (⟨nm, nt, fl, me, da, ck, su, sz, pk, at_, wd⟩ : Rec)
    case neg =>
      have HEN := hide hE
      have HIN := hide (fun r (hr : CenAt s i r) => show False by
        have h1 := (HEQ.out r hr).2.1
        have h2 := (HEQ.out r hr).2.2
        subst h1
        have st := hr.st hi
        have h3 : j = i + (cenS ⟨nm, nt, fl, me, da, ck, su, sz, pk, at_, wd⟩).size := by omega
        rw [h3] at hE
        exact hE st.ext)
      clear HEN HEQ hR
      generalize cenS (⟨nm, nt, fl, me, da, ck, su, sz, pk, at_, wd⟩ : Rec) = cz at *
      generalize s.extract i j = ez at *
      have n1 : (ez.toList == cz.toList) = false := by rw [ByteArray.toList_eq, ByteArray.toList_eq]; exact beq_eq_false_iff_ne.2 (fun h => hE (ba_ext h))
      clear hE
      have HC := hide (rec_since H1.out.ra)
      have hu0 := fun u : Since0 v1 => (HC.out u).1
      have hu1 := fun u : Since0 v1 => (HC.out u).2.1
      have hu2 := fun u : Since0 v1 => (HC.out u).2.2.1
      have hu3 := fun u : Since0 v1 => (HC.out u).2.2.2.1
      have hu4 := fun u : Since0 v1 => (HC.out u).2.2.2.2.1
      have hu5 := fun u : Since0 v1 => (HC.out u).2.2.2.2.2.1
      have hu6 := fun u : Since0 v1 => (HC.out u).2.2.2.2.2.2.1
      have hu7 := fun u : Since0 v1 => (HC.out u).2.2.2.2.2.2.2.1
      have hu8 := fun u : Since0 v1 => (HC.out u).2.2.2.2.2.2.2.2.1
      have hu9 := fun u : Since0 v1 => (HC.out u).2.2.2.2.2.2.2.2.2.1
      have hu10 := fun u : Since0 v1 => (HC.out u).2.2.2.2.2.2.2.2.2.2
      have hp0 := fun u : Since0 v1 => (u.2.cell (p := ⟨p, 0, none⟩) H1.out.cur.lt).trans H1.out.cur.c0
      have hp1 := fun u : Since0 v1 => (u.2.cell (p := ⟨p, 1, none⟩) H1.out.cur.lt).trans H1.out.cur.c1
      have hp2 := fun u : Since0 v1 => (u.2.cell (p := ⟨p, 2, none⟩) H1.out.cur.lt).trans H1.out.cur.c2
      have hne : Nonempty (Since0 v1) := ⟨⟨v1, Below.refl _ _⟩⟩
      try simp only [List.append]
      refine wp_region_below v1 (Below.refl _ _) (by kernel_rfl) (by kernel_rfl) ?_
      repeat (go_big_quiet_step ((rename_i u; first | exact calls_since u (HRT.out u.1) | exact calls_since u (HCN.out u.1))))
      refine wpQuiet_nil ?_
      intro _ hw'
      obtain ⟨u, rfl⟩ := hw'
      clear hu0 hu1 hu2 hu3 hu4 hu5 hu6 hu7 hu8 hu9 hu10 hp0 hp1 hp2 hne
      have HU := hide (H1.out.below u.2)
      have HNO := hide (show ∀ r, ¬ CenAt s i r from fun r hr => HIN.out r hr)
      obtain ⟨u5, hu5⟩ : ∃ x, u.1 = x := ⟨_, rfl⟩
      rw [hu5] at HU
      simp only [hu5]
      clear hu5 HC u
      have hcb := HU.out.cur.c2
      have hfb := HU.out.cur.fz 2
      have hqz : u5.heap[Q]? = some (.cells #[.string ⟨#[]⟩, .string ⟨#[]⟩, .int .i64 0, .int .i64 0, .int .i64 0, .int .i64 0, .int .i64 0, .int .i64 0, .int .i64 0, .int .i64 0, .bool false] 23 (0, 0)) := HU.out.qa
      have hqp : (u5.setCell ⟨p, 2, none⟩ (.bool true)).heap[Q]? = some (.cells #[.string ⟨#[]⟩, .string ⟨#[]⟩, .int .i64 0, .int .i64 0, .int .i64 0, .int .i64 0, .int .i64 0, .int .i64 0, .int .i64 0, .int .i64 0, .bool false] 23 (0, 0)) := by rw [Below.heap_setCell _ _ _ _ (show Q ≠ p by have := HU.out.lq; have := HU.out.pw; omega)]; exact hqz
      have HQP := hide hqp
      obtain ⟨g0, g1, g2, g3, g4, g5, g6, g7, g8, g9, g10⟩ := rec_cells hqp
      have z0 := rec_frozen hqp 0
      have z1 := rec_frozen hqp 1
      have z2 := rec_frozen hqp 2
      have z3 := rec_frozen hqp 3
      have z4 := rec_frozen hqp 4
      have z5 := rec_frozen hqp 5
      have z6 := rec_frozen hqp 6
      have z7 := rec_frozen hqp 7
      have z8 := rec_frozen hqp 8
      have z9 := rec_frozen hqp 9
      have z10 := rec_frozen hqp 10
      clear hqz hqp
      go_wp2
      (try simp only [Exit.inBlock, Exit.then])
      refine bodyPost_ret (results_boxO rfl _ _ _ _ _ rfl (set_eleven _ _ _ _ _ _ _ _ _ _ _ _ _ _ _ _ _ _ _ _ _ _ _ _ _ HQP.out) Try.underlying23 rfl) rfl ?_
      exact HU.out.no HNO.out rfl (set11_only _ _ _ _ _ _ _ _ _ _ _ _ _)
    obtain ⟨hcen, hj⟩ := cen_of hR (by omega) (by omega) hE
    rw [hE] at hsl
    have HY := hide (fun w2 w3 (hu : RW 29 w2 W p s (j : Int) false Q S #[.string nm, .string nt, .int .i64 fl, .int .i64 me, .int .i64 da, .int .i64 ck, .int .i64 su, .int .i64 sz, .int .i64 pk, .int .i64 at_, .bool wd]) (o : Only Q w2 w3) => (show ReadCP 29 s p i W (.returned (.tuple #[.agg #[.string nm, .string nt, .int .i64 fl, .int .i64 me, .int .i64 da, .int .i64 ck, .int .i64 su, .int .i64 sz, .int .i64 pk, .int .i64 at_, .bool wd], .bool true])) w3 from RW.yes (r := (⟨nm, nt, fl, me, da, ck, su, sz, pk, at_, wd⟩ : Rec)) (by rw [← hj]; exact hu) hcen o))
    clear hcen hj hE HEQ hR
    generalize cenS (⟨nm, nt, fl, me, da, ck, su, sz, pk, at_, wd⟩ : Rec) = cz at *
    have HC := hide (rec_since H1.out.ra)
    have hu0 := fun u : Since0 v1 => (HC.out u).1
    have hu1 := fun u : Since0 v1 => (HC.out u).2.1
    have hu2 := fun u : Since0 v1 => (HC.out u).2.2.1
    have hu3 := fun u : Since0 v1 => (HC.out u).2.2.2.1
    have hu4 := fun u : Since0 v1 => (HC.out u).2.2.2.2.1
    have hu5 := fun u : Since0 v1 => (HC.out u).2.2.2.2.2.1
    have hu6 := fun u : Since0 v1 => (HC.out u).2.2.2.2.2.2.1
    have hu7 := fun u : Since0 v1 => (HC.out u).2.2.2.2.2.2.2.1
    have hu8 := fun u : Since0 v1 => (HC.out u).2.2.2.2.2.2.2.2.1
    have hu9 := fun u : Since0 v1 => (HC.out u).2.2.2.2.2.2.2.2.2.1
    have hu10 := fun u : Since0 v1 => (HC.out u).2.2.2.2.2.2.2.2.2.2
    have hp0 := fun u : Since0 v1 => (u.2.cell (p := ⟨p, 0, none⟩) H1.out.cur.lt).trans H1.out.cur.c0
    have hp1 := fun u : Since0 v1 => (u.2.cell (p := ⟨p, 1, none⟩) H1.out.cur.lt).trans H1.out.cur.c1
    have hp2 := fun u : Since0 v1 => (u.2.cell (p := ⟨p, 2, none⟩) H1.out.cur.lt).trans H1.out.cur.c2
    have hne : Nonempty (Since0 v1) := ⟨⟨v1, Below.refl _ _⟩⟩
    try simp only [List.append]
    refine wp_region_below v1 (Below.refl _ _) (by kernel_rfl) (by kernel_rfl) ?_
    repeat (go_big_quiet_step ((rename_i u; first | exact calls_since u (HRT.out u.1) | exact calls_since u (HCN.out u.1))))
    refine wpQuiet_nil ?_
    intro _ hw'
    obtain ⟨u, rfl⟩ := hw'
    clear hu0 hu1 hu2 hu3 hu4 hu5 hu6 hu7 hu8 hu9 hu10 hp0 hp1 hp2 hne
    have HU := hide (H1.out.below u.2)
    obtain ⟨u5, hu5⟩ : ∃ x, u.1 = x := ⟨_, rfl⟩
    rw [hu5] at HU
    simp only [hu5]
    clear hu5 HC u
    have hqz : u5.heap[Q]? = some (.cells #[.string ⟨#[]⟩, .string ⟨#[]⟩, .int .i64 0, .int .i64 0, .int .i64 0, .int .i64 0, .int .i64 0, .int .i64 0, .int .i64 0, .int .i64 0, .bool false] 23 (0, 0)) := HU.out.qa
    have HQP := hide hqz
    obtain ⟨g0, g1, g2, g3, g4, g5, g6, g7, g8, g9, g10⟩ := rec_cells hqz
    obtain ⟨l0, l1, l2, l3, l4, l5, l6, l7, l8, l9, l10⟩ := rec_cells HU.out.ra
    have z0 := rec_frozen hqz 0
    have z1 := rec_frozen hqz 1
    have z2 := rec_frozen hqz 2
    have z3 := rec_frozen hqz 3
    have z4 := rec_frozen hqz 4
    have z5 := rec_frozen hqz 5
    have z6 := rec_frozen hqz 6
    have z7 := rec_frozen hqz 7
    have z8 := rec_frozen hqz 8
    have z9 := rec_frozen hqz 9
    have z10 := rec_frozen hqz 10
    clear hqz
    go_wp2
    (try simp only [Exit.inBlock, Exit.then])
    refine bodyPost_ret (results_boxO rfl _ _ _ _ _ rfl (set_eleven _ _ _ _ _ _ _ _ _ _ _ _ _ _ _ _ _ _ _ _ _ _ _ _ _ HQP.out) Try.underlying23 rfl) rfl ?_
    exact HY.out _ _ HU.out (set11_only _ _ _ _ _ _ _ _ _ _ _ _ _)

set_option maxRecDepth 20000 in
set_option maxHeartbeats 8000000 in
theorem readL14 (s : ByteArray) (p i : Nat) (r : Rec) (W : World) (h : CurAt 29 W p s (i : Nat) false) (hi : i ≤ s.size) (hs : s.size ≤ 1000000000) (hr : RightR r) :
    Calls Try.prog 20 #[.pointer (some ⟨p, 0, none⟩), recV r] W fun e w' => ReadLP 29 s p i r W e w' := by
  have HLO := hide (fun w => local14 r hr w)
  have HL0 := hide (loc_no (s := s) (i := i) (r := r))
  have HLE := hide (fun (hl : LocAt s i r) => show textV s (i : Nat) ((locS r).size : Int) false = locS r ∧ textI s (i : Nat) ((locS r).size : Int) false = ((i + (locS r).size : Nat) : Int) ∧ canT s (i : Nat) ((locS r).size : Int) false = true by
    obtain ⟨C, hC⟩ := hl
    obtain ⟨a1, a2, a3, _, _⟩ := text_next hC (ba_size (locS r)) hi
    exact ⟨a1.trans (ba_eta _), a2, a3⟩)
  have bW := (Below.refl W.heap.size W).alloc (Nat.le_refl _) (.cells (recCs r) 23)
  have HCU := hide (h.below bW h.lt)
  have HQ := hide (rec_new W (recCs r) 23)
  have B0 := hide bW
  have HPW := hide h.lt
  have HLI := hide (show ((i : Nat) : Int) ≤ 9223372036854775807 by omega)
  have HS := hide (show s.size ≤ 1000000000000 by omega)
  have HP : Hid (∀ (b : Bool) (q : Int) (w1 w2 : World), Below W.heap.size W w1 → (∀ k, k ≠ p → w2.heap[k]? = w1.heap[k]?) → w2.os = w1.os → w2.tape = w1.tape → w2.output = w1.output → w2.heap.size = w1.heap.size → CurAt 29 w2 p s q b →
      ((LocAt s i r ∧ b = false ∧ q = ((i + (locS r).size : Nat) : Int)) ∨ (¬ LocAt s i r ∧ b = true)) → ReadLP 29 s p i r W (.returned (.bool (!b))) w2) := hide (fun b q w1 w2 b1 hk h1 h2 h3 h4 hc hd => by
    refine ⟨h1.trans b1.os, h2.trans b1.tape, h3.trans b1.output, by rw [h4]; exact b1.size, fun k hk2 hne => (hk k hne).trans (b1.block k hk2), ?_⟩
    rcases hd with ⟨d1, rfl, rfl⟩ | ⟨d1, rfl⟩
    · exact .inl ⟨d1, rfl, hc⟩
    · exact .inr ⟨d1, rfl, q, hc⟩)
  clear h bW hs
  generalize hlr : LocAt s i r = LR at *
  generalize locS r = L at *
  clear hlr hr
  obtain ⟨nm, nt, fl, me, da, ck, su, sz, pk, at_, wd⟩ := r
  unfold recV at *
  unfold recCs at *
  dsimp only at HLO HCU HQ B0 ⊢
  go_enter Try.func20, Try.ntmps20
  go_wp2_with fail
  refine (HLO.out _).mono ?_
  rintro e w1 ⟨rfl, b⟩
  have HC1 := hide (HCU.out.below b HCU.out.lt)
  have B1 := hide (B0.out.trans (b.mono B0.out.size))
  clear b HCU B0 HQ HLO
  go_wp2_with fail
  refine (ctext_any p s _ (i : Nat) false HC1.out HLI.out HS.out (L.size : Int)).mono ?_
  rintro e w2 ⟨rfl, hc, ho⟩
  have HO := hide ho
  have HC := hide hc
  clear hc ho HC1
  by_cases hl : LR
  · obtain ⟨a1, a2, a3⟩ := HLE.out hl
    have HC2 := hide (show CurAt 29 w2 p s ((i + L.size : Nat) : Int) false by have h := HC.out; rw [a2, a3] at h; exact h)
    rw [a1]
    have _c2 := HC2.out.c2
    have HG := hide (HP.out false _ w1 w2 B1.out HO.out.block HO.out.os HO.out.tape HO.out.output HO.out.size HC2.out (.inl ⟨hl, rfl, rfl⟩))
    clear HC a1 a2 a3
    go_wp2
    go_ret
    exact HG.out
  · have hne := HL0.out hl
    generalize textV s (i : Nat) (L.size : Int) false = tv at *
    have n1 : (tv.toList == L.toList) = false := by rw [ByteArray.toList_eq, ByteArray.toList_eq]; exact beq_eq_false_iff_ne.2 (fun h => hne (ba_ext h))
    have _c2 := HC.out.c2
    have _f2 := HC.out.fz 2
    have HO2 := hide (HO.out.trans (Only.setCell p 2 w2 (.bool true)))
    have HC2 := hide (HC.out.setBad0)
    have _d2 := HC2.out.c2
    have HG := hide (HP.out true _ w1 (w2.setCell ⟨p, 2, none⟩ (.bool true)) B1.out HO2.out.block HO2.out.os HO2.out.tape HO2.out.output HO2.out.size HC2.out (.inr ⟨hl, rfl⟩))
    clear hne
    go_wp2
    go_ret
    exact HG.out

theorem ospec : OSpec where
  right := fun r W _ => right14 r W
  locl := fun r W hr => local14 r hr W
  cent := fun r W hr => central14 r hr W
  tail := fun r W hr => tail14 r hr W
  readC := fun s p i W h hi hs => readC14 s p i W h hi hs
  readL := fun s p i r W h hi hs hr => readL14 s p i r W h hi hs hr

end Go.Proofs.Ytbjjcjcobiokcaa
