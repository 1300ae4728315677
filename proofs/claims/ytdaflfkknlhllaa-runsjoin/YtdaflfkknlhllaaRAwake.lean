/- The fixed runs of layer 7 come out true. -/
import Derived.Test.YtdaflfkknlhllaaRCodeE
namespace Go.Proofs.Ytdaflfkknlhllaa
open Go.RowKit Go.Lib Go.Deep

theorem ex_fold : Folds none [3, 3, 3, 3, 0, 0, 0, 5] [(3, 0), (16, 0), (17, 0), (5, 0)] :=
  ⟨3, _, rfl, by decide, 3, _, rfl, by decide, 0, _, rfl, by decide, 5, _, rfl, by decide, rfl⟩
theorem ex_res {rs : List (Int × Int)} (h : FoldRes [3, 3, 3, 3, 0, 0, 0, 5] rs) : rs = [(3, 0), (16, 0), (17, 0), (5, 0)] := h.uniq (.inl ⟨by decide, ex_fold⟩)
theorem ex_un8 : unO [(3, 0), (16, 0), (17, 0), (5, 0)] 8 = [3, 3, 3, 3, 0, 0, 0, 5] ∧ unB [(3, 0), (16, 0), (17, 0), (5, 0)] 8 = true := by decide +kernel
theorem ex_un7 : unO [(3, 0), (16, 0), (17, 0), (5, 0)] 7 = [] ∧ unB [(3, 0), (16, 0), (17, 0), (5, 0)] 7 = false := by decide +kernel
theorem ex_un3 : unO [(16, 0)] 3 = [] ∧ unB [(16, 0)] 3 = false := by decide +kernel
theorem order_0 (w : World) : (Instr.index 28 (.agg orderCs.toArray) (.int .i64 0)).run Try.prog w = .ok (.int .i64 16) w := by kernel_rfl
theorem order_18 (w : World) : (Instr.index 28 (.agg orderCs.toArray) (.int .i64 18)).run Try.prog w = .ok (.int .i64 15) w := by kernel_rfl
theorem lit_run (w : World) (s e : Int) : ArgR (w.alloc (.cells #[.int .i64 s, .int .i64 e] 39)) (some ⟨w.heap.size, 0, none⟩) [(s, e)] := by
  have hh : (w.alloc (.cells #[.int .i64 s, .int .i64 e] 39)).heap[w.heap.size]? = some (.cells #[.int .i64 s, .int .i64 e] 39 (0, 0)) := by show (w.heap.push _)[w.heap.size]? = _; simp
  intro i s2 e2 h
  cases i with
  | zero =>
    simp at h
    obtain ⟨rfl, rfl⟩ := h
    refine ⟨w.heap.size, 0, rfl, by show _ < (w.heap.push _).size; simp, ?_, ?_⟩
    · rw [cell_of_row _ _ _ _ _ (0, 0) hh]; rfl
    · rw [cell_of_row _ _ _ _ _ (0, 0) hh]; rfl
  | succ i => simp at h

set_option maxRecDepth 20000 in
/-- A row that came in has no more lengths than it has room. -/
theorem open_capZ {H : Type} {enc : TypeId × Value → H} {w : World} {d : DataW H} {p : List MemPlace} {a : Option Addr} {n cap : Nat} (h : DataW.Trod enc Try.prog w 0 (fun _ => true) true 22 (.slice a n cap) d p) : n ≤ cap := by
  obtain ⟨fuel, hf⟩ := h
  rcases open_slice Try.underlying22 hf with ⟨hcs, _⟩ | ⟨x, l, c, m, q, D, Pl, hcs, _, hl, _, _, _, _⟩
  · simp [Value.cells] at hcs
    omega
  · simp [Value.cells] at hcs
    omega

set_option maxRecDepth 20000 in
set_option maxHeartbeats 4000000 in
theorem rawake_any (W : World) :
    Calls Try.prog 8 #[] W fun e w' => e = .returned (.bool true) ∧ Below W.heap.size W w' := by
  have HF := hide (fold7_any [3, 3, 3, 3, 0, 0, 0, 5] (some ⟨W.heap.size, 0, none⟩) 8 (W.alloc (.cells (intCs [3, 3, 3, 3, 0, 0, 0, 5]).toArray 3)) (lit_arg W _) (by decide) (by decide))
  have HB0 := hide ((Below.refl _ W).alloc (Nat.le_refl _) (.cells (intCs [3, 3, 3, 3, 0, 0, 0, 5]).toArray 3))
  have HO := hide order7_any
  have HBT := hide (bits7_any 18)
  rw [xb18] at HBT
  have h0 := order_0
  have h18 := order_18
  generalize orderCs = cs at *
  go_enter Try.func8, Try.ntmps8
  go_wp2_with fail
  refine HF.out.mono ?_
  rintro e w1 ⟨a1, c1, rs, rfl, hrs, ha1, hn1, b1⟩
  have hrs2 := ex_res hrs
  subst hrs2
  have HB1 := hide (HB0.out.trans (b1.mono HB0.out.size))
  have HA1 := hide ha1
  clear hrs b1 ha1 hn1
  have HU8 := hide (unfold7_any _ a1 c1 8 w1 HA1.out (by decide) (by decide) (by decide))
  go_wp2_with fail
  refine HU8.out.mono ?_
  rintro e w2 ⟨a2, c2, rfl, ha2, _, b2⟩
  rw [ex_un8.1] at ha2
  rw [ex_un8.1, ex_un8.2]
  have HB2 := hide (HB1.out.trans (b2.mono HB1.out.size))
  have HA2 := hide ha2
  have HA1b := hide (HA1.out.below b2 (Nat.le_refl _))
  clear ha2 b2 HU8
  have HU7 := hide (unfold7_any _ a1 c1 7 w2 HA1b.out (by decide) (by decide) (by decide))
  go_wp2_with fail
  refine HU7.out.mono ?_
  rintro e w3 ⟨a3, c3, rfl, _, _, b3⟩
  rw [ex_un7.1, ex_un7.2]
  have HB3 := hide (HB2.out.trans (b3.mono HB2.out.size))
  have HA2c := hide (HA2.out.belowB b3 (Nat.le_refl _))
  have HA1c := hide (HA1b.out.below b3 (Nat.le_refl _))
  clear b3 HU7 HA2 HA1b HA1
  have HU3 := hide (unfold7_any [(16, 0)] (some ⟨w3.heap.size, 0, none⟩) 1 3 (w3.alloc (.cells #[.int .i64 16, .int .i64 0] 39)) (lit_run w3 16 0) (by decide) (by decide) (by decide))
  have HB3b := hide (HB3.out.alloc HB3.out.size (.cells #[.int .i64 16, .int .i64 0] 39))
  have HA2d := hide (HA2c.out.belowB ((Below.refl _ w3).alloc (Nat.le_refl _) (.cells #[.int .i64 16, .int .i64 0] 39)) (Nat.le_refl _))
  have HA1d := hide (HA1c.out.below ((Below.refl _ w3).alloc (Nat.le_refl _) (.cells #[.int .i64 16, .int .i64 0] 39)) (Nat.le_refl _))
  go_wp2_with fail
  refine HU3.out.mono ?_
  rintro e w4 ⟨a4, c4, rfl, _, _, b4⟩
  rw [ex_un3.1, ex_un3.2]
  have HB4 := hide (HB3b.out.trans (b4.mono HB3b.out.size))
  have HA2e := hide (HA2d.out.belowB b4 (Nat.le_refl _))
  have HA1e := hide (HA1d.out.below b4 (Nat.le_refl _))
  clear b4 HU3 HA2c HA2d HA1c HA1d HB3 HB3b HB2 HB1 HB0
  obtain ⟨g1, o1, rfl, _, _p1, _p2⟩ := HA1e.out 1 16 0 rfl
  obtain ⟨g2, o2, e2, _, _q1, _q2⟩ := HA1e.out 2 17 0 rfl
  injection e2 with e2
  injection e2 with e2a e2b
  subst e2a
  subst e2b
  obtain ⟨g3, o3, rfl, _, _r1⟩ := HA2e.out 7 5 rfl
  go_wp2_with fail
  refine (HBT.out _).mono ?_
  rintro e w5 ⟨rfl, b5⟩
  have HB5 := hide (HB4.out.trans (b5.mono HB4.out.size))
  clear b5
  go_wp2_with fail
  refine (HO.out _).mono ?_
  rintro e w6 ⟨rfl, b6⟩
  have HB6 := hide (HB5.out.trans (b6.mono HB5.out.size))
  clear b6
  go_wp2_with fail
  refine (HO.out _).mono ?_
  rintro e w7 ⟨rfl, b7⟩
  have HB7 := hide (HB6.out.trans (b7.mono HB6.out.size))
  clear b7
  go_wp2
  go_ret
  exact ⟨rfl, HB7.out⟩

end Go.Proofs.Ytdaflfkknlhllaa
