/- The code's contract of layer 14: Right (printed by tools/mkcode14.py). -/
import Derived.Test.YtbjjcjcobiokcaaOCodeA
namespace Go.Proofs.Ytbjjcjcobiokcaa
open Go.RowKit Go.Lib
theorem right_all (r : Rec) : rightR r = ([r.flags, r.method, r.date, r.clock, (r.name.size : Int), (r.note.size : Int)].all (inB 65535) && [r.sum].all (inB 4294967295) && [r.size, r.packed, r.at_].all (inB (mostR r))) := by
  rw [Bool.eq_iff_iff]
  unfold rightR inB
  generalize mostR r = m
  simp only [List.all_cons, List.all_nil, Bool.and_eq_true, Bool.and_true, decide_eq_true_eq]
  omega

theorem alloc_sz (w : World) (o : Obj) : (w.alloc o).heap.size = w.heap.size + 1 := by show (w.heap.push _).size = _; simp
theorem new1 (w : World) (o : Obj) (a : Array Value) (T : TypeId) : ((w.alloc o).alloc (.cells a T)).heap[w.heap.size + 1]? = some (.cells a T (0, 0)) := by
  have h := rec_new (w.alloc o) a T
  rw [alloc_sz] at h
  exact h
theorem new2 (w : World) (o o2 : Obj) (a : Array Value) (T : TypeId) : (((w.alloc o).alloc o2).alloc (.cells a T)).heap[w.heap.size + 1 + 1]? = some (.cells a T (0, 0)) := by
  have h := rec_new ((w.alloc o).alloc o2) a T
  rw [alloc_sz, alloc_sz] at h
  exact h
theorem new3 (w : World) (o o2 o3 : Obj) (a : Array Value) (T : TypeId) : ((((w.alloc o).alloc o2).alloc o3).alloc (.cells a T)).heap[w.heap.size + 1 + 1 + 1]? = some (.cells a T (0, 0)) := by
  have h := rec_new (((w.alloc o).alloc o2).alloc o3) a T
  rw [alloc_sz, alloc_sz, alloc_sz] at h
  exact h
theorem below_a1 {W w : World} {o1 : Obj} (h : Below W.heap.size W w) : Below W.heap.size W (w.alloc o1) := h.alloc h.size o1
theorem below_a2 {W w : World} {o1 o2 : Obj} (h : Below W.heap.size W w) : Below W.heap.size W ((w.alloc o1).alloc o2) := below_a1 (below_a1 h)
theorem below_a3 {W w : World} {o1 o2 o3 : Obj} (h : Below W.heap.size W w) : Below W.heap.size W (((w.alloc o1).alloc o2).alloc o3) := below_a1 (below_a2 h)

set_option maxRecDepth 20000 in
set_option maxHeartbeats 16000000 in
theorem right14 (r : Rec) (W : World) : Calls Try.prog 10 #[recV r] W fun e w' => e = .returned (.bool (rightR r)) ∧ Below W.heap.size W w' := by
  have HRA := hide (right_all r)
  obtain ⟨rr, hrr⟩ : ∃ x, rightR r = x := ⟨_, rfl⟩
  rw [hrr] at HRA ⊢
  clear hrr
  obtain ⟨mo, hmo⟩ : ∃ mo, mostR r = mo := ⟨_, rfl⟩
  have HMO := hide hmo
  rw [hmo] at HRA
  have HF1 := hide (fun g w hg => fit14 65535 [r.flags, r.method, r.date, r.clock, (r.name.size : Int), (r.note.size : Int)] g 6 w rfl (by decide) hg)
  have HF2 := hide (fun g w hg => fit14 4294967295 [r.sum] g 1 w rfl (by decide) hg)
  have HF3 := hide (fun g w hg => fit14 mo [r.size, r.packed, r.at_] g 3 w rfl (by decide) hg)
  generalize [r.flags, r.method, r.date, r.clock, (r.name.size : Int), (r.note.size : Int)].all (inB 65535) = A1 at *
  generalize [r.sum].all (inB 4294967295) = A2 at *
  generalize [r.size, r.packed, r.at_].all (inB mo) = A3 at *
  clear hmo
  have B0 := hide ((Below.refl W.heap.size W).alloc (Nat.le_refl _) (.cells (recCs r) 23))
  have HQ := hide (rec_new W (recCs r) 23)
  obtain ⟨nm, nt, fl, me, da, ck, su, sz, pk, at_, wd⟩ := r
  unfold recV
  unfold recCs at *
  unfold mostR at HMO
  dsimp only at HF1 HF2 HF3 B0 HQ HMO ⊢
  cases wd with
  | true =>
    have hmo : mo = 4611686018427387903 := by rw [← HMO.out]; rfl
    subst hmo
    clear HMO
    cases A1 with
    | false =>
      have hrr : rr = false := by rw [HRA.out]; rfl
      subst hrr
      clear HRA
      obtain ⟨g0, g1, g2, g3, g4, g5, g6, g7, g8, g9, g10⟩ := rec_cells HQ.out
      go_enter Try.func10, Try.ntmps10
      go_wp2_with fail
      refine (HF1.out _ _ (new1 _ _ _ _)).mono ?_
      rintro e w1 ⟨rfl, rfl⟩
      go_wp2
      go_ret
      refine ⟨rfl, ?_⟩
      exact below_a1 B0.out
    | true =>
    cases A2 with
    | false =>
      have hrr : rr = false := by rw [HRA.out]; rfl
      subst hrr
      clear HRA
      obtain ⟨g0, g1, g2, g3, g4, g5, g6, g7, g8, g9, g10⟩ := rec_cells HQ.out
      go_enter Try.func10, Try.ntmps10
      go_wp2_with fail
      refine (HF1.out _ _ (new1 _ _ _ _)).mono ?_
      rintro e w1 ⟨rfl, rfl⟩
      go_wp2_with fail
      refine (HF2.out _ _ (new2 _ _ _ _ _)).mono ?_
      rintro e w1 ⟨rfl, rfl⟩
      go_wp2
      go_ret
      refine ⟨rfl, ?_⟩
      exact below_a2 B0.out
    | true =>
      have hrr : rr = A3 := by rw [HRA.out]; rfl
      subst hrr
      clear HRA
      obtain ⟨g0, g1, g2, g3, g4, g5, g6, g7, g8, g9, g10⟩ := rec_cells HQ.out
      go_enter Try.func10, Try.ntmps10
      go_wp2_with fail
      refine (HF1.out _ _ (new1 _ _ _ _)).mono ?_
      rintro e w1 ⟨rfl, rfl⟩
      go_wp2_with fail
      refine (HF2.out _ _ (new2 _ _ _ _ _)).mono ?_
      rintro e w1 ⟨rfl, rfl⟩
      go_wp2_with fail
      refine (HF3.out _ _ (new3 _ _ _ _ _ _)).mono ?_
      rintro e w1 ⟨rfl, rfl⟩
      go_wp2
      go_ret
      refine ⟨rfl, ?_⟩
      exact below_a3 B0.out
  | false =>
    have hmo : mo = 4294967294 := by rw [← HMO.out]; rfl
    subst hmo
    clear HMO
    cases A1 with
    | false =>
      have hrr : rr = false := by rw [HRA.out]; rfl
      subst hrr
      clear HRA
      obtain ⟨g0, g1, g2, g3, g4, g5, g6, g7, g8, g9, g10⟩ := rec_cells HQ.out
      go_enter Try.func10, Try.ntmps10
      go_wp2_with fail
      refine (HF1.out _ _ (new1 _ _ _ _)).mono ?_
      rintro e w1 ⟨rfl, rfl⟩
      go_wp2
      go_ret
      refine ⟨rfl, ?_⟩
      exact below_a1 B0.out
    | true =>
    cases A2 with
    | false =>
      have hrr : rr = false := by rw [HRA.out]; rfl
      subst hrr
      clear HRA
      obtain ⟨g0, g1, g2, g3, g4, g5, g6, g7, g8, g9, g10⟩ := rec_cells HQ.out
      go_enter Try.func10, Try.ntmps10
      go_wp2_with fail
      refine (HF1.out _ _ (new1 _ _ _ _)).mono ?_
      rintro e w1 ⟨rfl, rfl⟩
      go_wp2_with fail
      refine (HF2.out _ _ (new2 _ _ _ _ _)).mono ?_
      rintro e w1 ⟨rfl, rfl⟩
      go_wp2
      go_ret
      refine ⟨rfl, ?_⟩
      exact below_a2 B0.out
    | true =>
      have hrr : rr = A3 := by rw [HRA.out]; rfl
      subst hrr
      clear HRA
      obtain ⟨g0, g1, g2, g3, g4, g5, g6, g7, g8, g9, g10⟩ := rec_cells HQ.out
      go_enter Try.func10, Try.ntmps10
      go_wp2_with fail
      refine (HF1.out _ _ (new1 _ _ _ _)).mono ?_
      rintro e w1 ⟨rfl, rfl⟩
      go_wp2_with fail
      refine (HF2.out _ _ (new2 _ _ _ _ _)).mono ?_
      rintro e w1 ⟨rfl, rfl⟩
      go_wp2_with fail
      refine (HF3.out _ _ (new3 _ _ _ _ _ _)).mono ?_
      rintro e w1 ⟨rfl, rfl⟩
      go_wp2
      go_ret
      refine ⟨rfl, ?_⟩
      exact below_a3 B0.out

end Go.Proofs.Ytbjjcjcobiokcaa
