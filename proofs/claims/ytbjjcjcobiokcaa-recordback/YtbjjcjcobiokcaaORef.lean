/- Contracts of the document's layer 14: its texts. -/
import Derived.Test.YtbjjcjcobiokcaaOSpec
import Derived.Test.YtbjjcjcobiokcaaFQLow
namespace Go.Proofs.Ytbjjcjcobiokcaa
open Go.RowKit Go.Lib

theorem rec_cells {w : World} {k : Nat} {T : TypeId} {a0 a1 a2 a3 a4 a5 a6 a7 a8 a9 a10 : Value} (h0 : w.heap[k]? = some (.cells #[a0, a1, a2, a3, a4, a5, a6, a7, a8, a9, a10] T (0, 0))) :
    w.cell? ⟨k, 0, none⟩ = some a0 ∧ w.cell? ⟨k, 1, none⟩ = some a1 ∧ w.cell? ⟨k, 2, none⟩ = some a2 ∧ w.cell? ⟨k, 3, none⟩ = some a3 ∧ w.cell? ⟨k, 4, none⟩ = some a4 ∧ w.cell? ⟨k, 5, none⟩ = some a5 ∧ w.cell? ⟨k, 6, none⟩ = some a6 ∧ w.cell? ⟨k, 7, none⟩ = some a7 ∧ w.cell? ⟨k, 8, none⟩ = some a8 ∧ w.cell? ⟨k, 9, none⟩ = some a9 ∧ w.cell? ⟨k, 10, none⟩ = some a10 := by
  refine ⟨?_, ?_, ?_, ?_, ?_, ?_, ?_, ?_, ?_, ?_, ?_⟩
  · rw [cell_of_row _ _ 0 _ _ (0, 0) h0]; rfl
  · rw [cell_of_row _ _ 1 _ _ (0, 0) h0]; rfl
  · rw [cell_of_row _ _ 2 _ _ (0, 0) h0]; rfl
  · rw [cell_of_row _ _ 3 _ _ (0, 0) h0]; rfl
  · rw [cell_of_row _ _ 4 _ _ (0, 0) h0]; rfl
  · rw [cell_of_row _ _ 5 _ _ (0, 0) h0]; rfl
  · rw [cell_of_row _ _ 6 _ _ (0, 0) h0]; rfl
  · rw [cell_of_row _ _ 7 _ _ (0, 0) h0]; rfl
  · rw [cell_of_row _ _ 8 _ _ (0, 0) h0]; rfl
  · rw [cell_of_row _ _ 9 _ _ (0, 0) h0]; rfl
  · rw [cell_of_row _ _ 10 _ _ (0, 0) h0]; rfl
theorem rec_since {w0 : World} {k : Nat} {T : TypeId} {a0 a1 a2 a3 a4 a5 a6 a7 a8 a9 a10 : Value} (h0 : w0.heap[k]? = some (.cells #[a0, a1, a2, a3, a4, a5, a6, a7, a8, a9, a10] T (0, 0))) (u : Since0 w0) :
    u.1.cell? ⟨k, 0, none⟩ = some a0 ∧ u.1.cell? ⟨k, 1, none⟩ = some a1 ∧ u.1.cell? ⟨k, 2, none⟩ = some a2 ∧ u.1.cell? ⟨k, 3, none⟩ = some a3 ∧ u.1.cell? ⟨k, 4, none⟩ = some a4 ∧ u.1.cell? ⟨k, 5, none⟩ = some a5 ∧ u.1.cell? ⟨k, 6, none⟩ = some a6 ∧ u.1.cell? ⟨k, 7, none⟩ = some a7 ∧ u.1.cell? ⟨k, 8, none⟩ = some a8 ∧ u.1.cell? ⟨k, 9, none⟩ = some a9 ∧ u.1.cell? ⟨k, 10, none⟩ = some a10 :=
  rec_cells (by rw [u.2.block _ (Array.getElem?_eq_some_iff.1 h0).1]; exact h0)
theorem rec_new (w : World) (a : Array Value) (T : TypeId) : (w.alloc (.cells a T)).heap[w.heap.size]? = some (.cells a T (0, 0)) := by
  show (w.heap.push _)[w.heap.size]? = _
  simp
theorem rec_kept {w0 w1 : World} {k : Nat} {o : Obj} (h : w0.heap[k]? = some o) (b : Below w0.heap.size w0 w1) : w1.heap[k]? = some o := by
  rw [b.block _ (Array.getElem?_eq_some_iff.1 h).1]
  exact h

theorem below_drewO {B : Nat} {a w : World} (h : Below B a w) (n : Nat) : Below B a (w.drewN n) := ⟨h.os, h.tape, h.output, h.size, h.block⟩

set_option maxRecDepth 20000 in
theorem qneeds_any (r : Rec) (w : World) : Calls Try.prog 32 #[recV r] w fun e w' => e = .returned (.int .i64 (verR r)) ∧ Below w.heap.size w w' := by
  have B := hide ((Below.refl w.heap.size w).alloc (Nat.le_refl _) (.cells (recCs r) 23))
  obtain ⟨nm, nt, fl, me, da, ck, su, sz, pk, at_, wd⟩ := r
  unfold recV
  unfold recCs at *
  unfold verR
  dsimp only at B ⊢
  cases wd with
  | true =>
    go_enter Try.func32, Try.ntmps32
    go_wp2
    go_ret
    exact ⟨rfl, B.out⟩
  | false =>
    go_enter Try.func32, Try.ntmps32
    go_wp2
    go_ret
    exact ⟨rfl, B.out⟩

end Go.Proofs.Ytbjjcjcobiokcaa
