/- Small facts on worlds and their blocks: which blocks a call may have turned. Nothing of the program is named here. -/
import Derived.WalkKit
import Derived.BigQuiet
import Derived.Deep.QuietTactic
namespace Go.Proofs.Ytbjjcjcobiokcaa
open Go.RowKit

theorem hide {p : Prop} (h : p) : Hid p := h

theorem retInt {k : IntKind} {a b : Int} (h : a = b) : Ending.returned (.int k a) = .returned (.int k b) := by rw [h]

/-- Block p alone may have turned; nothing was made. -/
structure Only (p : Nat) (w w' : World) : Prop where
  os : w'.os = w.os
  tape : w'.tape = w.tape
  output : w'.output = w.output
  size : w'.heap.size = w.heap.size
  block : ∀ k, k ≠ p → w'.heap[k]? = w.heap[k]?

theorem Only.refl (p : Nat) (w : World) : Only p w w := ⟨rfl, rfl, rfl, rfl, fun _ _ => rfl⟩
theorem Only.trans {p : Nat} {a b c : World} (h : Only p a b) (k : Only p b c) : Only p a c :=
  ⟨k.os.trans h.os, k.tape.trans h.tape, k.output.trans h.output, k.size.trans h.size, fun i hi => (k.block i hi).trans (h.block i hi)⟩
theorem drewN_heap (w : World) (n : Nat) : (w.drewN n).heap = w.heap := rfl
theorem Only.setCell (p o : Nat) (w : World) (v : Value) : Only p w (w.setCell ⟨p, o, none⟩ v) :=
  ⟨rfl, rfl, rfl, by simp [World.setCell], fun _ hk => Below.heap_setCell _ _ _ _ hk⟩
theorem Only.drewN (p : Nat) (w : World) (n : Nat) : Only p w (w.drewN n) := ⟨rfl, rfl, rfl, rfl, fun _ _ => rfl⟩

theorem heap_setCell_same (w : World) (p o : Nat) (v : Value) (c : Array Value) (T : TypeId) (z : Nat × Nat) (h : w.heap[p]? = some (.cells c T z)) :
    (w.setCell ⟨p, o, none⟩ v).heap[p]? = some (.cells (c.setIfInBounds o v) T z) := by
  simp [World.setCell, Array.getElem?_modify, h]

/-- Bytes as cells. -/
def cellsB (l : List UInt8) : List Value := l.map fun b => Value.int .u8 b.toNat

/-- A writer's step: but for its box p and the row that v had, nothing old has turned; the row that v' has is v's, or new. -/
structure Step (p : Nat) (v v' : Value) (w w' : World) : Prop where
  os : w'.os = w.os
  tape : w'.tape = w.tape
  output : w'.output = w.output
  size : w.heap.size ≤ w'.heap.size
  block : ∀ k, k < w.heap.size → k ≠ p → some k ≠ v.ownBlock → w'.heap[k]? = w.heap[k]?
  own : v'.ownBlock = v.ownBlock ∨ ∀ k, v'.ownBlock = some k → w.heap.size ≤ k

theorem Step.refl (p : Nat) (v : Value) (w : World) : Step p v v w w := ⟨rfl, rfl, rfl, Nat.le_refl _, fun _ _ _ _ => rfl, .inl rfl⟩
theorem Step.trans {p : Nat} {v v1 v2 : Value} {a b c : World} (h : Step p v v1 a b) (k : Step p v1 v2 b c) : Step p v v2 a c := by
  refine ⟨k.os.trans h.os, k.tape.trans h.tape, k.output.trans h.output, Nat.le_trans h.size k.size, fun i hi hp hv => ?_, ?_⟩
  · rw [k.block i (Nat.lt_of_lt_of_le hi h.size) hp ?_, h.block i hi hp hv]
    rcases h.own with e | e
    · rw [e]; exact hv
    · intro e2; have := e i e2.symm; omega
  · rcases k.own with e | e
    · rw [e]; exact h.own
    · exact .inr fun i hi => Nat.le_trans h.size (e i hi)
theorem Step.ofOnly {p : Nat} {v : Value} {w w' : World} (h : Only p w w') : Step p v v w w' :=
  ⟨h.os, h.tape, h.output, Nat.le_of_eq h.size.symm, fun k _ hp _ => h.block k hp, .inl rfl⟩

end Go.Proofs.Ytbjjcjcobiokcaa
