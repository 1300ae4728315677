/- Ahead of the document's ReadCentral of layer 14: a cursor, a result's box, a record under way. -/
import Derived.Test.YtbjjcjcobiokcaaORefC
import Derived.Test.YtbjjcjcobiokcaaFBoth
namespace Go.Proofs.Ytbjjcjcobiokcaa
open Go.RowKit Go.Lib

/-- Reading under way: the cursor, the result's box, the record. -/
structure RW (T : TypeId) (w W : World) (p : Nat) (s : ByteArray) (i : Int) (b : Bool) (Q R : Nat) (cs : Array Value) : Prop where
  cur : CurAt T w p s i b
  os : w.os = W.os
  tape : w.tape = W.tape
  output : w.output = W.output
  size : W.heap.size ≤ w.heap.size
  blk : ∀ k, k < W.heap.size → k ≠ p → w.heap[k]? = W.heap[k]?
  qa : w.heap[Q]? = some (.cells (recCs zeroR) 23 (0, 0))
  ra : w.heap[R]? = some (.cells cs 23 (0, 0))
  lq : W.heap.size ≤ Q
  lr : W.heap.size ≤ R
  qr : Q ≠ R
  pw : p < W.heap.size
section
variable {T : TypeId} {w w' W : World} {p Q R : Nat} {s : ByteArray} {i j : Int} {b c : Bool} {cs : Array Value}
theorem RW.only (h : RW T w W p s i b Q R cs) (o : Only p w w') (k : CurAt T w' p s j c) : RW T w' W p s j c Q R cs := by
  have h1 := h.lq
  have h2 := h.lr
  have h3 := h.pw
  exact ⟨k, o.os.trans h.os, o.tape.trans h.tape, o.output.trans h.output, by rw [o.size]; exact h.size, fun q hq hp => (o.block q hp).trans (h.blk q hq hp), (o.block Q (by omega)).trans h.qa, (o.block R (by omega)).trans h.ra, h1, h2, h.qr, h3⟩
theorem RW.other {X : Nat} (h : RW T w W p s i b Q R cs) (o : Only X w w') (hX : W.heap.size ≤ X) (hQ : Q ≠ X) (hR : R ≠ X) : RW T w' W p s i b Q R cs := by
  have h3 := h.pw
  exact ⟨h.cur.block (o.block p (by omega)), o.os.trans h.os, o.tape.trans h.tape, o.output.trans h.output, by rw [o.size]; exact h.size, fun q hq hp => (o.block q (by omega)).trans (h.blk q hq hp), (o.block Q hQ).trans h.qa, (o.block R hR).trans h.ra, h.lq, h.lr, h.qr, h3⟩
theorem RW.below (h : RW T w W p s i b Q R cs) (o : Below w.heap.size w w') : RW T w' W p s i b Q R cs :=
  ⟨h.cur.below o h.cur.lt, o.os.trans h.os, o.tape.trans h.tape, o.output.trans h.output, Nat.le_trans h.size o.size, fun q hq hp => (o.block q (Nat.lt_of_lt_of_le hq h.size)).trans (h.blk q hq hp), rec_kept h.qa o, rec_kept h.ra o, h.lq, h.lr, h.qr, h.pw⟩
theorem RW.put (h : RW T w W p s i b Q R cs) (k : Nat) (v : Value) : RW T (w.setCell ⟨R, k, none⟩ v) W p s i b Q R (cs.setIfInBounds k v) := by
  have h2 := h.lr
  have h3 := h.pw
  refine ⟨h.cur.block (Below.heap_setCell _ _ _ _ (show p ≠ R by omega)), h.os, h.tape, h.output, by simp [World.setCell]; exact h.size, fun q hq hp => ?_, ?_, ?_, h.lq, h2, h.qr, h3⟩
  · rw [Below.heap_setCell _ _ _ _ (show q ≠ R by omega)]
    exact h.blk q hq hp
  · rw [Below.heap_setCell _ _ _ _ h.qr]
    exact h.qa
  · exact heap_setCell_same _ _ _ _ _ _ _ h.ra
theorem RW.start (T : TypeId) (W : World) (p : Nat) (s : ByteArray) (i : Int) (w1 : World) (c : CurAt T W p s i false) (k : CurAt T w1 p s j b) (o : Only p (W.alloc (.cells (recCs zeroR) 23)) w1) : RW T (w1.alloc (.cells (recCs zeroR) 23)) W p s j b W.heap.size w1.heap.size (recCs zeroR) := by
  have hp := c.lt
  have s1 : (W.alloc (.cells (recCs zeroR) 23)).heap.size = W.heap.size + 1 := by show (W.heap.push _).size = _; simp
  have s2 := o.size
  have s3 : (w1.alloc (.cells (recCs zeroR) 23)).heap.size = w1.heap.size + 1 := by show (w1.heap.push _).size = _; simp
  have bb : Below w1.heap.size w1 (w1.alloc (.cells (recCs zeroR) 23)) := (Below.refl _ _).alloc (Nat.le_refl _) _
  have ba : Below W.heap.size W (W.alloc (.cells (recCs zeroR) 23)) := (Below.refl _ _).alloc (Nat.le_refl _) _
  refine ⟨k.alloc _, o.os, o.tape, o.output, by omega, fun q hq hne => ?_, ?_, rec_new _ _ _, Nat.le_refl _, by omega, by omega, hp⟩
  · rw [bb.block q (by omega), o.block q hne, ba.block q hq]
  · rw [bb.block _ (by omega), o.block _ (by omega)]
    exact rec_new _ _ _
theorem rec_frozen {k : Nat} {T : TypeId} {cs : Array Value} (h0 : w.heap[k]? = some (.cells cs T (0, 0))) (o : Nat) : w.frozen? ⟨k, o, none⟩ = false := by simp [World.frozen?, h0]
end

end Go.Proofs.Ytbjjcjcobiokcaa
