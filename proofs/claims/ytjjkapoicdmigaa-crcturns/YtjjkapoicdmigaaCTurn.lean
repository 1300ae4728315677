/- Facts on a text of which up to four bytes side by side are turned. -/
import Derived.Test.YtjjkapoicdmigaaCMix
import Derived.Lib.ConvBytes
namespace Go.Proofs.Ytjjkapoicdmigaa
open Go.RowKit Go.Lib

/-- In block g the bytes l lie first, and may be written. -/
def BRow (w : World) (g : Nat) (T : TypeId) (l : List UInt8) : Prop :=
  ∃ (C : Array Value) (z : Nat × Nat), w.heap[g]? = some (.cells C T z) ∧ C.toList.take l.length = cellsB l ∧ l.length ≤ C.size ∧ C.size ≤ z.1

theorem BRow.get {w : World} {g : Nat} {T : TypeId} {l : List UInt8} (h : BRow w g T l) (j : Nat) (x : UInt8) (hx : l[j]? = some x) : w.cell? ⟨g, j, none⟩ = some (.int .u8 x.toNat) ∧ w.frozen? ⟨g, j, none⟩ = false := by
  obtain ⟨C, z, h1, h2, h3, h4⟩ := h
  have hj : j < l.length := (List.getElem?_eq_some_iff.1 hx).1
  have e : C[j]? = some (.int .u8 x.toNat) := by
    have e2 : (C.toList.take l.length)[j]? = (cellsB l)[j]? := by rw [h2]
    rw [List.getElem?_take, if_pos hj, Array.getElem?_toList] at e2
    rw [e2]
    unfold cellsB
    rw [List.getElem?_map, hx]
    rfl
  constructor
  · simp only [World.cell?, h1]
    simpa using e
  · simp only [World.frozen?, h1]
    simp
    omega

theorem BRow.set {w : World} {g : Nat} {T : TypeId} {l : List UInt8} (h : BRow w g T l) (j : Nat) (x : UInt8) : BRow (w.setCell ⟨g, j, none⟩ (.int .u8 x.toNat)) g T (l.set j x) := by
  obtain ⟨C, z, h1, h2, h3, h4⟩ := h
  refine ⟨C.setIfInBounds j (.int .u8 x.toNat), z, heap_setCell_same _ _ _ _ _ _ _ h1, ?_, ?_, ?_⟩
  · rw [Array.toList_setIfInBounds, List.length_set, List.take_set, h2]
    unfold cellsB
    rw [List.map_set]
  · rw [List.length_set, Array.size_setIfInBounds]; exact h3
  · rw [Array.size_setIfInBounds]; exact h4

theorem BRow.made (w : World) (s : ByteArray) : BRow (bytesWorld w 5 s) w.heap.size 5 s.data.toList := by
  refine ⟨_, _, bytesWorld_at_new w _ s, ?_, ?_, ?_⟩
  · unfold bytesCells
    rw [Array.toList_append, List.take_left' (by simp)]
    simp [cellsB]
  · unfold bytesCells
    simp
  · exact Nat.le_refl _

theorem below_bytes (w : World) (s : ByteArray) : Below w.heap.size w (bytesWorld w 5 s) :=
  ⟨by simp [bytesWorld, World.freeze, World.alloc, World.drew, -World.alloc_eq, -World.drew_eq], by simp [bytesWorld, World.freeze, World.alloc, World.drew, -World.alloc_eq, -World.drew_eq], by simp [bytesWorld, World.freeze, World.alloc, World.drew, -World.alloc_eq, -World.drew_eq], by rw [bytesWorld_size]; omega, fun k hk => bytesWorld_at_old w _ s k hk⟩

/-- Byte number i of n. -/
def byX (n i : Nat) : UInt8 := UInt8.ofNat (n / 2 ^ (8 * i) % 256)

theorem byX_toNat (n i : Nat) : (byX n i).toNat = n / 2 ^ (8 * i) % 256 := by
  unfold byX
  rw [UInt8.toNat_ofNat']
  omega

/-- The text l, of which i bytes from k on are mixed with those of n. -/
def tl (l : List UInt8) (k n i : Nat) : List UInt8 := (List.range l.length).map fun p => if k ≤ p ∧ p < k + i then l.getD p 0 ^^^ byX n (p - k) else l.getD p 0

theorem tl_length (l : List UInt8) (k n i : Nat) : (tl l k n i).length = l.length := by simp [tl]
theorem tl_get (l : List UInt8) (k n i p : Nat) (h : p < l.length) : (tl l k n i)[p]? = some (if k ≤ p ∧ p < k + i then l.getD p 0 ^^^ byX n (p - k) else l.getD p 0) := by
  unfold tl
  rw [List.getElem?_map, List.getElem?_range h]
  rfl

theorem tl_zero (l : List UInt8) (k n : Nat) : tl l k n 0 = l := by
  apply List.ext_getElem?
  intro p
  by_cases h : p < l.length
  · rw [tl_get l k n 0 p h, if_neg (by omega), List.getD_eq_getElem?_getD, List.getElem?_eq_getElem h]
    rfl
  · rw [List.getElem?_eq_none (by rw [tl_length]; omega), List.getElem?_eq_none (by omega)]

theorem tl_at (l : List UInt8) (k n i : Nat) (h : k + i < l.length) : (tl l k n i)[k + i]? = some (l.getD (k + i) 0) := by
  rw [tl_get l k n i _ h, if_neg (by omega)]

theorem tl_set (l : List UInt8) (k n i : Nat) (h : k + i < l.length) : (tl l k n i).set (k + i) (l.getD (k + i) 0 ^^^ byX n i) = tl l k n (i + 1) := by
  apply List.ext_getElem?
  intro p
  by_cases hp : p < l.length
  · rw [tl_get l k n (i + 1) p hp, List.getElem?_set]
    by_cases he : k + i = p
    · subst he
      rw [if_pos rfl, if_pos (by rw [tl_length]; exact h), if_pos (by omega), Nat.add_sub_cancel_left]
    · rw [if_neg he, tl_get l k n i p hp]
      by_cases hc : k ≤ p ∧ p < k + i
      · rw [if_pos hc, if_pos (by omega)]
      · rw [if_neg hc, if_neg (by omega)]
  · rw [List.getElem?_eq_none (by rw [List.length_set, tl_length]; omega), List.getElem?_eq_none (by rw [tl_length]; omega)]

/-- Has any of the first i bytes of n been other than 0? -/
def anyX (n i : Nat) : Bool := (List.range i).any fun q => byX n q != 0

theorem anyX_succ (n i : Nat) : anyX n (i + 1) = (anyX n i || byX n i != 0) := by
  unfold anyX
  rw [List.range_succ, List.any_append]
  simp

theorem tl_diff (l : List UInt8) (k n m : Nat) (h : k + m ≤ l.length) :
    List.zipWith (fun x y => x ^^^ y) (tl l k n m) l = List.replicate k 0 ++ (List.range m).map (byX n) ++ List.replicate (l.length - k - m) 0 := by
  apply List.ext_getElem?
  intro p
  have hlen : (List.replicate k (0 : UInt8) ++ (List.range m).map (byX n)).length = k + m := by simp
  by_cases hp : p < l.length
  · have hg : l[p]? = some (l.getD p 0) := by rw [List.getD_eq_getElem?_getD, List.getElem?_eq_getElem hp]; rfl
    rw [List.getElem?_zipWith, tl_get l k n m p hp, hg]
    by_cases h1 : p < k
    · rw [if_neg (by omega), List.getElem?_append_left (by omega), List.getElem?_append_left (by simpa using h1), List.getElem?_replicate, if_pos h1]
      simp
    · by_cases h2 : p < k + m
      · rw [if_pos (by omega), List.getElem?_append_left (by omega), List.getElem?_append_right (by simp; omega), List.length_replicate, List.getElem?_map, List.getElem?_range (by omega)]
        simp only [Option.map_some, Option.some.injEq]
        rw [UInt8.xor_comm (l.getD p 0), UInt8.xor_assoc, UInt8.xor_self, UInt8.xor_zero]
      · rw [if_neg (by omega), List.getElem?_append_right (by omega), hlen, List.getElem?_replicate, if_pos (by omega)]
        simp
  · rw [List.getElem?_eq_none (by rw [List.length_zipWith, tl_length]; omega), List.getElem?_eq_none (by rw [List.length_append, hlen, List.length_replicate]; omega)]

/-- THE LAW: the sums are unlike just where some byte was turned. -/
theorem turn_told (l : List UInt8) (k n m : Nat) (h : k + m ≤ l.length) (hm : m ≤ 4) : (sumN ent (tl l k n m) ≠ sumN ent l) ↔ anyX n m = true := by
  have hiff := sum_eq_iff (tl l k n m) l (tl_length l k n m)
  rw [tl_diff l k n m h] at hiff
  unfold anyX
  rw [List.any_eq_true]
  constructor
  · intro hne
    refine Classical.byContradiction fun hno => hne (hiff.2 ?_)
    have hz : ∀ y ∈ List.replicate k (0 : UInt8) ++ (List.range m).map (byX n) ++ List.replicate (l.length - k - m) 0, y = 0 := by
      intro y hy
      rcases List.mem_append.1 hy with hy | hy
      · rcases List.mem_append.1 hy with hy | hy
        · exact (List.mem_replicate.1 hy).2
        · obtain ⟨q, hq, rfl⟩ := List.mem_map.1 hy
          refine Classical.byContradiction fun hne2 => hno ⟨q, hq, ?_⟩
          simpa using hne2
      · exact (List.mem_replicate.1 hy).2
    rw [fold_half, numC_zero _ hz, Nat.xor_zero, halfK_zero]
  · rintro ⟨q, hq, hq0⟩ he
    refine told k (l.length - k - m) ((List.range m).map (byX n)) (by simpa using hm) ⟨byX n q, List.mem_map.2 ⟨q, hq, rfl⟩, by simpa using hq0⟩ (hiff.1 he)

end Go.Proofs.Ytjjkapoicdmigaa
