/- Records plainly: which may be written, their headers' bytes, what bytes are read as. Nothing of the program is named here. -/
import Derived.Test.YtbjjcjcobiokcaaFText
namespace Go.Proofs.Ytbjjcjcobiokcaa

structure Rec where
  name : ByteArray
  note : ByteArray
  flags : Int
  method : Int
  date : Int
  clock : Int
  sum : Int
  size : Int
  packed : Int
  at_ : Int
  wide : Bool
def zeroR : Rec := ⟨⟨#[]⟩, ⟨#[]⟩, 0, 0, 0, 0, 0, 0, 0, 0, false⟩
/-- The flag 8. -/
def flag8 (f : Int) : Bool := decide (f / 8 % 2 = 1)
def mostR (r : Rec) : Int := if r.wide = true then 4611686018427387903 else 4294967294
/-- A record that may be written. -/
structure RightR (r : Rec) : Prop where
  flags : 0 ≤ r.flags ∧ r.flags ≤ 65535
  method : 0 ≤ r.method ∧ r.method ≤ 65535
  date : 0 ≤ r.date ∧ r.date ≤ 65535
  clock : 0 ≤ r.clock ∧ r.clock ≤ 65535
  size : 0 ≤ r.size ∧ r.size ≤ mostR r
  packed : 0 ≤ r.packed ∧ r.packed ≤ mostR r
  at_ : 0 ≤ r.at_ ∧ r.at_ ≤ mostR r
  sum : 0 ≤ r.sum ∧ r.sum ≤ 4294967295
  name : r.name.size ≤ 65535
  note : r.note.size ≤ 65535
def inB (m x : Int) : Bool := decide (0 ≤ x) && decide (x ≤ m)
def rightR (r : Rec) : Bool := inB 65535 r.flags && inB 65535 r.method && inB 65535 r.date && inB 65535 r.clock && inB (mostR r) r.size && inB (mostR r) r.packed && inB (mostR r) r.at_ && inB 4294967295 r.sum && decide (r.name.size ≤ 65535) && decide (r.note.size ≤ 65535)
theorem rightR_iff (r : Rec) : rightR r = true ↔ RightR r := by
  unfold rightR inB
  simp only [Bool.and_eq_true, decide_eq_true_eq]
  constructor
  · rintro ⟨⟨⟨⟨⟨⟨⟨⟨⟨h1, h2⟩, h3⟩, h4⟩, h5⟩, h6⟩, h7⟩, h8⟩, h9⟩, h10⟩
    exact ⟨h1, h2, h3, h4, h5, h6, h7, h8, h9, h10⟩
  · rintro ⟨h1, h2, h3, h4, h5, h6, h7, h8, h9, h10⟩
    exact ⟨⟨⟨⟨⟨⟨⟨⟨⟨h1, h2⟩, h3⟩, h4⟩, h5⟩, h6⟩, h7⟩, h8⟩, h9⟩, h10⟩
theorem rightR_no {r : Rec} (h : ¬ RightR r) : rightR r = false := by
  cases hb : rightR r with
  | false => rfl
  | true => exact absurd ((rightR_iff r).1 hb) h
def verR (r : Rec) : Int := if r.wide = true then 45 else 20
def sumL (r : Rec) : Int := if flag8 r.flags = true then 0 else r.sum
def packL (r : Rec) : Int := if flag8 r.flags = true then 0 else r.packed
def sizeL (r : Rec) : Int := if flag8 r.flags = true then 0 else r.size
/-- In its own field: all bits, where it stands elsewhere. -/
def ownF (r : Rec) (x : Int) : Int := if r.wide = true then 4294967295 else x
def extraL (r : Rec) : ByteArray := if r.wide = true then lowS 1 2 ++ lowS 16 2 ++ lowS (sizeL r) 8 ++ lowS (packL r) 8 else ⟨#[]⟩
def extraC (r : Rec) : ByteArray := if r.wide = true then lowS 1 2 ++ lowS 24 2 ++ lowS r.size 8 ++ lowS r.packed 8 ++ lowS r.at_ 8 else ⟨#[]⟩
/-- A local header. -/
def locS (r : Rec) : ByteArray := lowS 67324752 4 ++ lowS (verR r) 2 ++ lowS r.flags 2 ++ lowS r.method 2 ++ lowS r.clock 2 ++ lowS r.date 2 ++ lowS (sumL r) 4 ++ lowS (ownF r (packL r)) 4 ++ lowS (ownF r (sizeL r)) 4 ++ lowS r.name.size 2 ++ lowS (extraL r).size 2 ++ r.name ++ extraL r
/-- A central record. -/
def cenS (r : Rec) : ByteArray := lowS 33639248 4 ++ lowS (verR r) 2 ++ lowS (verR r) 2 ++ lowS r.flags 2 ++ lowS r.method 2 ++ lowS r.clock 2 ++ lowS r.date 2 ++ lowS r.sum 4 ++ lowS (ownF r r.packed) 4 ++ lowS (ownF r r.size) 4 ++ lowS r.name.size 2 ++ lowS (extraC r).size 2 ++ lowS r.note.size 2 ++ lowS 0 2 ++ lowS 0 2 ++ lowS 0 4 ++ lowS (ownF r r.at_) 4 ++ r.name ++ extraC r ++ r.note
/-- What stands behind the bytes. -/
def tailS (r : Rec) : ByteArray := if flag8 r.flags = true then (if r.wide = true then lowS 134695760 4 ++ lowS r.sum 4 ++ lowS r.packed 8 ++ lowS r.size 8 else lowS 134695760 4 ++ lowS r.sum 4 ++ lowS r.packed 4 ++ lowS r.size 4) else ⟨#[]⟩

theorem ba_size_append (a b : ByteArray) : (a ++ b).size = a.size + b.size := ByteArray.size_append
theorem extraL_size (r : Rec) : (extraL r).size = if r.wide = true then 20 else 0 := by
  unfold extraL
  split
  · simp only [ba_size_append, lowS_size]
  · rfl
theorem extraC_size (r : Rec) : (extraC r).size = if r.wide = true then 28 else 0 := by
  unfold extraC
  split
  · simp only [ba_size_append, lowS_size]
  · rfl
theorem locS_size (r : Rec) : (locS r).size = 30 + r.name.size + (if r.wide = true then 20 else 0) := by
  unfold locS
  simp only [ba_size_append, lowS_size, extraL_size]
theorem cenS_size (r : Rec) : (cenS r).size = 46 + r.name.size + r.note.size + (if r.wide = true then 28 else 0) := by
  unfold cenS
  simp only [ba_size_append, lowS_size, extraC_size]
  omega
theorem tailS_size (r : Rec) : (tailS r).size = if flag8 r.flags = true then (if r.wide = true then 24 else 16) else 0 := by
  unfold tailS
  split
  · split <;> simp only [ba_size_append, lowS_size]
  · rfl

/-- The central record that comes; the local header. -/
def CenAt (s : ByteArray) (i : Nat) (r : Rec) : Prop := RightR r ∧ ∃ C, s.data.toList.drop i = (cenS r).data.toList ++ C
def LocAt (s : ByteArray) (i : Nat) (r : Rec) : Prop := ∃ C, s.data.toList.drop i = (locS r).data.toList ++ C
/-- A text comes next. -/
theorem text_next {s : ByteArray} {j n : Nat} {B C : List UInt8} (h : s.data.toList.drop j = B ++ C) (hB : B.length = n) (hj : j ≤ s.size) :
    textV s (j : Nat) (n : Nat) false = ⟨B.toArray⟩ ∧ textI s (j : Nat) (n : Nat) false = ((j + n : Nat) : Int) ∧ canT s (j : Nat) (n : Nat) false = true ∧ s.data.toList.drop (j + n) = C ∧ j + n ≤ s.size := by
  have e : s.data.toList = s.data.toList.take j ++ (B ++ C) := by rw [← h, List.take_append_drop]
  have hl : (s.data.toList.take j).length = j := by rw [List.length_take, ba_size]; omega
  obtain ⟨h1, h2, h3⟩ := textV_mid s (s.data.toList.take j) B C e j n hl hB
  refine ⟨h1, h2, h3, ?_, ?_⟩
  · rw [← List.drop_drop, h, ← hB, List.drop_left]
  · have := congrArg List.length e
    rw [List.length_append, List.length_append, ba_size, hl, hB] at this
    omega
/-- A number comes next. -/
theorem num_next {s : ByteArray} {j k : Nat} {x : Int} {C : List UInt8} (h : s.data.toList.drop j = lowB x k ++ C) (hj : j ≤ s.size) (h0 : 0 ≤ x) (h1 : x < 2 ^ (8 * k)) (h2 : x < 9223372036854775808) :
    numV (textV s (j : Nat) (k : Nat) false) = x ∧ textI s (j : Nat) (k : Nat) false = ((j + k : Nat) : Int) ∧ numW s (j : Nat) (k : Nat) false = false ∧ s.data.toList.drop (j + k) = C ∧ j + k ≤ s.size := by
  obtain ⟨e1, e2, e3, e4, e5⟩ := text_next h (lowB_length x k) hj
  have em : x % 2 ^ (8 * k) = x := Int.emod_eq_of_lt h0 h1
  obtain ⟨e6, e7⟩ := numV_low x k (by rw [em]; exact h2)
  have e8 : textV s (j : Nat) (k : Nat) false = lowS x k := e1
  refine ⟨by rw [e8, e6, em], e2, ?_, e4, e5⟩
  unfold numW
  rw [e3, e8, e7]
  rfl
/-- Reading by any cursor keeps within the text. -/
theorem textI_in {s : ByteArray} {i n : Int} {bad : Bool} (_h0 : 0 ≤ i) (h1 : i ≤ s.size) : i ≤ textI s i n bad ∧ textI s i n bad ≤ s.size := by
  unfold textI
  split
  · rename_i h
    obtain ⟨_, h2, _, h4⟩ := canT_true h
    omega
  · omega

end Go.Proofs.Ytbjjcjcobiokcaa
