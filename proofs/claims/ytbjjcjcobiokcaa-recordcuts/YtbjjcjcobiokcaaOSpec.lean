/- What the program's layer 14 must be. -/
import Derived.Test.YtbjjcjcobiokcaaOMath2
import Derived.Test.YtbjjcjcobiokcaaQBelow
import Derived.Test.YtbjjcjcobiokcaaBitMath
namespace Go.Proofs.Ytbjjcjcobiokcaa
open Go.RowKit Go.Lib

theorem flag_and (n : Nat) (h : n ≤ 65535) : bits .and .i64 (n : Int) 8 = if flag8 (n : Int) = true then 8 else 0 := by
  rw [bits_and_i64]
  have e : (BitVec.ofInt 64 (n : Int) &&& BitVec.ofInt 64 8 : BitVec 64).toNat = n &&& 8 := by
    rw [BitVec.toNat_and]
    have e1 : (BitVec.ofInt 64 (n : Int)).toNat = n := by
      rw [BitVec.toNat_ofInt]
      omega
    rw [e1]
    rfl
  rw [e]
  have h8 : n &&& 8 = if n / 2 ^ 3 % 2 = 1 then 8 else 0 := by
    apply Nat.eq_of_testBit_eq
    intro i
    rw [Nat.testBit_and, show (8 : Nat) = 2 ^ 3 from rfl, Nat.testBit_two_pow]
    by_cases hi : 3 = i
    · subst hi
      rw [Nat.testBit_eq_decide_div_mod_eq]
      by_cases hb : n / 2 ^ 3 % 2 = 1
      · rw [if_pos hb, decide_eq_true hb, Nat.testBit_two_pow]
        simp
      · rw [if_neg hb, decide_eq_false hb]
        simp
    · rw [decide_eq_false hi, Bool.and_false]
      split
      · rw [Nat.testBit_two_pow, decide_eq_false hi]
      · simp
  rw [h8]
  unfold flag8
  by_cases hb : n / 2 ^ 3 % 2 = 1
  · rw [if_pos hb, decide_eq_true (show (n : Int) / 8 % 2 = 1 by omega)]
    rfl
  · rw [if_neg hb, decide_eq_false (show ¬ (n : Int) / 8 % 2 = 1 by omega)]
    rfl
/-- A record as a value; its cells. -/
def recCs (r : Rec) : Array Value := #[.string r.name, .string r.note, .int .i64 r.flags, .int .i64 r.method, .int .i64 r.date, .int .i64 r.clock, .int .i64 r.sum, .int .i64 r.size, .int .i64 r.packed, .int .i64 r.at_, .bool r.wide]
def recV (r : Rec) : Value := .agg (recCs r)
def IntIn (x : Int) : Prop := -9223372036854775808 ≤ x ∧ x ≤ 9223372036854775807
/-- A record that there may be. -/
structure RecIn (r : Rec) : Prop where
  flags : IntIn r.flags
  method : IntIn r.method
  date : IntIn r.date
  clock : IntIn r.clock
  sum : IntIn r.sum
  size : IntIn r.size
  packed : IntIn r.packed
  at_ : IntIn r.at_
/-- What a central record is read as. -/
def ReadCP (T : TypeId) (s : ByteArray) (p i : Nat) (W : World) (e : Ending) (w' : World) : Prop :=
  w'.os = W.os ∧ w'.tape = W.tape ∧ w'.output = W.output ∧ W.heap.size ≤ w'.heap.size ∧ (∀ k, k < W.heap.size → k ≠ p → w'.heap[k]? = W.heap[k]?) ∧
  ((∃ r, CenAt s i r ∧ e = .returned (.tuple #[recV r, .bool true]) ∧ CurAt T w' p s ((i + (cenS r).size : Nat) : Int) false) ∨
   ((∀ r, ¬ CenAt s i r) ∧ e = .returned (.tuple #[recV zeroR, .bool false]) ∧ ∃ i' : Int, CurAt T w' p s i' true))
/-- Whether a local header is read. -/
def ReadLP (T : TypeId) (s : ByteArray) (p i : Nat) (r : Rec) (W : World) (e : Ending) (w' : World) : Prop :=
  w'.os = W.os ∧ w'.tape = W.tape ∧ w'.output = W.output ∧ W.heap.size ≤ w'.heap.size ∧ (∀ k, k < W.heap.size → k ≠ p → w'.heap[k]? = W.heap[k]?) ∧
  ((LocAt s i r ∧ e = .returned (.bool true) ∧ CurAt T w' p s ((i + (locS r).size : Nat) : Int) false) ∨
   (¬ LocAt s i r ∧ e = .returned (.bool false) ∧ ∃ i' : Int, CurAt T w' p s i' true))
/-- The contracts of the program's calls. -/
structure OSpec : Prop where
  right : ∀ (r : Rec) (W : World), RecIn r → Calls Try.prog 10 #[recV r] W fun e w' => e = .returned (.bool (rightR r)) ∧ Below W.heap.size W w'
  locl : ∀ (r : Rec) (W : World), RightR r → Calls Try.prog 12 #[recV r] W fun e w' => e = .returned (.string (locS r)) ∧ Below W.heap.size W w'
  cent : ∀ (r : Rec) (W : World), RightR r → Calls Try.prog 14 #[recV r] W fun e w' => e = .returned (.string (cenS r)) ∧ Below W.heap.size W w'
  tail : ∀ (r : Rec) (W : World), RightR r → Calls Try.prog 16 #[recV r] W fun e w' => e = .returned (.string (tailS r)) ∧ Below W.heap.size W w'
  readC : ∀ (s : ByteArray) (p i : Nat) (W : World), CurAt 29 W p s (i : Nat) false → i ≤ s.size → s.size ≤ 1000000000 → Calls Try.prog 18 #[.pointer (some ⟨p, 0, none⟩)] W fun e w' => ReadCP 29 s p i W e w'
  readL : ∀ (s : ByteArray) (p i : Nat) (r : Rec) (W : World), CurAt 29 W p s (i : Nat) false → i ≤ s.size → s.size ≤ 1000000000 → RightR r → Calls Try.prog 20 #[.pointer (some ⟨p, 0, none⟩), recV r] W fun e w' => ReadLP 29 s p i r W e w'

end Go.Proofs.Ytbjjcjcobiokcaa
