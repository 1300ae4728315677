import Derived.Test.YtaalbaiglkadlaaGreatBitsA
/- Contracts of the document's Reader: what each method answers, and what the reader is behind it: the same words as of the program's own. -/
namespace Go.Proofs.YtaalbaiglkadlaaGreat
open Go.RowKit

theorem bit_ref (s : ByteArray) (i : Nat) (h : i / 8 < s.size)  :
    bits .and .i64 (wrap64 ((s[i / 8].toNat : Int) / 2 ^ (i % 8))) 1 = bitI s i := by
  rw [and1_i64, ← getD_of_lt s (i / 8) h]
  unfold bitI
  generalize hb : s.data.toList.getD (i / 8) 0 = b
  have hb2 : b.toNat < 256 := b.toNat_lt
  have hle : b.toNat / 2 ^ (i % 8) < 256 := Nat.lt_of_le_of_lt (Nat.div_le_self _ _) hb2
  have e4 : ((b.toNat : Int) / 2 ^ (i % 8)) = ((b.toNat / 2 ^ (i % 8) : Nat) : Int) := by
    rw [Int.natCast_ediv, Int.natCast_pow]; rfl
  rw [e4]
  unfold wrap64
  omega

section
variable (p : Nat) (s : ByteArray) (i : Nat) (w : World)
end

end Go.Proofs.YtaalbaiglkadlaaGreat

/- Contracts of the document's Reader, more: Bits, Align, Text, Used. -/
namespace Go.Proofs.YtaalbaiglkadlaaGreat
open Go.RowKit

/-- The loop goes on just below what is taken. -/
theorem taken_lt (n : Int) (k j : Nat) (hk : takenI n = (k : Int)) (hj : j ≤ k) : (j < k ↔ (j : Int) < n ∧ (j : Int) < 30) := by
  unfold takenI at hk
  split at hk
  · omega
  · split at hk <;> omega

/-- How far a reader is. -/
def atOf (w : World) (p : Nat) : Nat := (intOf ((w.cell? ⟨p, 1, none⟩).getD undef)).toNat
theorem atOf_eq {T : TypeId} {w : World} {p : Nat} {s : ByteArray} {i : Nat} {bad : Bool} (h : RdAt T w p s i bad) : atOf w p = i := by
  unfold atOf; rw [h.c1]; simp [intOf]

/-- Of a reader that is Bad, Align does nothing. -/
def alignAt (bad : Bool) (i : Nat) : Nat := if bad then i else (i + 7) / 8 * 8

end Go.Proofs.YtaalbaiglkadlaaGreat
