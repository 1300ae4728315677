/- Plain facts on numbers as bytes, the lowest first. Nothing of the program is named here. -/
import Derived.Test.YtbjjcjcobiokcaaBitMath
namespace Go.Proofs.Ytbjjcjcobiokcaa
open Go.RowKit

/-- Byte number i of n. -/
def byteI (n : Int) (i : Nat) : UInt8 := UInt8.ofNat (n / 2 ^ (8 * i) % 256).toNat

/-- The k lowest bytes of n, the lowest first. -/
def lowB (n : Int) (k : Nat) : List UInt8 := (List.range k).map (byteI n)

theorem byteI_toNat (n : Int) (i : Nat) : ((byteI n i).toNat : Int) = n / 2 ^ (8 * i) % 256 := by
  unfold byteI
  have h0 : 0 ≤ n / 2 ^ (8 * i) % 256 := Int.emod_nonneg _ (by decide)
  have h1 : n / 2 ^ (8 * i) % 256 < 256 := Int.emod_lt_of_pos _ (by decide)
  rw [UInt8.toNat_ofNat']
  omega

theorem lowB_length (n : Int) (k : Nat) : (lowB n k).length = k := by simp [lowB]
theorem lowB_succ (n : Int) (k : Nat) : lowB n (k + 1) = lowB n k ++ [byteI n k] := by simp [lowB, List.range_succ]

theorem shift_shift (n : Int) (a b : Nat) : n / 2 ^ a / 2 ^ b = n / 2 ^ (a + b) := by
  have h : (0 : Int) < 2 ^ a := Int.pow_pos (by decide)
  rw [Int.ediv_ediv, if_neg (by omega), Int.pow_add]
  omega

theorem byteI_shift (n : Int) (a i : Nat) : byteI (n / 2 ^ (8 * a)) i = byteI n (a + i) := by
  unfold byteI
  rw [shift_shift, show 8 * a + 8 * i = 8 * (a + i) by omega]

theorem lowB_add (n : Int) (a b : Nat) : lowB n (a + b) = lowB n a ++ lowB (n / 2 ^ (8 * a)) b := by
  induction b with
  | zero => simp [lowB]
  | succ b ih => rw [← Nat.add_assoc, lowB_succ, ih, lowB_succ, byteI_shift, List.append_assoc]

/-- The number of bytes, the lowest first. -/
def numB : List UInt8 → Nat
  | [] => 0
  | x :: l => x.toNat + 256 * numB l

theorem numB_append (a b : List UInt8) : numB (a ++ b) = numB a + 2 ^ (8 * a.length) * numB b := by
  induction a with
  | nil => simp [numB]
  | cons x l ih =>
    simp only [List.cons_append, numB, ih, List.length_cons]
    rw [show 8 * (l.length + 1) = 8 * l.length + 8 by omega, Nat.pow_add, Nat.mul_add, Nat.add_assoc]
    congr 2
    rw [show (2 : Nat) ^ 8 = 256 from rfl, Nat.mul_comm (2 ^ (8 * l.length)) 256, Nat.mul_assoc]

theorem numB_lt (l : List UInt8) : numB l < 2 ^ (8 * l.length) := by
  induction l with
  | nil => simp [numB]
  | cons x l ih =>
    simp only [numB, List.length_cons]
    have hx : x.toNat < 256 := x.toNat_lt
    rw [show 8 * (l.length + 1) = 8 * l.length + 8 by omega, Nat.pow_add, show (2 : Nat) ^ 8 = 256 from rfl]
    omega

theorem numB_snoc (l : List UInt8) (x : UInt8) : numB (l ++ [x]) = numB l + x.toNat * 2 ^ (8 * l.length) := by
  rw [numB_append]; simp [numB, Nat.mul_comm]

theorem two_pow_pos' (k : Nat) : (0 : Int) < 2 ^ k := Int.pow_pos (by decide)

/-- The bytes of n are n, as far as it fits. -/
theorem numB_low (n : Int) (k : Nat) : (numB (lowB n k) : Int) = n % 2 ^ (8 * k) := by
  induction k with
  | zero => simp [lowB, numB]
  | succ k ih =>
    rw [lowB_succ, numB_snoc, lowB_length, Int.natCast_add, Int.natCast_mul, ih, byteI_toNat, show 8 * (k + 1) = 8 * k + 8 by omega, Int.pow_add, emod_mul' n (2 ^ (8 * k)) (2 ^ 8) (two_pow_pos' _) (by decide), Int.natCast_pow, Int.mul_comm (2 ^ (8 * k)) (n / 2 ^ (8 * k) % 2 ^ 8)]
    rfl

/-- A number as a byte string. -/
def lowS (n : Int) (k : Nat) : ByteArray := ⟨(lowB n k).toArray⟩

theorem lowS_size (n : Int) (k : Nat) : (lowS n k).size = k := by
  show (lowB n k).toArray.size = k
  simp [lowB_length]

theorem lowS_list (n : Int) (k : Nat) : (lowS n k).data.toList = lowB n k := rfl

theorem ba_ext {a b : ByteArray} (h : a.data.toList = b.data.toList) : a = b := by
  cases a; cases b
  simp at h
  simp [h]

theorem ba_append_list (a b : ByteArray) : (a ++ b).data.toList = a.data.toList ++ b.data.toList := by
  simp

theorem lowS_add (n : Int) (a b : Nat) : lowS n (a + b) = lowS n a ++ lowS (n / 2 ^ (8 * a)) b := by
  apply ba_ext
  rw [ba_append_list, lowS_list, lowS_list, lowS_list, lowB_add]

/-- One byte more, by '|', in an int: the sign is the highest bit. -/
theorem or_step (a x j : Nat) (hj : j ≤ 7) (ha : a < 2 ^ (8 * j)) (hx : x < 256) :
    bits .or .i64 (wrap64 a) (wrap64 ((x : Int) * 2 ^ (8 * j))) = wrap64 ((a + x * 2 ^ (8 * j) : Nat) : Int) := by
  have hp : (2 : Nat) ^ (8 * j) ≤ 2 ^ 56 := Nat.pow_le_pow_right (by decide) (by omega)
  have hm : x * 2 ^ (8 * j) ≤ 255 * 2 ^ 56 := Nat.mul_le_mul (by omega) hp
  have e : ((x : Int) * 2 ^ (8 * j)) = ((x * 2 ^ (8 * j) : Nat) : Int) := by rw [Int.natCast_mul, Int.natCast_pow]; rfl
  have key : ∀ n : Nat, n < 18446744073709551616 → (BitVec.ofInt 64 (wrap64 n)).toNat = n := by
    intro n hn
    have h := toNat_ofInt64 (wrap64 n)
    unfold wrap64 at h ⊢
    omega
  rw [e, bits_or_i64, BitVec.toNat_or, key a (by omega), key _ (by omega), IntKind.wrap_i64]
  have ho : a ||| x * 2 ^ (8 * j) = a + x * 2 ^ (8 * j) := by
    rw [Nat.or_comm, Nat.add_comm, ← Nat.mul_comm (2 ^ (8 * j)) x, ← Nat.two_pow_add_eq_or_of_lt ha]
  rw [ho, wrap64]

/-- The same, downwards: a byte ahead, by '|', in an uint64. -/
theorem or_step_u (a x : Nat) (ha : a < 2 ^ 56) (hx : x < 256) :
    bits .or .u64 (((a : Int) * 256) % 18446744073709551616) x = ((x + 256 * a : Nat) : Int) := by
  have e : ((a : Int) * 256) % 18446744073709551616 = ((2 ^ 8 * a : Nat) : Int) := by omega
  have hb : ∀ p q : Int, bits .or .u64 p q = IntKind.u64.wrap ((BitVec.ofInt 64 p ||| BitVec.ofInt 64 q : BitVec 64).toNat) := fun _ _ => rfl
  have key : ∀ n : Nat, n < 18446744073709551616 → (BitVec.ofInt 64 (n : Int)).toNat = n := by
    intro n hn
    have h := toNat_ofInt64 (n : Int)
    omega
  rw [e, hb, BitVec.toNat_or, key _ (by omega), key _ (by omega), ← Nat.two_pow_add_eq_or_of_lt (show x < 2 ^ 8 by omega)]
  simp only [IntKind.wrap, IntKind.bits, IntKind.signed]
  simp
  omega

end Go.Proofs.Ytbjjcjcobiokcaa
