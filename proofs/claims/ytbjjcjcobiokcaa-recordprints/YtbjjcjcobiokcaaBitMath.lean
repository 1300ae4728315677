/- Plain facts on bits of whole numbers: '&' with a mask, '&^ 7', '|', and the bits of numbers. Nothing of the program is named here. -/
import Derived.WalkKit
namespace Go.Proofs.Ytbjjcjcobiokcaa
open Go.RowKit

theorem ediv2 (x z : Int) : x / (2 * z) = x / 2 / z := by
  rw [Int.ediv_ediv, if_neg (by omega)]
  omega

theorem emod_mul' (v p q : Int) (hp : 0 < p) (hq : 0 < q) : v % (p * q) = v % p + p * (v / p % q) := by
  have h1 := Int.emod_add_mul_ediv v p
  have h2 := Int.emod_add_mul_ediv (v / p) q
  have h3 := Int.emod_nonneg v (show p ≠ 0 by omega)
  have h4 := Int.emod_lt_of_pos v hp
  have h5 := Int.emod_nonneg (v / p) (show q ≠ 0 by omega)
  have h6 := Int.emod_lt_of_pos (v / p) hq
  have e : v = (v % p + p * (v / p % q)) + p * q * (v / p / q) := by
    have : p * (v / p) = p * (v / p % q) + p * q * (v / p / q) := by
      rw [Int.mul_assoc, ← Int.mul_add, h2]
    omega
  have h7 : p * (v / p % q) ≤ p * (q - 1) := Int.mul_le_mul_of_nonneg_left (by omega) (by omega)
  have h8 : 0 ≤ p * (v / p % q) := Int.mul_nonneg (by omega) h5
  have h9 : p * (q - 1) = p * q - p := by rw [Int.mul_sub, Int.mul_one]
  have e2 : v % (p * q) = ((v % p + p * (v / p % q)) + p * q * (v / p / q)) % (p * q) := by rw [← e]
  rw [e2, Int.add_mul_emod_self_left]
  exact Int.emod_eq_of_lt (by omega) (by omega)

theorem wrap_i64_id (n : Int) (h0 : 0 ≤ n) (h1 : n < 9223372036854775808) : IntKind.i64.wrap n = n := by
  simp only [IntKind.wrap, IntKind.bits, IntKind.signed]
  have e : n % (2 ^ 64 : Int) = n := Int.emod_eq_of_lt h0 (by omega)
  simp only [e]
  simp
  omega

theorem bits_and_i64 (x y : Int) : bits .and .i64 x y = IntKind.i64.wrap ((BitVec.ofInt 64 x &&& BitVec.ofInt 64 y : BitVec 64).toNat) := rfl
theorem bits_or_i64 (x y : Int) : bits .or .i64 x y = IntKind.i64.wrap ((BitVec.ofInt 64 x ||| BitVec.ofInt 64 y : BitVec 64).toNat) := rfl
theorem bits_andNot_i64 (x y : Int) : bits .andNot .i64 x y = IntKind.i64.wrap ((BitVec.ofInt 64 x &&& ~~~ BitVec.ofInt 64 y : BitVec 64).toNat) := rfl

theorem toNat_ofInt64 (x : Int) : ((BitVec.ofInt 64 x).toNat : Int) = x % 18446744073709551616 := by
  rw [BitVec.toNat_ofInt]
  have : (0 : Int) ≤ x % ((2 ^ 64 : Nat) : Int) := Int.emod_nonneg _ (by decide)
  rw [Int.toNat_of_nonneg this]
  rfl

theorem and_mask_i64 (x : Int) (k : Nat) (hk : k < 63) : bits .and .i64 x (2 ^ k - 1) = x % 2 ^ k := by
  have hp : (2 : Nat) ^ k < 2 ^ 63 := Nat.pow_lt_pow_right (by decide) hk
  have hpos : 0 < (2 : Nat) ^ k := Nat.pow_pos (by decide)
  have ep : (2 : Int) ^ k = ((2 ^ k : Nat) : Int) := by rw [Int.natCast_pow]; rfl
  have hd : (2 ^ k : Nat) ∣ 2 ^ 64 := Nat.pow_dvd_pow 2 (by omega)
  rw [ep]
  have hand : ∀ y : Nat, y &&& (2 ^ k - 1) = y % 2 ^ k := fun y => Nat.and_two_pow_sub_one_eq_mod y k
  generalize (2 : Nat) ^ k = p at *
  have hm : (BitVec.ofInt 64 ((p : Int) - 1)).toNat = p - 1 := by
    have h := toNat_ofInt64 ((p : Int) - 1)
    rw [Int.emod_eq_of_lt (by omega) (by omega)] at h
    omega
  have hx := toNat_ofInt64 x
  rw [bits_and_i64, BitVec.toNat_and, hm, hand]
  have e2 : (((BitVec.ofInt 64 x).toNat % p : Nat) : Int) = x % p := by
    rw [Int.natCast_emod, hx]
    exact Int.emod_emod_of_dvd _ (Int.natCast_dvd_natCast.2 hd)
  rw [e2]
  have h1 : x % p < p := Int.emod_lt_of_pos _ (by omega)
  exact wrap_i64_id _ (Int.emod_nonneg _ (by omega)) (by omega)

theorem and1_i64 (x : Int) : bits .and .i64 x 1 = x % 2 := and_mask_i64 x 1 (by decide)
theorem and7_i64 (x : Int) : bits .and .i64 x 7 = x % 8 := and_mask_i64 x 3 (by decide)

theorem nat_andNot7 (n : Nat) : n &&& (18446744073709551615 - 7) = (n % 18446744073709551616) / 8 * 8 := by
  apply Nat.eq_of_testBit_eq
  intro i
  have e : (18446744073709551615 - 7 : Nat) = (2 ^ 61 - 1) * 2 ^ 3 := by decide
  rw [Nat.testBit_and, e, Nat.testBit_mul_two_pow, show (8 : Nat) = 2 ^ 3 from rfl, Nat.testBit_mul_two_pow, Nat.testBit_div_two_pow, show 18446744073709551616 = 2 ^ 64 from rfl, Nat.testBit_mod_two_pow, Nat.testBit_two_pow_sub_one]
  by_cases h : 3 ≤ i
  · have : i - 3 + 3 = i := by omega
    by_cases h2 : i < 64
    · have : i - 3 < 61 := by omega
      simp_all
    · have h3 : ¬ i - 3 < 61 := by omega
      have h4 : ¬ i - 3 + 3 < 64 := by omega
      simp [h3, h4]
  · simp [h]

theorem andNot7_i64 (n : Int) (h0 : 0 ≤ n) (h1 : n < 9223372036854775808) : bits .andNot .i64 n 7 = n / 8 * 8 := by
  obtain ⟨m, rfl⟩ : ∃ m : Nat, n = m := ⟨n.toNat, by omega⟩
  have hx := toNat_ofInt64 (m : Int)
  rw [Int.emod_eq_of_lt h0 (by omega)] at hx
  have hx' : (BitVec.ofInt 64 (m : Int)).toNat = m := by exact_mod_cast hx
  rw [bits_andNot_i64, BitVec.toNat_and, BitVec.toNat_not, hx']
  have h7 : (BitVec.ofInt 64 7).toNat = 7 := by decide
  rw [h7, show (2 ^ 64 - 1 - 7 : Nat) = 18446744073709551615 - 7 from rfl, nat_andNot7, Nat.mod_eq_of_lt (by omega)]
  rw [wrap_i64_id _ (by omega) (by omega)]
  omega

theorem or_i64_nat (a b : Nat) (ha : a < 9223372036854775808) (hb : b < 9223372036854775808) : bits .or .i64 (a : Int) (b : Int) = ((a ||| b : Nat) : Int) := by
  have hx := toNat_ofInt64 (a : Int)
  rw [Int.emod_eq_of_lt (by omega) (by omega)] at hx
  have hx' : (BitVec.ofInt 64 (a : Int)).toNat = a := by exact_mod_cast hx
  have hy := toNat_ofInt64 (b : Int)
  rw [Int.emod_eq_of_lt (by omega) (by omega)] at hy
  have hy' : (BitVec.ofInt 64 (b : Int)).toNat = b := by exact_mod_cast hy
  rw [bits_or_i64, BitVec.toNat_or, hx', hy']
  have : a ||| b < 2 ^ 63 := Nat.or_lt_two_pow (by omega) (by omega)
  exact wrap_i64_id _ (by omega) (by omega)

end Go.Proofs.Ytbjjcjcobiokcaa
