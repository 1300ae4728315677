import Derived.WalkKit
import Derived.Test.YtaalbaiglkadlaaGreatWorld
import Derived.Test.YtaalbaiglkadlaaGreatRows
import Derived.WalkSpells
import Derived.WalkLawsBesides
import Derived.BigQuiet
import Derived.Deep.QuietTactic
import Derived.Test.YtaalbaiglkadlaaGreatAppend
import Derived.BigRegion
/- Plain facts on bits of whole numbers: '&' with a mask, '&^ 7', '|', and the bits of numbers. Nothing of the program is named here. -/
namespace Go.Proofs.YtaalbaiglkadlaaGreat
open Go.RowKit

theorem ediv2 (x z : Int) : x / (2 * z) = x / 2 / z := by
  rw [Int.ediv_ediv, if_neg (by omega)]
  omega

theorem emod_mul' (v p q : Int) (hp : 0 < p) (hq : 0 < q) : v % (p * q) = v % p + p * (v / p % q) := by
  have h1 := Int.emod_add_mul_ediv v p
  have h2 := Int.emod_add_mul_ediv (v / p) q
  have h3 := Int.emod_nonneg v (show p ≠ 0 by omega)
  have h4 := Int.emod_lt_of_pos v hp
  have h5 := Int.emod_nonneg (v / p) (show q ≠ 0 by omega)
  have h6 := Int.emod_lt_of_pos (v / p) hq
  have e : v = (v % p + p * (v / p % q)) + p * q * (v / p / q) := by
    have : p * (v / p) = p * (v / p % q) + p * q * (v / p / q) := by
      rw [Int.mul_assoc, ← Int.mul_add, h2]
    omega
  have h7 : p * (v / p % q) ≤ p * (q - 1) := Int.mul_le_mul_of_nonneg_left (by omega) (by omega)
  have h8 : 0 ≤ p * (v / p % q) := Int.mul_nonneg (by omega) h5
  have h9 : p * (q - 1) = p * q - p := by rw [Int.mul_sub, Int.mul_one]
  have e2 : v % (p * q) = ((v % p + p * (v / p % q)) + p * q * (v / p / q)) % (p * q) := by rw [← e]
  rw [e2, Int.add_mul_emod_self_left]
  exact Int.emod_eq_of_lt (by omega) (by omega)

theorem wrap_i64_id (n : Int) (h0 : 0 ≤ n) (h1 : n < 9223372036854775808) : IntKind.i64.wrap n = n := by
  simp only [IntKind.wrap, IntKind.bits, IntKind.signed]
  have e : n % (2 ^ 64 : Int) = n := Int.emod_eq_of_lt h0 (by omega)
  simp only [e]
  simp
  omega

theorem bits_and_i64 (x y : Int) : bits .and .i64 x y = IntKind.i64.wrap ((BitVec.ofInt 64 x &&& BitVec.ofInt 64 y : BitVec 64).toNat) := rfl
theorem bits_or_i64 (x y : Int) : bits .or .i64 x y = IntKind.i64.wrap ((BitVec.ofInt 64 x ||| BitVec.ofInt 64 y : BitVec 64).toNat) := rfl
theorem bits_andNot_i64 (x y : Int) : bits .andNot .i64 x y = IntKind.i64.wrap ((BitVec.ofInt 64 x &&& ~~~ BitVec.ofInt 64 y : BitVec 64).toNat) := rfl

theorem toNat_ofInt64 (x : Int) : ((BitVec.ofInt 64 x).toNat : Int) = x % 18446744073709551616 := by
  rw [BitVec.toNat_ofInt]
  have : (0 : Int) ≤ x % ((2 ^ 64 : Nat) : Int) := Int.emod_nonneg _ (by decide)
  rw [Int.toNat_of_nonneg this]
  rfl

theorem and_mask_i64 (x : Int) (k : Nat) (hk : k < 63) : bits .and .i64 x (2 ^ k - 1) = x % 2 ^ k := by
  have hp : (2 : Nat) ^ k < 2 ^ 63 := Nat.pow_lt_pow_right (by decide) hk
  have hpos : 0 < (2 : Nat) ^ k := Nat.pow_pos (by decide)
  have ep : (2 : Int) ^ k = ((2 ^ k : Nat) : Int) := by rw [Int.natCast_pow]; rfl
  have hd : (2 ^ k : Nat) ∣ 2 ^ 64 := Nat.pow_dvd_pow 2 (by omega)
  rw [ep]
  have hand : ∀ y : Nat, y &&& (2 ^ k - 1) = y % 2 ^ k := fun y => Nat.and_two_pow_sub_one_eq_mod y k
  generalize (2 : Nat) ^ k = p at *
  have hm : (BitVec.ofInt 64 ((p : Int) - 1)).toNat = p - 1 := by
    have h := toNat_ofInt64 ((p : Int) - 1)
    rw [Int.emod_eq_of_lt (by omega) (by omega)] at h
    omega
  have hx := toNat_ofInt64 x
  rw [bits_and_i64, BitVec.toNat_and, hm, hand]
  have e2 : (((BitVec.ofInt 64 x).toNat % p : Nat) : Int) = x % p := by
    rw [Int.natCast_emod, hx]
    exact Int.emod_emod_of_dvd _ (Int.natCast_dvd_natCast.2 hd)
  rw [e2]
  have h1 : x % p < p := Int.emod_lt_of_pos _ (by omega)
  exact wrap_i64_id _ (Int.emod_nonneg _ (by omega)) (by omega)

theorem and1_i64 (x : Int) : bits .and .i64 x 1 = x % 2 := and_mask_i64 x 1 (by decide)
theorem and7_i64 (x : Int) : bits .and .i64 x 7 = x % 8 := and_mask_i64 x 3 (by decide)

theorem nat_andNot7 (n : Nat) : n &&& (18446744073709551615 - 7) = (n % 18446744073709551616) / 8 * 8 := by
  apply Nat.eq_of_testBit_eq
  intro i
  have e : (18446744073709551615 - 7 : Nat) = (2 ^ 61 - 1) * 2 ^ 3 := by decide
  rw [Nat.testBit_and, e, Nat.testBit_mul_two_pow, show (8 : Nat) = 2 ^ 3 from rfl, Nat.testBit_mul_two_pow, Nat.testBit_div_two_pow, show 18446744073709551616 = 2 ^ 64 from rfl, Nat.testBit_mod_two_pow, Nat.testBit_two_pow_sub_one]
  by_cases h : 3 ≤ i
  · have : i - 3 + 3 = i := by omega
    by_cases h2 : i < 64
    · have : i - 3 < 61 := by omega
      simp_all
    · have h3 : ¬ i - 3 < 61 := by omega
      have h4 : ¬ i - 3 + 3 < 64 := by omega
      simp [h3, h4]
  · simp [h]

theorem andNot7_i64 (n : Int) (h0 : 0 ≤ n) (h1 : n < 9223372036854775808) : bits .andNot .i64 n 7 = n / 8 * 8 := by
  obtain ⟨m, rfl⟩ : ∃ m : Nat, n = m := ⟨n.toNat, by omega⟩
  have hx := toNat_ofInt64 (m : Int)
  rw [Int.emod_eq_of_lt h0 (by omega)] at hx
  have hx' : (BitVec.ofInt 64 (m : Int)).toNat = m := by exact_mod_cast hx
  rw [bits_andNot_i64, BitVec.toNat_and, BitVec.toNat_not, hx']
  have h7 : (BitVec.ofInt 64 7).toNat = 7 := by decide
  rw [h7, show (2 ^ 64 - 1 - 7 : Nat) = 18446744073709551615 - 7 from rfl, nat_andNot7, Nat.mod_eq_of_lt (by omega)]
  rw [wrap_i64_id _ (by omega) (by omega)]
  omega

theorem or_i64_nat (a b : Nat) (ha : a < 9223372036854775808) (hb : b < 9223372036854775808) : bits .or .i64 (a : Int) (b : Int) = ((a ||| b : Nat) : Int) := by
  have hx := toNat_ofInt64 (a : Int)
  rw [Int.emod_eq_of_lt (by omega) (by omega)] at hx
  have hx' : (BitVec.ofInt 64 (a : Int)).toNat = a := by exact_mod_cast hx
  have hy := toNat_ofInt64 (b : Int)
  rw [Int.emod_eq_of_lt (by omega) (by omega)] at hy
  have hy' : (BitVec.ofInt 64 (b : Int)).toNat = b := by exact_mod_cast hy
  rw [bits_or_i64, BitVec.toNat_or, hx', hy']
  have : a ||| b < 2 ^ 63 := Nat.or_lt_two_pow (by omega) (by omega)
  exact wrap_i64_id _ (by omega) (by omega)

end Go.Proofs.YtaalbaiglkadlaaGreat

/- Bits packed into bytes, the lowest of a byte first. Nothing of the program is named here. -/
namespace Go.Proofs.YtaalbaiglkadlaaGreat
open Go.RowKit

/-- The bytes out are the bits bs, the last byte filled with 0. -/
structure Packs (bs : List Bool) (out : List UInt8) : Prop where
  len : out.length = (bs.length + 7) / 8
  bit : ∀ i, (out.getD (i / 8) 0).toNat.testBit (i % 8) = bs.getD i false

theorem u8_ext (x y : UInt8) (h : ∀ j, j < 8 → x.toNat.testBit j = y.toNat.testBit j) : x = y := by
  apply UInt8.toNat_inj.1
  apply Nat.eq_of_testBit_eq
  intro j
  by_cases hj : j < 8
  · exact h j hj
  · have hx : x.toNat < 2 ^ j := Nat.lt_of_lt_of_le x.toNat_lt (Nat.pow_le_pow_right (by decide) (by omega : 8 ≤ j))
    have hy : y.toNat < 2 ^ j := Nat.lt_of_lt_of_le y.toNat_lt (Nat.pow_le_pow_right (by decide) (by omega : 8 ≤ j))
    rw [Nat.testBit_lt_two_pow hx, Nat.testBit_lt_two_pow hy]

theorem Packs.uniq {bs : List Bool} {o1 o2 : List UInt8} (h1 : Packs bs o1) (h2 : Packs bs o2) : o1 = o2 := by
  apply List.ext_getElem (h1.len.trans h2.len.symm)
  intro i hi1 hi2
  have e1 : o1.getD i 0 = o1[i] := by simp [List.getD_eq_getElem?_getD, hi1]
  have e2 : o2.getD i 0 = o2[i] := by simp [List.getD_eq_getElem?_getD, hi2]
  rw [← e1, ← e2]
  apply u8_ext
  intro j hj
  have b1 := h1.bit (8 * i + j)
  have b2 := h2.bit (8 * i + j)
  rw [show (8 * i + j) / 8 = i by omega, show (8 * i + j) % 8 = j by omega] at b1 b2
  rw [b1, b2]

theorem Packs.nil : Packs [] [] := ⟨rfl, fun i => by simp⟩

theorem getD_append_last (l : List UInt8) (x : UInt8) (k : Nat) : (l ++ [x]).getD k 0 = if k = l.length then x else l.getD k 0 := by
  simp only [List.getD_eq_getElem?_getD, List.getElem?_append]
  by_cases h : k < l.length
  · rw [if_pos h, if_neg (by omega)]
  · rw [if_neg h]
    by_cases h2 : k = l.length
    · subst h2; simp
    · rw [if_neg h2]
      have h3 : l[k]? = none := List.getElem?_eq_none (by omega)
      have h4 : [x][k - l.length]? = none := List.getElem?_eq_none (by simp; omega)
      rw [h3, h4]

theorem getD_append_bool (l : List Bool) (x : Bool) (k : Nat) : (l ++ [x]).getD k false = if k = l.length then x else l.getD k false := by
  simp only [List.getD_eq_getElem?_getD, List.getElem?_append]
  by_cases h : k < l.length
  · rw [if_pos h, if_neg (by omega)]
  · rw [if_neg h]
    by_cases h2 : k = l.length
    · subst h2; simp
    · rw [if_neg h2]
      have h3 : l[k]? = none := List.getElem?_eq_none (by omega)
      have h4 : [x][k - l.length]? = none := List.getElem?_eq_none (by simp; omega)
      rw [h3, h4]

/-- One bit more, in a new byte. -/
theorem Packs.new {bs : List Bool} {out : List UInt8} (h : Packs bs out) (hN : bs.length % 8 = 0) (b : Bool) (y : UInt8) (hy : y.toNat = b.toNat) : Packs (bs ++ [b]) (out ++ [y]) := by
  have hl := h.len
  refine ⟨by simp only [List.length_append, List.length_singleton]; omega, fun i => ?_⟩
  rw [getD_append_last, getD_append_bool]
  by_cases h1 : i / 8 = out.length
  · rw [if_pos h1, hy]
    by_cases h2 : i = bs.length
    · rw [if_pos h2, h2, hN]; cases b <;> rfl
    · rw [if_neg h2]
      have h3 : bs.getD i false = false := by
        rw [List.getD_eq_getElem?_getD, List.getElem?_eq_none (by omega)]; rfl
      rw [h3]
      have : b.toNat < 2 ^ (i % 8) := Nat.lt_of_lt_of_le (show b.toNat < 2 ^ 1 by cases b <;> decide) (Nat.pow_le_pow_right (by decide) (by omega : 1 ≤ i % 8))
      exact Nat.testBit_lt_two_pow this
  · rw [if_neg h1, if_neg (by omega), h.bit]

/-- One bit more, in the last byte. -/
theorem Packs.put {bs : List Bool} {out : List UInt8} {x : UInt8} (h : Packs bs (out ++ [x])) (hN : bs.length % 8 ≠ 0) (b : Bool) (y : UInt8) (hy : y.toNat = x.toNat ||| b.toNat * 2 ^ (bs.length % 8)) : Packs (bs ++ [b]) (out ++ [y]) := by
  have hl := h.len
  simp only [List.length_append, List.length_singleton] at hl
  refine ⟨by simp only [List.length_append, List.length_singleton]; omega, fun i => ?_⟩
  have hi := h.bit i
  rw [getD_append_last] at hi ⊢
  rw [getD_append_bool]
  by_cases h1 : i / 8 = out.length
  · rw [if_pos h1] at hi
    rw [if_pos h1, hy, Nat.testBit_or, hi, Nat.testBit_mul_two_pow]
    by_cases h2 : i = bs.length
    · subst h2
      have h3 : bs.getD bs.length false = false := by
        rw [List.getD_eq_getElem?_getD, List.getElem?_eq_none (by omega)]; rfl
      rw [h3, if_pos rfl]
      simp
      cases b <;> rfl
    · rw [if_neg h2]
      have : (decide (bs.length % 8 ≤ i % 8) && b.toNat.testBit (i % 8 - bs.length % 8)) = false := by
        by_cases h4 : bs.length % 8 ≤ i % 8
        · have : b.toNat < 2 ^ (i % 8 - bs.length % 8) := Nat.lt_of_lt_of_le (show b.toNat < 2 ^ 1 by cases b <;> decide) (Nat.pow_le_pow_right (by decide) (by omega : 1 ≤ i % 8 - bs.length % 8))
          rw [Nat.testBit_lt_two_pow this]; simp
        · simp [h4]
      rw [this, Bool.or_false]
  · rw [if_neg h1] at hi
    rw [if_neg h1, if_neg (by omega), hi]

end Go.Proofs.YtaalbaiglkadlaaGreat

/- Contracts of the smallest functions of package bits: 'taken' and 'whole' compute and touch nothing. -/
namespace Go.Proofs.YtaalbaiglkadlaaGreat
open Go.RowKit

def takenI (n : Int) : Int := if n < 0 then 0 else if 30 < n then 30 else n

set_option maxHeartbeats 400000 in
theorem taken_any (n : Int) (w : World) :
    Calls Tryz.prog 22 #[.int .i64 n] w fun e w' => e = .returned (.int .i64 (takenI n)) ∧ w = w' := by
  by_cases h0 : n < 0
  · go_enter Tryz.func22, Tryz.ntmps22
    go_wp2
    go_ret
    exact ⟨by simp [takenI, h0], rfl⟩
  · by_cases h1 : 30 < n
    · go_enter Tryz.func22, Tryz.ntmps22
      go_wp2
      go_ret
      exact ⟨by simp [takenI, h0, h1], rfl⟩
    · go_enter Tryz.func22, Tryz.ntmps22
      go_wp2
      go_ret
      exact ⟨by rw [takenI, if_neg (by omega), if_neg (by omega)]; rfl, rfl⟩

set_option maxHeartbeats 400000 in
theorem whole_any (n : Int) (w : World) (h0 : 0 ≤ n) (h1 : n ≤ 1000000000000) :
    Calls Tryz.prog 28 #[.int .i64 n] w fun e w' => e = .returned (.int .i64 ((n + 7) / 8 * 8)) ∧ w = w' := by
  go_enter Tryz.func28, Tryz.ntmps28
  go_wp2
  go_ret
  exact ⟨congrArg (fun z => Ending.returned (Value.int .i64 z)) (andNot7_i64 (n + 7) (by omega) (by omega)), rfl⟩

end Go.Proofs.YtaalbaiglkadlaaGreat

/- Contracts of the Reader's methods: what each answers, and what the reader is behind it. -/
namespace Go.Proofs.YtaalbaiglkadlaaGreat
open Go.RowKit

/-- A reader (of type T) lies in block p. -/
def RdAt (T : TypeId) (w : World) (p : Nat) (s : ByteArray) (i : Nat) (bad : Bool) : Prop := w.heap[p]? = some (.cells #[.string s, .int .i64 (i : Int), .bool bad] T (0, 0))

section
variable {T : TypeId} {w : World} {p : Nat} {s : ByteArray} {i : Nat} {bad : Bool}
theorem RdAt.c0 (h : RdAt T w p s i bad) : w.cell? ⟨p, 0, none⟩ = some (.string s) := by
  unfold RdAt at h; simp [World.cell?, h]
theorem RdAt.c1 (h : RdAt T w p s i bad) : w.cell? ⟨p, 1, none⟩ = some (.int .i64 i) := by
  unfold RdAt at h; simp [World.cell?, h]
theorem RdAt.c2 (h : RdAt T w p s i bad) : w.cell? ⟨p, 2, none⟩ = some (.bool bad) := by
  unfold RdAt at h; simp [World.cell?, h]
theorem RdAt.fz (h : RdAt T w p s i bad) (o : Nat) : w.frozen? ⟨p, o, none⟩ = false := by
  unfold RdAt at h; simp [World.frozen?, h]
theorem RdAt.setBad (h : RdAt T w p s i bad) : RdAt T (w.setCell ⟨p, 2, none⟩ (.bool true)) p s i true := by
  unfold RdAt at h ⊢; rw [heap_setCell_same _ _ _ _ _ _ _ h]; rfl
theorem RdAt.setAt (h : RdAt T w p s i bad) (n : Nat) (j : Int) (k : Nat) (hj : j = k) : RdAt T ((w.drewN n).setCell ⟨p, 1, none⟩ (.int .i64 j)) p s k bad := by
  unfold RdAt at h ⊢; rw [heap_setCell_same _ _ _ _ _ _ _ (show (w.drewN n).heap[p]? = _ from h), hj]; rfl
theorem RdAt.drew2 (h : RdAt T w p s i bad) (n : Nat) : RdAt T (w.drewN n) p s i bad := h
theorem RdAt.only {w' : World} {q : Nat} (h : RdAt T w p s i bad) (ho : Only q w w') (hq : p ≠ q) : RdAt T w' p s i bad := by
  unfold RdAt at h ⊢; rw [ho.block p hq]; exact h
end

/-- Bit number i of bytes, the lowest of a byte first. -/
def bitI (s : ByteArray) (i : Nat) : Int := ((s.data.toList.getD (i / 8) 0).toNat / 2 ^ (i % 8) % 2 : Nat)

theorem bitI_01 (s : ByteArray) (i : Nat) : bitI s i = 0 ∨ bitI s i = 1 := by unfold bitI; omega

theorem getD_of_lt (s : ByteArray) (k : Nat) (h : k < s.size) : s.data.toList.getD k 0 = s[k] := by
  have hk : k < s.data.toList.length := by simpa using h
  rw [List.getD_eq_getElem?_getD, List.getElem?_eq_getElem hk]
  rfl

theorem bit_code (s : ByteArray) (i : Nat) (h : i / 8 < s.size) (h2 : ((i : Int) / 8).toNat < s.size) :
    wrap64 (bits .and .u8 ((s[((i : Int) / 8).toNat].toNat : Int) / 2 ^ ((i : Int) % 8).toNat) 1) = bitI s i := by
  have e1 : ((i : Int) / 8).toNat = i / 8 := by omega
  have e2 : ((i : Int) % 8).toNat = i % 8 := by omega
  have e3 : s[((i : Int) / 8).toNat] = s[i / 8] := by simp only [e1]
  rw [e3, e2, ← getD_of_lt s (i / 8) h]
  unfold bitI
  generalize hb : s.data.toList.getD (i / 8) 0 = b
  have hb2 : b.toNat < 256 := b.toNat_lt
  have hle : b.toNat / 2 ^ (i % 8) < 256 := Nat.lt_of_le_of_lt (Nat.div_le_self _ _) hb2
  have e4 : ((b.toNat : Int) / 2 ^ (i % 8)) = ((b.toNat / 2 ^ (i % 8) : Nat) : Int) := by
    rw [Int.natCast_ediv, Int.natCast_pow]; rfl
  rw [e4, show (1 : Int) = ((1 : Nat) : Int) from rfl, u8_and_nat _ _ hle (by decide), nat_mask1]
  unfold wrap64
  omega

section
variable (p : Nat) (s : ByteArray) (i : Nat) (w : World)
set_option maxHeartbeats 400000 in
theorem rbit_bad (h : RdAt 43 w p s i true) :
    Calls Tryz.prog 23 #[.pointer (some ⟨p, 0, none⟩)] w fun e w' => e = .returned (.int .i64 0) ∧ RdAt 43 w' p s i true ∧ Only p w w' := by
  have _c1 := h.c1
  have _c2 := h.c2
  have _f2 := h.fz 2
  have H : Hid (RdAt 43 w p s i true) := h
  clear h
  go_enter Tryz.func23, Tryz.ntmps23
  go_wp2
  go_ret
  exact ⟨rfl, H.out.setBad, Only.setCell _ _ _ _⟩

set_option maxHeartbeats 400000 in
theorem rbit_end (h : RdAt 43 w p s i false) (hi : s.size ≤ i / 8) :
    Calls Tryz.prog 23 #[.pointer (some ⟨p, 0, none⟩)] w fun e w' => e = .returned (.int .i64 0) ∧ RdAt 43 w' p s i true ∧ Only p w w' := by
  have _c0 := h.c0
  have _c1 := h.c1
  have _c2 := h.c2
  have _f2 := h.fz 2
  have H : Hid (RdAt 43 w p s i false) := h
  clear h
  go_enter Tryz.func23, Tryz.ntmps23
  go_wp2
  go_ret
  exact ⟨rfl, H.out.setBad, Only.setCell _ _ _ _⟩

set_option maxHeartbeats 400000 in
theorem rbit_ok (h : RdAt 43 w p s i false) (hi : i / 8 < s.size) (hs : s.size ≤ 1000000000000) :
    Calls Tryz.prog 23 #[.pointer (some ⟨p, 0, none⟩)] w fun e w' => e = .returned (.int .i64 (bitI s i)) ∧ RdAt 43 w' p s (i + 1) false ∧ Only p w w' := by
  have _c0 := h.c0
  have _c1 := h.c1
  have _c2 := h.c2
  have _f1 := h.fz 1
  have H : Hid (RdAt 43 w p s i false) := h
  have HB : Hid (wrap64 (bits .and .u8 ((s[((i : Int) / 8).toNat].toNat : Int) / 2 ^ ((i : Int) % 8).toNat) 1) = bitI s i) := bit_code s i hi (by omega)
  clear h
  have ha := and7_i64 i
  go_enter Tryz.func23, Tryz.ntmps23
  go_wp2
  go_quiet (fail)
  go_wp2
  go_ret
  exact ⟨retInt HB.out, H.out.setAt _ _ _ (by omega), (Only.drewN _ _ _).trans (Only.setCell _ _ _ _)⟩
end

end Go.Proofs.YtaalbaiglkadlaaGreat

/- Contracts of the Reader's methods, more: Bits. -/
namespace Go.Proofs.YtaalbaiglkadlaaGreat
open Go.RowKit

/-- The number of k bits from bit i on, the lowest first. -/
def numI (s : ByteArray) (i : Nat) : Nat → Int
  | 0 => 0
  | k + 1 => numI s i k + bitI s (i + k) * 2 ^ k

theorem numI_lt (s : ByteArray) (i k : Nat) : 0 ≤ numI s i k ∧ numI s i k < 2 ^ k := by
  induction k with
  | zero => simp [numI]
  | succ k ih =>
    have hp : (0 : Int) < 2 ^ k := Int.pow_pos (by decide)
    unfold numI
    rw [Int.pow_succ]
    rcases bitI_01 s (i + k) with h | h <;> rw [h] <;> omega

theorem pow_le30 (k : Nat) (h : k ≤ 30) : (0 : Int) < 2 ^ k ∧ (2 : Int) ^ k ≤ 1073741824 := by
  have h1 : (2 : Nat) ^ k ≤ 2 ^ 30 := Nat.pow_le_pow_right (by decide) h
  have e : (2 : Int) ^ k = ((2 ^ k : Nat) : Int) := by rw [Int.natCast_pow]; rfl
  have hp : 0 < (2 : Nat) ^ k := Nat.pow_pos (by decide)
  rw [e]; omega

theorem num_step (s : ByteArray) (i j : Nat) (hj : j < 30) : bits .or .i64 (numI s i j) (wrap64 (bitI s (i + j) * 2 ^ j)) = numI s i (j + 1) := by
  have hn := numI_lt s i j
  have hp := pow_le30 j (by omega)
  have e : (2 : Int) ^ j = ((2 ^ j : Nat) : Int) := by rw [Int.natCast_pow]; rfl
  show _ = numI s i j + bitI s (i + j) * 2 ^ j
  obtain ⟨a, ha⟩ : ∃ a : Nat, numI s i j = a := ⟨(numI s i j).toNat, by omega⟩
  obtain ⟨b, hb⟩ : ∃ b : Nat, bitI s (i + j) = b := ⟨(bitI s (i + j)).toNat, by have := bitI_01 s (i + j); omega⟩
  have hb1 : b ≤ 1 := by have := bitI_01 s (i + j); omega
  rw [ha, hb, e]
  rw [ha, e] at hn
  rw [e] at hp
  have hw : wrap64 ((b : Int) * ((2 ^ j : Nat) : Int)) = ((b * 2 ^ j : Nat) : Int) := by
    have : b * 2 ^ j ≤ 1 * 2 ^ j := Nat.mul_le_mul_right _ hb1
    rw [← Int.natCast_mul]
    unfold wrap64
    omega
  have hle : b * 2 ^ j ≤ 1 * 2 ^ j := Nat.mul_le_mul_right _ hb1
  rw [hw, or_i64_nat _ _ (by omega) (by omega), Nat.or_comm, nat_join j _ _ (Nat.mul_mod_left _ _) (by omega)]
  simp only [Int.natCast_add, Int.natCast_mul]
  omega

theorem takenI_bd (n : Int) : 0 ≤ takenI n ∧ takenI n ≤ 30 := by unfold takenI; split <;> (try split) <;> omega

set_option maxHeartbeats 400000 in
theorem rbits_ok (p : Nat) (s : ByteArray) (i : Nat) (n : Int) (w : World) (k : Nat) (hk : takenI n = (k : Int)) (h : RdAt 43 w p s i false) (hi : i + k ≤ 8 * s.size) (hs : s.size ≤ 1000000000000) :
    Calls Tryz.prog 13 #[.pointer (some ⟨p, 0, none⟩), .int .i64 n] w fun e w' => e = .returned (.int .i64 (numI s i k)) ∧ RdAt 43 w' p s (i + k) false ∧ Only p w w' := by
  have hk30 : k ≤ 30 := by have := takenI_bd n; omega
  have HK : Hid (takenI n = (k : Int)) := hk
  have H : Hid (RdAt 43 w p s i false) := h
  clear h hk
  go_enter Tryz.func13, Tryz.ntmps13
  go_wp2_with (first | (go_at_call 22; refine (taken_any _ _).mono ?_; rintro e w' ⟨rfl, rfl⟩; rw [HK.out]))
  go_loopw [5, 9] (fun v c wr => ∃ j : Nat, j ≤ k ∧ c = .int .i64 j ∧ v = .int .i64 (numI s i j) ∧ Hid (RdAt 43 wr p s (i + j) false) ∧ Hid (Only p w wr)) (fun _ c _ => k - (intOf c).toNat)
  case atStart => exact ⟨0, Nat.zero_le _, rfl, rfl, H, Only.refl _ _⟩
  case round =>
    obtain ⟨j, hj, rfl, rfl, HR, HO⟩ := hrel
    by_cases hlt : j < k
    · go_wp2_with (first | (go_at_call 23; refine (rbit_ok p s (i + j) _ HR.out (by omega) hs).mono ?_; rintro e w1 ⟨rfl, hr1, ho1⟩; have HR1 := hide hr1; have HO1 := hide ho1; clear hr1 ho1))
      go_roundw
      case rel =>
        refine ⟨j + 1, by omega, by go_num, ?_, HR1, HO.out.trans HO1.out⟩
        rw [num_step s i j (by omega)]
      case measure => simp [intOf]; omega
    · have _c2 := HR.out.c2
      have hjk : k = j := by omega
      have HJ := hide hjk
      clear hjk
      go_wp2
      go_ret
      rw [HJ.out]
      exact ⟨rfl, HR.out, HO.out⟩

set_option maxHeartbeats 400000 in
theorem rbits_no (p : Nat) (s : ByteArray) (i : Nat) (bad : Bool) (n : Int) (w : World) (k : Nat) (hk : takenI n = (k : Int)) (h : RdAt 43 w p s i bad) (hi : i ≤ 8 * s.size) (hno : bad = true ∨ 8 * s.size < i + k) (hs : s.size ≤ 1000000000000) :
    Calls Tryz.prog 13 #[.pointer (some ⟨p, 0, none⟩), .int .i64 n] w fun e w' => e = .returned (.int .i64 0) ∧ (∃ i', i' ≤ 8 * s.size ∧ RdAt 43 w' p s i' true) ∧ Only p w w' := by
  have hk30 : k ≤ 30 := by have := takenI_bd n; omega
  have HK : Hid (takenI n = (k : Int)) := hk
  have H : Hid (RdAt 43 w p s i bad) := h
  have HN := hide hno
  clear h hk hno
  go_enter Tryz.func13, Tryz.ntmps13
  go_wp2_with (first | (go_at_call 22; refine (taken_any _ _).mono ?_; rintro e w' ⟨rfl, rfl⟩; rw [HK.out]))
  go_loopw [5, 9] (fun v c wr => ∃ (j : Nat) (V : Int), j ≤ k ∧ c = .int .i64 j ∧ v = .int .i64 V ∧ Hid (bad = false ∧ i + j ≤ 8 * s.size ∧ RdAt 43 wr p s (i + j) false ∨ ∃ i', i' ≤ 8 * s.size ∧ RdAt 43 wr p s i' true) ∧ Hid (Only p w wr)) (fun _ c _ => k - (intOf c).toNat)
  case atStart =>
    refine ⟨0, 0, Nat.zero_le _, rfl, rfl, ?_, Only.refl _ _⟩
    cases bad
    · exact .inl ⟨rfl, by omega, H.out⟩
    · exact .inr ⟨i, hi, H.out⟩
  case round =>
    obtain ⟨j, V, hj, rfl, rfl, HR, HO⟩ := hrel
    by_cases hlt : j < k
    · rcases HR.out with ⟨hb, hle, hr⟩ | ⟨i', hle, hr⟩
      · by_cases hin : (i + j) / 8 < s.size
        · have HR0 := hide hr
          have HB := hide hb
          clear hr HR hb
          go_wp2_with (first | (go_at_call 23; refine (rbit_ok p s (i + j) _ HR0.out hin hs).mono ?_; rintro e w1 ⟨rfl, hr1, ho1⟩; have HR1 := hide hr1; have HO1 := hide ho1; clear hr1 ho1))
          go_roundw
          case rel => exact ⟨j + 1, _, by omega, by go_num, rfl, .inl ⟨HB.out, by omega, HR1⟩, HO.out.trans HO1.out⟩
          case measure => simp [intOf]; omega
        · have HR0 := hide hr
          clear hr HR hb
          go_wp2_with (first | (go_at_call 23; refine (rbit_end p s (i + j) _ HR0.out (by omega)).mono ?_; rintro e w1 ⟨rfl, hr1, ho1⟩; have HR1 := hide hr1; have HO1 := hide ho1; clear hr1 ho1))
          go_roundw
          case rel => exact ⟨j + 1, _, by omega, by go_num, rfl, .inr ⟨_, hle, HR1⟩, HO.out.trans HO1.out⟩
          case measure => simp [intOf]; omega
      · have HR0 := hide hr
        clear hr HR
        go_wp2_with (first | (go_at_call 23; refine (rbit_bad p s i' _ HR0.out).mono ?_; rintro e w1 ⟨rfl, hr1, ho1⟩; have HR1 := hide hr1; have HO1 := hide ho1; clear hr1 ho1))
        go_roundw
        case rel => exact ⟨j + 1, _, by omega, by go_num, rfl, .inr ⟨_, hle, HR1⟩, HO.out.trans HO1.out⟩
        case measure => simp [intOf]; omega
    · have hr : ∃ i', i' ≤ 8 * s.size ∧ RdAt 43 wr p s i' true := by
        rcases HR.out with ⟨hb, hle, hr⟩ | hr
        · rcases HN.out with h | h
          · rw [hb] at h; cases h
          · exact absurd h (by omega)
        · exact hr
      obtain ⟨i', hle, hr⟩ := hr
      have _c2 := hr.c2
      have HR0 := hide hr
      clear hr HR
      go_wp2
      go_ret
      exact ⟨rfl, ⟨i', hle, HR0.out⟩, HO.out⟩

set_option maxHeartbeats 400000 in
theorem ralign_any (p : Nat) (s : ByteArray) (i : Nat) (bad : Bool) (w : World) (h : RdAt 43 w p s i bad) (hi : i ≤ 8 * s.size) (hs : s.size ≤ 100000000000) :
    Calls Tryz.prog 37 #[.pointer (some ⟨p, 0, none⟩)] w fun e w' => e = .returned (.tuple #[]) ∧ RdAt 43 w' p s ((i + 7) / 8 * 8) bad ∧ Only p w w' := by
  have _c1 := h.c1
  have _f1 := h.fz 1
  have H := hide h
  clear h
  go_enter Tryz.func37, Tryz.ntmps37
  go_wp2_with (first | (go_at_call 28; refine (whole_any _ _ (by omega) (by omega)).mono ?_; rintro e w' ⟨rfl, rfl⟩))
  go_end0
  exact ⟨rfl, H.out.setAt 0 _ _ (by omega), Only.setCell _ _ _ _⟩

set_option maxHeartbeats 400000 in
theorem rused_any (p : Nat) (s : ByteArray) (i : Nat) (bad : Bool) (w : World) (h : RdAt 43 w p s i bad) (hi : i ≤ 8 * s.size) (hs : s.size ≤ 100000000000) :
    Calls Tryz.prog 15 #[.pointer (some ⟨p, 0, none⟩)] w fun e w' => e = .returned (.int .i64 (((i + 7) / 8 : Nat) : Int)) ∧ w = w' := by
  have _c1 := h.c1
  clear h
  go_enter Tryz.func15, Tryz.ntmps15
  go_wp2_with (first | (go_at_call 28; refine (whole_any _ _ (by omega) (by omega)).mono ?_; rintro e w' ⟨rfl, rfl⟩))
  go_ret
  exact ⟨retInt (by omega), rfl⟩

theorem rused_q (p : Nat) (s : ByteArray) (i : Nat) (bad : Bool) (w : World) (h : RdAt 43 w p s i bad) (hi : i ≤ 8 * s.size) (hs : s.size ≤ 100000000000) :
    Calls Tryz.prog 15 #[.pointer (some ⟨p, 0, none⟩)] w fun e w' => e = .returned (.int .i64 (((i + 7) / 8 : Nat) : Int)) ∧ w' = w :=
  (rused_any p s i bad w h hi hs).mono fun _ _ ⟨a, b⟩ => ⟨a, b.symm⟩

set_option maxHeartbeats 400000 in
theorem rtext_ok (p : Nat) (s : ByteArray) (i n : Nat) (w : World) (h : RdAt 43 w p s i false) (hi : (i + 7) / 8 + n ≤ s.size) (hs : s.size ≤ 100000000000) :
    Calls Tryz.prog 39 #[.pointer (some ⟨p, 0, none⟩), .int .i64 n] w fun e w' => e = .returned (.string (s.extract ((i + 7) / 8) ((i + 7) / 8 + n))) ∧ RdAt 43 w' p s (((i + 7) / 8 + n) * 8) false ∧ Only p w w' := by
  have H := hide h
  clear h
  go_enter Tryz.func39, Tryz.ntmps39
  go_wp2_with (first | (go_at_call 37; refine (ralign_any p s i false _ H.out (by omega) hs).mono ?_; rintro e w1 ⟨rfl, hr1, ho1⟩; have _c0 := hr1.c0; have _c1 := hr1.c1; have _c2 := hr1.c2; have _f1 := hr1.fz 1; have _f2 := hr1.fz 2; have HR1 := hide hr1; have HO1 := hide ho1; clear hr1 ho1))
  go_ret
  refine ⟨?_, HR1.out.setAt 0 _ _ (by omega), HO1.out.trans (Only.setCell _ _ _ _)⟩
  show Ending.returned (Value.string _) = _
  congr 3 <;> omega

set_option maxHeartbeats 400000 in
theorem rtext_no (p : Nat) (s : ByteArray) (i : Nat) (bad : Bool) (n : Int) (w : World) (h : RdAt 43 w p s i bad) (hi : i ≤ 8 * s.size) (hno : bad = true ∨ n < 0 ∨ (s.size : Int) < ((i + 7) / 8 : Nat) + n) (hs : s.size ≤ 100000000000) :
    Calls Tryz.prog 39 #[.pointer (some ⟨p, 0, none⟩), .int .i64 n] w fun e w' => e = .returned (.string ByteArray.empty) ∧ (∃ i', i' ≤ 8 * s.size ∧ RdAt 43 w' p s i' true) ∧ Only p w w' := by
  have H := hide h
  clear h
  have HN := hide hno
  clear hno
  cases hb : bad
  · rw [hb] at H HN
    have hn : n < 0 ∨ (s.size : Int) < ((i + 7) / 8 : Nat) + n := by
      rcases HN.out with h | h
      · cases h
      · exact h
    clear HN hb
    by_cases h0 : n < 0
    all_goals
      go_enter Tryz.func39, Tryz.ntmps39
      go_wp2_with (first | (go_at_call 37; refine (ralign_any p s i false _ H.out (by omega) hs).mono ?_; rintro e w1 ⟨rfl, hr1, ho1⟩; have _c0 := hr1.c0; have _c1 := hr1.c1; have _c2 := hr1.c2; have _f1 := hr1.fz 1; have _f2 := hr1.fz 2; have HR1 := hide hr1; have HO1 := hide ho1; clear hr1 ho1))
      go_ret
      exact ⟨rfl, ⟨_, by omega, HR1.out.setBad⟩, HO1.out.trans (Only.setCell _ _ _ _)⟩
  · rw [hb] at H
    clear HN hb
    go_enter Tryz.func39, Tryz.ntmps39
    go_wp2_with (first | (go_at_call 37; refine (ralign_any p s i true _ H.out (by omega) hs).mono ?_; rintro e w1 ⟨rfl, hr1, ho1⟩; have _c0 := hr1.c0; have _c1 := hr1.c1; have _c2 := hr1.c2; have _f1 := hr1.fz 1; have _f2 := hr1.fz 2; have HR1 := hide hr1; have HO1 := hide ho1; clear hr1 ho1))
    go_ret
    exact ⟨rfl, ⟨_, by omega, HR1.out.setBad⟩, HO1.out.trans (Only.setCell _ _ _ _)⟩

end Go.Proofs.YtaalbaiglkadlaaGreat

/- Contracts of the Writer's methods: Bit. -/
namespace Go.Proofs.YtaalbaiglkadlaaGreat
open Go.RowKit

/-- A writer lies in block p: its slice v owns the bytes out; it has N bits. -/
structure WrAt (w : World) (p : Nat) (v : Value) (out : List UInt8) (N : Nat) : Prop where
  box : w.heap[p]? = some (.cells #[v, .int .i64 (N : Int)] 35 (0, 0))
  own : w.ownsRow 0 5 1 v out.length (cellsB out)
  ne : v.ownBlock ≠ some p

section
variable {w : World} {p : Nat} {v : Value} {out : List UInt8} {N : Nat}
theorem WrAt.c0 (h : WrAt w p v out N) : w.cell? ⟨p, 0, none⟩ = some v := by simp [World.cell?, h.box]
theorem WrAt.c1 (h : WrAt w p v out N) : w.cell? ⟨p, 1, none⟩ = some (.int .i64 N) := by simp [World.cell?, h.box]
theorem WrAt.fz (h : WrAt w p v out N) (o : Nat) : w.frozen? ⟨p, o, none⟩ = false := by simp [World.frozen?, h.box]
theorem WrAt.drewN (h : WrAt w p v out N) (n : Nat) : WrAt (w.drewN n) p v out N := ⟨h.box, h.own, h.ne⟩
/-- Where there are bytes, the slice is a row of its own. -/
theorem WrAt.row (h : WrAt w p v out N) (hn : out ≠ []) : ∃ g cap cur, v = .slice (some ⟨g, 0, none⟩) out.length cap ∧ g ≠ p ∧ w.heap[g]? = some (.cells cur 5 (0, 0)) ∧ out.length ≤ cap ∧ cap ≤ maxLen ∧ cur.size = cap ∧ cur.toList.take out.length = cellsB out := by
  rcases h.own.2 with ⟨_, h0⟩ | ⟨g, cap, cur, hv, _, hg, h1, h2, h3, h4⟩
  · exact absurd (List.length_eq_zero_iff.1 h0) hn
  · refine ⟨g, cap, cur, hv, ?_, hg, h1, h2, by simpa using h3, by simpa using h4⟩
    intro e
    exact h.ne (by rw [hv, e]; rfl)
end

theorem Tryz.infoU8 : (Tryz.prog.info? 5).map (fun i => (i.zero, i.size, i.bytes)) = some (some (.int .u8 0), 1, 1) := by kernel_rfl

/-- A byte with one bit more. -/
def orBit (x : UInt8) (b : Int) (k : Nat) : UInt8 := UInt8.ofNat (x.toNat ||| (b % 2).toNat * 2 ^ k)

theorem orBit_nat (x : UInt8) (b : Int) (k : Nat) (hk : k < 8) : (orBit x b k).toNat = x.toNat ||| (b % 2).toNat * 2 ^ k := by
  unfold orBit
  have h1 : (b % 2).toNat * 2 ^ k < 2 ^ 8 := by
    have h2 : (b % 2).toNat ≤ 1 := by omega
    have h3 : (2 : Nat) ^ k ≤ 2 ^ 7 := Nat.pow_le_pow_right (by decide) (by omega)
    have h4 : (b % 2).toNat * 2 ^ k ≤ 1 * 2 ^ k := Nat.mul_le_mul_right _ h2
    omega
  have h5 : x.toNat < 2 ^ 8 := x.toNat_lt
  have := Nat.or_lt_two_pow h5 h1
  rw [UInt8.toNat_ofNat']
  exact Nat.mod_eq_of_lt this

theorem or_code (x : UInt8) (b : Int) (k : Nat) (hk : k < 8) : bits .or .u8 (x.toNat : Int) (b % 2 * 2 ^ k % 256) = ((orBit x b k).toNat : Int) := by
  rw [orBit_nat x b k hk]
  have h3 : (2 : Nat) ^ k ≤ 2 ^ 7 := Nat.pow_le_pow_right (by decide) (by omega)
  have e : (2 : Int) ^ k = ((2 ^ k : Nat) : Int) := by rw [Int.natCast_pow]; rfl
  obtain ⟨c, hc⟩ : ∃ c : Nat, b % 2 = c := ⟨(b % 2).toNat, by omega⟩
  have h2 : c ≤ 1 := by omega
  have h4 : c * 2 ^ k ≤ 1 * 2 ^ k := Nat.mul_le_mul_right _ h2
  rw [hc, e, Int.toNat_natCast, ← Int.natCast_mul]
  have e2 : ((c * 2 ^ k : Nat) : Int) % 256 = ((c * 2 ^ k : Nat) : Int) := Int.emod_eq_of_lt (by omega) (by omega)
  rw [e2, u8_or_nat _ _ x.toNat_lt (by omega)]

theorem cellsB_length (l : List UInt8) : (cellsB l).length = l.length := by simp [cellsB]
theorem cellsB_append (l m : List UInt8) : cellsB (l ++ m) = cellsB l ++ cellsB m := by simp [cellsB]

/-- The last byte and the number of bits are set. -/
theorem WrAt.put {w : World} {p g cap : Nat} {out : List UInt8} {x : UInt8} {N : Nat} (h : WrAt w p (.slice (some ⟨g, 0, none⟩) (out.length + 1) cap) (out ++ [x]) N) (y : UInt8) (Y MI : Int) (hY : Y = y.toNat) (M : Nat) (hM : MI = M) :
    WrAt (((w.setCell ⟨g, out.length, none⟩ (.int .u8 Y)).setCell ⟨p, 1, none⟩ (.int .i64 MI)).drew) p (.slice (some ⟨g, 0, none⟩) (out.length + 1) cap) (out ++ [y]) M ∧
    Step p (.slice (some ⟨g, 0, none⟩) (out.length + 1) cap) (.slice (some ⟨g, 0, none⟩) (out.length + 1) cap) w (((w.setCell ⟨g, out.length, none⟩ (.int .u8 Y)).setCell ⟨p, 1, none⟩ (.int .i64 MI)).drew) := by
  obtain ⟨g', cap', cur, hv, hgp, hg, hl, hm, hs, ht⟩ := h.row (by simp)
  injection hv with e1 e2 e3
  injection e1 with e1
  injection e1 with e1 _ _
  subst e1 e3
  simp only [List.length_append, List.length_singleton] at hl ht
  constructor
  · refine ⟨?_, ?_, h.ne⟩
    · show ((w.setCell ⟨g, out.length, none⟩ (.int .u8 Y)).setCell ⟨p, 1, none⟩ (.int .i64 MI)).heap[p]? = _
      rw [heap_setCell_same _ _ _ _ #[.slice (some ⟨g, 0, none⟩) (out.length + 1) cap, .int .i64 (N : Int)] 35 (0, 0) (by rw [Below.heap_setCell _ _ _ _ (Ne.symm hgp)]; exact h.box), hM]
      rfl
    · refine ⟨by simp [cellsB], .inr ⟨g, cap, cur.setIfInBounds out.length (.int .u8 Y), by simp, Nat.zero_le _, ?_, by simpa using hl, hm, by simpa using hs, ?_⟩⟩
      · show ((w.setCell ⟨g, out.length, none⟩ (.int .u8 Y)).setCell ⟨p, 1, none⟩ (.int .i64 MI)).heap[g]? = _
        rw [Below.heap_setCell _ _ _ _ hgp, heap_setCell_same _ _ _ _ _ _ _ hg]
      · rw [Array.toList_setIfInBounds]
        simp only [List.length_append, List.length_singleton, Nat.mul_one]
        rw [List.take_set, ht, cellsB_append, cellsB_append, List.set_append_right _ _ (by rw [cellsB_length]; omega), cellsB_length, Nat.sub_self]
        simp [cellsB, hY]
  · refine ⟨rfl, rfl, rfl, by simp [World.setCell], fun k _ hp hv => ?_, .inl rfl⟩
    show ((w.setCell ⟨g, out.length, none⟩ (.int .u8 Y)).setCell ⟨p, 1, none⟩ (.int .i64 MI)).heap[k]? = _
    rw [Below.heap_setCell _ _ _ _ hp, Below.heap_setCell _ _ _ _ (fun e => hv (by rw [e]; rfl))]

/-- What an append has made is laid into the writer's box. -/
theorem WrAt.app {w w1 : World} {p : Nat} {v v1 : Value} {out add : List UInt8} {N : Nat} (h : WrAt w p v out N) (hown : w1.ownsRow 0 5 1 v1 (out.length + add.length) (cellsB out ++ cellsB add)) (hs : w.heap.size ≤ w1.heap.size)
    (hb : ∀ k, k < w.heap.size → some k ≠ v.ownBlock → w1.heap[k]? = w.heap[k]?) (hos : w1.os = w.os) (htp : w1.tape = w.tape) (hop : w1.output = w.output)
    (hf : v1.ownBlock = v.ownBlock ∨ ∀ k, v1.ownBlock = some k → w.heap.size ≤ k) :
    WrAt (w1.setCell ⟨p, 0, none⟩ v1) p v1 (out ++ add) N ∧ Step p v v1 w (w1.setCell ⟨p, 0, none⟩ v1) := by
  have hp : p < w.heap.size := (Array.getElem?_eq_some_iff.1 h.box).1
  have hbox : w1.heap[p]? = _ := (hb p hp (Ne.symm h.ne)).trans h.box
  have hne : v1.ownBlock ≠ some p := by
    rcases hf with e | e
    · rw [e]; exact h.ne
    · intro e2; have := e p e2; omega
  refine ⟨⟨?_, ?_, hne⟩, ⟨hos, htp, hop, by simpa [World.setCell] using hs, fun k hk hkp hv => ?_, hf⟩⟩
  · rw [heap_setCell_same _ _ _ _ _ _ _ hbox]; rfl
  · have e : (out ++ add).length = out.length + add.length := by simp
    rw [e, cellsB_append]
    refine ⟨hown.1, ?_⟩
    rcases hown.2 with h2 | ⟨g, cap, cur, hv, hg, hh, r⟩
    · exact .inl h2
    · refine .inr ⟨g, cap, cur, hv, hg, ?_, r⟩
      rw [Below.heap_setCell _ _ _ _ (fun e => hne (by rw [hv, show g = p from e]; rfl))]
      exact hh
  · rw [Below.heap_setCell _ _ _ _ hkp, hb k hk hv]

theorem row_cell {w : World} {g : Nat} {cur : Array Value} {out : List UInt8} {x : UInt8} {T : TypeId} (hg : w.heap[g]? = some (.cells cur T (0, 0))) (ht : cur.toList.take (out.length + 1) = cellsB (out ++ [x])) :
    w.cell? ⟨g, out.length, none⟩ = some (.int .u8 x.toNat) ∧ w.frozen? ⟨g, out.length, none⟩ = false := by
  have e : (cur.toList.take (out.length + 1))[out.length]? = some (.int .u8 x.toNat) := by
    rw [ht, cellsB_append, List.getElem?_append_right (by rw [cellsB_length]; omega), cellsB_length, Nat.sub_self]; rfl
  rw [List.getElem?_take, if_pos (by omega)] at e
  constructor
  · simp only [World.cell?, hg]
    simpa using e
  · simp [World.frozen?, hg]

set_option maxHeartbeats 400000 in
theorem wbit_in (p : Nat) (v : Value) (out : List UInt8) (x : UInt8) (N : Nat) (b : Int) (w : World) (h : WrAt w p v (out ++ [x]) N) (hN : N % 8 ≠ 0) (hN2 : N ≤ 1000000000000) (ho : out.length ≤ 1000000000000) :
    Calls Tryz.prog 43 #[.pointer (some ⟨p, 0, none⟩), .int .i64 b] w fun e w' => e = .returned (.tuple #[]) ∧ WrAt w' p v (out ++ [orBit x b (N % 8)]) (N + 1) ∧ Step p v v w w' := by
  obtain ⟨g, cap, cur, rfl, hgp, hg, hl, hm, hs, ht⟩ := h.row (by simp)
  have _c0 := h.c0
  have _c1 := h.c1
  have _f1 := h.fz 1
  have ha := and7_i64 N
  have hb := and1_i64 b
  simp only [List.length_append, List.length_singleton] at *
  obtain ⟨cx, fx⟩ := row_cell hg ht
  have HH := hide h
  have hpl : (((N : Int) % 8) == 0) = false := by simp; omega
  have HO := hide (or_code x b (N % 8) (by omega))
  clear h hs ht hg hm
  go_enter Tryz.func43, Tryz.ntmps43
  go_wp2
  go_region
  go_wp2
  go_end0
  have hp := HH.out.put (orBit x b (N % 8)) _ ((N : Int) + 1) HO.out (N + 1) (by omega)
  exact ⟨rfl, hp.1, hp.2⟩

/-- All that the walk wants behind the append of one byte. -/
theorem WrAt.app1 {w w1 : World} {p : Nat} {v v1 : Value} {out : List UInt8} {N : Nat} {o : Obj} (h : WrAt w p v out N) (hown : w1.ownsRow 0 5 1 v1 (out.length + 1) (cellsB out ++ [.int .u8 0])) (hgr : (w.alloc o).grownBy w1 v.ownBlock)
    (hf : v1.ownBlock = v.ownBlock ∨ ∀ k, v1.ownBlock = some k → (w.alloc o).heap.size ≤ k) :
    ∃ g cap, v1 = .slice (some ⟨g, 0, none⟩) (out.length + 1) cap ∧ g ≠ p ∧ w1.cell? ⟨p, 0, none⟩ = some v ∧ w1.cell? ⟨p, 1, none⟩ = some (.int .i64 N) ∧ w1.frozen? ⟨p, 0, none⟩ = false ∧ w1.frozen? ⟨p, 1, none⟩ = false ∧
      w1.cell? ⟨g, out.length, none⟩ = some (.int .u8 0) ∧ w1.frozen? ⟨g, out.length, none⟩ = false ∧ WrAt (w1.setCell ⟨p, 0, none⟩ v1) p v1 (out ++ [0]) N ∧ Step p v v1 w (w1.setCell ⟨p, 0, none⟩ v1) := by
  have hsz : (w.alloc o).heap.size = w.heap.size + 1 := by simp
  have hp : p < w.heap.size := (Array.getElem?_eq_some_iff.1 h.box).1
  have hbl : ∀ k, k < w.heap.size → some k ≠ v.ownBlock → w1.heap[k]? = w.heap[k]? := fun k hk hv => (hgr.block k (by omega) hv).trans (Below.heap_alloc _ _ _ hk)
  have hf' : v1.ownBlock = v.ownBlock ∨ ∀ k, v1.ownBlock = some k → w.heap.size ≤ k := by
    rcases hf with e | e
    · exact .inl e
    · exact .inr fun k hk => by have := e k hk; omega
  have hA := h.app (add := [0]) hown (by have := hgr.size; omega) hbl (hgr.os.trans rfl) (hgr.tape.trans rfl) (hgr.output.trans rfl) hf'
  obtain ⟨g, cap, cur, hv, hgp, hg, hl, hm, hs, ht⟩ := hA.1.row (by simp)
  have hbox : w1.heap[p]? = _ := (hbl p hp (Ne.symm h.ne)).trans h.box
  have hg1 : w1.heap[g]? = some (.cells cur 5 (0, 0)) := by rw [Below.heap_setCell _ _ _ _ hgp] at hg; exact hg
  simp only [List.length_append, List.length_singleton] at hv ht
  have hc := row_cell hg1 ht
  exact ⟨g, cap, hv, hgp, by simp [World.cell?, hbox], by simp [World.cell?, hbox], by simp [World.frozen?, hbox], by simp [World.frozen?, hbox], hc.1, hc.2, hA.1, hA.2⟩

set_option maxHeartbeats 400000 in
theorem wbit_new (p : Nat) (v : Value) (out : List UInt8) (N : Nat) (b : Int) (w : World) (h : WrAt w p v out N) (hN : N % 8 = 0) (hN2 : N ≤ 1000000000000) (ho : out.length ≤ 1000000000000) :
    Calls Tryz.prog 43 #[.pointer (some ⟨p, 0, none⟩), .int .i64 b] w fun e w' => e = .returned (.tuple #[]) ∧ ∃ v', WrAt w' p v' (out ++ [orBit 0 b 0]) (N + 1) ∧ Step p v v' w w' := by
  have _c0 := h.c0
  have _c1 := h.c1
  have _f0 := h.fz 0
  have _f1 := h.fz 1
  have ha := and7_i64 N
  have hb := and1_i64 b
  have hpl : (((N : Int) % 8) == 0) = true := by simp; omega
  have HO := hide (show bits .or .u8 0 (b % 2 * 2 ^ (N % 8) % 256) = ((orBit 0 b 0).toNat : Int) from by rw [hN]; exact or_code 0 b 0 (by omega))
  have HH := hide h
  have hplt : p < w.heap.size := (Array.getElem?_eq_some_iff.1 h.box).1
  clear h hN
  go_enter Tryz.func43, Tryz.ntmps43
  obtain ⟨i0, hi, hz0, hz1, hz2⟩ := info_parts Tryz.infoU8
  go_wp2_with (first
    | (at_builtin; refine wpList_append_fresh _ rfl _ _ 30 rfl 0 5 i0 (.int .u8 0) 1 1 Tryz.underlying30 hi hz0 hz1 hz2 rfl (by decide) v _ _ rfl (HH.out.own.alloc _) ⟨w.heap.size, 0, none⟩ 1 1 [.int .u8 0] rfl rfl (cell_one_new _ _ _) (fun x hx => by simp at hx; subst hx; rfl) (by unfold maxLen; omega) (by omega) (by simp) ?_; intro v1 w1 hown1 hgr1 hf1; obtain ⟨g, cap, rfl, hgp, c0, c1, f0, f1, cx, fx, hA, hS⟩ := HH.out.app1 hown1 hgr1 hf1; have HA := hide hA; have HS := hide hS; clear hown1 hgr1 hf1 hA hS))
  go_region
  go_wp2
  go_end0
  have hp := HA.out.put (orBit 0 b 0) _ ((N : Int) + 1) HO.out (N + 1) (by omega)
  exact ⟨rfl, _, hp.1, HS.out.trans hp.2⟩

end Go.Proofs.YtaalbaiglkadlaaGreat

/- Contracts of the Writer's methods over lists of bits: Bit, Put, Turn. -/
namespace Go.Proofs.YtaalbaiglkadlaaGreat
open Go.RowKit

/-- A writer lies in block p, with slice v; what was written are the bits bs. -/
def Wr (w : World) (p : Nat) (v : Value) (bs : List Bool) : Prop := ∃ out, WrAt w p v out bs.length ∧ Packs bs out

theorem odd_nat (b : Int) : (b % 2).toNat = (decide (b % 2 = 1)).toNat := by
  by_cases h : b % 2 = 1
  · simp [h]
  · have : b % 2 = 0 := by omega
    simp [this]

theorem wbit_any (p : Nat) (v : Value) (bs : List Bool) (b : Int) (w : World) (h : Wr w p v bs) (hN2 : bs.length ≤ 1000000000000) :
    Calls Tryz.prog 43 #[.pointer (some ⟨p, 0, none⟩), .int .i64 b] w fun e w' => e = .returned (.tuple #[]) ∧ ∃ v', Wr w' p v' (bs ++ [decide (b % 2 = 1)]) ∧ Step p v v' w w' := by
  obtain ⟨out, hw, hp⟩ := h
  have hl := hp.len
  by_cases h0 : bs.length % 8 = 0
  · refine (wbit_new p v out bs.length b w hw h0 hN2 (by omega)).mono ?_
    rintro e w' ⟨rfl, v', h1, h2⟩
    refine ⟨rfl, v', ⟨_, by simpa using h1, hp.new h0 _ _ ?_⟩, h2⟩
    rw [orBit_nat _ _ _ (by omega), odd_nat]
    simp
  · have hne : out ≠ [] := by intro e; rw [e] at hl; simp at hl; omega
    obtain ⟨o2, x, rfl⟩ : ∃ o2 x, out = o2 ++ [x] := ⟨_, _, (List.dropLast_concat_getLast hne).symm⟩
    refine (wbit_in p v o2 x bs.length b w hw h0 hN2 (by simp at hl; omega)).mono ?_
    rintro e w' ⟨rfl, h1, h2⟩
    refine ⟨rfl, v, ⟨_, by simpa using h1, hp.put h0 _ _ ?_⟩, h2⟩
    rw [orBit_nat _ _ _ (by omega), odd_nat]

/-- The k lowest bits of a number, the lowest first. -/
def lowBits (v : Int) (k : Nat) : List Bool := (List.range k).map fun i => decide (v / 2 ^ i % 2 = 1)

theorem lowBits_length (v : Int) (k : Nat) : (lowBits v k).length = k := by simp [lowBits]
theorem lowBits_succ (v : Int) (k : Nat) : lowBits v (k + 1) = lowBits v k ++ [decide (v / 2 ^ k % 2 = 1)] := by simp [lowBits, List.range_succ]

set_option maxHeartbeats 400000 in
theorem wput_any (p : Nat) (v : Value) (bs : List Bool) (x n : Int) (w : World) (k : Nat) (hk : takenI n = (k : Int)) (h : Wr w p v bs) (hN2 : bs.length ≤ 900000000000) :
    Calls Tryz.prog 31 #[.pointer (some ⟨p, 0, none⟩), .int .i64 x, .int .i64 n] w fun e w' => e = .returned (.tuple #[]) ∧ ∃ v', Wr w' p v' (bs ++ lowBits x k) ∧ Step p v v' w w' := by
  have hk30 : k ≤ 30 := by unfold takenI at hk; split at hk <;> (try split at hk) <;> omega
  have HK := hide hk
  have H := hide h
  clear h hk
  go_enter Tryz.func31, Tryz.ntmps31
  go_wp2_with (first | (go_at_call 22; refine (taken_any _ _).mono ?_; rintro e w' ⟨rfl, rfl⟩; rw [HK.out]))
  go_loopw [9] (fun c wr => ∃ (j : Nat) (vj : Value), j ≤ k ∧ c = .int .i64 j ∧ Hid (Wr wr p vj (bs ++ lowBits x j)) ∧ Hid (Step p v vj w wr)) (fun c _ => k - (intOf c).toNat)
  case atStart => exact ⟨0, v, Nat.zero_le _, rfl, by simpa [lowBits] using H, Step.refl _ _ _⟩
  case round =>
    obtain ⟨j, vj, hj, rfl, HR, HO⟩ := hrel
    by_cases hlt : j < k
    · have hlen : (bs ++ lowBits x j).length ≤ 1000000000000 := by simp [lowBits_length]; omega
      go_wp2_with (first | (go_at_call 43; refine (wbit_any p vj (bs ++ lowBits x j) _ _ HR.out hlen).mono ?_; rintro e w1 ⟨rfl, v1, hr1, ho1⟩; have HR1 := hide hr1; have HO1 := hide ho1; clear hr1 ho1))
      go_roundw
      case rel =>
        refine ⟨j + 1, v1, by omega, by go_num, ?_, HO.out.trans HO1.out⟩
        rw [lowBits_succ, ← List.append_assoc]
        exact HR1
      case measure => simp [intOf]; omega
    · have hjk : k = j := by omega
      have HJ := hide hjk
      clear hjk
      go_wp2
      go_end0
      rw [HJ.out]
      exact ⟨rfl, _, HR.out, HO.out⟩

/-- These, the highest first. -/
def highBits (v : Int) (k : Nat) : List Bool := (lowBits v k).reverse

theorem lowBits_get (v : Int) (k j : Nat) (h : j < k) : (lowBits v k)[j]? = some (decide (v / 2 ^ j % 2 = 1)) := by
  simp [lowBits, List.getElem?_map, List.getElem?_range h]

/-- One more of them, from above. -/
theorem drop_step (v : Int) (k j : Nat) (h : j < k) : ((lowBits v k).drop j).reverse = ((lowBits v k).drop (j + 1)).reverse ++ [decide (v / 2 ^ j % 2 = 1)] := by
  have hl : j < (lowBits v k).length := by rw [lowBits_length]; exact h
  rw [List.drop_eq_getElem_cons hl, List.reverse_cons]
  have := lowBits_get v k j h
  rw [List.getElem?_eq_getElem hl] at this
  injection this with e
  rw [e]

set_option maxHeartbeats 400000 in
theorem wturn_any (p : Nat) (v : Value) (bs : List Bool) (x n : Int) (w : World) (k : Nat) (hk : takenI n = (k : Int)) (h : Wr w p v bs) (hN2 : bs.length ≤ 900000000000) :
    Calls Tryz.prog 82 #[.pointer (some ⟨p, 0, none⟩), .int .i64 x, .int .i64 n] w fun e w' => e = .returned (.tuple #[]) ∧ ∃ v', Wr w' p v' (bs ++ highBits x k) ∧ Step p v v' w w' := by
  have hk30 : k ≤ 30 := by unfold takenI at hk; split at hk <;> (try split at hk) <;> omega
  have HK := hide hk
  have H := hide h
  clear h hk
  go_enter Tryz.func82, Tryz.ntmps82
  go_wp2_with (first | (go_at_call 22; refine (taken_any _ _).mono ?_; rintro e w' ⟨rfl, rfl⟩; rw [HK.out]))
  go_loopw [6] (fun c wr => ∃ (j : Nat) (vj : Value), j ≤ k ∧ c = .int .i64 ((j : Int) - 1) ∧ Hid (Wr wr p vj (bs ++ ((lowBits x k).drop j).reverse)) ∧ Hid (Step p v vj w wr)) (fun c _ => (intOf c + 1).toNat)
  case atStart => exact ⟨k, v, Nat.le_refl _, by go_num, by rw [List.drop_eq_nil_of_le (by rw [lowBits_length]; exact Nat.le_refl _)]; simpa using H, Step.refl _ _ _⟩
  case round =>
    obtain ⟨j, vj, hj, rfl, HR, HO⟩ := hrel
    by_cases hlt : 0 < j
    · obtain ⟨m, rfl⟩ : ∃ m, j = m + 1 := ⟨j - 1, by omega⟩
      have hlen : (bs ++ ((lowBits x k).drop (m + 1)).reverse).length ≤ 1000000000000 := by simp [lowBits_length]; omega
      go_wp2_with (first | (go_at_call 43; refine (wbit_any p vj (bs ++ ((lowBits x k).drop (m + 1)).reverse) _ _ HR.out hlen).mono ?_; rintro e w1 ⟨rfl, v1, hr1, ho1⟩; have HR1 := hide hr1; have HO1 := hide ho1; clear hr1 ho1))
      go_roundw
      case rel =>
        refine ⟨m, v1, by omega, by go_num, ?_, HO.out.trans HO1.out⟩
        rw [drop_step x k m (by omega), ← List.append_assoc]
        exact HR1
      case measure => simp [intOf]
    · have hj0 : j = 0 := by omega
      subst hj0
      go_wp2
      go_end0
      exact ⟨rfl, _, by simpa [highBits] using HR.out, HO.out⟩

/-- Bits 0 up to a whole byte. -/
def alignBits (bs : List Bool) : List Bool := bs ++ List.replicate ((bs.length + 7) / 8 * 8 - bs.length) false

theorem alignBits_length (bs : List Bool) : (alignBits bs).length = (bs.length + 7) / 8 * 8 := by
  simp [alignBits]; omega

theorem alignBits_getD (bs : List Bool) (i : Nat) : (alignBits bs).getD i false = bs.getD i false := by
  unfold alignBits
  simp only [List.getD_eq_getElem?_getD, List.getElem?_append]
  by_cases h : i < bs.length
  · rw [if_pos h]
  · rw [if_neg h, List.getElem?_replicate]
    rw [List.getElem?_eq_none (by omega)]
    split <;> rfl

theorem Packs.align {bs : List Bool} {out : List UInt8} (h : Packs bs out) : Packs (alignBits bs) out :=
  ⟨by rw [alignBits_length, h.len]; omega, fun i => by rw [alignBits_getD, h.bit]⟩

theorem WrAt.setN {w : World} {p : Nat} {v : Value} {out : List UInt8} {N : Nat} (h : WrAt w p v out N) (MI : Int) (M : Nat) (hM : MI = M) : WrAt (w.setCell ⟨p, 1, none⟩ (.int .i64 MI)) p v out M := by
  refine ⟨?_, ?_, h.ne⟩
  · rw [heap_setCell_same _ _ _ _ _ _ _ h.box, hM]; rfl
  · refine ⟨h.own.1, ?_⟩
    rcases h.own.2 with h2 | ⟨g, cap, cur, hv, hg, hh, r⟩
    · exact .inl h2
    · refine .inr ⟨g, cap, cur, hv, hg, ?_, r⟩
      rw [Below.heap_setCell _ _ _ _ (fun e => h.ne (by rw [hv, show g = p from e]; rfl))]
      exact hh

set_option maxHeartbeats 400000 in
theorem walign_any (p : Nat) (v : Value) (bs : List Bool) (w : World) (h : Wr w p v bs) (hN2 : bs.length ≤ 900000000000) :
    Calls Tryz.prog 30 #[.pointer (some ⟨p, 0, none⟩)] w fun e w' => e = .returned (.tuple #[]) ∧ Wr w' p v (alignBits bs) ∧ Only p w w' := by
  obtain ⟨out, hw, hp⟩ := h
  have _c1 := hw.c1
  have _f1 := hw.fz 1
  have H := hide hw
  clear hw
  go_enter Tryz.func30, Tryz.ntmps30
  go_wp2_with (first | (go_at_call 28; refine (whole_any _ _ (by omega) (by omega)).mono ?_; rintro e w' ⟨rfl, rfl⟩))
  go_end0
  refine ⟨rfl, ⟨out, ?_, hp.align⟩, Only.setCell _ _ _ _⟩
  exact H.out.setN _ _ (by rw [alignBits_length]; omega)

end Go.Proofs.YtaalbaiglkadlaaGreat

/- Contracts of the Writer's methods over lists of bits: Text, Bytes. -/
namespace Go.Proofs.YtaalbaiglkadlaaGreat
open Go.RowKit Go.Lib

/-- The bits of bytes. -/
def bytesBits : List UInt8 → List Bool
  | [] => []
  | x :: l => (List.range 8).map (fun j => x.toNat.testBit j) ++ bytesBits l

theorem bytesBits_length (l : List UInt8) : (bytesBits l).length = 8 * l.length := by
  induction l with
  | nil => rfl
  | cons x l ih => simp only [bytesBits, List.length_append, List.length_map, List.length_range, ih, List.length_cons]; omega

theorem bytesBits_getD (l : List UInt8) : ∀ i, (bytesBits l).getD i false = (l.getD (i / 8) 0).toNat.testBit (i % 8) := by
  induction l with
  | nil => intro i; simp [bytesBits]
  | cons x l ih =>
    intro i
    simp only [bytesBits, List.getD_eq_getElem?_getD, List.getElem?_append, List.length_map, List.length_range]
    by_cases h : i < 8
    · rw [if_pos h, List.getElem?_map, List.getElem?_range h, show i / 8 = 0 by omega, show i % 8 = i by omega]
      rfl
    · rw [if_neg h]
      have := ih (i - 8)
      simp only [List.getD_eq_getElem?_getD] at this
      rw [this, show (i - 8) % 8 = i % 8 by omega]
      obtain ⟨k, hk⟩ : ∃ k, i / 8 = k + 1 := ⟨i / 8 - 1, by omega⟩
      rw [hk, show (i - 8) / 8 = k by omega, List.getElem?_cons_succ]

theorem Packs.text {bs : List Bool} {out : List UInt8} (h : Packs bs out) (hN : bs.length % 8 = 0) (l : List UInt8) : Packs (bs ++ bytesBits l) (out ++ l) := by
  have hl := h.len
  refine ⟨by simp only [List.length_append, bytesBits_length]; omega, fun i => ?_⟩
  have hi := h.bit i
  simp only [List.getD_eq_getElem?_getD, List.getElem?_append] at hi ⊢
  by_cases h1 : i < bs.length
  · rw [if_pos h1, if_pos (by omega)]
    exact hi
  · rw [if_neg h1, if_neg (by omega)]
    have := bytesBits_getD l (i - bs.length)
    simp only [List.getD_eq_getElem?_getD] at this
    rw [this, show (i - bs.length) / 8 = i / 8 - out.length by omega, show (i - bs.length) % 8 = i % 8 by omega]

theorem pushes (l : List UInt8) : ∀ s : ByteArray, (l.map fun b => (b.toNat : Int)).foldl (fun r n => r.push (UInt8.ofNat n.toNat)) s = ⟨(s.data.toList ++ l).toArray⟩ := by
  induction l with
  | nil => intro s; simp
  | cons x l ih =>
    intro s
    rw [List.map_cons, List.foldl_cons, ih]
    simp [ByteArray.push]

theorem load_row {P : Program} {w : World} {g : Nat} {cur : Array Value} {T : TypeId} {z : Nat × Nat} {out : List UInt8} (hg : w.heap[g]? = some (.cells cur T z)) (ht : cur.toList.take out.length = cellsB out) :
    (loadCells ⟨g, 0, none⟩ out.length).run P w = .ok ((out.map fun b => (b.toNat : Int)).map (Value.int .u8)).toArray w := by
  have h := run_loadCells_list (P := P) (w := w) ⟨g, 0, none⟩ (cellsB out) (by
    intro j u hu
    rw [← ht, List.getElem?_take] at hu
    split at hu
    · have hadd : (⟨g, 0, none⟩ : Addr).add j = ⟨g, j, none⟩ := by unfold Addr.add; split <;> simp_all
      rw [hadd]
      simp only [World.cell?, hg]
      simpa using hu
    · cases hu)
  rw [show (cellsB out).length = out.length by simp [cellsB]] at h
  rw [h]
  simp [cellsB, List.map_map]

theorem WrAt.str {w : World} {p : Nat} {v : Value} {out : List UInt8} {N : Nat} (h : WrAt w p v out N) : (convert 30 9 v).run Tryz.prog w = .ok (.string ⟨out.toArray⟩) w := by
  by_cases hn : out = []
  · subst hn
    rcases h.own.2 with ⟨hv, h0⟩ | ⟨g, cap, cur, hv, _, hg, h1, h2, h3, h4⟩
    · rw [hv, run_convert_bytes_string _ _ _ _ _ _ _ Tryz.underlying30 Tryz.underlying5 Tryz.underlying9]
      rfl
    · rw [hv, run_convert_bytes_string _ _ _ _ _ _ _ Tryz.underlying30 Tryz.underlying5 Tryz.underlying9, run_bytesToString _ _ _ _ ([].map fun b : UInt8 => (b.toNat : Int)) (load_row hg (by simp [cellsB]))]
      rfl
  · obtain ⟨g, cap, cur, hv, hgp, hg, hl, hm, hs, ht⟩ := h.row hn
    rw [hv, run_convert_bytes_string _ _ _ _ _ _ _ Tryz.underlying30 Tryz.underlying5 Tryz.underlying9, run_bytesToString _ _ _ _ (out.map fun b : UInt8 => (b.toNat : Int)) (load_row hg ht), pushes]
    simp

set_option maxHeartbeats 400000 in
theorem wbytes_at (p : Nat) (v : Value) (out : List UInt8) (N : Nat) (w : World) (hw : WrAt w p v out N) :
    Calls Tryz.prog 12 #[.pointer (some ⟨p, 0, none⟩)] w fun e w' => e = .returned (.string ⟨out.toArray⟩) ∧ w' = w := by
  have _c0 := hw.c0
  have hcv := hw.str
  clear hw
  go_enter Tryz.func12, Tryz.ntmps12
  go_wp2
  go_ret
  exact ⟨rfl, rfl⟩

set_option maxHeartbeats 400000 in
theorem wbytes_any (p : Nat) (v : Value) (bs : List Bool) (w : World) (h : Wr w p v bs) :
    Calls Tryz.prog 12 #[.pointer (some ⟨p, 0, none⟩)] w fun e w' => (∃ out, e = .returned (.string ⟨out.toArray⟩) ∧ Packs bs out) ∧ w = w' := by
  obtain ⟨out, hw, hp⟩ := h
  have _c0 := hw.c0
  have hcv := hw.str
  clear hw
  go_enter Tryz.func12, Tryz.ntmps12
  go_wp2
  go_ret
  exact ⟨⟨out, rfl, hp⟩, rfl⟩

/-- All that the walk wants behind the append of a string. -/
theorem WrAt.appS {w w1 : World} {p : Nat} {v v1 : Value} {out : List UInt8} {N : Nat} {s : ByteArray} (h : WrAt w p v out N) (hown : w1.ownsRow 0 5 1 v1 (out.length + s.size) (cellsB out ++ strCells s)) (hgr : w.grownBy w1 v.ownBlock)
    (hf : v1.ownBlock = v.ownBlock ∨ ∀ k, v1.ownBlock = some k → w.heap.size ≤ k) :
    ∃ a n cap, v1 = .slice a n cap ∧ w1.cell? ⟨p, 0, none⟩ = some v ∧ w1.cell? ⟨p, 1, none⟩ = some (.int .i64 N) ∧ w1.frozen? ⟨p, 0, none⟩ = false ∧ w1.frozen? ⟨p, 1, none⟩ = false ∧
      WrAt (w1.setCell ⟨p, 0, none⟩ v1) p v1 (out ++ s.data.toList) N ∧ Step p v v1 w (w1.setCell ⟨p, 0, none⟩ v1) := by
  have hp : p < w.heap.size := (Array.getElem?_eq_some_iff.1 h.box).1
  have hbl : ∀ k, k < w.heap.size → some k ≠ v.ownBlock → w1.heap[k]? = w.heap[k]? := fun k hk hv => hgr.block k hk hv
  have hA := h.app (add := s.data.toList) (by rw [Array.length_toList]; exact hown) hgr.size hbl hgr.os hgr.tape hgr.output hf
  have hbox : w1.heap[p]? = _ := (hbl p hp (Ne.symm h.ne)).trans h.box
  have hv : ∃ a n cap, v1 = .slice a n cap := by
    rcases hown.2 with ⟨e, _⟩ | ⟨g, cap, cur, e, _⟩
    · exact ⟨_, _, _, e⟩
    · exact ⟨_, _, _, e⟩
  obtain ⟨a, n, cap, hv⟩ := hv
  exact ⟨a, n, cap, hv, by simp [World.cell?, hbox], by simp [World.cell?, hbox], by simp [World.frozen?, hbox], by simp [World.frozen?, hbox], hA.1, hA.2⟩

set_option maxHeartbeats 400000 in
theorem wtext_any (p : Nat) (v : Value) (bs : List Bool) (s : ByteArray) (w : World) (h : Wr w p v bs) (hN2 : bs.length ≤ 800000000000) (hs : s.size ≤ 10000000000) :
    Calls Tryz.prog 32 #[.pointer (some ⟨p, 0, none⟩), .string s] w fun e w' => e = .returned (.tuple #[]) ∧ ∃ v', Wr w' p v' (alignBits bs ++ bytesBits s.data.toList) ∧ Step p v v' w w' := by
  have H := hide h
  clear h
  have hlen : (alignBits bs).length ≤ 900000000000 := by rw [alignBits_length]; omega
  obtain ⟨i0, hi, hz0, hz1, hz2⟩ := info_parts Tryz.infoU8
  go_enter Tryz.func32, Tryz.ntmps32
  go_wp2_with (first
    | (go_at_call 30; refine (walign_any p v bs _ H.out (by omega)).mono ?_; rintro e w1 ⟨rfl, ⟨out, hr1, hp1⟩, ho1⟩; have _c0 := hr1.c0; have _c1 := hr1.c1; have _f0 := hr1.fz 0; have _f1 := hr1.fz 1; have hol : out.length ≤ 100000000001 := (by have := hp1.len; rw [alignBits_length] at this; omega); have HR1 := hide hr1; have HP := hide hp1; have HO1 := hide ho1; clear hr1 hp1 ho1)
    | (at_builtin; refine wpList_append_fresh_string _ rfl _ _ 30 9 rfl 0 5 i0 Tryz.underlying30 Tryz.underlying9 hi hz0 hz1 hz2 v _ _ rfl HR1.out.own s rfl (by unfold maxLen; omega) (by omega) (Nat.zero_le _) ?_; intro v1 w2 hown hgr hf; obtain ⟨a1, n1, cap1, rfl, c0, c1, f0, f1, hA, hS⟩ := HR1.out.appS hown hgr hf; have HA := hide hA; have HS := hide hS; clear hown hgr hf hA hS))
  go_end0
  refine ⟨rfl, _, ⟨_, HA.out.setN _ _ ?_, HP.out.text (by rw [alignBits_length]; omega) _⟩, ((Step.ofOnly HO1.out).trans HS.out).trans (Step.ofOnly (Only.setCell _ _ _ _))⟩
  simp only [List.length_append, bytesBits_length, Array.length_toList]
  have : s.data.size = s.size := rfl
  omega

end Go.Proofs.YtaalbaiglkadlaaGreat
