/- Bits packed into bytes, the lowest of a byte first. Nothing of the program is named here. -/
import Derived.Test.YteillcfdmjmaeaaWorld
namespace Go.Proofs.Yteillcfdmjmaeaa
open Go.RowKit

/-- The bytes out are the bits bs, the last byte filled with 0. -/
structure Packs (bs : List Bool) (out : List UInt8) : Prop where
  len : out.length = (bs.length + 7) / 8
  bit : ∀ i, (out.getD (i / 8) 0).toNat.testBit (i % 8) = bs.getD i false

theorem u8_ext (x y : UInt8) (h : ∀ j, j < 8 → x.toNat.testBit j = y.toNat.testBit j) : x = y := by
  apply UInt8.toNat_inj.1
  apply Nat.eq_of_testBit_eq
  intro j
  by_cases hj : j < 8
  · exact h j hj
  · have hx : x.toNat < 2 ^ j := Nat.lt_of_lt_of_le x.toNat_lt (Nat.pow_le_pow_right (by decide) (by omega : 8 ≤ j))
    have hy : y.toNat < 2 ^ j := Nat.lt_of_lt_of_le y.toNat_lt (Nat.pow_le_pow_right (by decide) (by omega : 8 ≤ j))
    rw [Nat.testBit_lt_two_pow hx, Nat.testBit_lt_two_pow hy]

theorem Packs.uniq {bs : List Bool} {o1 o2 : List UInt8} (h1 : Packs bs o1) (h2 : Packs bs o2) : o1 = o2 := by
  apply List.ext_getElem (h1.len.trans h2.len.symm)
  intro i hi1 hi2
  have e1 : o1.getD i 0 = o1[i] := by simp [List.getD_eq_getElem?_getD, hi1]
  have e2 : o2.getD i 0 = o2[i] := by simp [List.getD_eq_getElem?_getD, hi2]
  rw [← e1, ← e2]
  apply u8_ext
  intro j hj
  have b1 := h1.bit (8 * i + j)
  have b2 := h2.bit (8 * i + j)
  rw [show (8 * i + j) / 8 = i by omega, show (8 * i + j) % 8 = j by omega] at b1 b2
  rw [b1, b2]

theorem Packs.nil : Packs [] [] := ⟨rfl, fun i => by simp⟩

theorem getD_append_last (l : List UInt8) (x : UInt8) (k : Nat) : (l ++ [x]).getD k 0 = if k = l.length then x else l.getD k 0 := by
  simp only [List.getD_eq_getElem?_getD, List.getElem?_append]
  by_cases h : k < l.length
  · rw [if_pos h, if_neg (by omega)]
  · rw [if_neg h]
    by_cases h2 : k = l.length
    · subst h2; simp
    · rw [if_neg h2]
      have h3 : l[k]? = none := List.getElem?_eq_none (by omega)
      have h4 : [x][k - l.length]? = none := List.getElem?_eq_none (by simp; omega)
      rw [h3, h4]

theorem getD_append_bool (l : List Bool) (x : Bool) (k : Nat) : (l ++ [x]).getD k false = if k = l.length then x else l.getD k false := by
  simp only [List.getD_eq_getElem?_getD, List.getElem?_append]
  by_cases h : k < l.length
  · rw [if_pos h, if_neg (by omega)]
  · rw [if_neg h]
    by_cases h2 : k = l.length
    · subst h2; simp
    · rw [if_neg h2]
      have h3 : l[k]? = none := List.getElem?_eq_none (by omega)
      have h4 : [x][k - l.length]? = none := List.getElem?_eq_none (by simp; omega)
      rw [h3, h4]

/-- One bit more, in a new byte. -/
theorem Packs.new {bs : List Bool} {out : List UInt8} (h : Packs bs out) (hN : bs.length % 8 = 0) (b : Bool) (y : UInt8) (hy : y.toNat = b.toNat) : Packs (bs ++ [b]) (out ++ [y]) := by
  have hl := h.len
  refine ⟨by simp only [List.length_append, List.length_singleton]; omega, fun i => ?_⟩
  rw [getD_append_last, getD_append_bool]
  by_cases h1 : i / 8 = out.length
  · rw [if_pos h1, hy]
    by_cases h2 : i = bs.length
    · rw [if_pos h2, h2, hN]; cases b <;> rfl
    · rw [if_neg h2]
      have h3 : bs.getD i false = false := by
        rw [List.getD_eq_getElem?_getD, List.getElem?_eq_none (by omega)]; rfl
      rw [h3]
      have : b.toNat < 2 ^ (i % 8) := Nat.lt_of_lt_of_le (show b.toNat < 2 ^ 1 by cases b <;> decide) (Nat.pow_le_pow_right (by decide) (by omega : 1 ≤ i % 8))
      exact Nat.testBit_lt_two_pow this
  · rw [if_neg h1, if_neg (by omega), h.bit]

/-- One bit more, in the last byte. -/
theorem Packs.put {bs : List Bool} {out : List UInt8} {x : UInt8} (h : Packs bs (out ++ [x])) (hN : bs.length % 8 ≠ 0) (b : Bool) (y : UInt8) (hy : y.toNat = x.toNat ||| b.toNat * 2 ^ (bs.length % 8)) : Packs (bs ++ [b]) (out ++ [y]) := by
  have hl := h.len
  simp only [List.length_append, List.length_singleton] at hl
  refine ⟨by simp only [List.length_append, List.length_singleton]; omega, fun i => ?_⟩
  have hi := h.bit i
  rw [getD_append_last] at hi ⊢
  rw [getD_append_bool]
  by_cases h1 : i / 8 = out.length
  · rw [if_pos h1] at hi
    rw [if_pos h1, hy, Nat.testBit_or, hi, Nat.testBit_mul_two_pow]
    by_cases h2 : i = bs.length
    · subst h2
      have h3 : bs.getD bs.length false = false := by
        rw [List.getD_eq_getElem?_getD, List.getElem?_eq_none (by omega)]; rfl
      rw [h3, if_pos rfl]
      simp
      cases b <;> rfl
    · rw [if_neg h2]
      have : (decide (bs.length % 8 ≤ i % 8) && b.toNat.testBit (i % 8 - bs.length % 8)) = false := by
        by_cases h4 : bs.length % 8 ≤ i % 8
        · have : b.toNat < 2 ^ (i % 8 - bs.length % 8) := Nat.lt_of_lt_of_le (show b.toNat < 2 ^ 1 by cases b <;> decide) (Nat.pow_le_pow_right (by decide) (by omega : 1 ≤ i % 8 - bs.length % 8))
          rw [Nat.testBit_lt_two_pow this]; simp
        · simp [h4]
      rw [this, Bool.or_false]
  · rw [if_neg h1] at hi
    rw [if_neg h1, if_neg (by omega), hi]

end Go.Proofs.Yteillcfdmjmaeaa
