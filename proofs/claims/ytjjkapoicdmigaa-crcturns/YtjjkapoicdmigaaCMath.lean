/- Plain facts on sums by a table (CRC-32): halving, steps, their linearity, and that up to four bytes side by side are told. Nothing of the program is named here. -/
import Derived.WalkKit
import Derived.Laws.BitsAllLaws
namespace Go.Proofs.Ytjjkapoicdmigaa
open Go.RowKit

/-- Half of n, mixed with the polynomial if n's lowest bit was 1. -/
def halfN (n : Nat) : Nat := if n % 2 = 1 then n / 2 ^^^ 3988292384 else n / 2

/-- k times half of n. -/
def halfK : Nat → Nat → Nat
  | 0, n => n
  | k + 1, n => halfN (halfK k n)

/-- A step by the table f. -/
def stepN (f : Nat → Nat) (n b : Nat) : Nat := n / 256 ^^^ f (n % 256 ^^^ b)

/-- All steps. -/
def foldN (f : Nat → Nat) (n : Nat) (l : List UInt8) : Nat := l.foldl (fun n b => stepN f n b.toNat) n

/-- The sum. -/
def sumN (f : Nat → Nat) (l : List UInt8) : Nat := 4294967295 - foldN f 4294967295 l

/-- The table of CRC-32. -/
def ent (i : Nat) : Nat := halfK 8 i

theorem halfN_lt (n : Nat) (h : n < 4294967296) : halfN n < 4294967296 := by
  unfold halfN
  split
  · exact Nat.xor_lt_two_pow (n := 32) (by omega) (by decide)
  · omega

theorem halfK_lt (k n : Nat) (h : n < 4294967296) : halfK k n < 4294967296 := by
  induction k with
  | zero => exact h
  | succ k ih => exact halfN_lt _ ih

theorem halfK_add (j k n : Nat) : halfK (j + k) n = halfK j (halfK k n) := by
  induction j with
  | zero => rw [Nat.zero_add]; rfl
  | succ j ih => rw [show j + 1 + k = (j + k) + 1 by omega]; show halfN _ = halfN _; rw [ih]

theorem xor_mod2 (a b : Nat) : (a ^^^ b) % 2 = (a % 2 + b % 2) % 2 := by
  have h := Nat.testBit_xor a b 0
  simp only [Nat.testBit_zero] at h
  have ha : a % 2 = 0 ∨ a % 2 = 1 := by omega
  have hb : b % 2 = 0 ∨ b % 2 = 1 := by omega
  have hc : (a ^^^ b) % 2 = 0 ∨ (a ^^^ b) % 2 = 1 := by omega
  rcases ha with ha | ha <;> rcases hb with hb | hb <;> rcases hc with hc | hc <;> simp_all

theorem xor_div2 (a b : Nat) : (a ^^^ b) / 2 = a / 2 ^^^ b / 2 := by
  apply Nat.eq_of_testBit_eq
  intro i
  rw [Nat.testBit_xor, Nat.testBit_div_two, Nat.testBit_div_two, Nat.testBit_div_two, Nat.testBit_xor]

theorem halfN_xor (a b : Nat) : halfN (a ^^^ b) = halfN a ^^^ halfN b := by
  unfold halfN
  rw [xor_mod2, xor_div2]
  have ha : a % 2 = 0 ∨ a % 2 = 1 := by omega
  have hb : b % 2 = 0 ∨ b % 2 = 1 := by omega
  rcases ha with ha | ha <;> rcases hb with hb | hb <;> simp only [ha, hb] <;> simp
  · rw [Nat.xor_assoc]
  · rw [Nat.xor_assoc, Nat.xor_assoc, Nat.xor_comm (b / 2)]
  · rw [Nat.xor_assoc, ← Nat.xor_assoc 3988292384, Nat.xor_comm 3988292384 (b / 2), Nat.xor_assoc, Nat.xor_self, Nat.xor_zero]

theorem halfK_xor (k a b : Nat) : halfK k (a ^^^ b) = halfK k a ^^^ halfK k b := by
  induction k with
  | zero => rfl
  | succ k ih => show halfN _ = halfN _ ^^^ halfN _; rw [ih, halfN_xor]

theorem halfN_zero : halfN 0 = 0 := by decide
theorem halfK_zero (k : Nat) : halfK k 0 = 0 := by
  induction k with
  | zero => rfl
  | succ k ih => show halfN _ = 0; rw [ih]; rfl

/-- What is not 0 does not become 0: the polynomial's highest bit is 1. -/
theorem halfN_ne (n : Nat) (h : n < 4294967296) (h0 : n ≠ 0) : halfN n ≠ 0 := by
  unfold halfN
  split
  · intro e
    have : n / 2 = 3988292384 := by
      have h2 : (n / 2 ^^^ 3988292384) ^^^ 3988292384 = 0 ^^^ 3988292384 := by rw [e]
      rw [Nat.xor_assoc, Nat.xor_self, Nat.xor_zero, Nat.zero_xor] at h2
      exact h2
    omega
  · omega

theorem halfK_ne (k n : Nat) (h : n < 4294967296) (h0 : n ≠ 0) : halfK k n ≠ 0 := by
  induction k with
  | zero => exact h0
  | succ k ih => exact halfN_ne _ (halfK_lt k n h) ih

theorem halfK_mul (k m : Nat) : halfK k (m * 2 ^ k) = m := by
  induction k generalizing m with
  | zero => show m * 1 = m; omega
  | succ k ih =>
    show halfN (halfK k _) = m
    rw [show m * 2 ^ (k + 1) = (m * 2) * 2 ^ k by rw [Nat.pow_succ, Nat.mul_comm (2 ^ k) 2, Nat.mul_assoc], ih]
    unfold halfN
    rw [if_neg (by omega)]
    omega

theorem split256 (n : Nat) : (n / 256 * 256) ^^^ (n % 256) = n := by
  have h := Nat.two_pow_add_eq_or_of_lt (i := 8) (b := n % 256) (by omega) (n / 256)
  have e : n / 256 * 256 + n % 256 = n := by omega
  apply Nat.eq_of_testBit_eq
  intro i
  rw [Nat.testBit_xor, show (256 : Nat) = 2 ^ 8 from rfl, Nat.testBit_mul_two_pow, Nat.testBit_div_two_pow, Nat.testBit_mod_two_pow]
  by_cases h8 : 8 ≤ i
  · have h3 : i - 8 + 8 = i := by omega
    have h4 : ¬ i < 8 := by omega
    simp [h8, h3, h4]
  · have h4 : i < 8 := by omega
    simp [h8, h4]

/-- A step by the table of CRC-32 is eight halves. -/
theorem step_half (n b : Nat) : stepN ent n b = halfK 8 (n ^^^ b) := by
  unfold stepN ent
  have e : n ^^^ b = (n / 256 * 2 ^ 8) ^^^ (n % 256 ^^^ b) := by
    rw [← Nat.xor_assoc]
    show _ = ((n / 256 * 256) ^^^ (n % 256)) ^^^ b
    rw [split256]
  rw [e, halfK_xor 8 (n / 256 * 2 ^ 8), halfK_mul]

theorem ent_lt (i : Nat) (h : i < 256) : ent i < 4294967296 := halfK_lt 8 i (by omega)

theorem stepN_lt (f : Nat → Nat) (hf : ∀ i, i < 256 → f i < 4294967296) (n b : Nat) (hn : n < 4294967296) (hb : b < 256) : stepN f n b < 4294967296 := by
  have h : n % 256 ^^^ b < 2 ^ 8 := Nat.xor_lt_two_pow (by omega) (by omega)
  exact Nat.xor_lt_two_pow (n := 32) (by omega) (hf _ h)

theorem foldN_lt (f : Nat → Nat) (hf : ∀ i, i < 256 → f i < 4294967296) (l : List UInt8) : ∀ n, n < 4294967296 → foldN f n l < 4294967296 := by
  induction l with
  | nil => intro n h; exact h
  | cons x l ih => intro n h; exact ih _ (stepN_lt f hf n x.toNat h x.toNat_lt)

theorem foldN_snoc (f : Nat → Nat) (n : Nat) (l : List UInt8) (x : UInt8) : foldN f n (l ++ [x]) = stepN f (foldN f n l) x.toNat := by
  unfold foldN
  rw [List.foldl_append]
  rfl

theorem foldN_append (f : Nat → Nat) (n : Nat) (a b : List UInt8) : foldN f n (a ++ b) = foldN f (foldN f n a) b := by
  unfold foldN
  rw [List.foldl_append]

theorem sumN_lt (f : Nat → Nat) (l : List UInt8) : sumN f l < 4294967296 := by unfold sumN; omega

/-- The difference of two sums under way goes by its own steps. -/
theorem fold_diff (a b : List UInt8) (hl : a.length = b.length) : ∀ m n, foldN ent m a ^^^ foldN ent n b = foldN ent (m ^^^ n) (List.zipWith (fun x y => x ^^^ y) a b) := by
  induction a generalizing b with
  | nil =>
    intro m n
    cases b with
    | nil => rfl
    | cons y b => simp at hl
  | cons x a ih =>
    intro m n
    cases b with
    | nil => simp at hl
    | cons y b =>
      have h := ih b (by simpa using hl) (stepN ent m x.toNat) (stepN ent n y.toNat)
      show foldN ent (stepN ent m x.toNat) a ^^^ foldN ent (stepN ent n y.toNat) b = foldN ent (stepN ent (m ^^^ n) (x ^^^ y).toNat) (List.zipWith (fun x y => x ^^^ y) a b)
      rw [h]
      congr 1
      rw [step_half, step_half, step_half, ← halfK_xor, UInt8.toNat_xor]
      congr 1
      rw [Nat.xor_assoc, Nat.xor_assoc, ← Nat.xor_assoc x.toNat, Nat.xor_comm x.toNat n, Nat.xor_assoc]

/-- The number of bytes, the lowest first. -/
def numC : List UInt8 → Nat
  | [] => 0
  | x :: l => x.toNat + 256 * numC l

theorem fold_half (l : List UInt8) : ∀ d, foldN ent d l = halfK (8 * l.length) (d ^^^ numC l) := by
  induction l with
  | nil => intro d; show d = d ^^^ 0; rw [Nat.xor_zero]
  | cons x l ih =>
    intro d
    show foldN ent (stepN ent d x.toNat) l = _
    rw [ih, step_half, List.length_cons, show 8 * (l.length + 1) = 8 * l.length + 8 by omega, halfK_add, numC]
    congr 1
    have e : x.toNat + 256 * numC l = x.toNat ^^^ (numC l * 2 ^ 8) := by
      have h1 : (x.toNat + 256 * numC l) / 256 = numC l := by have := x.toNat_lt; omega
      have h2 : (x.toNat + 256 * numC l) % 256 = x.toNat := by have := x.toNat_lt; omega
      have h := split256 (x.toNat + 256 * numC l)
      rw [h1, h2] at h
      rw [← h, Nat.xor_comm]
    rw [e, ← Nat.xor_assoc, halfK_xor 8 (d ^^^ x.toNat), halfK_mul]

theorem numC_lt (l : List UInt8) : numC l < 256 ^ l.length := by
  induction l with
  | nil => decide
  | cons x l ih =>
    have := x.toNat_lt
    rw [numC, List.length_cons, Nat.pow_succ]
    omega

theorem numC_zero (l : List UInt8) (h : ∀ x ∈ l, x = 0) : numC l = 0 := by
  induction l with
  | nil => rfl
  | cons x l ih =>
    rw [numC, h x (List.mem_cons_self), ih fun y hy => h y (List.mem_cons_of_mem _ hy)]
    rfl

theorem numC_ne (l : List UInt8) (h : ∃ x ∈ l, x ≠ 0) : numC l ≠ 0 := by
  induction l with
  | nil => obtain ⟨x, hx, _⟩ := h; cases hx
  | cons x l ih =>
    rw [numC]
    by_cases hx : x = 0
    · obtain ⟨y, hy, hy0⟩ := h
      have : numC l ≠ 0 := ih (by
        rcases List.mem_cons.1 hy with e | e
        · exact absurd (e.trans hx) hy0
        · exact ⟨y, e, hy0⟩)
      omega
    · have : x.toNat ≠ 0 := fun e => hx (UInt8.toNat_inj.1 (by simpa using e))
      omega

/-- Four bytes at most, not all of them 0, and whatever zeros about them: a sum under way that began with 0 is not 0. -/
theorem told (p z : Nat) (x : List UInt8) (hx : x.length ≤ 4) (h : ∃ y ∈ x, y ≠ 0) : foldN ent 0 (List.replicate p 0 ++ x ++ List.replicate z 0) ≠ 0 := by
  rw [foldN_append, foldN_append, fold_half (List.replicate p 0), numC_zero _ (fun y hy => (List.mem_replicate.1 hy).2), Nat.xor_zero, halfK_zero, fold_half x, Nat.zero_xor, fold_half, numC_zero _ (fun y hy => (List.mem_replicate.1 hy).2), Nat.xor_zero]
  have hl : numC x < 4294967296 := by
    have h1 := numC_lt x
    have h2 : 256 ^ x.length ≤ 256 ^ 4 := Nat.pow_le_pow_right (by decide) hx
    omega
  exact halfK_ne _ _ (halfK_lt _ _ hl) (halfK_ne _ _ hl (numC_ne x h))

theorem xor_eq_zero' (a b : Nat) (h : a ^^^ b = 0) : a = b := by
  have h2 : (a ^^^ b) ^^^ b = 0 ^^^ b := by rw [h]
  rwa [Nat.xor_assoc, Nat.xor_self, Nat.xor_zero, Nat.zero_xor] at h2

theorem not_xor (n : Nat) (h : n < 4294967296) : 4294967295 - n = 4294967295 ^^^ n := by
  apply Nat.eq_of_testBit_eq
  intro i
  rw [show 4294967295 - n = 2 ^ 32 - (n + 1) by omega, Nat.testBit_two_pow_sub_succ (by omega), Nat.testBit_xor, show 4294967295 = 2 ^ 32 - 1 from rfl, Nat.testBit_two_pow_sub_one]
  by_cases hi : i < 32
  · simp [hi]
  · have : n.testBit i = false := Nat.testBit_lt_two_pow (Nat.lt_of_lt_of_le (show n < 2 ^ 32 by omega) (Nat.pow_le_pow_right (by decide) (by omega)))
    simp [hi, this]

theorem sumN_xor (l : List UInt8) : sumN ent l = 4294967295 ^^^ foldN ent 4294967295 l :=
  not_xor _ (foldN_lt ent ent_lt l _ (by decide))

theorem zipWith_len (a b : List UInt8) (h : a.length = b.length) : (List.zipWith (fun x y => x ^^^ y) a b).length = a.length := by simp [h]

/-- The sums of three texts of one length, mixed. -/
theorem sum_mix (a b c : List UInt8) (hb : a.length = b.length) (hc : a.length = c.length) :
    sumN ent (List.zipWith (fun x y => x ^^^ y) (List.zipWith (fun x y => x ^^^ y) a b) c) = sumN ent a ^^^ sumN ent b ^^^ sumN ent c := by
  have e := fold_diff (List.zipWith (fun x y => x ^^^ y) a b) c (by rw [zipWith_len a b hb]; exact hc) 0 4294967295
  rw [← Nat.xor_self 4294967295, ← fold_diff a b hb, Nat.xor_self, Nat.zero_xor] at e
  rw [sumN_xor, sumN_xor, sumN_xor, sumN_xor, ← e]
  generalize foldN ent 4294967295 a = x
  generalize foldN ent 4294967295 b = y
  generalize foldN ent 4294967295 c = z
  generalize 4294967295 = m
  apply Nat.eq_of_testBit_eq
  intro i
  simp only [Nat.testBit_xor]
  cases m.testBit i <;> cases x.testBit i <;> cases y.testBit i <;> cases z.testBit i <;> rfl

/-- Two texts of one length: their sums are alike if and only if that of their difference, begun with 0, is 0. -/
theorem sum_eq_iff (a b : List UInt8) (h : a.length = b.length) : sumN ent a = sumN ent b ↔ foldN ent 0 (List.zipWith (fun x y => x ^^^ y) a b) = 0 := by
  have e := fold_diff a b h 4294967295 4294967295
  rw [Nat.xor_self] at e
  rw [← e]
  have h1 := foldN_lt ent ent_lt a 4294967295 (by decide)
  have h2 := foldN_lt ent ent_lt b 4294967295 (by decide)
  unfold sumN
  constructor
  · intro h3
    rw [show foldN ent 4294967295 a = foldN ent 4294967295 b by omega, Nat.xor_self]
  · intro h3
    rw [xor_eq_zero' _ _ h3]

end Go.Proofs.Ytjjkapoicdmigaa
