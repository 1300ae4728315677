/- Symbols of lengths and distances, plainly: the least one and the extra bits of each, and the greatest symbol whose least one isn't above. Nothing of the program is named here. -/
import Derived.WalkKit
namespace Go.Proofs.Ytmfijcphmldcgaa

/-- The least length of symbol 257 + s, and its extra bits. -/
def lenBase (s : Nat) : Nat := if s < 8 then s + 3 else if s = 28 then 258 else 3 + (4 + (s - 8) % 4) * 2 ^ (1 + (s - 8) / 4)
def lenBits (s : Nat) : Nat := if s < 8 then 0 else if s = 28 then 0 else 1 + (s - 8) / 4
/-- The least distance of symbol d, and its extra bits. -/
def distBase (d : Nat) : Nat := if d < 4 then d + 1 else 1 + (2 + d % 2) * 2 ^ (d / 2 - 1)
def distBits (d : Nat) : Nat := if d < 4 then 0 else d / 2 - 1

/-- The greatest up to k whose least one isn't above n. -/
def topS (base : Nat → Nat) (n : Nat) : Nat → Nat
  | 0 => 0
  | k + 1 => if base (k + 1) ≤ n then k + 1 else topS base n k

theorem top_le (base : Nat → Nat) (n : Nat) : ∀ k, topS base n k ≤ k
  | 0 => Nat.le_refl _
  | k + 1 => by
    unfold topS
    split
    · exact Nat.le_refl _
    · exact Nat.le_trans (top_le base n k) (Nat.le_succ k)
theorem top_base (base : Nat → Nat) (n : Nat) (h : base 0 ≤ n) : ∀ k, base (topS base n k) ≤ n
  | 0 => h
  | k + 1 => by
    unfold topS
    split
    · rename_i h2; exact h2
    · exact top_base base n h k
theorem top_above (base : Nat → Nat) (n : Nat) : ∀ k s, topS base n k < s → s ≤ k → n < base s
  | 0, s, h1, h2 => by unfold topS at h1; omega
  | k + 1, s, h1, h2 => by
    unfold topS at h1
    by_cases h : base (k + 1) ≤ n
    · rw [if_pos h] at h1; omega
    · rw [if_neg h] at h1
      by_cases e : s = k + 1
      · rw [e]; omega
      · exact top_above base n k s h1 (by omega)
theorem top_eq (base : Nat → Nat) (n k s : Nat) (hs : s ≤ k) (hb : base s ≤ n) (ha : ∀ t, s < t → t ≤ k → n < base t) : topS base n k = s := by
  have h1 := top_le base n k
  refine Classical.byContradiction fun hne => ?_
  by_cases h : topS base n k < s
  · have := top_above base n k s h hs; omega
  · cases k with
    | zero => omega
    | succ k =>
      have h2 := ha _ (show s < topS base n (k + 1) by omega) h1
      have h3 : base (topS base n (k + 1)) ≤ n := by
        have key : ∀ k, topS base n k = 0 ∨ base (topS base n k) ≤ n := by
          intro k
          induction k with
          | zero => exact .inl rfl
          | succ k ih =>
            unfold topS
            split
            · rename_i h4; exact .inr h4
            · exact ih
        rcases key (k + 1) with e | e
        · omega
        · exact e
      omega
/-- Greater ones have no lesser symbols. -/
theorem top_mono (base : Nat → Nat) {m n : Nat} (h : m ≤ n) : ∀ k, topS base m k ≤ topS base n k
  | 0 => Nat.le_refl _
  | k + 1 => by
    unfold topS
    by_cases h1 : base (k + 1) ≤ m
    · rw [if_pos h1, if_pos (by omega)]; exact Nat.le_refl _
    · rw [if_neg h1]
      split
      · exact Nat.le_trans (top_le base m k) (Nat.le_succ k)
      · exact top_mono base h k

/-! ### Each symbol's range -/
theorem len_next : ∀ s, s < 27 → lenBase (s + 1) = lenBase s + 2 ^ lenBits s := by decide
theorem len_last : lenBase 28 = 258 ∧ lenBase 27 = 227 ∧ lenBits 27 = 5 ∧ lenBits 28 = 0 ∧ lenBase 0 = 3 := by decide
theorem dist_next : ∀ d, d < 29 → distBase (d + 1) = distBase d + 2 ^ distBits d := by decide
theorem dist_last : distBase 29 = 24577 ∧ distBits 29 = 13 ∧ distBase 0 = 1 := by decide
theorem len_small : ∀ s, s ≤ 28 → 3 ≤ lenBase s ∧ lenBase s ≤ 258 ∧ lenBits s ≤ 5 := by decide
theorem dist_small : ∀ d, d ≤ 29 → 1 ≤ distBase d ∧ distBase d ≤ 24577 ∧ distBits d ≤ 13 := by decide

/-- What is extra fits. -/
theorem len_fits (n : Nat) (h1 : 3 ≤ n) (h2 : n ≤ 258) : lenBase (topS lenBase n 28) ≤ n ∧ n - lenBase (topS lenBase n 28) < 2 ^ lenBits (topS lenBase n 28) := by
  have hb := top_base lenBase n (by rw [len_last.2.2.2.2]; exact h1) 28
  have hl := top_le lenBase n 28
  have ha := top_above lenBase n 28
  generalize topS lenBase n 28 = s at *
  refine ⟨hb, ?_⟩
  by_cases e : s < 27
  · have h3 := ha (s + 1) (by omega) (by omega)
    rw [len_next s e] at h3
    omega
  · by_cases e2 : s = 27
    · subst e2
      have h3 := ha 28 (by omega) (by omega)
      rw [len_last.1] at h3
      rw [len_last.2.1, len_last.2.2.1]
      omega
    · have e3 : s = 28 := by omega
      subst e3
      rw [len_last.1, len_last.2.2.2.1]
      omega
theorem dist_fits (n : Nat) (h1 : 1 ≤ n) (h2 : n ≤ 32768) : distBase (topS distBase n 29) ≤ n ∧ n - distBase (topS distBase n 29) < 2 ^ distBits (topS distBase n 29) := by
  have hb := top_base distBase n (by rw [dist_last.2.2]; exact h1) 29
  have hl := top_le distBase n 29
  have ha := top_above distBase n 29
  generalize topS distBase n 29 = s at *
  refine ⟨hb, ?_⟩
  by_cases e : s < 29
  · have h3 := ha (s + 1) (by omega) (by omega)
    rw [dist_next s e] at h3
    omega
  · have e3 : s = 29 := by omega
    subst e3
    rw [dist_last.1, dist_last.2.1]
    omega

end Go.Proofs.Ytmfijcphmldcgaa
