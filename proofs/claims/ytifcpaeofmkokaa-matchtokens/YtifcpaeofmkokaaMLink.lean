/- Places by their three bytes, plainly: where they stood last, and what going back from place to place comes to. Nothing of the program is named here. -/
import Derived.Test.YtifcpaeofmkokaaMMath2
import Derived.Test.YtifcpaeofmkokaaBitMath
namespace Go.Proofs.Ytifcpaeofmkokaa

/-- Three bytes as a number. -/
def threeN (c : Nat → Nat) (i : Nat) : Nat := c i * 65536 + c (i + 1) * 256 + c (i + 2)
theorem three_lt (c : Nat → Nat) (hc : ∀ i, c i < 256) (i : Nat) : threeN c i < 16777216 := by
  have h1 := hc i
  have h2 := hc (i + 1)
  have h3 := hc (i + 2)
  unfold threeN
  omega
theorem three_iff (c : Nat → Nat) (hc : ∀ i, c i < 256) (n k i : Nat) (hi : i + 3 ≤ n) : same3 c n k i = true ↔ threeN c k = threeN c i := by
  rw [same3_iff]
  unfold threeN
  have h1 := hc i
  have h2 := hc (i + 1)
  have h3 := hc (i + 2)
  have h4 := hc k
  have h5 := hc (k + 1)
  have h6 := hc (k + 2)
  omega
/-- The latest place below j where this number stands. -/
def latest (c : Nat → Nat) (x : Nat) : Nat → Option Nat
  | 0 => none
  | j + 1 => if threeN c j = x then some j else latest c x j
theorem latest_succ (c : Nat → Nat) (x j : Nat) : latest c x (j + 1) = if threeN c j = x then some j else latest c x j := rfl
theorem latest_some (c : Nat → Nat) (x k : Nat) : ∀ j, latest c x j = some k → k < j ∧ threeN c k = x ∧ ∀ i, k < i → i < j → threeN c i ≠ x
  | 0, h => by cases h
  | j + 1, h => by
    rw [latest_succ] at h
    by_cases e : threeN c j = x
    · rw [if_pos e] at h
      injection h with h
      subst h
      exact ⟨by omega, e, fun i h1 h2 => by omega⟩
    · rw [if_neg e] at h
      obtain ⟨h1, h2, h3⟩ := latest_some c x k j h
      refine ⟨by omega, h2, fun i h4 h5 => ?_⟩
      by_cases e2 : i = j
      · rw [e2]; exact e
      · exact h3 i h4 (by omega)
theorem latest_none (c : Nat → Nat) (x : Nat) : ∀ j, latest c x j = none → ∀ i, i < j → threeN c i ≠ x
  | 0, _, i, hi => by omega
  | j + 1, h, i, hi => by
    rw [latest_succ] at h
    by_cases e : threeN c j = x
    · rw [if_pos e] at h; cases h
    · rw [if_neg e] at h
      by_cases e2 : i = j
      · rw [e2]; exact e
      · exact latest_none c x j h i (by omega)
/-- How far back a place's three bytes stood last; 0: nowhere, or too far. -/
def linkN (c : Nat → Nat) (n i : Nat) : Nat := if i + 3 ≤ n then (match latest c (threeN c i) i with | some k => if i - k ≤ 32768 then i - k else 0 | none => 0) else 0
theorem link_no (c : Nat → Nat) (n i : Nat) (h : n < i + 3) : linkN c n i = 0 := by unfold linkN; rw [if_neg (by omega)]
theorem link_none (c : Nat → Nat) (n i : Nat) (h : latest c (threeN c i) i = none) : linkN c n i = 0 := by
  unfold linkN
  rw [h]
  split <;> rfl
theorem link_some (c : Nat → Nat) (n i k : Nat) (hi : i + 3 ≤ n) (h : latest c (threeN c i) i = some k) : linkN c n i = if i - k ≤ 32768 then i - k else 0 := by
  unfold linkN
  rw [h, if_pos hi]
theorem link_le (c : Nat → Nat) (n i : Nat) : linkN c n i ≤ 32768 ∧ linkN c n i ≤ i := by
  by_cases hi : i + 3 ≤ n
  · cases h : latest c (threeN c i) i with
    | none => rw [link_none c n i h]; omega
    | some k => rw [link_some c n i k hi h]; split <;> omega
  · rw [link_no c n i (by omega)]; omega

/-! ### Going back -/
theorem bestR_stop (c : Nat → Nat) (n at_ : Nat) : ∀ p q r, (∀ j, j < p → same3 c n j at_ = true → 32768 < at_ - j) → bestR c n at_ p q r = r
  | 0, _, _, _ => rfl
  | p + 1, q, r, h => by
    unfold bestR
    by_cases h1 : 32768 < at_ - p ∨ q = 0
    · rw [if_pos h1]
    · rw [if_neg h1, if_neg (fun h2 => h1 (.inl (h p (by omega) h2)))]
      exact bestR_stop c n at_ p q r fun j hj => h j (by omega)
theorem bestR_skip (c : Nat → Nat) (n at_ k q : Nat) (r : Nat × Nat) (hk : at_ - k ≤ 32768) : ∀ p, k ≤ p → p ≤ at_ → (∀ j, k ≤ j → j < p → same3 c n j at_ = false) → bestR c n at_ p q r = bestR c n at_ k q r
  | 0, h, _, _ => by rw [show k = 0 by omega]
  | p + 1, h, hp, hs => by
    by_cases e : k = p + 1
    · rw [e]
    · by_cases q0 : q = 0
      · rw [q0, bestR_zero, bestR_zero]
      · rw [← bestR_skip c n at_ k q r hk p (by omega) (by omega) (fun j h1 h2 => hs j h1 (by omega))]
        show (if 32768 < at_ - p ∨ q = 0 then r else if same3 c n p at_ = true then _ else bestR c n at_ p q r) = _
        rw [if_neg (by omega), if_neg (by rw [hs p (by omega) (by omega)]; decide)]
theorem bestR_full (c : Nat → Nat) (n at_ : Nat) (r : Nat × Nat) (h : n - at_ ≤ r.1 ∨ 258 ≤ r.1) : ∀ p q, bestR c n at_ p q r = r
  | 0, _ => rfl
  | p + 1, q => by
    unfold bestR
    split
    · rfl
    · split
      · rename_i hs
        obtain ⟨_, g2, g3, _⟩ := mlen_spec c n p at_ hs
        have e : bett c n p at_ r = r := by unfold bett; rw [if_neg (by omega)]
        rw [e]
        exact bestR_full c n at_ r h p _
      · exact bestR_full c n at_ r h p _

theorem same_three (c : Nat → Nat) (hc : ∀ i, c i < 256) (n at_ p j : Nat) (hp : p = at_ ∨ same3 c n p at_ = true) (hj : same3 c n j at_ = true) : at_ + 3 ≤ n ∧ threeN c p = threeN c at_ ∧ threeN c j = threeN c p := by
  have ha := ((same3_iff c n j at_).1 hj).1
  have e1 := (three_iff c hc n j at_ ha).1 hj
  have e2 : threeN c p = threeN c at_ := by
    rcases hp with e | e
    · rw [e]
    · exact (three_iff c hc n p at_ ha).1 e
  exact ⟨ha, e2, by rw [e1, e2]⟩
theorem back_none (c : Nat → Nat) (hc : ∀ i, c i < 256) (n at_ p q : Nat) (r : Nat × Nat) (hpa : p ≤ at_) (hp : p = at_ ∨ same3 c n p at_ = true) (h : linkN c n p = 0) : bestR c n at_ p q r = r := by
  refine bestR_stop c n at_ p q r fun j hj hs => ?_
  obtain ⟨ha, _, e3⟩ := same_three c hc n at_ p j hp hs
  cases hl : latest c (threeN c p) p with
  | none => exact absurd e3 (latest_none c _ p hl j hj)
  | some k =>
    obtain ⟨h1, _, h3⟩ := latest_some c _ k p hl
    have hjk : j ≤ k := Classical.byContradiction fun hn => h3 j (by omega) hj e3
    rw [link_some c n p k (by omega) hl] at h
    split at h <;> omega
theorem back_at (c : Nat → Nat) (n p d : Nat) (h : linkN c n p = d) (hd : d ≠ 0) : p + 3 ≤ n ∧ d ≤ p ∧ latest c (threeN c p) p = some (p - d) := by
  by_cases hn : p + 3 ≤ n
  · cases hl : latest c (threeN c p) p with
    | none => rw [link_none c n p hl] at h; omega
    | some k =>
      have h1 := (latest_some c _ k p hl).1
      rw [link_some c n p k hn hl] at h
      split at h
      · exact ⟨hn, by omega, by rw [show p - d = k by omega]⟩
      · omega
  · rw [link_no c n p (by omega)] at h; omega
theorem back_far (c : Nat → Nat) (hc : ∀ i, c i < 256) (n at_ p q d : Nat) (r : Nat × Nat) (hpa : p ≤ at_) (hp : p = at_ ∨ same3 c n p at_ = true) (h : linkN c n p = d) (hd : d ≠ 0) (hf : 32768 < at_ - (p - d)) : bestR c n at_ p q r = r := by
  obtain ⟨_, _, hl⟩ := back_at c n p d h hd
  refine bestR_stop c n at_ p q r fun j hj hs => ?_
  obtain ⟨_, _, e3⟩ := same_three c hc n at_ p j hp hs
  obtain ⟨h1, _, h3⟩ := latest_some c _ _ p hl
  have hjk : j ≤ p - d := Classical.byContradiction fun hn => h3 j (by omega) hj e3
  omega
theorem back_step (c : Nat → Nat) (hc : ∀ i, c i < 256) (n at_ p q d : Nat) (r : Nat × Nat) (hpa : p ≤ at_) (hp : p = at_ ∨ same3 c n p at_ = true) (h : linkN c n p = d) (hd : d ≠ 0) (hf : ¬ 32768 < at_ - (p - d)) (hq : q ≠ 0) : same3 c n (p - d) at_ = true ∧ bestR c n at_ p q r = bestR c n at_ (p - d) (q - 1) (bett c n (p - d) at_ r) := by
  obtain ⟨hn, hdp, hl⟩ := back_at c n p d h hd
  obtain ⟨h1, h2, h3⟩ := latest_some c _ _ p hl
  have ha : at_ + 3 ≤ n := by
    rcases hp with e | e
    · rw [← e]; exact hn
    · exact ((same3_iff c n p at_).1 e).1
  have e2 : threeN c p = threeN c at_ := by
    rcases hp with e | e
    · rw [e]
    · exact (three_iff c hc n p at_ ha).1 e
  have hs : same3 c n (p - d) at_ = true := (three_iff c hc n (p - d) at_ ha).2 (by rw [h2, e2])
  refine ⟨hs, ?_⟩
  rw [bestR_skip c n at_ (p - d + 1) q r (by omega) p (by omega) hpa (fun j g1 g2 => ?_)]
  · show (if 32768 < at_ - (p - d) ∨ q = 0 then r else if same3 c n (p - d) at_ = true then bestR c n at_ (p - d) (q - 1) (bett c n (p - d) at_ r) else bestR c n at_ (p - d) q r) = _
    rw [if_neg (by omega), if_pos hs]
  · cases hc2 : same3 c n j at_ with
    | false => rfl
    | true => exact absurd (((three_iff c hc n j at_ ha).1 hc2).trans e2.symm) (h3 j (by omega) g2)
theorem mlen_of (c : Nat → Nat) (n k at_ m : Nat) (hs : same3 c n k at_ = true) (h1 : m ≤ n - at_) (h2 : m ≤ 258) (h3 : ∀ t, t < m → c (k + t) = c (at_ + t)) (h4 : m = n - at_ ∨ m = 258 ∨ c (k + m) ≠ c (at_ + m)) : mlen c n k at_ = m := by
  obtain ⟨g1, g2, g3, g4⟩ := (same3_iff c n k at_).1 hs
  have hm : 3 ≤ m := by
    refine Classical.byContradiction fun hn => ?_
    have hne : c (k + m) ≠ c (at_ + m) := by
      rcases h4 with e | e | e
      · omega
      · omega
      · exact e
    have hc : m = 0 ∨ m = 1 ∨ m = 2 := by omega
    rcases hc with e | e | e
    · rw [e] at hne; exact hne g2
    · rw [e] at hne; exact hne g3
    · rw [e] at hne; exact hne g4
  refine mlen_eq c n k at_ m hm (fun t h5 h6 => (more1_iff c n k at_ t).2 ⟨by omega, by omega, h3 t h6⟩) ?_
  cases hc : more1 c n k at_ m with
  | false => rfl
  | true =>
    obtain ⟨e1, e2, e3⟩ := (more1_iff c n k at_ m).1 hc
    rcases h4 with e | e | e
    · omega
    · omega
    · exact absurd e3 e

end Go.Proofs.Ytifcpaeofmkokaa
