/- Counts of lengths, plainly: how many there are, what is left free, the symbols row under way. Nothing of the program is named here. -/
import Derived.Test.YteillcfdmjmaeaaKBuild
namespace Go.Proofs.Yteillcfdmjmaeaa
open Go.RowKit Go.Lib

/-- The first k counts, added up. -/
def sumTo (f : Nat → Nat) : Nat → Nat
  | 0 => 0
  | k + 1 => sumTo f k + f k
/-- How many numbers of k bits are free, below 0 if too many are taken. -/
def freeZ (f : Nat → Nat) : Nat → Int
  | 0 => 1
  | k + 1 => 2 * freeZ f k - (f (k + 1) : Int)

theorem sumTo_le (f : Nat → Nat) (m : Nat) (h : ∀ k, f k ≤ m) : ∀ k, sumTo f k ≤ m * k
  | 0 => by show 0 ≤ _; omega
  | k + 1 => by
    have h1 := sumTo_le f m h k
    have h2 := h k
    show sumTo f k + f k ≤ m * (k + 1)
    rw [Nat.mul_succ]
    omega
theorem free_bounds (f : Nat → Nat) (h : ∀ k, f k ≤ 1000) : ∀ k, 1000 - 1000 * ((2 ^ k : Nat) : Int) ≤ freeZ f k ∧ freeZ f k ≤ ((2 ^ k : Nat) : Int)
  | 0 => by show 1000 - 1000 * ((1 : Nat) : Int) ≤ 1 ∧ (1 : Int) ≤ ((1 : Nat) : Int); omega
  | k + 1 => by
    have h1 := free_bounds f h k
    have h2 := h (k + 1)
    show 1000 - 1000 * ((2 ^ (k + 1) : Nat) : Int) ≤ 2 * freeZ f k - (f (k + 1) : Int) ∧ 2 * freeZ f k - (f (k + 1) : Int) ≤ ((2 ^ (k + 1) : Nat) : Int)
    rw [Nat.pow_succ]
    omega
theorem free_small (f : Nat → Nat) (h : ∀ k, f k ≤ 1000) (k : Nat) (hk : k ≤ 15) : -33000000 ≤ freeZ f k ∧ freeZ f k ≤ 40000 := by
  have h1 := free_bounds f h k
  have h2 : (2 : Nat) ^ k ≤ 2 ^ 15 := Nat.pow_le_pow_right (by decide) hk
  generalize (2 : Nat) ^ k = P at *
  omega

theorem sumTo_at (ls : List Nat) : ∀ k, sumTo (cn ls) k = atC ls k
  | 0 => rfl
  | k + 1 => by show sumTo (cn ls) k + cn ls k = atC ls k + cn ls k; rw [sumTo_at ls k]
theorem atC_count (ls : List Nat) : ∀ k, atC ls k = ls.countP (fun x => x != 0 && decide (x < k))
  | 0 => by
    show 0 = _
    symm
    rw [List.countP_eq_zero]
    intro x _
    simp
  | k + 1 => by rw [count_step, ← atC_count ls k]; rfl
theorem at_num (ls : List Nat) (h : ∀ x ∈ ls, x ≤ 15) : atC ls 16 = numL ls := by
  rw [atC_count]
  unfold numL
  refine List.countP_congr fun x hx => ?_
  have := h x hx
  have hd : decide (x < 16) = true := by simp; omega
  rw [hd, Bool.and_true]
theorem free_first (ls : List Nat) : ∀ k, freeZ (cn ls) k = ((2 ^ k : Nat) : Int) - ((firstC ls k + cn ls k : Nat) : Int)
  | 0 => by show (1 : Int) = ((1 : Nat) : Int) - ((0 + 0 : Nat) : Int); omega
  | k + 1 => by
    show 2 * freeZ (cn ls) k - (cn ls (k + 1) : Int) = ((2 ^ (k + 1) : Nat) : Int) - ((2 * (firstC ls k + cn ls k) + cn ls (k + 1) : Nat) : Int)
    rw [free_first ls k, Nat.pow_succ]
    omega
theorem free_kr (ls : List Nat) : freeZ (cn ls) 15 = 32768 - (krTo ls 15 : Int) := by
  have h1 := first_kr ls 15 (by omega)
  rw [free_first, ← h1, show 15 - 15 = 0 from rfl, Nat.pow_zero, Nat.mul_one]
  rfl

/-- One alone: what it fills. -/
theorem one_kr (ls : List Nat) (h15 : ∀ x ∈ ls, x ≤ 15) (h : numL ls = 1) : krTo ls 15 ≤ 16384 ∧ (cn ls 1 = 1 ↔ krTo ls 15 = 16384) := by
  induction ls with
  | nil => cases h
  | cons x ls ih =>
    have hx := h15 x List.mem_cons_self
    have hls := fun y hy => h15 y (List.mem_cons_of_mem x hy)
    unfold numL at h
    rw [List.countP_cons] at h
    have ek : krTo (x :: ls) 15 = (if x = 0 then 0 else 2 ^ (15 - x)) + krTo ls 15 := by
      unfold krTo
      rw [List.map_cons, List.sum_cons, if_pos hx]
    have ec : cn (x :: ls) 1 = cn ls 1 + if x = 1 then 1 else 0 := by
      unfold cn
      rw [if_neg (by omega), if_neg (by omega), List.countP_cons]
      simp only [beq_iff_eq]
    rw [ek, ec]
    by_cases h0 : x = 0
    · subst h0
      have h2 : numL ls = 1 := by unfold numL; simpa using h
      have := ih hls h2
      simpa using this
    · have hb : (x != 0) = true := by simp [h0]
      rw [hb] at h
      have h2 : numL ls = 0 := by unfold numL; simpa using h
      have hk := kr_none ls h2
      have hc : cn ls 1 = 0 := by
        unfold numL at h2
        unfold cn
        rw [if_neg (by omega), List.countP_eq_zero]
        rw [List.countP_eq_zero] at h2
        intro y hy he
        have := h2 y hy
        simp at this he
        omega
      rw [hk, hc, if_neg h0, Nat.add_zero, Nat.zero_add]
      by_cases h1 : x = 1
      · subst h1
        simp
      · rw [if_neg h1]
        have h3 : (2 : Nat) ^ (15 - x) ≤ 2 ^ 13 := Nat.pow_le_pow_right (by decide) (by omega)
        constructor
        · omega
        · constructor
          · intro h4; omega
          · intro h4; omega

/-- Counts make a code. -/
def codeB (f : Nat → Nat) : Bool := if sumTo f 16 = 0 then true else if sumTo f 16 = 1 then decide (f 1 = 1) else decide (freeZ f 15 = 0)

theorem codeB_good (l : List Int) (h : ∀ x ∈ l, 0 ≤ x ∧ x ≤ 15) : codeB (cn (l.map Int.toNat)) = goodB l := by
  have hls : ∀ x ∈ l.map Int.toNat, x ≤ 15 := by
    intro x hx
    obtain ⟨y, hy, rfl⟩ := List.mem_map.1 hx
    have := h y hy
    omega
  have hg := goodB_iff l
  have hs : sumTo (cn (l.map Int.toNat)) 16 = numL (l.map Int.toNat) := by rw [sumTo_at, at_num _ hls]
  have hf := free_kr (l.map Int.toNat)
  have key : codeB (cn (l.map Int.toNat)) = true ↔ goodB l = true := by
    rw [hg]
    unfold codeB
    rw [hs]
    generalize l.map Int.toNat = ls at *
    by_cases h0 : numL ls = 0
    · rw [if_pos h0]
      exact ⟨fun _ => ⟨h, hls, .inr (.inl h0)⟩, fun _ => rfl⟩
    · rw [if_neg h0]
      by_cases h1 : numL ls = 1
      · rw [if_pos h1]
        obtain ⟨h2, h3⟩ := one_kr ls hls h1
        rw [decide_eq_true_eq, h3]
        constructor
        · intro h4; exact ⟨h, hls, .inr (.inr ⟨h1, h4⟩)⟩
        · rintro ⟨_, h4⟩
          rcases h4.full with h5 | h5 | h5
          · omega
          · omega
          · exact h5.2
      · rw [if_neg h1, decide_eq_true_eq, hf]
        constructor
        · intro h4; exact ⟨h, hls, .inl (by omega)⟩
        · rintro ⟨_, h4⟩
          rcases h4.full with h5 | h5 | h5
          · omega
          · omega
          · omega
  cases h1 : codeB (cn (l.map Int.toNat)) with
  | true => rw [key.1 h1]
  | false =>
    cases h2 : goodB l with
    | false => rfl
    | true => rw [key.2 h2] at h1; cases h1

theorem cn_snoc (a : List Nat) (x k : Nat) : cn (a ++ [x]) k = if k = x ∧ x ≠ 0 then cn a x + 1 else cn a k := by
  by_cases hk : k = 0
  · subst hk
    rw [if_neg (by omega)]
    rfl
  · by_cases e : k = x
    · subst e
      rw [if_pos (And.intro rfl hk)]
      unfold cn
      rw [if_neg hk, if_neg hk, List.countP_append, List.countP_singleton]
      simp
    · rw [if_neg (fun h => e h.1)]
      unfold cn
      rw [if_neg hk, if_neg hk, List.countP_append, List.countP_singleton, if_neg (fun h => e (beq_iff_eq.1 h).symm)]
      rfl

/-! ### The symbols' row, filled symbol by symbol -/
theorem symTo_mem (ls : List Nat) : ∀ k s, s ∈ symTo ls k ↔ s < ls.length ∧ 1 ≤ ls.getD s 0 ∧ ls.getD s 0 < k
  | 0, s => by
    show s ∈ ([] : List Nat) ↔ _
    constructor
    · intro h; cases h
    · intro h; omega
  | k + 1, s => by
    show s ∈ symTo ls k ++ (if k = 0 then [] else symK ls k ls.length) ↔ _
    rw [List.mem_append, symTo_mem ls k s]
    by_cases hk : k = 0
    · rw [if_pos hk]
      constructor
      · rintro (h | h)
        · omega
        · cases h
      · intro h; omega
    · rw [if_neg hk, symK_mem]
      constructor
      · rintro (h | h) <;> omega
      · intro h
        by_cases e : ls.getD s 0 = k
        · exact .inr ⟨h.1, e⟩
        · exact .inl ⟨h.1, h.2.1, by omega⟩
theorem symTo_nodup (ls : List Nat) : ∀ k, (symTo ls k).Nodup
  | 0 => List.nodup_nil
  | k + 1 => by
    show (symTo ls k ++ (if k = 0 then [] else symK ls k ls.length)).Nodup
    refine List.nodup_append.2 ⟨symTo_nodup ls k, ?_, ?_⟩
    · split
      · exact List.nodup_nil
      · exact List.Pairwise.filter _ List.nodup_range
    · intro a ha b hb e
      subst e
      have h1 := (symTo_mem ls k a).1 ha
      by_cases hk : k = 0
      · rw [if_pos hk] at hb; cases hb
      · rw [if_neg hk] at hb
        have h2 := (symK_mem ls k _ _).1 hb
        omega

/-- The symbols below j are laid. -/
def symW (ls : List Nat) (j : Nat) : List Nat := (symTo ls 16).map fun s => if s < j then s else 0
theorem symW_length (ls : List Nat) (j : Nat) : (symW ls j).length = (symTo ls 16).length := by simp [symW]
theorem symW_begin (ls : List Nat) : symW ls 0 = List.replicate (symTo ls 16).length 0 := by
  apply List.eq_replicate_iff.2
  refine ⟨symW_length ls 0, fun b hb => ?_⟩
  obtain ⟨i, _, rfl⟩ := List.mem_map.1 hb
  rw [if_neg (by omega)]
theorem symW_end (ls : List Nat) : symW ls ls.length = symTo ls 16 := by
  unfold symW
  have : ∀ s ∈ symTo ls 16, (fun s => if s < ls.length then s else 0) s = id s := by
    intro s hs
    have := (symTo_mem ls 16 s).1 hs
    show (if s < ls.length then s else 0) = s
    rw [if_pos this.1]
  rw [List.map_congr_left this, List.map_id]
theorem symW_skip (ls : List Nat) (j : Nat) (h : ls.getD j 0 = 0) : symW ls (j + 1) = symW ls j := by
  unfold symW
  refine List.map_congr_left fun s hs => ?_
  have h1 := (symTo_mem ls 16 s).1 hs
  have : s ≠ j := fun e => by subst e; omega
  by_cases h2 : s < j
  · rw [if_pos h2, if_pos (by omega)]
  · rw [if_neg h2, if_neg (by omega)]
/-- Where a symbol stands. -/
theorem symTo_place (ls : List Nat) (j : Nat) (hj : j < ls.length) (h0 : ls.getD j 0 ≠ 0) (h15 : ls.getD j 0 ≤ 15) : (symTo ls 16)[atC ls (ls.getD j 0) + rkK ls (ls.getD j 0) j]? = some j := by
  rw [symTo_at ls _ _ (by omega) (by omega) (rk_cn ls j hj h0), symK_get ls _ _ (Nat.le_refl _) j hj rfl]
theorem symW_set (ls : List Nat) (j p : Nat) (hp : (symTo ls 16)[p]? = some j) : (symW ls j).set p j = symW ls (j + 1) := by
  have hpl := (List.getElem?_eq_some_iff.1 hp).1
  apply List.ext_getElem?
  intro i
  rw [List.getElem?_set]
  by_cases e : p = i
  · subst e
    rw [if_pos rfl, if_pos (by rw [symW_length]; exact hpl)]
    unfold symW
    rw [List.getElem?_map, hp]
    show _ = some (if j < j + 1 then j else 0)
    rw [if_pos (by omega)]
  · rw [if_neg e]
    unfold symW
    rw [List.getElem?_map, List.getElem?_map]
    cases hs : (symTo ls 16)[i]? with
    | none => rfl
    | some s =>
      have hne : s ≠ j := by
        intro e2
        subst e2
        obtain ⟨hi, g2⟩ := List.getElem?_eq_some_iff.1 hs
        obtain ⟨_, g1⟩ := List.getElem?_eq_some_iff.1 hp
        have h2 := (List.pairwise_iff_getElem.1 (symTo_nodup ls 16))
        by_cases hlt : p < i
        · exact h2 p i hpl hi hlt (g1.trans g2.symm)
        · exact h2 i p hi hpl (by omega) (g2.trans g1.symm)
      show some (if s < j then s else 0) = some (if s < j + 1 then s else 0)
      by_cases h2 : s < j
      · rw [if_pos h2, if_pos (by omega)]
      · rw [if_neg h2, if_neg (by omega)]
theorem symW_get (ls : List Nat) (j p : Nat) (hp : (symTo ls 16)[p]? = some j) : (symW ls j)[p]? = some 0 := by
  unfold symW
  rw [List.getElem?_map, hp]
  show some (if j < j then j else 0) = _
  rw [if_neg (by omega)]

end Go.Proofs.Yteillcfdmjmaeaa
