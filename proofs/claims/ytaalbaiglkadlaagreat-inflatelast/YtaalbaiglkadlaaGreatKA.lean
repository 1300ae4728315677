import Derived.WalkKit
import Derived.Test.YtaalbaiglkadlaaGreatIRow
/- Canonical codes, plainly: how many symbols have each length, each symbol's number, what bits are read as. Nothing of the program is named here. -/
namespace Go.Proofs.YtaalbaiglkadlaaGreat

/-- How many have the length k, from 1 on. -/
def cn (ls : List Nat) (k : Nat) : Nat := if k = 0 then 0 else ls.countP (fun x => x == k)
/-- The first number of length k. -/
def firstC (ls : List Nat) : Nat → Nat
  | 0 => 0
  | k + 1 => 2 * (firstC ls k + cn ls k)
/-- How many have a length below k. -/
def atC (ls : List Nat) : Nat → Nat
  | 0 => 0
  | k + 1 => atC ls k + cn ls k
/-- Those of the first n that have the length k. -/
def symK (ls : List Nat) (k n : Nat) : List Nat := (List.range n).filter (fun i => ls.getD i 0 == k)
/-- Those of a length below k, by length, then number. -/
def symTo (ls : List Nat) : Nat → List Nat
  | 0 => []
  | k + 1 => symTo ls k ++ (if k = 0 then [] else symK ls k ls.length)
/-- How many of the first n have the length k. -/
def rkK (ls : List Nat) (k n : Nat) : Nat := (ls.take n).countP (fun x => x == k)
/-- A symbol's number. -/
def codeN (ls : List Nat) (i : Nat) : Nat := if ls.getD i 0 = 0 then 0 else firstC ls (ls.getD i 0) + rkK ls (ls.getD i 0) i
/-- What those of a length of 1 to k fill. -/
def krTo (ls : List Nat) (k : Nat) : Nat := (ls.map fun x => if x = 0 then 0 else if x ≤ k then 2 ^ (15 - x) else 0).sum
/-- How many have a length. -/
def numL (ls : List Nat) : Nat := ls.countP (fun x => x != 0)

theorem krTo_zero (ls : List Nat) : krTo ls 0 = 0 := by
  unfold krTo
  induction ls with
  | nil => rfl
  | cons x ls ih =>
    rw [List.map_cons, List.sum_cons, ih]
    by_cases h : x = 0
    · rw [if_pos h]
    · rw [if_neg h, if_neg (by omega)]

theorem krTo_succ (ls : List Nat) (k : Nat) : krTo ls (k + 1) = krTo ls k + cn ls (k + 1) * 2 ^ (15 - (k + 1)) := by
  unfold krTo cn
  rw [if_neg (by omega)]
  induction ls with
  | nil => simp
  | cons x ls ih =>
    rw [List.map_cons, List.sum_cons, List.map_cons, List.sum_cons, ih, List.countP_cons]
    by_cases h : x = 0
    · subst h
      simp
    · rw [if_neg h, if_neg h]
      by_cases h2 : x = k + 1
      · subst h2
        rw [if_pos (Nat.le_refl _), if_neg (by omega)]
        simp only [beq_self_eq_true, if_true, Nat.add_mul, Nat.one_mul]
        omega
      · have hb : (x == k + 1) = false := by simp [h2]
        rw [hb]
        by_cases h3 : x ≤ k
        · rw [if_pos (by omega), if_pos h3]
          simp
          omega
        · rw [if_neg (by omega), if_neg h3]
          simp

/-- The numbers up to a length fill what these symbols do. -/
theorem first_kr (ls : List Nat) : ∀ k, k ≤ 15 → (firstC ls k + cn ls k) * 2 ^ (15 - k) = krTo ls k
  | 0, _ => by rw [krTo_zero]; simp [firstC, cn]
  | k + 1, h => by
    have ih := first_kr ls k (by omega)
    rw [krTo_succ, ← ih, show firstC ls (k + 1) = 2 * (firstC ls k + cn ls k) from rfl, Nat.add_mul, show 15 - k = (15 - (k + 1)) + 1 by omega, Nat.pow_succ]
    generalize 2 ^ (15 - (k + 1)) = P
    generalize firstC ls k + cn ls k = A
    congr 1
    rw [Nat.mul_comm 2 A, Nat.mul_assoc, Nat.mul_comm 2 P]

theorem krTo_mono (ls : List Nat) (k : Nat) : ∀ d, krTo ls k ≤ krTo ls (k + d)
  | 0 => Nat.le_refl _
  | d + 1 => Nat.le_trans (krTo_mono ls k d) (by rw [← Nat.add_assoc, krTo_succ]; omega)

/-- They make a code. -/
structure MakesC (ls : List Nat) : Prop where
  each : ∀ x ∈ ls, x ≤ 15
  full : krTo ls 15 = 32768 ∨ numL ls = 0 ∨ (numL ls = 1 ∧ krTo ls 15 = 16384)

theorem kr_none (ls : List Nat) (h : numL ls = 0) : krTo ls 15 = 0 := by
  unfold numL at h
  unfold krTo
  induction ls with
  | nil => rfl
  | cons x ls ih =>
    rw [List.countP_cons] at h
    rw [List.map_cons, List.sum_cons]
    by_cases hx : x = 0
    · rw [if_pos hx, ih (by simp [hx] at h ⊢; exact h)]
    · have : (x != 0) = true := by simp [hx]
      rw [this] at h
      simp at h

theorem MakesC.le {ls : List Nat} (h : MakesC ls) : krTo ls 15 ≤ 32768 := by
  rcases h.full with e | e | e
  · omega
  · rw [kr_none ls e]; omega
  · omega

/-- A length's numbers fit into so many bits. -/
theorem MakesC.fits {ls : List Nat} (h : MakesC ls) (k : Nat) (hk : k ≤ 15) : firstC ls k + cn ls k ≤ 2 ^ k := by
  have h1 := first_kr ls k hk
  have h2 := krTo_mono ls k (15 - k)
  rw [show k + (15 - k) = 15 by omega] at h2
  have h3 := h.le
  have h4 : 2 ^ k * 2 ^ (15 - k) = 32768 := by rw [← Nat.pow_add, show k + (15 - k) = 15 by omega]
  have hp : 0 < 2 ^ (15 - k) := Nat.two_pow_pos _
  refine Nat.le_of_mul_le_mul_right (c := 2 ^ (15 - k)) ?_ hp
  omega

theorem first_le (ls : List Nat) (k : Nat) : ∀ d, 2 ^ (d + 1) * (firstC ls k + cn ls k) ≤ firstC ls (k + d + 1)
  | 0 => by show 2 ^ 1 * _ ≤ 2 * (firstC ls k + cn ls k); omega
  | d + 1 => by
    have ih := first_le ls k d
    show _ ≤ 2 * (firstC ls (k + d + 1) + cn ls (k + d + 1))
    rw [Nat.pow_succ, Nat.mul_comm (2 ^ (d + 1)) 2, Nat.mul_assoc]
    omega

theorem first_div (ls : List Nat) (k m : Nat) (h : k < m) : firstC ls k + cn ls k ≤ firstC ls m / 2 ^ (m - k) := by
  obtain ⟨d, rfl⟩ : ∃ d, m = k + d + 1 := ⟨m - k - 1, by omega⟩
  have h1 := first_le ls k d
  rw [show k + d + 1 - k = d + 1 by omega, Nat.le_div_iff_mul_le (Nat.two_pow_pos _), Nat.mul_comm]
  exact h1

/-! ### Ranks -/
theorem rk_succ (ls : List Nat) (k n : Nat) (h : n < ls.length) : rkK ls k (n + 1) = rkK ls k n + if ls.getD n 0 = k then 1 else 0 := by
  unfold rkK
  rw [List.take_add_one, List.getElem?_eq_getElem h, List.countP_append, List.getD_eq_getElem?_getD, List.getElem?_eq_getElem h]
  simp only [Option.toList_some, List.countP_singleton, Option.getD_some, beq_iff_eq]
theorem rk_all (ls : List Nat) (k : Nat) (h : k ≠ 0) : rkK ls k ls.length = cn ls k := by
  unfold rkK cn
  rw [if_neg h, List.take_of_length_le (Nat.le_refl _)]
theorem rk_le (ls : List Nat) (k : Nat) : ∀ (n d : Nat), n + d ≤ ls.length → rkK ls k n ≤ rkK ls k (n + d)
  | n, 0, _ => Nat.le_refl _
  | n, d + 1, h => by
    have h1 := rk_le ls k n d (by omega)
    rw [← Nat.add_assoc, rk_succ ls k (n + d) (by omega)]
    omega
theorem rk_lt (ls : List Nat) (i j : Nat) (h : i < j) (hj : j ≤ ls.length) (k : Nat) (hk : ls.getD i 0 = k) : rkK ls k i < rkK ls k j := by
  have h1 := rk_succ ls k i (by omega)
  have h2 := rk_le ls k (i + 1) (j - (i + 1)) (by omega)
  rw [show i + 1 + (j - (i + 1)) = j by omega] at h2
  rw [if_pos hk] at h1
  omega
theorem rk_cn (ls : List Nat) (i : Nat) (h : i < ls.length) (hk : ls.getD i 0 ≠ 0) : rkK ls (ls.getD i 0) i < cn ls (ls.getD i 0) := by
  rw [← rk_all ls _ hk]
  exact rk_lt ls i ls.length h (Nat.le_refl _) _ rfl

theorem symK_succ (ls : List Nat) (k n : Nat) : symK ls k (n + 1) = symK ls k n ++ if ls.getD n 0 = k then [n] else [] := by
  unfold symK
  rw [List.range_succ, List.filter_append]
  by_cases h : ls.getD n 0 = k
  · have hb : (ls.getD n 0 == k) = true := beq_iff_eq.2 h
    rw [if_pos h, List.filter_cons, hb]
    rfl
  · have hb : (ls.getD n 0 == k) = false := beq_eq_false_iff_ne.2 h
    rw [if_neg h, List.filter_cons, hb]
    rfl
theorem symK_length (ls : List Nat) (k : Nat) : ∀ n, n ≤ ls.length → (symK ls k n).length = rkK ls k n
  | 0, _ => by simp [symK, rkK]
  | n + 1, h => by
    rw [symK_succ, List.length_append, symK_length ls k n (by omega), rk_succ ls k n (by omega)]
    split <;> rfl
theorem symK_get (ls : List Nat) (k : Nat) : ∀ n, n ≤ ls.length → ∀ i, i < n → ls.getD i 0 = k → (symK ls k n)[rkK ls k i]? = some i
  | 0, _, i, hi, _ => by omega
  | n + 1, h, i, hi, hk => by
    rw [symK_succ]
    by_cases e : i = n
    · subst e
      rw [if_pos hk, List.getElem?_append_right (by rw [symK_length ls k i (by omega)]; exact Nat.le_refl _), symK_length ls k i (by omega), Nat.sub_self]
      rfl
    · have h1 := symK_get ls k n (by omega) i (by omega) hk
      rw [List.getElem?_append_left (List.getElem?_eq_some_iff.1 h1).1]
      exact h1
theorem symK_mem (ls : List Nat) (k n i : Nat) : i ∈ symK ls k n ↔ i < n ∧ ls.getD i 0 = k := by
  unfold symK
  rw [List.mem_filter, List.mem_range]
  simp

theorem symTo_length (ls : List Nat) : ∀ k, (symTo ls k).length = atC ls k
  | 0 => rfl
  | k + 1 => by
    show (symTo ls k ++ _).length = atC ls k + cn ls k
    rw [List.length_append, symTo_length ls k]
    by_cases h : k = 0
    · subst h; rfl
    · rw [if_neg h, symK_length ls k _ (Nat.le_refl _), rk_all ls k h]
theorem symTo_pre (ls : List Nat) (k : Nat) : ∀ d, ∃ e, symTo ls (k + d) = symTo ls k ++ e
  | 0 => ⟨[], by simp⟩
  | d + 1 => by
    obtain ⟨e, he⟩ := symTo_pre ls k d
    exact ⟨e ++ (if k + d = 0 then [] else symK ls (k + d) ls.length), by rw [← Nat.add_assoc]; show symTo ls (k + d) ++ _ = _; rw [he, List.append_assoc]⟩
/-- Where a length's symbols stand among all. -/
theorem symTo_at (ls : List Nat) (k q : Nat) (hk : 1 ≤ k) (h16 : k < 16) (hq : q < cn ls k) : (symTo ls 16)[atC ls k + q]? = (symK ls k ls.length)[q]? := by
  obtain ⟨e, he⟩ := symTo_pre ls (k + 1) (16 - (k + 1))
  rw [show k + 1 + (16 - (k + 1)) = 16 by omega] at he
  have hl : (symK ls k ls.length).length = cn ls k := by rw [symK_length ls k _ (Nat.le_refl _), rk_all ls k (by omega)]
  have h1 : symTo ls (k + 1) = symTo ls k ++ symK ls k ls.length := by show symTo ls k ++ _ = _; rw [if_neg (by omega)]
  rw [he, h1, List.append_assoc, List.getElem?_append_right (by rw [symTo_length]; omega), symTo_length, Nat.add_sub_cancel_left, List.getElem?_append_left (by omega)]
theorem atC_mono (ls : List Nat) (k : Nat) : ∀ d, atC ls k ≤ atC ls (k + d)
  | 0 => Nat.le_refl _
  | d + 1 => Nat.le_trans (atC_mono ls k d) (by show _ ≤ atC ls (k + d) + _; omega)

/-! ### What bits are read as -/
/-- The number of the first k bits, the highest first. -/
def numH (b : Nat → Nat) : Nat → Nat
  | 0 => 0
  | k + 1 => 2 * numH b k + b k

theorem numH_lt (b : Nat → Nat) (hb : ∀ j, b j ≤ 1) : ∀ k, numH b k < 2 ^ k
  | 0 => by show 0 < 1; omega
  | k + 1 => by
    have h1 := numH_lt b hb k
    have h2 := hb k
    show 2 * numH b k + b k < 2 ^ (k + 1)
    rw [Nat.pow_succ]
    omega

/-- None of the lengths below k has the bits' number. -/
def Past (ls : List Nat) (b : Nat → Nat) (k : Nat) : Prop := ∀ j, 1 ≤ j → j < k → firstC ls j + cn ls j ≤ numH b j

theorem Past.first {ls : List Nat} {b : Nat → Nat} {k : Nat} (h : Past ls b k) (hk : 1 ≤ k) : firstC ls k ≤ numH b k := by
  obtain ⟨m, rfl⟩ : ∃ m, k = m + 1 := ⟨k - 1, by omega⟩
  show 2 * (firstC ls m + cn ls m) ≤ 2 * numH b m + b m
  by_cases e : m = 0
  · subst e
    show 2 * (0 + 0) ≤ _
    omega
  · have := h m (by omega) (by omega)
    omega
theorem Past.next {ls : List Nat} {b : Nat → Nat} {k : Nat} (h : Past ls b k) (hn : firstC ls k + cn ls k ≤ numH b k) : Past ls b (k + 1) := by
  intro j h1 h2
  by_cases e : j = k
  · rw [e]; exact hn
  · exact h j h1 (by omega)

/-- The bits are a symbol's number of length k. -/
structure Stops (ls : List Nat) (b : Nat → Nat) (k : Nat) : Prop where
  lo : 1 ≤ k
  hi : k ≤ 15
  past : Past ls b k
  lt : numH b k < firstC ls k + cn ls k

theorem Stops.uniq {ls : List Nat} {b : Nat → Nat} {k m : Nat} (h : Stops ls b k) (h2 : Stops ls b m) : k = m := by
  refine Classical.byContradiction fun hne => ?_
  by_cases e : k < m
  · have := h2.past k h.lo e
    have := h.lt
    omega
  · have := h.past m h2.lo (by omega)
    have := h2.lt
    omega

/-- The symbol. -/
def symAt (ls : List Nat) (b : Nat → Nat) (k : Nat) : Nat := (symTo ls 16).getD (atC ls k + (numH b k - firstC ls k)) 0

/-- What is read of av bits: a symbol, or none. -/
def ReadRes (ls : List Nat) (b : Nat → Nat) (av : Nat) (x : Int) (used : Nat) (bad : Bool) : Prop :=
  (∃ k, Stops ls b k ∧ k ≤ av ∧ x = (symAt ls b k : Int) ∧ used = k ∧ bad = false) ∨
  (Past ls b (min av 15 + 1) ∧ x = -1 ∧ used = min av 15 ∧ bad = decide (av < 15))

theorem ReadRes.uniq {ls : List Nat} {b : Nat → Nat} {av : Nat} {x y : Int} {u v : Nat} {p q : Bool} (h : ReadRes ls b av x u p) (h2 : ReadRes ls b av y v q) : x = y ∧ u = v ∧ p = q := by
  rcases h with ⟨k, h3, h4, h5, h6, h7⟩ | ⟨h3, h5, h6, h7⟩
  · rcases h2 with ⟨m, g3, g4, g5, g6, g7⟩ | ⟨g3, _⟩
    · have e := h3.uniq g3
      subst e
      exact ⟨h5.trans g5.symm, h6.trans g6.symm, h7.trans g7.symm⟩
    · have := g3 k h3.lo (by have := h3.hi; omega)
      have := h3.lt
      omega
  · rcases h2 with ⟨m, g3, g4, g5, g6, g7⟩ | ⟨g3, g5, g6, g7⟩
    · have := h3 m g3.lo (by have := g3.hi; omega)
      have := g3.lt
      omega
    · exact ⟨h5.trans g5.symm, h6.trans g6.symm, h7.trans g7.symm⟩

/-- A symbol that was read has just so many bits. -/
theorem Stops.sym {ls : List Nat} {b : Nat → Nat} {k : Nat} (h : Stops ls b k) : symAt ls b k < ls.length ∧ ls.getD (symAt ls b k) 0 = k := by
  have h1 := h.past.first h.lo
  have h2 := h.lt
  have hq : numH b k - firstC ls k < cn ls k := by omega
  have hl : (symK ls k ls.length).length = cn ls k := by rw [symK_length ls k _ (Nat.le_refl _), rk_all ls k (by have := h.lo; omega)]
  have h3 := symTo_at ls k _ h.lo (by have := h.hi; omega) hq
  have h4 : symAt ls b k ∈ symK ls k ls.length := by
    unfold symAt
    rw [List.getD_eq_getElem?_getD, h3, List.getElem?_eq_getElem (by omega)]
    exact List.getElem_mem _
  exact (symK_mem ls k _ _).1 h4
theorem Stops.idx {ls : List Nat} {b : Nat → Nat} {k : Nat} (h : Stops ls b k) : atC ls k + (numH b k - firstC ls k) < (symTo ls 16).length := by
  have h1 := h.past.first h.lo
  have h2 := h.lt
  have h3 := atC_mono ls (k + 1) (16 - (k + 1))
  rw [show k + 1 + (16 - (k + 1)) = 16 by have := h.hi; omega] at h3
  rw [symTo_length]
  have h4 : atC ls (k + 1) = atC ls k + cn ls k := rfl
  omega

/-- Of a full code any 15 bits are read. -/
theorem full_stops (ls : List Nat) (h : krTo ls 15 = 32768) (b : Nat → Nat) (hb : ∀ j, b j ≤ 1) : ∃ k, Stops ls b k := by
  have hlast : numH b 15 < firstC ls 15 + cn ls 15 := by
    have h1 := first_kr ls 15 (by omega)
    rw [h, show 15 - 15 = 0 from rfl, Nat.pow_zero, Nat.mul_one] at h1
    have h2 := numH_lt b hb 15
    omega
  have key : ∀ d, d ≤ 14 → (∃ k, Stops ls b k) ∨ Past ls b (d + 1) := by
    intro d
    induction d with
    | zero => intro _; exact .inr fun j h1 h2 => by omega
    | succ d ih =>
      intro hd
      rcases ih (by omega) with h1 | h1
      · exact .inl h1
      · by_cases h2 : numH b (d + 1) < firstC ls (d + 1) + cn ls (d + 1)
        · exact .inl ⟨d + 1, by omega, by omega, h1, h2⟩
        · exact .inr (h1.next (by omega))
  rcases key 14 (by omega) with h1 | h1
  · exact h1
  · exact ⟨15, by omega, by omega, h1, hlast⟩

/-! ### A symbol's number is read as that symbol -/
theorem code_lt {ls : List Nat} (h : MakesC ls) (i : Nat) (hi : i < ls.length) (hx : ls.getD i 0 ≠ 0) : codeN ls i < firstC ls (ls.getD i 0) + cn ls (ls.getD i 0) ∧ codeN ls i < 2 ^ ls.getD i 0 ∧ firstC ls (ls.getD i 0) ≤ codeN ls i := by
  have h1 := rk_cn ls i hi hx
  have hle : ls.getD i 0 ≤ 15 := by
    refine h.each _ ?_
    rw [List.getD_eq_getElem?_getD, List.getElem?_eq_getElem hi]
    exact List.getElem_mem _
  have h2 := h.fits _ hle
  unfold codeN
  rw [if_neg hx]
  omega

theorem code_stops {ls : List Nat} (h : MakesC ls) (i : Nat) (hi : i < ls.length) (hx : ls.getD i 0 ≠ 0) (b : Nat → Nat) (hb : ∀ k, k ≤ ls.getD i 0 → numH b k = codeN ls i / 2 ^ (ls.getD i 0 - k)) : Stops ls b (ls.getD i 0) ∧ symAt ls b (ls.getD i 0) = i := by
  obtain ⟨h1, h2, h3⟩ := code_lt h i hi hx
  have hle : ls.getD i 0 ≤ 15 := by
    refine h.each _ ?_
    rw [List.getD_eq_getElem?_getD, List.getElem?_eq_getElem hi]
    exact List.getElem_mem _
  have hn : numH b (ls.getD i 0) = codeN ls i := by rw [hb _ (Nat.le_refl _), Nat.sub_self]; simp
  have hs : Stops ls b (ls.getD i 0) := by
    refine ⟨by omega, hle, fun j hj1 hj2 => ?_, by rw [hn]; exact h1⟩
    rw [hb j (by omega)]
    refine Nat.le_trans (first_div ls j _ hj2) (Nat.div_le_div_right h3)
  refine ⟨hs, ?_⟩
  unfold symAt
  rw [hn]
  have hr : codeN ls i - firstC ls (ls.getD i 0) = rkK ls (ls.getD i 0) i := by unfold codeN; rw [if_neg hx]; omega
  rw [hr, List.getD_eq_getElem?_getD, symTo_at ls _ _ (by omega) (by omega) (rk_cn ls i hi hx), symK_get ls _ _ (Nat.le_refl _) i hi rfl]
  rfl

/-- Of two symbols, the shorter one first. -/
theorem code_pre {ls : List Nat} (h : MakesC ls) (i k : Nat) (hi : i < ls.length) (hk : k < ls.length) (hx : ls.getD i 0 ≠ 0) (hy : ls.getD k 0 ≠ 0) (hne : i ≠ k) (hle : ls.getD i 0 ≤ ls.getD k 0) :
    codeN ls k / 2 ^ (ls.getD k 0 - ls.getD i 0) ≠ codeN ls i ∧ (codeN ls i ≤ codeN ls k / 2 ^ (ls.getD k 0 - ls.getD i 0) ↔ (ls.getD i 0 < ls.getD k 0 ∨ i < k)) := by
  obtain ⟨a1, a2, a3⟩ := code_lt h i hi hx
  obtain ⟨b1, b2, b3⟩ := code_lt h k hk hy
  by_cases e : ls.getD i 0 < ls.getD k 0
  · have h1 := first_div ls _ _ e
    have h2 := Nat.div_le_div_right (c := 2 ^ (ls.getD k 0 - ls.getD i 0)) b3
    refine ⟨by omega, ?_⟩
    constructor
    · intro _; exact .inl e
    · intro _; omega
  · have e2 : ls.getD k 0 = ls.getD i 0 := by omega
    rw [e2, Nat.sub_self, Nat.pow_zero, Nat.div_one]
    have c1 : codeN ls i = firstC ls (ls.getD i 0) + rkK ls (ls.getD i 0) i := by unfold codeN; rw [if_neg hx]
    have c2 : codeN ls k = firstC ls (ls.getD i 0) + rkK ls (ls.getD i 0) k := by unfold codeN; rw [if_neg hy, e2]
    rw [c1, c2]
    by_cases hik : i < k
    · have := rk_lt ls i k hik (by omega) _ rfl
      refine ⟨by omega, ?_⟩
      constructor
      · intro _; exact .inr hik
      · intro _; omega
    · have := rk_lt ls k i (by omega) (by omega) _ e2
      refine ⟨by omega, ?_⟩
      constructor
      · intro _; omega
      · intro h2; rcases h2 with h2 | h2 <;> omega

theorem count_step (ls : List Nat) (k : Nat) : ls.countP (fun x => x != 0 && decide (x < k + 1)) = ls.countP (fun x => x != 0 && decide (x < k)) + cn ls k := by
  unfold cn
  by_cases hk : k = 0
  · subst hk
    rw [if_pos rfl, Nat.add_zero]
    refine List.countP_congr fun x _ => ?_
    simp
  · rw [if_neg hk]
    induction ls with
    | nil => rfl
    | cons x ls ih =>
      rw [List.countP_cons, List.countP_cons, List.countP_cons, ih]
      by_cases h0 : x = 0
      · subst h0
        have hb : (0 == k) = false := by simp; omega
        simp [hb]
      · by_cases h1 : x = k
        · subst h1
          simp [h0]
          omega
        · have hb : (x == k) = false := by simp [h1]
          have e : (decide (x < k + 1)) = decide (x < k) := by simp; omega
          rw [hb, e]
          simp
          omega

end Go.Proofs.YtaalbaiglkadlaaGreat

/- Contract of the document's 'Check' of layer 5: whether lengths make a code. -/
namespace Go.Proofs.YtaalbaiglkadlaaGreat
open Go.RowKit Go.Lib

/-- Lengths, any numbers: they make a code. -/
def goodB (l : List Int) : Bool := l.all (fun x => decide (0 ≤ x) && decide (x ≤ 15)) && (decide (krTo (l.map Int.toNat) 15 = 32768) || decide (numL (l.map Int.toNat) = 0) || (decide (numL (l.map Int.toNat) = 1) && decide (krTo (l.map Int.toNat) 15 = 16384)))
/-- The error's number. -/
def chkI (l : List Int) : Int := if goodB l = true then 0 else 4

theorem goodB_iff (l : List Int) : goodB l = true ↔ (∀ x ∈ l, 0 ≤ x ∧ x ≤ 15) ∧ MakesC (l.map Int.toNat) := by
  unfold goodB
  simp only [Bool.and_eq_true, Bool.or_eq_true, decide_eq_true_eq, List.all_eq_true]
  constructor
  · rintro ⟨h1, h2⟩
    refine ⟨h1, fun x hx => ?_, ?_⟩
    · obtain ⟨y, hy, rfl⟩ := List.mem_map.1 hx
      have := h1 y hy
      omega
    · rcases h2 with (h2 | h2) | h2
      · exact .inl h2
      · exact .inr (.inl h2)
      · exact .inr (.inr h2)
  · rintro ⟨h1, h2⟩
    refine ⟨h1, ?_⟩
    rcases h2.full with h3 | h3 | h3
    · exact .inl (.inl h3)
    · exact .inl (.inr h3)
    · exact .inr h3
theorem chkI_good {l : List Int} (h : goodB l = true) : chkI l = 0 := by unfold chkI; rw [if_pos h]
theorem chkI_bad {l : List Int} (h : ¬ goodB l = true) : chkI l = 4 := by unfold chkI; rw [if_neg h]

/-- The first j, as numbers from 0 on. -/
def preN (l : List Int) (j : Nat) : List Nat := (l.take j).map Int.toNat
theorem preN_succ (l : List Int) (j : Nat) (x : Int) (h : l[j]? = some x) : preN l (j + 1) = preN l j ++ [x.toNat] := by
  unfold preN
  rw [List.take_add_one, h, List.map_append]
  rfl
theorem preN_all (l : List Int) : preN l l.length = l.map Int.toNat := by unfold preN; rw [List.take_of_length_le (Nat.le_refl _)]
theorem kr_snoc (a : List Nat) (x : Nat) (hx : x ≤ 15) : krTo (a ++ [x]) 15 = krTo a 15 + if x = 0 then 0 else 2 ^ (15 - x) := by
  unfold krTo
  rw [List.map_append, List.sum_append]
  simp only [List.map_cons, List.map_nil, List.sum_cons, List.sum_nil, Nat.add_zero]
  rw [if_pos hx]
theorem num_snoc (a : List Nat) (x : Nat) : numL (a ++ [x]) = numL a + if x = 0 then 0 else 1 := by
  unfold numL
  rw [List.countP_append, List.countP_singleton]
  by_cases h : x = 0
  · simp [h]
  · simp [h]
theorem kr_append (a b : List Nat) : krTo (a ++ b) 15 = krTo a 15 + krTo b 15 := by
  unfold krTo
  rw [List.map_append, List.sum_append]
theorem kr_pre (l : List Int) (j : Nat) : krTo (preN l j) 15 ≤ krTo (l.map Int.toNat) 15 := by
  have e : l.map Int.toNat = preN l j ++ (l.drop j).map Int.toNat := by unfold preN; rw [← List.map_append, List.take_append_drop]
  rw [e, kr_append]
  omega
theorem num_le (a : List Nat) : numL a ≤ a.length := List.countP_le_length

theorem pow15 (y : Nat) (h : y ≤ 15) : ∃ p : Nat, (2 : Int) ^ y = (p : Int) ∧ p = 2 ^ y ∧ 1 ≤ p ∧ p ≤ 32768 := by
  refine ⟨2 ^ y, ?_, rfl, Nat.two_pow_pos _, ?_⟩
  · rw [Int.natCast_pow]; rfl
  · have : (2 : Nat) ^ y ≤ 2 ^ 15 := Nat.pow_le_pow_right (by decide) h
    omega

end Go.Proofs.YtaalbaiglkadlaaGreat

/- Contract of the document's 'Codes' of layer 5: each symbol's number. -/
namespace Go.Proofs.YtaalbaiglkadlaaGreat
open Go.RowKit Go.Lib

def codesL (ls : List Nat) : List Nat := (List.range ls.length).map (codeN ls)
/-- The numbers of those of a length below k, and of the first j of that length. -/
def outCd (ls : List Nat) (k j : Nat) : List Nat := (List.range ls.length).map fun i => if ls.getD i 0 < k ∨ (ls.getD i 0 = k ∧ i < j) then codeN ls i else 0

theorem codesL_length (ls : List Nat) : (codesL ls).length = ls.length := by simp [codesL]
theorem outCd_length (ls : List Nat) (k j : Nat) : (outCd ls k j).length = ls.length := by simp [outCd]
theorem outCd_get (ls : List Nat) (k j i : Nat) (h : i < ls.length) : (outCd ls k j)[i]? = some (if ls.getD i 0 < k ∨ (ls.getD i 0 = k ∧ i < j) then codeN ls i else 0) := by
  unfold outCd
  rw [List.getElem?_map, List.getElem?_range h]
  rfl
theorem outCd_begin (ls : List Nat) : outCd ls 1 0 = List.replicate ls.length 0 := by
  apply List.eq_replicate_iff.2
  refine ⟨outCd_length ls 1 0, fun b hb => ?_⟩
  obtain ⟨i, _, rfl⟩ := List.mem_map.1 hb
  by_cases h : ls.getD i 0 < 1 ∨ (ls.getD i 0 = 1 ∧ i < 0)
  · rw [if_pos h]
    unfold codeN
    rw [if_pos (by omega)]
  · rw [if_neg h]
theorem outCd_next (ls : List Nat) (k : Nat) : outCd ls k ls.length = outCd ls (k + 1) 0 := by
  unfold outCd
  refine List.map_congr_left fun i hi => ?_
  have hi := List.mem_range.1 hi
  by_cases h : ls.getD i 0 < k ∨ (ls.getD i 0 = k ∧ i < ls.length)
  · rw [if_pos h, if_pos (by omega)]
  · rw [if_neg h, if_neg (by omega)]
theorem outCd_end (ls : List Nat) (h : ∀ x ∈ ls, x ≤ 15) : outCd ls 16 0 = codesL ls := by
  unfold outCd codesL
  refine List.map_congr_left fun i hi => ?_
  have hi := List.mem_range.1 hi
  have : ls.getD i 0 ≤ 15 := by
    refine h _ ?_
    rw [List.getD_eq_getElem?_getD, List.getElem?_eq_getElem hi]
    exact List.getElem_mem _
  rw [if_pos (by omega)]
theorem outCd_skip (ls : List Nat) (k j : Nat) (h : ls.getD j 0 ≠ k) : outCd ls k (j + 1) = outCd ls k j := by
  unfold outCd
  refine List.map_congr_left fun i hi => ?_
  by_cases e : i = j
  · subst e
    by_cases h2 : ls.getD i 0 < k
    · rw [if_pos (.inl h2), if_pos (.inl h2)]
    · rw [if_neg (by omega), if_neg (by omega)]
  · by_cases h2 : ls.getD i 0 < k ∨ (ls.getD i 0 = k ∧ i < j)
    · rw [if_pos (by omega), if_pos h2]
    · rw [if_neg (by omega), if_neg h2]
theorem outCd_set (ls : List Nat) (k j : Nat) (hj : j < ls.length) (h : ls.getD j 0 = k) : (outCd ls k j).set j (codeN ls j) = outCd ls k (j + 1) := by
  apply List.ext_getElem?
  intro i
  by_cases hi : i < ls.length
  · rw [List.getElem?_set, outCd_get ls k (j + 1) i hi]
    by_cases e : j = i
    · subst e
      rw [if_pos rfl, if_pos (by rw [outCd_length]; exact hj), if_pos (by omega)]
    · rw [if_neg e, outCd_get ls k j i hi]
      by_cases h2 : ls.getD i 0 < k ∨ (ls.getD i 0 = k ∧ i < j)
      · rw [if_pos h2, if_pos (by omega)]
      · rw [if_neg h2, if_neg (by omega)]
  · rw [List.getElem?_eq_none (by rw [List.length_set, outCd_length]; omega), List.getElem?_eq_none (by rw [outCd_length]; omega)]

/-- The answer of Codes: the error, or the numbers. -/
def CodesRes (W : World) (l : List Int) (r : Value) (w' : World) : Prop :=
  (goodB l = false ∧ r = .tuple #[.slice none 0 0, .int .i64 4]) ∨
  (goodB l = true ∧ ∃ v, r = .tuple #[v, .int .i64 0] ∧ w'.ownsRow W.heap.size 3 1 v l.length (natCs (codesL (l.map Int.toNat))))

/-- Numbers from 0 on, as they came in. -/
theorem ArgZ.nat15 {w : World} {a : Option Addr} {l : List Int} (h : ArgZ w a l) (he : ∀ x ∈ l, 0 ≤ x ∧ x ≤ 15) : ArgN w a (l.map Int.toNat) := by
  intro i x hx
  rw [List.getElem?_map] at hx
  cases hl : l[i]? with
  | none => rw [hl] at hx; cases hx
  | some z =>
    rw [hl] at hx
    injection hx with hx
    obtain ⟨b, off, h1, h2, h3⟩ := h i z hl
    refine ⟨b, off, h1, h2, ?_⟩
    rw [h3, ← hx]
    have := he z (mem_of_get hl)
    rw [Int.toNat_of_nonneg this.1]

/-- The numbers stay small. -/
theorem MakesC.small {ls : List Nat} (h : MakesC ls) (k : Nat) (hk : k ≤ 15) : firstC ls k + cn ls k ≤ 32768 := by
  have h1 := h.fits k hk
  have h2 : (2 : Nat) ^ k ≤ 2 ^ 15 := Nat.pow_le_pow_right (by decide) hk
  omega
theorem rk_le_cn (ls : List Nat) (k j : Nat) (hk : k ≠ 0) (hj : j ≤ ls.length) : rkK ls k j ≤ cn ls k := by
  rw [← rk_all ls k hk]
  have h := rk_le ls k j (ls.length - j) (by omega)
  rw [show j + (ls.length - j) = ls.length by omega] at h
  exact h

end Go.Proofs.YtaalbaiglkadlaaGreat
