import Derived.Test.YtaalbaiglkadlaaGreatKR
import Derived.Laws.Tables
/- Counts of lengths, plainly: how many there are, what is left free, the symbols row under way. Nothing of the program is named here. -/
namespace Go.Proofs.YtaalbaiglkadlaaGreat
open Go.RowKit Go.Lib

/-- The first k counts, added up. -/
def sumTo (f : Nat → Nat) : Nat → Nat
  | 0 => 0
  | k + 1 => sumTo f k + f k
/-- How many numbers of k bits are free, below 0 if too many are taken. -/
def freeZ (f : Nat → Nat) : Nat → Int
  | 0 => 1
  | k + 1 => 2 * freeZ f k - (f (k + 1) : Int)

theorem sumTo_le (f : Nat → Nat) (m : Nat) (h : ∀ k, f k ≤ m) : ∀ k, sumTo f k ≤ m * k
  | 0 => by show 0 ≤ _; omega
  | k + 1 => by
    have h1 := sumTo_le f m h k
    have h2 := h k
    show sumTo f k + f k ≤ m * (k + 1)
    rw [Nat.mul_succ]
    omega
theorem free_bounds (f : Nat → Nat) (h : ∀ k, f k ≤ 1000) : ∀ k, 1000 - 1000 * ((2 ^ k : Nat) : Int) ≤ freeZ f k ∧ freeZ f k ≤ ((2 ^ k : Nat) : Int)
  | 0 => by show 1000 - 1000 * ((1 : Nat) : Int) ≤ 1 ∧ (1 : Int) ≤ ((1 : Nat) : Int); omega
  | k + 1 => by
    have h1 := free_bounds f h k
    have h2 := h (k + 1)
    show 1000 - 1000 * ((2 ^ (k + 1) : Nat) : Int) ≤ 2 * freeZ f k - (f (k + 1) : Int) ∧ 2 * freeZ f k - (f (k + 1) : Int) ≤ ((2 ^ (k + 1) : Nat) : Int)
    rw [Nat.pow_succ]
    omega
theorem free_small (f : Nat → Nat) (h : ∀ k, f k ≤ 1000) (k : Nat) (hk : k ≤ 15) : -33000000 ≤ freeZ f k ∧ freeZ f k ≤ 40000 := by
  have h1 := free_bounds f h k
  have h2 : (2 : Nat) ^ k ≤ 2 ^ 15 := Nat.pow_le_pow_right (by decide) hk
  generalize (2 : Nat) ^ k = P at *
  omega

theorem sumTo_at (ls : List Nat) : ∀ k, sumTo (cn ls) k = atC ls k
  | 0 => rfl
  | k + 1 => by show sumTo (cn ls) k + cn ls k = atC ls k + cn ls k; rw [sumTo_at ls k]
theorem atC_count (ls : List Nat) : ∀ k, atC ls k = ls.countP (fun x => x != 0 && decide (x < k))
  | 0 => by
    show 0 = _
    symm
    rw [List.countP_eq_zero]
    intro x _
    simp
  | k + 1 => by rw [count_step, ← atC_count ls k]; rfl
theorem at_num (ls : List Nat) (h : ∀ x ∈ ls, x ≤ 15) : atC ls 16 = numL ls := by
  rw [atC_count]
  unfold numL
  refine List.countP_congr fun x hx => ?_
  have := h x hx
  have hd : decide (x < 16) = true := by simp; omega
  rw [hd, Bool.and_true]
theorem free_first (ls : List Nat) : ∀ k, freeZ (cn ls) k = ((2 ^ k : Nat) : Int) - ((firstC ls k + cn ls k : Nat) : Int)
  | 0 => by show (1 : Int) = ((1 : Nat) : Int) - ((0 + 0 : Nat) : Int); omega
  | k + 1 => by
    show 2 * freeZ (cn ls) k - (cn ls (k + 1) : Int) = ((2 ^ (k + 1) : Nat) : Int) - ((2 * (firstC ls k + cn ls k) + cn ls (k + 1) : Nat) : Int)
    rw [free_first ls k, Nat.pow_succ]
    omega
theorem free_kr (ls : List Nat) : freeZ (cn ls) 15 = 32768 - (krTo ls 15 : Int) := by
  have h1 := first_kr ls 15 (by omega)
  rw [free_first, ← h1, show 15 - 15 = 0 from rfl, Nat.pow_zero, Nat.mul_one]
  rfl

/-- One alone: what it fills. -/
theorem one_kr (ls : List Nat) (h15 : ∀ x ∈ ls, x ≤ 15) (h : numL ls = 1) : krTo ls 15 ≤ 16384 ∧ (cn ls 1 = 1 ↔ krTo ls 15 = 16384) := by
  induction ls with
  | nil => cases h
  | cons x ls ih =>
    have hx := h15 x List.mem_cons_self
    have hls := fun y hy => h15 y (List.mem_cons_of_mem x hy)
    unfold numL at h
    rw [List.countP_cons] at h
    have ek : krTo (x :: ls) 15 = (if x = 0 then 0 else 2 ^ (15 - x)) + krTo ls 15 := by
      unfold krTo
      rw [List.map_cons, List.sum_cons, if_pos hx]
    have ec : cn (x :: ls) 1 = cn ls 1 + if x = 1 then 1 else 0 := by
      unfold cn
      rw [if_neg (by omega), if_neg (by omega), List.countP_cons]
      simp only [beq_iff_eq]
    rw [ek, ec]
    by_cases h0 : x = 0
    · subst h0
      have h2 : numL ls = 1 := by unfold numL; simpa using h
      have := ih hls h2
      simpa using this
    · have hb : (x != 0) = true := by simp [h0]
      rw [hb] at h
      have h2 : numL ls = 0 := by unfold numL; simpa using h
      have hk := kr_none ls h2
      have hc : cn ls 1 = 0 := by
        unfold numL at h2
        unfold cn
        rw [if_neg (by omega), List.countP_eq_zero]
        rw [List.countP_eq_zero] at h2
        intro y hy he
        have := h2 y hy
        simp at this he
        omega
      rw [hk, hc, if_neg h0, Nat.add_zero, Nat.zero_add]
      by_cases h1 : x = 1
      · subst h1
        simp
      · rw [if_neg h1]
        have h3 : (2 : Nat) ^ (15 - x) ≤ 2 ^ 13 := Nat.pow_le_pow_right (by decide) (by omega)
        constructor
        · omega
        · constructor
          · intro h4; omega
          · intro h4; omega

/-- Counts make a code. -/
def codeB (f : Nat → Nat) : Bool := if sumTo f 16 = 0 then true else if sumTo f 16 = 1 then decide (f 1 = 1) else decide (freeZ f 15 = 0)

theorem codeB_good (l : List Int) (h : ∀ x ∈ l, 0 ≤ x ∧ x ≤ 15) : codeB (cn (l.map Int.toNat)) = goodB l := by
  have hls : ∀ x ∈ l.map Int.toNat, x ≤ 15 := by
    intro x hx
    obtain ⟨y, hy, rfl⟩ := List.mem_map.1 hx
    have := h y hy
    omega
  have hg := goodB_iff l
  have hs : sumTo (cn (l.map Int.toNat)) 16 = numL (l.map Int.toNat) := by rw [sumTo_at, at_num _ hls]
  have hf := free_kr (l.map Int.toNat)
  have key : codeB (cn (l.map Int.toNat)) = true ↔ goodB l = true := by
    rw [hg]
    unfold codeB
    rw [hs]
    generalize l.map Int.toNat = ls at *
    by_cases h0 : numL ls = 0
    · rw [if_pos h0]
      exact ⟨fun _ => ⟨h, hls, .inr (.inl h0)⟩, fun _ => rfl⟩
    · rw [if_neg h0]
      by_cases h1 : numL ls = 1
      · rw [if_pos h1]
        obtain ⟨h2, h3⟩ := one_kr ls hls h1
        rw [decide_eq_true_eq, h3]
        constructor
        · intro h4; exact ⟨h, hls, .inr (.inr ⟨h1, h4⟩)⟩
        · rintro ⟨_, h4⟩
          rcases h4.full with h5 | h5 | h5
          · omega
          · omega
          · exact h5.2
      · rw [if_neg h1, decide_eq_true_eq, hf]
        constructor
        · intro h4; exact ⟨h, hls, .inl (by omega)⟩
        · rintro ⟨_, h4⟩
          rcases h4.full with h5 | h5 | h5
          · omega
          · omega
          · omega
  cases h1 : codeB (cn (l.map Int.toNat)) with
  | true => rw [key.1 h1]
  | false =>
    cases h2 : goodB l with
    | false => rfl
    | true => rw [key.2 h2] at h1; cases h1

theorem cn_snoc (a : List Nat) (x k : Nat) : cn (a ++ [x]) k = if k = x ∧ x ≠ 0 then cn a x + 1 else cn a k := by
  by_cases hk : k = 0
  · subst hk
    rw [if_neg (by omega)]
    rfl
  · by_cases e : k = x
    · subst e
      rw [if_pos (And.intro rfl hk)]
      unfold cn
      rw [if_neg hk, if_neg hk, List.countP_append, List.countP_singleton]
      simp
    · rw [if_neg (fun h => e h.1)]
      unfold cn
      rw [if_neg hk, if_neg hk, List.countP_append, List.countP_singleton, if_neg (fun h => e (beq_iff_eq.1 h).symm)]
      rfl

/-! ### The symbols' row, filled symbol by symbol -/
theorem symTo_mem (ls : List Nat) : ∀ k s, s ∈ symTo ls k ↔ s < ls.length ∧ 1 ≤ ls.getD s 0 ∧ ls.getD s 0 < k
  | 0, s => by
    show s ∈ ([] : List Nat) ↔ _
    constructor
    · intro h; cases h
    · intro h; omega
  | k + 1, s => by
    show s ∈ symTo ls k ++ (if k = 0 then [] else symK ls k ls.length) ↔ _
    rw [List.mem_append, symTo_mem ls k s]
    by_cases hk : k = 0
    · rw [if_pos hk]
      constructor
      · rintro (h | h)
        · omega
        · cases h
      · intro h; omega
    · rw [if_neg hk, symK_mem]
      constructor
      · rintro (h | h) <;> omega
      · intro h
        by_cases e : ls.getD s 0 = k
        · exact .inr ⟨h.1, e⟩
        · exact .inl ⟨h.1, h.2.1, by omega⟩
theorem symTo_nodup (ls : List Nat) : ∀ k, (symTo ls k).Nodup
  | 0 => List.nodup_nil
  | k + 1 => by
    show (symTo ls k ++ (if k = 0 then [] else symK ls k ls.length)).Nodup
    refine List.nodup_append.2 ⟨symTo_nodup ls k, ?_, ?_⟩
    · split
      · exact List.nodup_nil
      · exact List.Pairwise.filter _ List.nodup_range
    · intro a ha b hb e
      subst e
      have h1 := (symTo_mem ls k a).1 ha
      by_cases hk : k = 0
      · rw [if_pos hk] at hb; cases hb
      · rw [if_neg hk] at hb
        have h2 := (symK_mem ls k _ _).1 hb
        omega

/-- The symbols below j are laid. -/
def symW (ls : List Nat) (j : Nat) : List Nat := (symTo ls 16).map fun s => if s < j then s else 0
theorem symW_length (ls : List Nat) (j : Nat) : (symW ls j).length = (symTo ls 16).length := by simp [symW]
theorem symW_begin (ls : List Nat) : symW ls 0 = List.replicate (symTo ls 16).length 0 := by
  apply List.eq_replicate_iff.2
  refine ⟨symW_length ls 0, fun b hb => ?_⟩
  obtain ⟨i, _, rfl⟩ := List.mem_map.1 hb
  rw [if_neg (by omega)]
theorem symW_end (ls : List Nat) : symW ls ls.length = symTo ls 16 := by
  unfold symW
  have : ∀ s ∈ symTo ls 16, (fun s => if s < ls.length then s else 0) s = id s := by
    intro s hs
    have := (symTo_mem ls 16 s).1 hs
    show (if s < ls.length then s else 0) = s
    rw [if_pos this.1]
  rw [List.map_congr_left this, List.map_id]
theorem symW_skip (ls : List Nat) (j : Nat) (h : ls.getD j 0 = 0) : symW ls (j + 1) = symW ls j := by
  unfold symW
  refine List.map_congr_left fun s hs => ?_
  have h1 := (symTo_mem ls 16 s).1 hs
  have : s ≠ j := fun e => by subst e; omega
  by_cases h2 : s < j
  · rw [if_pos h2, if_pos (by omega)]
  · rw [if_neg h2, if_neg (by omega)]
/-- Where a symbol stands. -/
theorem symTo_place (ls : List Nat) (j : Nat) (hj : j < ls.length) (h0 : ls.getD j 0 ≠ 0) (h15 : ls.getD j 0 ≤ 15) : (symTo ls 16)[atC ls (ls.getD j 0) + rkK ls (ls.getD j 0) j]? = some j := by
  rw [symTo_at ls _ _ (by omega) (by omega) (rk_cn ls j hj h0), symK_get ls _ _ (Nat.le_refl _) j hj rfl]
theorem symW_set (ls : List Nat) (j p : Nat) (hp : (symTo ls 16)[p]? = some j) : (symW ls j).set p j = symW ls (j + 1) := by
  have hpl := (List.getElem?_eq_some_iff.1 hp).1
  apply List.ext_getElem?
  intro i
  rw [List.getElem?_set]
  by_cases e : p = i
  · subst e
    rw [if_pos rfl, if_pos (by rw [symW_length]; exact hpl)]
    unfold symW
    rw [List.getElem?_map, hp]
    show _ = some (if j < j + 1 then j else 0)
    rw [if_pos (by omega)]
  · rw [if_neg e]
    unfold symW
    rw [List.getElem?_map, List.getElem?_map]
    cases hs : (symTo ls 16)[i]? with
    | none => rfl
    | some s =>
      have hne : s ≠ j := by
        intro e2
        subst e2
        obtain ⟨hi, g2⟩ := List.getElem?_eq_some_iff.1 hs
        obtain ⟨_, g1⟩ := List.getElem?_eq_some_iff.1 hp
        have h2 := (List.pairwise_iff_getElem.1 (symTo_nodup ls 16))
        by_cases hlt : p < i
        · exact h2 p i hpl hi hlt (g1.trans g2.symm)
        · exact h2 i p hi hpl (by omega) (g2.trans g1.symm)
      show some (if s < j then s else 0) = some (if s < j + 1 then s else 0)
      by_cases h2 : s < j
      · rw [if_pos h2, if_pos (by omega)]
      · rw [if_neg h2, if_neg (by omega)]
theorem symW_get (ls : List Nat) (j p : Nat) (hp : (symTo ls 16)[p]? = some j) : (symW ls j)[p]? = some 0 := by
  unfold symW
  rw [List.getElem?_map, hp]
  show some (if j < j then j else 0) = _
  rw [if_neg (by omega)]

end Go.Proofs.YtaalbaiglkadlaaGreat

/- Contracts of package canon's counts of lengths: total, full, code. -/
namespace Go.Proofs.YtaalbaiglkadlaaGreat
open Go.RowKit Go.Lib

/-- The cells of 16 counts. -/
def talCs (f : Nat → Nat) : List Value := [.int .i64 (f 0 : Nat), .int .i64 (f 1 : Nat), .int .i64 (f 2 : Nat), .int .i64 (f 3 : Nat), .int .i64 (f 4 : Nat), .int .i64 (f 5 : Nat), .int .i64 (f 6 : Nat), .int .i64 (f 7 : Nat), .int .i64 (f 8 : Nat), .int .i64 (f 9 : Nat), .int .i64 (f 10 : Nat), .int .i64 (f 11 : Nat), .int .i64 (f 12 : Nat), .int .i64 (f 13 : Nat), .int .i64 (f 14 : Nat), .int .i64 (f 15 : Nat)]
def talV (f : Nat → Nat) : Value := .agg (talCs f).toArray

theorem talCs_get (f : Nat → Nat) (i : Nat) (h : i < 16) : (talCs f)[i]? = some (.int .i64 (f i : Nat)) :=
  match i, h with
  | 0, _ => rfl
  | 1, _ => rfl
  | 2, _ => rfl
  | 3, _ => rfl
  | 4, _ => rfl
  | 5, _ => rfl
  | 6, _ => rfl
  | 7, _ => rfl
  | 8, _ => rfl
  | 9, _ => rfl
  | 10, _ => rfl
  | 11, _ => rfl
  | 12, _ => rfl
  | 13, _ => rfl
  | 14, _ => rfl
  | 15, _ => rfl
  | n + 16, h => absurd h (by omega)
theorem talCs_set (f : Nat → Nat) (i x : Nat) (h : i < 16) : (talCs f).set i (.int .i64 (x : Nat)) = talCs (fun j => if j = i then x else f j) :=
  match i, h with
  | 0, _ => rfl
  | 1, _ => rfl
  | 2, _ => rfl
  | 3, _ => rfl
  | 4, _ => rfl
  | 5, _ => rfl
  | 6, _ => rfl
  | 7, _ => rfl
  | 8, _ => rfl
  | 9, _ => rfl
  | 10, _ => rfl
  | 11, _ => rfl
  | 12, _ => rfl
  | 13, _ => rfl
  | 14, _ => rfl
  | 15, _ => rfl
  | n + 16, h => absurd h (by omega)
theorem talCs_congr (f g : Nat → Nat) (h : ∀ i, i < 16 → f i = g i) : talCs f = talCs g := by
  unfold talCs
  rw [h 0 (by omega), h 1 (by omega), h 2 (by omega), h 3 (by omega), h 4 (by omega), h 5 (by omega), h 6 (by omega), h 7 (by omega), h 8 (by omega), h 9 (by omega), h 10 (by omega), h 11 (by omega), h 12 (by omega), h 13 (by omega), h 14 (by omega), h 15 (by omega)]
theorem talCs_length (f : Nat → Nat) : (talCs f).length = 16 := rfl
theorem talCs_one (f : Nat → Nat) : ∀ u ∈ talCs f, u.oneCell' = true := by
  intro u hu
  unfold talCs at hu
  simp only [List.mem_cons, List.not_mem_nil, or_false] at hu
  rcases hu with rfl | rfl | rfl | rfl | rfl | rfl | rfl | rfl | rfl | rfl | rfl | rfl | rfl | rfl | rfl | rfl <;> rfl

theorem Tryz.sizeTal : (Tryz.prog.info? 99).map (·.size) = some 16 := by kernel_rfl
theorem Tryz.zeroTal (w : World) : (zeroValue 99).run Tryz.prog w = .ok (.agg (talCs (fun _ => 0)).toArray) w := by
  have h : (Tryz.prog.info? 99).map (·.zero) = some (some (.agg (talCs (fun _ => 0)).toArray)) := by kernel_rfl
  cases hq : Tryz.prog.info? 99 with
  | none => rw [hq] at h; cases h
  | some i =>
    rw [hq] at h
    have hz : i.zero = some (.agg (talCs (fun _ => 0)).toArray) := by simpa using h
    simp [zeroValue, typeInfo, hq, hz]
theorem Tryz.builtTal (w : World) : (Instr.build 99 #[]).run Tryz.prog w = .ok (.agg (talCs (fun _ => 0)).toArray) w :=
  run_build w _ _ _ (by kernel_rfl)

theorem tal_index (f : Nat → Nat) (i : Nat) (h : i < 16) (w : World) : (Instr.index 99 (.agg (talCs f).toArray) (.int .i64 (i : Nat))).run Tryz.prog w = .ok (.int .i64 (f i : Nat)) w :=
  match i, h with
  | 0, _ => by kernel_rfl
  | 1, _ => by kernel_rfl
  | 2, _ => by kernel_rfl
  | 3, _ => by kernel_rfl
  | 4, _ => by kernel_rfl
  | 5, _ => by kernel_rfl
  | 6, _ => by kernel_rfl
  | 7, _ => by kernel_rfl
  | 8, _ => by kernel_rfl
  | 9, _ => by kernel_rfl
  | 10, _ => by kernel_rfl
  | 11, _ => by kernel_rfl
  | 12, _ => by kernel_rfl
  | 13, _ => by kernel_rfl
  | 14, _ => by kernel_rfl
  | 15, _ => by kernel_rfl
  | n + 16, h => absurd h (by omega)

/-- Counts in a block of their own. -/
def TalAt (w : World) (P : Nat) (f : Nat → Nat) : Prop := w.heap[P]? = some (.cells (talCs f).toArray 99 (0, 0))

theorem TalAt.cell {w : World} {P : Nat} {f : Nat → Nat} (h : TalAt w P f) (i : Nat) (hi : i < 16) : w.cell? ⟨P, i, none⟩ = some (.int .i64 (f i : Nat)) := by
  rw [cell_of_row _ _ i _ _ (0, 0) h, List.getElem?_toArray]
  exact talCs_get f i hi
theorem TalAt.frozen {w : World} {P : Nat} {f : Nat → Nat} (h : TalAt w P f) (i : Nat) : w.frozen? ⟨P, i, none⟩ = false := by unfold TalAt at h; simp [World.frozen?, h]
theorem TalAt.set {w : World} {P : Nat} {f : Nat → Nat} (h : TalAt w P f) (i x : Nat) (hi : i < 16) : TalAt (w.setCell ⟨P, i, none⟩ (.int .i64 (x : Nat))) P (fun j => if j = i then x else f j) := by
  unfold TalAt at h ⊢
  rw [heap_setCell_same _ _ _ _ _ _ _ h, List.setIfInBounds_toArray, talCs_set f i x hi]
theorem TalAt.alloc {w : World} {P : Nat} {f : Nat → Nat} (h : TalAt w P f) (o : Obj) : TalAt (w.alloc o) P f := by
  unfold TalAt at h ⊢
  rw [heap_alloc_old _ _ _ (Array.getElem?_eq_some_iff.1 h).1]
  exact h
theorem TalAt.lt {w : World} {P : Nat} {f : Nat → Nat} (h : TalAt w P f) : P < w.heap.size := (Array.getElem?_eq_some_iff.1 h).1
theorem TalAt.below {w w' : World} {P B : Nat} {f : Nat → Nat} (h : TalAt w P f) (b : Below B w w') (hB : P < B) : TalAt w' P f := by
  unfold TalAt at h ⊢
  rw [b.block P hB]
  exact h
theorem TalAt.drewN {w : World} {P : Nat} {f : Nat → Nat} (h : TalAt w P f) (n : Nat) : TalAt (w.drewN n) P f := h
theorem TalAt.other {w : World} {P : Nat} {f : Nat → Nat} (h : TalAt w P f) (a : Addr) (ha : P ≠ a.block) (v : Value) : TalAt (w.setCell a v) P f := by
  unfold TalAt at h ⊢
  rw [Below.heap_setCell _ _ _ _ ha]
  exact h
theorem TalAt.congr {w : World} {P : Nat} {f g : Nat → Nat} (h : TalAt w P f) (e : ∀ i, i < 16 → f i = g i) : TalAt w P g := by
  unfold TalAt at h ⊢
  rw [← talCs_congr f g e]
  exact h
theorem TalAt.range {w : World} {P : Nat} {f : Nat → Nat} (h : TalAt w P f) : w.rangeAt P 0 (talCs f) := by
  intro j v hv
  rw [Nat.zero_add, cell_of_row _ _ j _ _ (0, 0) h, List.getElem?_toArray]
  exact hv
theorem TalAt.there {w : World} {P : Nat} {f : Nat → Nat} (h : TalAt w P f) : w.there P 0 16 := by
  intro j hj
  constructor
  · rw [Nat.zero_add, h.cell j hj]; rfl
  · exact h.frozen _
theorem tal_made (w : World) (f : Nat → Nat) : TalAt (w.alloc (.cells (talCs f).toArray 99)) w.heap.size f := heap_alloc_at _ _ rfl
theorem tal_load {w : World} {P : Nat} {cs : List Value} (h : w.rangeAt P 0 cs) (hn : cs.length = 16) : (loadVar 99 ⟨P, 0, none⟩).run Tryz.prog w = .ok (.agg cs.toArray) w :=
  run_loadVar_mid w P 0 99 cs _ h Tryz.underlying99 rfl (by rw [hn]; exact Tryz.sizeTal)
/-- Counts, laid into a variable of their own. -/
theorem tal_store (w : World) (Z cs : List Value) (hz : Z.length = 16) (hn : cs.length = 16) (h1 : ∀ v ∈ cs, v.oneCell' = true) :
    (storeCells ⟨w.heap.size, 0, none⟩ cs).run Tryz.prog (w.alloc (.cells Z.toArray 99)) = .ok () (w.alloc (.cells cs.toArray 99)) := by
  have h := run_storeCells_new (P := Tryz.prog) w 99 Z.toArray cs.toArray (by rw [List.size_toArray, hn]; exact Tryz.sizeTal) (by rw [List.size_toArray, List.size_toArray, hn, hz]) (all_oneCell_toArray h1)
  exact h

set_option maxRecDepth 20000 in
set_option maxHeartbeats 1000000 in
theorem total_any (f : Nat → Nat) (hf : ∀ k, f k ≤ 1000) (w : World) :
    Calls Tryz.prog 52 #[talV f] w fun e w' => e = .returned (.int .i64 (sumTo f 16 : Nat)) ∧ Below w.heap.size w w' := by
  have HI := hide (tal_index f)
  have HS := hide (sumTo_le f 1000 hf)
  have HF := hide hf
  have HRG := hide (tal_made w f).range
  have HB := hide ((Below.refl _ w).alloc (Nat.le_refl _) (.cells (talCs f).toArray 99))
  have HSZ := hide (show (Tryz.prog.info? 99).map (·.size) = some (talCs f).length by rw [talCs_length]; exact Tryz.sizeTal)
  unfold talV
  clear hf
  generalize talCs f = cs at *
  go_enter Tryz.func52, Tryz.ntmps52
  go_wp2_with (first
    | (refine wpList_load_mid rfl 99 (Operand.tmp 1) rfl w.heap.size 0 rfl cs _ HRG.out Tryz.underlying99 rfl HSZ.out ?_))
  go_loop [3, 7] (fun s iv => ∃ k : Nat, k ≤ 16 ∧ iv = .int .i64 (k : Nat) ∧ s = .int .i64 (sumTo f k : Nat)) (fun _ iv => 16 - (intOf iv).toNat)
  case atStart => exact ⟨0, by omega, rfl, rfl⟩
  case round =>
    obtain ⟨k, hk, rfl, rfl⟩ := hrel
    by_cases hlt : k < 16
    · have hix := HI.out k hlt
      have h1 := HS.out k
      have h2 := HF.out k
      have HN := hide (show sumTo f k + f k = sumTo f (k + 1) from rfl)
      have h3 : sumTo f k ≤ 16000 := by omega
      have zk : (k : Int) < 16 := by omega
      generalize sumTo f k = s at *
      generalize f k = y at *
      clear h1
      go_wp2
      go_round
      case rel => exact ⟨k + 1, by omega, by go_num, by rw [← HN.out]; go_num⟩
      case measure => exact meas_oneW k 16 hlt
    · have hke : k = 16 := by omega
      subst hke
      go_wp2
      go_ret
      exact ⟨rfl, HB.out⟩

end Go.Proofs.YtaalbaiglkadlaaGreat

/- Contracts of package canon's counts of lengths: full, code, numbers, places. -/
namespace Go.Proofs.YtaalbaiglkadlaaGreat
open Go.RowKit Go.Lib

set_option maxRecDepth 20000 in
set_option maxHeartbeats 1000000 in
theorem full_any (f : Nat → Nat) (hf : ∀ k, f k ≤ 1000) (w : World) :
    Calls Tryz.prog 92 #[talV f] w fun e w' => e = .returned (.bool (decide (freeZ f 15 = 0))) ∧ Below w.heap.size w w' := by
  have HT0 := tal_made w f
  have HS := hide (free_small f hf)
  have HF := hide hf
  have HB := hide ((Below.refl _ w).alloc (Nat.le_refl _) (.cells (talCs f).toArray 99))
  obtain ⟨q, hq⟩ : ∃ q, decide (freeZ f 15 = 0) = q := ⟨_, rfl⟩
  rw [hq]
  have HQ := hide hq
  unfold talV
  clear hf hq
  obtain ⟨cs, hcs⟩ : ∃ cs, talCs f = cs := ⟨_, rfl⟩
  have HT := hide (show ∀ i, i < 16 → (w.alloc (.cells cs.toArray 99)).cell? ⟨w.heap.size, i, none⟩ = some (.int .i64 (f i : Nat)) from fun i hi => by rw [← hcs]; exact HT0.cell i hi)
  rw [hcs] at HB ⊢
  clear hcs HT0
  go_enter Tryz.func92, Tryz.ntmps92
  go_wp2
  go_loop [3, 4] (fun s iv => ∃ k : Nat, k ≤ 15 ∧ iv = .int .i64 ((k : Int) + 1) ∧ s = .int .i64 (freeZ f k)) (fun _ iv => 16 - (intOf iv).toNat)
  case atStart => exact ⟨0, by omega, rfl, rfl⟩
  case round =>
    obtain ⟨k, hk, rfl, rfl⟩ := hrel
    by_cases hlt : k < 15
    · have h1 := HS.out k (by omega)
      have h2 := HF.out (k + 1)
      have HN := hide (show 2 * freeZ f k - (f (k + 1) : Int) = freeZ f (k + 1) from rfl)
      have zk : (k : Int) + 1 ≤ 15 := by omega
      have zk0 : (0 : Int) ≤ (k : Int) + 1 := by omega
      have zk16 : (k : Int) + 1 < 16 := by omega
      have _c := HT.out (k + 1) (by omega)
      generalize freeZ f k = s at *
      generalize f (k + 1) = y at *
      go_wp2
      go_round
      case rel => exact ⟨k + 1, by omega, by go_num, by rw [← HN.out]⟩
      case measure => exact meas_oneW (k + 1) 16 (by omega)
    · have hke : k = 15 := by omega
      subst hke
      generalize freeZ f 15 = z at *
      by_cases hz : z = 0
      · subst hz
        go_wp2
        go_ret
        exact ⟨by rw [← HQ.out]; rfl, HB.out⟩
      · have bz : (z == 0) = false := by simp; exact hz
        have HD := hide (show decide (z = 0) = false by simp; exact hz)
        clear hz
        go_wp2
        go_ret
        exact ⟨by rw [← HQ.out, HD.out]; rfl, HB.out⟩

set_option maxRecDepth 20000 in
set_option maxHeartbeats 1000000 in
theorem code_any (f : Nat → Nat) (hf : ∀ k, f k ≤ 1000) (w : World) :
    Calls Tryz.prog 73 #[talV f] w fun e w' => e = .returned (.bool (codeB f)) ∧ Below w.heap.size w w' := by
  have HT := hide (tal_made w f)
  have B0 := hide ((Below.refl _ w).alloc (Nat.le_refl _) (.cells (talCs f).toArray 99))
  have HSZ := hide (show (Tryz.prog.info? 99).map (·.size) = some (talCs f).length by rw [talCs_length]; exact Tryz.sizeTal)
  have HC := hide (total_any f hf)
  have HFL := hide (full_any f hf)
  have hs9 := sumTo_le f 1000 hf 16
  have HCB := hide (show codeB f = (if sumTo f 16 = 0 then true else if sumTo f 16 = 1 then decide (f 1 = 1) else decide (freeZ f 15 = 0)) from rfl)
  have HR1 := hide HT.out.range
  unfold talV at HC HFL ⊢
  clear hf
  generalize codeB f = r at *
  generalize decide (freeZ f 15 = 0) = q at *
  obtain ⟨cs, hcs⟩ : ∃ cs, talCs f = cs := ⟨_, rfl⟩
  have HCS := hide hcs
  rw [hcs] at HT B0 HSZ HC HFL HR1 ⊢
  clear hcs
  obtain ⟨P, hP⟩ : ∃ P, w.heap.size = P := ⟨_, rfl⟩
  rw [hP] at B0 HT HR1 ⊢
  go_enter Tryz.func73, Tryz.ntmps73
  go_wp2_with (first
    | (refine wpList_load_mid rfl 99 (Operand.tmp 1) rfl P 0 (by rw [← hP]; rfl) cs _ HR1.out Tryz.underlying99 rfl HSZ.out ?_))
  refine (HC.out _).mono ?_
  rintro e w2 ⟨rfl, b2⟩
  generalize w.alloc (.cells cs.toArray 99) = w1 at *
  have HT2 := hide (HT.out.below b2 HT.out.lt)
  have HB2 := hide (B0.out.trans (b2.mono (by have := B0.out.size; omega)))
  have HR2 := hide HT2.out.range
  rw [HCS.out] at HR2
  have _c := HT2.out.cell 1 (by omega)
  clear b2
  by_cases h0 : sumTo f 16 = 0
  · rw [h0]
    rw [if_pos h0] at HCB
    go_wp2
    go_ret
    exact ⟨by rw [HCB.out]; rfl, HB2.out⟩
  · have b0 : ((sumTo f 16 : Int) == 0) = false := by simp; exact h0
    rw [if_neg h0] at HCB
    by_cases h1 : sumTo f 16 = 1
    · rw [h1] at b0 ⊢
      rw [if_pos h1] at HCB
      by_cases h2 : f 1 = 1
      · rw [h2] at _c
        have HD := hide (show decide (f 1 = 1) = true by simp; exact h2)
        clear h0 h1 h2 hs9
        go_wp2
        go_ret
        exact ⟨by rw [HCB.out, HD.out]; rfl, HB2.out⟩
      · have HD := hide (show decide (f 1 = 1) = false by simp; exact h2)
        have bz : ((f 1 : Int) == 1) = false := by simp; omega
        generalize f 1 = y at *
        clear h0 h1 h2 hs9
        go_wp2
        go_ret
        exact ⟨by rw [HCB.out, HD.out]; rfl, HB2.out⟩
    · have b1 : ((sumTo f 16 : Int) == 1) = false := by simp; omega
      rw [if_neg h1] at HCB
      have HQ := hide HCB.out
      have e := HCB.out
      subst e
      generalize sumTo f 16 = s at *
      clear h0 h1 HCB HQ
      go_wp2_with (first
        | (refine wpList_load_mid rfl 99 (Operand.tmp 1) rfl P 0 rfl cs _ HR2.out Tryz.underlying99 rfl HSZ.out ?_))
      refine (HFL.out _).mono ?_
      rintro e w3 ⟨rfl, b3⟩
      have HB3 := hide (HB2.out.trans (b3.mono (by have := HB2.out.size; omega)))
      clear b3
      go_wp2
      go_ret
      exact ⟨rfl, HB3.out⟩

end Go.Proofs.YtaalbaiglkadlaaGreat

/- Contracts of package canon's counts of lengths: numbers, places. -/
namespace Go.Proofs.YtaalbaiglkadlaaGreat
open Go.RowKit Go.Lib

/-- The first k and one are g's, the others 0. -/
def preF (g : Nat → Nat) (k i : Nat) : Nat := if i ≤ k then g i else 0
theorem preF_set (g : Nat → Nat) (k : Nat) : (fun j => if j = k + 1 then g (k + 1) else preF g k j) = preF g (k + 1) := by
  funext i
  unfold preF
  by_cases h : i = k + 1
  · rw [if_pos h, if_pos (by omega), h]
  · rw [if_neg h]
    by_cases h2 : i ≤ k
    · rw [if_pos h2, if_pos (by omega)]
    · rw [if_neg h2, if_neg (by omega)]
theorem preF_zero (g : Nat → Nat) (h : g 0 = 0) (i : Nat) : preF g 0 i = 0 := by
  unfold preF
  by_cases h2 : i ≤ 0
  · rw [if_pos h2, show i = 0 by omega, h]
  · rw [if_neg h2]

/-- Counts, the answer's block, and what is made of them, under way. -/
structure NumL (w W : World) (P0 P1 P2 : Nat) (f g : Nat → Nat) : Prop where
  box : TalAt w P0 f
  res : TalAt w P1 (fun _ => 0)
  fst : TalAt w P2 g
  bel : Below W.heap.size W w
  lo : W.heap.size ≤ P0
  l1 : P0 < P1
  l2 : P1 < P2

theorem NumL.set {w W : World} {P0 P1 P2 : Nat} {f g : Nat → Nat} (h : NumL w W P0 P1 P2 f g) (i x : Nat) (hi : i < 16) : NumL (w.setCell ⟨P2, i, none⟩ (.int .i64 (x : Nat))).drew W P0 P1 P2 f (fun j => if j = i then x else g j) := by
  have h0 := h.lo
  have h1 := h.l1
  have h2 := h.l2
  exact ⟨(h.box.other ⟨P2, i, none⟩ (show P0 ≠ P2 by omega) _).drewN 1, (h.res.other ⟨P2, i, none⟩ (show P1 ≠ P2 by omega) _).drewN 1, (h.fst.set i x hi).drewN 1, below_drewN (h.bel.setCell (p := ⟨P2, i, none⟩) (show W.heap.size ≤ P2 by omega) _) 1, h0, h1, h2⟩

set_option maxRecDepth 20000 in
set_option maxHeartbeats 1000000 in
theorem numbers_any (ls : List Nat) (hM : MakesC ls) (hl : ls.length ≤ 1000) (W : World) :
    Calls Tryz.prog 84 #[talV (cn ls)] W fun e w' => e = .returned (talV (firstC ls)) ∧ Below W.heap.size W w' := by
  have hv := Tryz.zeroTal
  have hZ1 := talCs_one (fun _ => 0)
  have hZn := talCs_length (fun _ => 0)
  obtain ⟨P1, hP1⟩ : ∃ P1, W.heap.size + 1 = P1 := ⟨_, rfl⟩
  obtain ⟨P2, hP2⟩ : ∃ P2, P1 + 1 = P2 := ⟨_, rfl⟩
  have hL0 : NumL (((W.alloc (.cells (talCs (cn ls)).toArray 99)).alloc (.cells (talCs (fun _ => 0)).toArray 99)).alloc (.cells (talCs (fun _ => 0)).toArray 99)) W W.heap.size P1 P2 (cn ls) (preF (firstC ls) 0) := by
    have s1 : (W.alloc (.cells (talCs (cn ls)).toArray 99)).heap.size = P1 := by show (W.heap.push _).size = _; simp; exact hP1
    have s2 : ((W.alloc (.cells (talCs (cn ls)).toArray 99)).alloc (.cells (talCs (fun _ => 0)).toArray 99)).heap.size = P2 := by show ((W.heap.push _).push _).size = _; simp; omega
    refine ⟨((tal_made W (cn ls)).alloc _).alloc _, ?_, ?_, (((Below.refl _ W).alloc (Nat.le_refl _) _).alloc (by omega) _).alloc (by omega) _, Nat.le_refl _, by omega, by omega⟩
    · have h := tal_made (W.alloc (.cells (talCs (cn ls)).toArray 99)) (fun _ => 0)
      rw [s1] at h
      exact h.alloc _
    · have h := tal_made ((W.alloc (.cells (talCs (cn ls)).toArray 99)).alloc (.cells (talCs (fun _ => 0)).toArray 99)) (fun _ => 0)
      rw [s2] at h
      exact h.congr (fun i _ => (preF_zero (firstC ls) rfl i).symm)
  have HL0 := hide hL0
  have HM := hide hM
  have HL := hide hl
  clear hL0 hM hl
  obtain ⟨Z, hZ⟩ : ∃ Z, talCs (fun _ => 0) = Z := ⟨_, rfl⟩
  rw [hZ] at HL0 hZ1 hZn
  simp only [hZ] at hv
  clear hZ
  unfold talV
  go_enter Tryz.func84, Tryz.ntmps84
  obtain ⟨cs, hcs⟩ : ∃ cs, talCs (cn ls) = cs := ⟨_, rfl⟩
  rw [hcs] at HL0 ⊢
  clear hcs
  go_wp2
  generalize ((W.alloc (.cells cs.toArray 99)).alloc (.cells Z.toArray 99)).alloc (.cells Z.toArray 99) = w1 at *
  go_loopw [4] (fun iv wr => ∃ k : Nat, k ≤ 15 ∧ iv = .int .i64 ((k : Int) + 1) ∧ Hid (NumL wr W W.heap.size P1 P2 (cn ls) (preF (firstC ls) k))) (fun iv _ => 16 - (intOf iv).toNat)
  case atStart => exact ⟨0, by omega, rfl, HL0⟩
  case round =>
    clear HL0
    obtain ⟨k, hk, rfl, HN⟩ := hrel
    by_cases hlt : k < 15
    · have zk : (k : Int) + 1 ≤ 15 := by omega
      have zk0 : (0 : Int) ≤ (k : Int) + 1 := by omega
      have zk16 : (k : Int) + 1 < 16 := by omega
      have zk3 : (k : Int) < 16 := by omega
      have c1 := HN.out.box.cell k (by omega)
      have c2 := HN.out.fst.cell k (by omega)
      have c3 := HN.out.fst.cell (k + 1) (by omega)
      have f3 := HN.out.fst.frozen (k + 1)
      have e2 : preF (firstC ls) k k = firstC ls k := by unfold preF; rw [if_pos (Nat.le_refl _)]
      have e3 : preF (firstC ls) k (k + 1) = 0 := by unfold preF; rw [if_neg (by omega)]
      rw [e2] at c2
      rw [e3] at c3
      have hsm : firstC ls k ≤ 40000 ∧ cn ls k ≤ 40000 := by have := HM.out.small k (by omega); omega
      have HG := hide (show firstC ls (k + 1) = 2 * (firstC ls k + cn ls k) from rfl)
      have HNX := hide (HN.out.set (k + 1) (firstC ls (k + 1)) (by omega))
      rw [preF_set, HG.out] at HNX
      clear e2 e3 hk HG
      generalize firstC ls k = A at *
      generalize cn ls k = C at *
      have ew : ((2 * (A + C) : Nat) : Int) = 2 * ((A : Int) + (C : Int)) := by omega
      rw [ew] at HNX
      have hA := hsm.1
      have hC := hsm.2
      clear hsm ew
      go_wp2
      go_region
      go_wp2
      go_roundw
      case rel => exact ⟨k + 1, by omega, by go_num, HNX⟩
      case measure => exact meas_oneW (k + 1) 16 (by omega)
    · have hke : k = 15 := by omega
      subst hke
      have hfst := HN.out.fst.congr (g := firstC ls) (fun i hi => by unfold preF; rw [if_pos (by omega)])
      have hone := talCs_one (firstC ls)
      have hlen := talCs_length (firstC ls)
      have HRG := hide hfst.range
      have hth := HN.out.res.there
      have hst := cells_store (P := Tryz.prog) (w := wr) (p := P1) (cs := talCs (firstC ls)) (by rw [hlen]; exact hth) hone
      have HLD := hide (tal_load (World.rangeAt_setCells_same wr P1 0 (talCs (firstC ls)) (by rw [hlen]; exact hth)) hlen)
      have HBF := hide (below_cells HN.out.bel P1 0 (by have := HN.out.lo; have := HN.out.l1; omega) (talCs (firstC ls)))
      have HLN := hide hlen
      clear hfst hth hone hlen
      generalize hE : talCs (firstC ls) = cs2 at *
      have HE := hide hE
      clear hE
      have HSZ := hide (show (Tryz.prog.info? 99).map (·.size) = some cs2.length by rw [HLN.out]; exact Tryz.sizeTal)
      go_wp2_with (first
        | (refine wpList_load_mid rfl 99 (Operand.tmp 3) rfl P2 0 rfl cs2 _ HRG.out Tryz.underlying99 rfl HSZ.out ?_))
      (try simp only [Exit.inBlock, Exit.then])
      refine bodyPost_ret (v := .agg cs2.toArray) ?_ rfl ⟨by rw [HE.out], HBF.out⟩
      simp [results, Tryz.results84, asAddr, HLD.out]

set_option maxRecDepth 20000 in
set_option maxHeartbeats 1000000 in
theorem places_any (ls : List Nat) (hM : MakesC ls) (hl : ls.length ≤ 1000) (W : World) :
    Calls Tryz.prog 51 #[talV (cn ls)] W fun e w' => e = .returned (talV (atC ls)) ∧ Below W.heap.size W w' := by
  have hv := Tryz.zeroTal
  have hZ1 := talCs_one (fun _ => 0)
  have hZn := talCs_length (fun _ => 0)
  obtain ⟨P1, hP1⟩ : ∃ P1, W.heap.size + 1 = P1 := ⟨_, rfl⟩
  obtain ⟨P2, hP2⟩ : ∃ P2, P1 + 1 = P2 := ⟨_, rfl⟩
  have hL0 : NumL (((W.alloc (.cells (talCs (cn ls)).toArray 99)).alloc (.cells (talCs (fun _ => 0)).toArray 99)).alloc (.cells (talCs (fun _ => 0)).toArray 99)) W W.heap.size P1 P2 (cn ls) (preF (atC ls) 0) := by
    have s1 : (W.alloc (.cells (talCs (cn ls)).toArray 99)).heap.size = P1 := by show (W.heap.push _).size = _; simp; exact hP1
    have s2 : ((W.alloc (.cells (talCs (cn ls)).toArray 99)).alloc (.cells (talCs (fun _ => 0)).toArray 99)).heap.size = P2 := by show ((W.heap.push _).push _).size = _; simp; omega
    refine ⟨((tal_made W (cn ls)).alloc _).alloc _, ?_, ?_, (((Below.refl _ W).alloc (Nat.le_refl _) _).alloc (by omega) _).alloc (by omega) _, Nat.le_refl _, by omega, by omega⟩
    · have h := tal_made (W.alloc (.cells (talCs (cn ls)).toArray 99)) (fun _ => 0)
      rw [s1] at h
      exact h.alloc _
    · have h := tal_made ((W.alloc (.cells (talCs (cn ls)).toArray 99)).alloc (.cells (talCs (fun _ => 0)).toArray 99)) (fun _ => 0)
      rw [s2] at h
      exact h.congr (fun i _ => (preF_zero (atC ls) rfl i).symm)
  have HL0 := hide hL0
  have HM := hide hM
  have HL := hide hl
  clear hL0 hM hl
  obtain ⟨Z, hZ⟩ : ∃ Z, talCs (fun _ => 0) = Z := ⟨_, rfl⟩
  rw [hZ] at HL0 hZ1 hZn
  simp only [hZ] at hv
  clear hZ
  unfold talV
  go_enter Tryz.func51, Tryz.ntmps51
  obtain ⟨cs, hcs⟩ : ∃ cs, talCs (cn ls) = cs := ⟨_, rfl⟩
  rw [hcs] at HL0 ⊢
  clear hcs
  go_wp2
  generalize ((W.alloc (.cells cs.toArray 99)).alloc (.cells Z.toArray 99)).alloc (.cells Z.toArray 99) = w1 at *
  go_loopw [4] (fun iv wr => ∃ k : Nat, k ≤ 15 ∧ iv = .int .i64 ((k : Int) + 1) ∧ Hid (NumL wr W W.heap.size P1 P2 (cn ls) (preF (atC ls) k))) (fun iv _ => 16 - (intOf iv).toNat)
  case atStart => exact ⟨0, by omega, rfl, HL0⟩
  case round =>
    clear HL0
    obtain ⟨k, hk, rfl, HN⟩ := hrel
    by_cases hlt : k < 15
    · have zk : (k : Int) + 1 ≤ 15 := by omega
      have zk0 : (0 : Int) ≤ (k : Int) + 1 := by omega
      have zk16 : (k : Int) + 1 < 16 := by omega
      have zk3 : (k : Int) < 16 := by omega
      have c1 := HN.out.box.cell k (by omega)
      have c2 := HN.out.fst.cell k (by omega)
      have c3 := HN.out.fst.cell (k + 1) (by omega)
      have f3 := HN.out.fst.frozen (k + 1)
      have e2 : preF (atC ls) k k = atC ls k := by unfold preF; rw [if_pos (Nat.le_refl _)]
      have e3 : preF (atC ls) k (k + 1) = 0 := by unfold preF; rw [if_neg (by omega)]
      rw [e2] at c2
      rw [e3] at c3
      have hsm : atC ls k ≤ 40000 ∧ cn ls k ≤ 40000 := by have h1 := cn_sum ls (k + 1); have h2 : atC ls (k + 1) = atC ls k + cn ls k := rfl; have := HL.out; omega
      have HG := hide (show atC ls (k + 1) = atC ls k + cn ls k from rfl)
      have HNX := hide (HN.out.set (k + 1) (atC ls (k + 1)) (by omega))
      rw [preF_set, HG.out] at HNX
      clear e2 e3 hk HG
      generalize atC ls k = A at *
      generalize cn ls k = C at *
      have ew : ((A + C : Nat) : Int) = (A : Int) + (C : Int) := by omega
      rw [ew] at HNX
      have hA := hsm.1
      have hC := hsm.2
      clear hsm ew
      go_wp2
      go_region
      go_wp2
      go_roundw
      case rel => exact ⟨k + 1, by omega, by go_num, HNX⟩
      case measure => exact meas_oneW (k + 1) 16 (by omega)
    · have hke : k = 15 := by omega
      subst hke
      have hfst := HN.out.fst.congr (g := atC ls) (fun i hi => by unfold preF; rw [if_pos (by omega)])
      have hone := talCs_one (atC ls)
      have hlen := talCs_length (atC ls)
      have HRG := hide hfst.range
      have hth := HN.out.res.there
      have hst := cells_store (P := Tryz.prog) (w := wr) (p := P1) (cs := talCs (atC ls)) (by rw [hlen]; exact hth) hone
      have HLD := hide (tal_load (World.rangeAt_setCells_same wr P1 0 (talCs (atC ls)) (by rw [hlen]; exact hth)) hlen)
      have HBF := hide (below_cells HN.out.bel P1 0 (by have := HN.out.lo; have := HN.out.l1; omega) (talCs (atC ls)))
      have HLN := hide hlen
      clear hfst hth hone hlen
      generalize hE : talCs (atC ls) = cs2 at *
      have HE := hide hE
      clear hE
      have HSZ := hide (show (Tryz.prog.info? 99).map (·.size) = some cs2.length by rw [HLN.out]; exact Tryz.sizeTal)
      go_wp2_with (first
        | (refine wpList_load_mid rfl 99 (Operand.tmp 3) rfl P2 0 rfl cs2 _ HRG.out Tryz.underlying99 rfl HSZ.out ?_))
      (try simp only [Exit.inBlock, Exit.then])
      refine bodyPost_ret (v := .agg cs2.toArray) ?_ rfl ⟨by rw [HE.out], HBF.out⟩
      simp [results, Tryz.results51, asAddr, HLD.out]

end Go.Proofs.YtaalbaiglkadlaaGreat

/- Contract of package canon's 'counted': how many have each length, or the error. -/
namespace Go.Proofs.YtaalbaiglkadlaaGreat
open Go.RowKit Go.Lib

/-- How many have each length, if they make a code. -/
def cntF (l : List Int) : Nat → Nat := if goodB l = true then cn (l.map Int.toNat) else fun _ => 0
theorem cntF_good {l : List Int} (h : goodB l = true) : cntF l = cn (l.map Int.toNat) := by unfold cntF; rw [if_pos h]
theorem cntF_bad {l : List Int} (h : ¬ goodB l = true) : cntF l = fun _ => 0 := by unfold cntF; rw [if_neg h]

theorem cn_le1000 (ls : List Nat) (h : ls.length ≤ 1000) (k : Nat) : cn ls k ≤ 1000 := by
  unfold cn
  split
  · omega
  · exact Nat.le_trans List.countP_le_length h
theorem preN_len (l : List Int) (j : Nat) : (preN l j).length ≤ l.length := by unfold preN; rw [List.length_map, List.length_take]; omega

/-- Counts under way, and the answer's block. -/
structure CntL (w W : World) (P1 P2 : Nat) (g : Nat → Nat) : Prop where
  res : TalAt w P1 (fun _ => 0)
  cnt : TalAt w P2 g
  bel : Below W.heap.size W w
  lo : W.heap.size = P1
  l1 : P1 + 1 = P2

theorem CntL.set {w W : World} {P1 P2 : Nat} {g : Nat → Nat} (h : CntL w W P1 P2 g) (i x : Nat) (hi : i < 16) : CntL (w.setCell ⟨P2, i, none⟩ (.int .i64 (x : Nat))) W P1 P2 (fun j => if j = i then x else g j) := by
  have h0 := h.lo
  have h1 := h.l1
  exact ⟨h.res.other ⟨P2, i, none⟩ (show P1 ≠ P2 by omega) _, h.cnt.set i x hi, h.bel.setCell (p := ⟨P2, i, none⟩) (show W.heap.size ≤ P2 by omega) _, h0, h1⟩
theorem CntL.congr {w W : World} {P1 P2 : Nat} {g g2 : Nat → Nat} (h : CntL w W P1 P2 g) (e : ∀ i, i < 16 → g i = g2 i) : CntL w W P1 P2 g2 := ⟨h.res, h.cnt.congr e, h.bel, h.lo, h.l1⟩

set_option maxRecDepth 20000 in
set_option maxHeartbeats 4000000 in
theorem counted_any (l : List Int) (a : Option Addr) (cap : Nat) (W : World) (harg : ArgZ W a l) (hl : l.length ≤ 1000) :
    Calls Tryz.prog 50 #[.slice a l.length cap] W fun e w' => e = .returned (.tuple #[talV (cntF l), .int .i64 (chkI l)]) ∧ Below W.heap.size W w' := by
  have HA := hide harg
  have hv := Tryz.zeroTal
  have hbt := Tryz.builtTal
  have hZ1 := talCs_one (fun _ => 0)
  have hZn := talCs_length (fun _ => 0)
  obtain ⟨P2, hP2⟩ : ∃ P2, W.heap.size + 1 = P2 := ⟨_, rfl⟩
  have hL0 : CntL ((W.alloc (.cells (talCs (fun _ => 0)).toArray 99)).alloc (.cells (talCs (fun _ => 0)).toArray 99)) W W.heap.size P2 (cn (preN l 0)) := by
    have s1 : (W.alloc (.cells (talCs (fun _ => 0)).toArray 99)).heap.size = P2 := by show (W.heap.push _).size = _; simp; exact hP2
    refine ⟨(tal_made W (fun _ => 0)).alloc _, ?_, ((Below.refl _ W).alloc (Nat.le_refl _) _).alloc (by omega) _, rfl, hP2⟩
    have h := tal_made (W.alloc (.cells (talCs (fun _ => 0)).toArray 99)) (fun _ => 0)
    rw [s1] at h
    refine h.congr fun i _ => ?_
    unfold preN cn
    split <;> rfl
  have HL0 := hide hL0
  have HL := hide hl
  obtain ⟨Z, hZ⟩ : ∃ Z, talCs (fun _ => 0) = Z := ⟨_, rfl⟩
  have HZ := hide hZ
  rw [hZ] at HL0 hZ1 hZn
  simp only [hZ] at hv hbt
  clear hZ harg hL0
  obtain ⟨tv, htv⟩ : ∃ tv, talV (cntF l) = tv := ⟨_, rfl⟩
  obtain ⟨ev, hev⟩ : ∃ ev, chkI l = ev := ⟨_, rfl⟩
  have HTV := hide htv
  have HEV := hide hev
  rw [htv, hev]
  clear htv hev
  obtain ⟨n, hn⟩ : ∃ n, l.length = n := ⟨_, rfl⟩
  have HN := hide hn
  rw [hn] at hl ⊢
  clear hn
  go_enter Tryz.func50, Tryz.ntmps50
  go_wp2
  generalize (W.alloc (.cells Z.toArray 99)).alloc (.cells Z.toArray 99) = w1 at *
  go_loopw [9] (fun iv wr => ∃ j : Nat, j ≤ n ∧ iv = .int .i64 (j : Nat) ∧ Hid (∀ x ∈ l.take j, 0 ≤ x ∧ x ≤ 15) ∧ Hid (CntL wr W W.heap.size P2 (cn (preN l j)))) (fun iv _ => n - (intOf iv).toNat)
  case atStart => exact ⟨0, Nat.zero_le _, rfl, hide (fun x hx => by simp at hx), HL0⟩
  case round =>
    clear HL0
    obtain ⟨j, hj, rfl, HE, HC⟩ := hrel
    by_cases hlt : j < n
    · obtain ⟨x, hx⟩ : ∃ x, l[j]? = some x := ⟨_, List.getElem?_eq_getElem (by rw [HN.out]; exact hlt)⟩
      obtain ⟨b, off, rfl, hb, hc⟩ := HA.out j x hx
      have _c := (HC.out.bel.cell (p := ⟨b, off + j, none⟩) hb).trans hc
      have zj : (j : Int) < n := by omega
      have HX := hide hx
      have HTK := hide (show l.take (j + 1) = l.take j ++ [x] by rw [List.take_add_one, hx]; rfl)
      have HPR := hide (preN_succ l j x hx)
      have hth := HC.out.res.there
      have hst := cells_store (P := Tryz.prog) (w := wr) (p := W.heap.size) (cs := Z) (by rw [hZn]; exact hth) hZ1
      have HLD := hide (tal_load (World.rangeAt_setCells_same wr W.heap.size 0 Z (by rw [hZn]; exact hth)) hZn)
      have HBF := hide (below_cells HC.out.bel W.heap.size 0 (Nat.le_refl _) Z)
      clear hx hc hth
      by_cases q1 : x < 0
      · have HBAD := hide (show ¬ goodB l = true from fun h => by have := (((goodB_iff l).1 h).1 x (mem_of_get HX.out)).1; omega)
        go_wp2
        (try simp only [Exit.inBlock, Exit.then])
        refine bodyPost_ret (v := .tuple #[.agg Z.toArray, .int .i64 4]) ?_ rfl ⟨by rw [← HTV.out, ← HEV.out, cntF_bad HBAD.out, chkI_bad HBAD.out, ← HZ.out]; rfl, HBF.out⟩
        simp [results, Tryz.results50, asAddr, HLD.out]
      · have q1d : decide (x < 0) = false := by simp; omega
        by_cases q2 : 15 < x
        · have HBAD := hide (show ¬ goodB l = true from fun h => by have := (((goodB_iff l).1 h).1 x (mem_of_get HX.out)).2; omega)
          go_wp2
          (try simp only [Exit.inBlock, Exit.then])
          refine bodyPost_ret (v := .tuple #[.agg Z.toArray, .int .i64 4]) ?_ rfl ⟨by rw [← HTV.out, ← HEV.out, cntF_bad HBAD.out, chkI_bad HBAD.out, ← HZ.out]; rfl, HBF.out⟩
          simp [results, Tryz.results50, asAddr, HLD.out]
        · have q2d : decide (15 < x) = false := by simp; omega
          have HE2 := hide (show ∀ z ∈ l.take (j + 1), 0 ≤ z ∧ z ≤ 15 from fun z hz => by
            rw [HTK.out] at hz
            rcases List.mem_append.1 hz with e | e
            · exact HE.out z e
            · rw [List.mem_singleton.1 e]; omega)
          obtain ⟨y, rfl⟩ := Int.eq_ofNat_of_zero_le (show 0 ≤ x by omega)
          have hy : y ≤ 15 := by omega
          rw [Int.toNat_natCast] at HPR
          have HCN := hide (cn_snoc (preN l j) y)
          rw [← HPR.out] at HCN
          clear hst HLD HBF
          by_cases h0 : y = 0
          · subst h0
            have HC2 := hide (HC.out.congr (g2 := cn (preN l (j + 1))) (fun i _ => by rw [HCN.out i, if_neg (by omega)]))
            clear HCN q1 q2
            go_wp2
            go_roundw
            case rel => exact ⟨j + 1, hlt, by go_num, HE2, HC2⟩
            case measure => exact meas_oneW j n hlt
          · have z0 : (0 : Int) < y := by omega
            have zy0 : (0 : Int) ≤ y := by omega
            have zy16 : (y : Int) < 16 := by omega
            have _c2 := HC.out.cnt.cell y (by omega)
            have _f2 := HC.out.cnt.frozen y
            have hc9 := cn_le1000 (preN l j) (by have := preN_len l j; have := HL.out; omega) y
            have HC2 := hide ((HC.out.set y (cn (preN l j) y + 1) (by omega)).congr (g2 := cn (preN l (j + 1))) (fun i _ => by
              rw [HCN.out i]
              by_cases e : i = y
              · rw [if_pos e, if_pos ⟨e, h0⟩]
              · rw [if_neg e, if_neg (fun h => e h.1)]))
            generalize cn (preN l j) y = m at *
            rw [show ((m + 1 : Nat) : Int) = (m : Int) + 1 from by omega] at HC2
            clear HCN q1 q2 h0 hy
            go_wp2
            go_roundw
            case rel => exact ⟨j + 1, hlt, by go_num, HE2, HC2⟩
            case measure => exact meas_oneW j n hlt
    · have hje : j = n := by omega
      subst hje
      have hE : ∀ x ∈ l, 0 ≤ x ∧ x ≤ 15 := by have h := HE.out; rw [List.take_of_length_le (by rw [HN.out]; exact Nat.le_refl _)] at h; exact h
      have hcg := codeB_good l hE
      have hpa : preN l j = l.map Int.toNat := by rw [← HN.out]; exact preN_all l
      rw [hpa] at HC
      have hle := cn_le1000 (l.map Int.toNat) (by rw [List.length_map]; exact HL.out)
      have HCD := hide (code_any (cn (l.map Int.toNat)) hle)
      rw [hcg] at HCD
      unfold talV at HCD
      have HLEN := hide (talCs_length (cn (l.map Int.toNat)))
      have HONE := hide (talCs_one (cn (l.map Int.toNat)))
      have HRG := hide HC.out.cnt.range
      have HRG2 := hide (fun w' (b : Below wr.heap.size wr w') => (HC.out.cnt.below b HC.out.cnt.lt).range)
      have HRS := hide (fun w' (b : Below wr.heap.size wr w') => (HC.out.res.below b HC.out.res.lt).there)
      have HBL := hide (show ∀ w', Below wr.heap.size wr w' → Below W.heap.size W w' from fun w' b => HC.out.bel.trans (b.mono HC.out.bel.size))
      have HCE := hide (show talV (cn (l.map Int.toNat)) = .agg (talCs (cn (l.map Int.toNat))).toArray from rfl)
      clear hE hcg hpa hle
      generalize talCs (cn (l.map Int.toNat)) = cs at *
      have HSZ := hide (show (Tryz.prog.info? 99).map (·.size) = some cs.length by rw [HLEN.out]; exact Tryz.sizeTal)
      go_wp2_with (first
        | (refine wpList_load_mid rfl 99 (Operand.tmp 4) rfl P2 0 rfl cs _ HRG.out Tryz.underlying99 rfl HSZ.out ?_))
      refine (HCD.out _).mono ?_
      rintro e w2 ⟨rfl, b2⟩
      have HR2 := hide (HRG2.out _ b2)
      have hth := HRS.out _ b2
      have HB2 := hide (HBL.out _ b2)
      clear b2
      by_cases hg : goodB l = true
      · have HG := hide hg
        have hst := cells_store (P := Tryz.prog) (w := w2) (p := W.heap.size) (cs := cs) (by rw [HLEN.out]; exact hth) HONE.out
        have HLD := hide (tal_load (World.rangeAt_setCells_same w2 W.heap.size 0 cs (by rw [HLEN.out]; exact hth)) HLEN.out)
        have HBF := hide (below_cells HB2.out W.heap.size 0 (Nat.le_refl _) cs)
        have hcl := HLEN.out
        rw [hg]
        clear hg hth
        go_wp2_with (first
          | (refine wpList_load_mid rfl 99 (Operand.tmp 4) rfl P2 0 rfl cs _ HR2.out Tryz.underlying99 rfl HSZ.out ?_))
        (try simp only [Exit.inBlock, Exit.then])
        refine bodyPost_ret (v := .tuple #[.agg cs.toArray, .int .i64 0]) ?_ rfl ⟨by rw [← HTV.out, ← HEV.out, cntF_good HG.out, chkI_good HG.out, HCE.out], HBF.out⟩
        simp [results, Tryz.results50, asAddr, HLD.out]
      · have HG := hide hg
        have hgf : goodB l = false := by cases h : goodB l with | false => rfl | true => exact absurd h hg
        have hst := cells_store (P := Tryz.prog) (w := w2) (p := W.heap.size) (cs := Z) (by rw [hZn]; exact hth) hZ1
        have HLD := hide (tal_load (World.rangeAt_setCells_same w2 W.heap.size 0 Z (by rw [hZn]; exact hth)) hZn)
        have HBF := hide (below_cells HB2.out W.heap.size 0 (Nat.le_refl _) Z)
        rw [hgf]
        clear hg hth hgf
        go_wp2
        (try simp only [Exit.inBlock, Exit.then])
        refine bodyPost_ret (v := .tuple #[.agg Z.toArray, .int .i64 4]) ?_ rfl ⟨by rw [← HTV.out, ← HEV.out, cntF_bad HG.out, chkI_bad HG.out, ← HZ.out]; rfl, HBF.out⟩
        simp [results, Tryz.results50, asAddr, HLD.out]

end Go.Proofs.YtaalbaiglkadlaaGreat

/- Package canon: Check and Codes. -/
namespace Go.Proofs.YtaalbaiglkadlaaGreat
open Go.RowKit Go.Lib

/-- Where the next one of each length goes. -/
def nxtF (base : Nat → Nat) (ls : List Nat) (j k : Nat) : Nat := base k + if k = 0 then 0 else rkK ls k j
theorem nxtF_begin (base : Nat → Nat) (ls : List Nat) (k : Nat) : nxtF base ls 0 k = base k := by
  unfold nxtF
  split
  · rfl
  · simp [rkK]
theorem nxtF_skip (base : Nat → Nat) (ls : List Nat) (j : Nat) (hj : j < ls.length) (h : ls.getD j 0 = 0) (k : Nat) : nxtF base ls (j + 1) k = nxtF base ls j k := by
  unfold nxtF
  by_cases hk : k = 0
  · rw [if_pos hk, if_pos hk]
  · rw [if_neg hk, if_neg hk, rk_succ ls k j hj, if_neg (by omega)]
    rfl
theorem nxtF_step (base : Nat → Nat) (ls : List Nat) (j : Nat) (hj : j < ls.length) (h : ls.getD j 0 ≠ 0) (k : Nat) : (if k = ls.getD j 0 then nxtF base ls j (ls.getD j 0) + 1 else nxtF base ls j k) = nxtF base ls (j + 1) k := by
  unfold nxtF
  by_cases hk : k = ls.getD j 0
  · rw [if_pos hk, if_neg h, if_neg (by omega), hk, rk_succ ls _ j hj, if_pos rfl]
    omega
  · rw [if_neg hk]
    by_cases h0 : k = 0
    · rw [if_pos h0, if_pos h0]
    · rw [if_neg h0, if_neg h0, rk_succ ls k j hj, if_neg (by omega)]
      rfl
theorem nxtF_at (base : Nat → Nat) (ls : List Nat) (j : Nat) (h : ls.getD j 0 ≠ 0) : nxtF base ls j (ls.getD j 0) = base (ls.getD j 0) + rkK ls (ls.getD j 0) j := by
  unfold nxtF
  rw [if_neg h]

/-- A row that is filled by counts: the counts in block PN, the row in block O, all else as it was. -/
structure FillL (w W w0 : World) (PN O m : Nat) (g : Nat → Nat) (out : List Nat) : Prop where
  nxt : TalAt w PN g
  own : w.ownsRow W.heap.size 3 1 (.slice (some ⟨O, 0, none⟩) m m) m (natCs out)
  old : Below PN w0 w
  bel0 : Below W.heap.size W w0
  lo : W.heap.size ≤ PN
  hi : PN ≤ w0.heap.size
  lt : PN < O

theorem FillL.bel {w W w0 : World} {PN O m : Nat} {g : Nat → Nat} {out : List Nat} (h : FillL w W w0 PN O m g out) : Below W.heap.size W w := h.bel0.trans (h.old.mono h.lo)
theorem FillL.put {w W w0 : World} {PN O m : Nat} {g : Nat → Nat} {out : List Nat} (h : FillL w W w0 PN O m g out) (i x : Nat) : FillL (w.setCell ⟨O, i, none⟩ (.int .i64 (x : Nat))) W w0 PN O m g (out.set i x) := by
  have h2 := h.lt
  exact ⟨h.nxt.other ⟨O, i, none⟩ (show PN ≠ O by omega) _, own_set h.own i x, h.old.setCell (p := ⟨O, i, none⟩) (show PN ≤ O by omega) _, h.bel0, h.lo, h.hi, h2⟩
theorem FillL.inc {w W w0 : World} {PN O m : Nat} {g : Nat → Nat} {out : List Nat} (h : FillL w W w0 PN O m g out) (i x : Nat) (hi : i < 16) : FillL (w.setCell ⟨PN, i, none⟩ (.int .i64 (x : Nat))) W w0 PN O m (fun j => if j = i then x else g j) out := by
  have h2 := h.lt
  have h3 : (Value.slice (some ⟨O, 0, none⟩) m m).ownBlock ≠ some (⟨PN, i, none⟩ : Addr).block := by
    intro e
    have e2 : O = PN := by simpa [Value.ownBlock] using e
    omega
  exact ⟨h.nxt.set i x hi, ownsRow_setCell_other h.own h3 _, h.old.setCell (p := ⟨PN, i, none⟩) (Nat.le_refl _) _, h.bel0, h.lo, h.hi, h2⟩
theorem FillL.congr {w W w0 : World} {PN O m : Nat} {g g2 : Nat → Nat} {out : List Nat} (h : FillL w W w0 PN O m g out) (e : ∀ i, i < 16 → g i = g2 i) : FillL w W w0 PN O m g2 out := ⟨h.nxt.congr e, h.own, h.old, h.bel0, h.lo, h.hi, h.lt⟩
theorem FillL.cell {w W w0 : World} {PN O m : Nat} {g : Nat → Nat} {out : List Nat} (h : FillL w W w0 PN O m g out) (hm : out.length = m) {i x : Nat} (hx : out[i]? = some x) : w.cell? ⟨O, i, none⟩ = some (.int .i64 (x : Int)) ∧ w.frozen? ⟨O, i, none⟩ = false := by
  have ho := h.own
  rw [← hm] at ho
  exact own_nat ho hx

theorem fill_skip (f : Nat → Nat) (n j : Nat) (h : f j = 0) : fillTo f n (j + 1) = fillTo f n j := by
  unfold fillTo
  refine List.map_congr_left fun i hi => ?_
  by_cases e : i = j
  · subst e
    rw [if_pos (by omega), if_neg (by omega), h]
  · by_cases h2 : i < j
    · rw [if_pos h2, if_pos (by omega)]
    · rw [if_neg h2, if_neg (by omega)]
theorem fill_codes (ls : List Nat) : fillTo (codeN ls) ls.length ls.length = codesL ls := by
  unfold fillTo codesL
  refine List.map_congr_left fun i hi => ?_
  rw [if_pos (List.mem_range.1 hi)]
theorem fill_none (f : Nat → Nat) (n : Nat) : fillTo f n 0 = List.replicate n 0 := by
  apply List.eq_replicate_iff.2
  refine ⟨fillTo_length f n 0, fun b hb => ?_⟩
  obtain ⟨i, _, rfl⟩ := List.mem_map.1 hb
  rw [if_neg (by omega)]

theorem codes_form {W w' : World} {l : List Int} {r : Value} (h : CodesRes W l r w') : ∃ x y, r = .tuple #[x, y] := by
  rcases h with ⟨_, e⟩ | ⟨_, v, e, _⟩
  · exact ⟨_, _, e⟩
  · exact ⟨_, _, e⟩

set_option maxRecDepth 20000 in
set_option maxHeartbeats 4000000 in
theorem codes_any (l : List Int) (a : Option Addr) (cap : Nat) (W : World) (harg : ArgZ W a l) (hl : l.length ≤ 1000) :
    Calls Tryz.prog 66 #[.slice a l.length cap] W fun e w' => ∃ r, e = .returned r ∧ CodesRes W l r w' ∧ Below W.heap.size W w' := by
  have HC := hide (counted_any l a cap W harg hl)
  have hv := Tryz.zeroTal
  have hZn := talCs_length (fun _ => 0)
  by_cases hg : goodB l = true
  · rw [cntF_good hg, chkI_good hg] at HC
    have HG := hide hg
    obtain ⟨hE, hM⟩ := (goodB_iff l).1 hg
    have HARG := hide (harg.nat15 hE)
    obtain ⟨ls, hls⟩ : ∃ ls, l.map Int.toNat = ls := ⟨_, rfl⟩
    rw [hls] at HARG hM HC
    have HLS := hide hls
    have HLL := hide (show ls.length = l.length by rw [← hls, List.length_map])
    have HM := hide hM
    obtain ⟨n, hn⟩ : ∃ n, l.length = n := ⟨_, rfl⟩
    have HN := hide hn
    rw [hn] at HLL HC hl ⊢
    have HNUM := hide (numbers_any ls hM (by rw [HLL.out]; exact hl))
    have hcn := talCs_length (cn ls)
    have hfn := talCs_length (firstC ls)
    have HS1 := hide (fun w => tal_store w (talCs (fun _ => 0)) (talCs (cn ls)) hZn hcn (talCs_one _))
    have HS2 := hide (fun w => tal_store w (talCs (fun _ => 0)) (talCs (firstC ls)) hZn hfn (talCs_one _))
    have HMD1 := hide (fun w => (tal_made w (cn ls)).range)
    have HMD2 := hide (fun w => tal_made w (firstC ls))
    unfold TalAt at HMD2
    unfold talV at HC HNUM
    generalize talCs (cn ls) = cs at *
    obtain ⟨fs, hfs⟩ : ∃ fs, talCs (firstC ls) = fs := ⟨_, rfl⟩
    have HFS := hide hfs
    rw [hfs] at HNUM hfn HS2 HMD2
    clear hfs
    generalize talCs (fun _ => 0) = Z at *
    have HSZ := hide (show (Tryz.prog.info? 99).map (·.size) = some cs.length by rw [hcn]; exact Tryz.sizeTal)
    have hmk := run_make_row' (P := Tryz.prog) 63 3 (.int .i64 0) 8 Tryz.underlying63 Tryz.infoInt rfl .i64 .i64 n (by omega) (by omega)
    clear hg hE hM hls harg hn
    go_enter Tryz.func66, Tryz.ntmps66
    go_wp2_with fail
    refine HC.out.mono ?_
    rintro e w1 ⟨rfl, b1⟩
    have hst1 := HS1.out w1
    have HR1 := hide (HMD1.out w1)
    have HB2 := hide (b1.alloc b1.size (.cells cs.toArray 99))
    clear b1
    go_wp2_with (first
      | (refine wpList_load_mid rfl 99 (Operand.tmp 4) rfl w1.heap.size 0 rfl cs _ HR1.out Tryz.underlying99 rfl HSZ.out ?_))
    clear hst1 HR1
    generalize w1.alloc (.cells cs.toArray 99) = w2 at *
    refine (HNUM.out _).mono ?_
    rintro e w3 ⟨rfl, b3⟩
    have hst2 := HS2.out w3
    have HB3 := hide (HB2.out.trans (b3.mono HB2.out.size))
    have HB4 := hide (HB3.out.alloc HB3.out.size (.cells fs.toArray 99))
    obtain ⟨O, hO⟩ : ∃ O, (w3.alloc (.cells fs.toArray 99)).heap.size = O := ⟨_, rfl⟩
    have hO2 : w3.heap.size + 1 = O := by rw [← hO]; show _ = (w3.heap.push _).size; simp
    have HL0 := hide (show FillL ((w3.alloc (.cells fs.toArray 99)).alloc (.cells (madeCells #[.int .i64 0] n) 3)) W w3 w3.heap.size O n (nxtF (firstC ls) ls 0) (fillTo (codeN ls) n 0) by
      refine ⟨?_, ?_, ((Below.refl _ w3).alloc (Nat.le_refl _) _).alloc (by omega) _, HB3.out, HB3.out.size, Nat.le_refl _, by omega⟩
      · have h := HMD2.out w3
        rw [← HFS.out] at h ⊢
        exact (TalAt.alloc (f := firstC ls) h _).congr (fun i _ => (nxtF_begin (firstC ls) ls i).symm)
      · have h := own_made0 (w3.alloc (.cells fs.toArray 99)) n (by omega)
        rw [hO] at h
        rw [fill_none]
        exact ownsRow_base h (by have := HB3.out.size; omega))
    clear b3 hO
    go_wp2
    clear hmk hst2
    generalize (w3.alloc (.cells fs.toArray 99)).alloc (.cells (madeCells #[.int .i64 0] n) 3) = w5 at *
    obtain ⟨PN, hPN⟩ : ∃ PN, w3.heap.size = PN := ⟨_, rfl⟩
    (try simp only [hPN] at hO2)
    (try simp only [hPN] at HL0)
    (try simp only [hPN])
    (try simp only [hO2] at HL0)
    (try simp only [hO2])
    clear hO2 hPN
    go_loopw [25] (fun iv wr => ∃ j : Nat, j ≤ n ∧ iv = .int .i64 (j : Nat) ∧ Hid (FillL wr W w3 PN O n (nxtF (firstC ls) ls j) (fillTo (codeN ls) n j))) (fun iv _ => n - (intOf iv).toNat)
    case atStart => exact ⟨0, Nat.zero_le _, rfl, HL0⟩
    case round =>
      clear HL0
      obtain ⟨j, hj, rfl, HL⟩ := hrel
      by_cases hlt : j < n
      · have hjl : j < ls.length := by rw [HLL.out]; exact hlt
        obtain ⟨b, off, rfl, hb, hc⟩ := HARG.out j _ (getD_some ls j hjl)
        have _c := (HL.out.bel.cell (p := ⟨b, off + j, none⟩) hb).trans hc
        have zj : (j : Int) < n := by omega
        by_cases h0 : ls.getD j 0 = 0
        · have HCD := hide (show codeN ls j = 0 by unfold codeN; rw [if_pos h0])
          have HSK := hide (fill_skip (codeN ls) n j HCD.out)
          have HL2 := hide (HL.out.congr (fun i _ => (nxtF_skip (firstC ls) ls j hjl h0 i).symm))
          rw [← HSK.out] at HL2
          rw [h0] at _c
          clear h0 hc HCD HSK
          go_wp2
          go_roundw
          case rel => exact ⟨j + 1, hlt, by go_num, HL2⟩
          case measure => exact meas_oneW j n hlt
        · have hle : ls.getD j 0 ≤ 15 := HM.out.each _ (List.mem_of_getElem? (getD_some ls j hjl))
          have hq := nxtF_at (firstC ls) ls j h0
          have hsm := HM.out.small _ hle
          have hrk := rk_le_cn ls (ls.getD j 0) j h0 (by omega)
          have c1 := HL.out.nxt.cell (ls.getD j 0) (by omega)
          have HP := HL.out.put j (nxtF (firstC ls) ls j (ls.getD j 0))
          have c3 := HP.nxt.cell (ls.getD j 0) (by omega)
          have f3 := HP.nxt.frozen (ls.getD j 0)
          have HI := hide ((HP.inc (ls.getD j 0) (nxtF (firstC ls) ls j (ls.getD j 0) + 1) (by omega)).congr (fun i _ => nxtF_step (firstC ls) ls j hjl h0 i))
          have ecd : nxtF (firstC ls) ls j (ls.getD j 0) = codeN ls j := by rw [hq]; unfold codeN; rw [if_neg h0]
          have hset := fillTo_set (codeN ls) n j hlt
          obtain ⟨c2, f2⟩ := HL.out.cell (fillTo_length _ _ _) (fillTo_get (codeN ls) n j j hlt)
          rw [← ecd] at hset
          rw [hset] at HI
          have hq9 : nxtF (firstC ls) ls j (ls.getD j 0) ≤ 40000 := by omega
          have z0 : (0 : Int) < (ls.getD j 0 : Nat) := by omega
          have z00 : (0 : Int) ≤ (ls.getD j 0 : Nat) := by omega
          have z16 : ((ls.getD j 0 : Nat) : Int) < 16 := by omega
          clear hq hsm hrk HP ecd hset h0 hle hc hjl
          generalize nxtF (firstC ls) ls j (ls.getD j 0) = q at *
          generalize ls.getD j 0 = x at *
          rw [show ((q + 1 : Nat) : Int) = (q : Int) + 1 from by omega] at HI
          go_wp2
          go_roundw
          case rel => exact ⟨j + 1, hlt, by go_num, HI⟩
          case measure => exact meas_oneW j n hlt
      · have hje : j = n := by omega
        subst hje
        have hF := fill_codes ls
        rw [HLL.out] at hF
        have HO := hide HL.out.own
        rw [hF] at HO
        have HB := hide HL.out.bel
        clear hF
        go_wp2
        go_ret2
        exact ⟨_, rfl, .inr ⟨HG.out, _, rfl, by rw [HLS.out, HN.out]; exact HO.out⟩, HB.out⟩
  · rw [cntF_bad hg, chkI_bad hg] at HC
    have HG := hide (show goodB l = false by cases h : goodB l with | false => rfl | true => exact absurd h hg)
    have HS := hide (fun w => tal_store w (talCs (fun _ => 0)) (talCs (fun _ => 0)) hZn hZn (talCs_one _))
    unfold talV at HC
    generalize talCs (fun _ => 0) = Z at *
    clear harg hg
    go_enter Tryz.func66, Tryz.ntmps66
    go_wp2_with fail
    refine HC.out.mono ?_
    rintro e w1 ⟨rfl, b1⟩
    have hst := HS.out w1
    have HB := hide (b1.alloc b1.size (.cells Z.toArray 99))
    clear b1
    go_wp2
    go_ret2
    exact ⟨_, rfl, .inl ⟨HG.out, rfl⟩, HB.out⟩

end Go.Proofs.YtaalbaiglkadlaaGreat

/- Package canon: Build and Read. -/
namespace Go.Proofs.YtaalbaiglkadlaaGreat
open Go.RowKit Go.Lib

theorem build_form {W w' : World} {l : List Int} {r : Value} (h : BuildRes W l r w') : ∃ f v e, r = .tuple #[codeV f v, .int .i64 e] ∧ v.oneCell' = true := by
  rcases h with ⟨_, e⟩ | ⟨_, v, e, ho⟩
  · exact ⟨_, _, _, e, rfl⟩
  · exact ⟨_, _, _, e, own_oneCell ho⟩

theorem Tryz.builtCode (f : Nat → Nat) (a : Option Addr) (n c : Nat) : Tryz.prog.built 80 [(0, .agg (talCs f).toArray), (1, .slice a n c)] = some (codeCs f (.slice a n c)).toArray := by kernel_rfl

/-- A struct that is built of two parts. -/
theorem wpList_built2 {P : Program} {ops : Array Oper} {rest : List Oper} {o : Oper} {a : Act} {w : World} {Q : Exit → Act → World → Prop} (hg : o.guard = none) (t : TypeId) (i0 i1 : Nat) (x0 x1 : Operand) (ho : o.op = .build t #[(i0, x0), (i1, x1)])
    (v0 v1 : Value) (h0 : a.eval x0 = v0) (h1 : a.eval x1 = v1) (cells : Array Value) (hc : P.built t [(i0, v0), (i1, v1)] = some cells)
    (h : wpList P ops Q rest (a.put o.dst (.agg cells)) w) : wpList P ops Q (o :: rest) a w := by
  have hp : (#[(i0, x0), (i1, x1)].map fun (i, x) => (i, a.eval x)).toList = [(i0, v0), (i1, v1)] := by simp [h0, h1]
  exact wpList_build hg t _ ho (by rw [hp, hc]; rfl) (by rw [hp, hc]; exact h)

set_option maxRecDepth 20000 in
set_option maxHeartbeats 4000000 in
theorem build_any (l : List Int) (a : Option Addr) (cap : Nat) (W : World) (harg : ArgZ W a l) (hl : l.length ≤ 1000) :
    Calls Tryz.prog 40 #[.slice a l.length cap] W fun e w' => ∃ r, e = .returned r ∧ BuildRes W l r w' ∧ Below W.heap.size W w' := by
  have hvc := Tryz.zeroCode
  have hZc1 := codeCs_one (fun _ => 0) (.slice none 0 0) rfl
  have hZcn := codeCs_length (fun _ => 0) (.slice none 0 0)
  obtain ⟨Zc, hZc⟩ : ∃ Zc, codeCs (fun _ => 0) (.slice none 0 0) = Zc := ⟨_, rfl⟩
  have HZC := hide hZc
  rw [hZc] at hZc1 hZcn
  simp only [hZc] at hvc
  clear hZc
  have b0 : Below W.heap.size W (W.alloc (.cells Zc.toArray 80)) := (Below.refl _ W).alloc (Nat.le_refl _) _
  have HC := hide (counted_any l a cap (W.alloc (.cells Zc.toArray 80)) (harg.below b0) hl)
  have HB0 := hide b0
  have HRES := hide (show (W.alloc (.cells Zc.toArray 80)).heap[W.heap.size]? = some (.cells Zc.toArray 80 (0, 0)) from heap_alloc_at _ _ rfl)
  have HLT0 := hide (show W.heap.size < (W.alloc (.cells Zc.toArray 80)).heap.size by show _ < (W.heap.push _).size; simp)
  have hv := Tryz.zeroTal
  have hZn := talCs_length (fun _ => 0)
  by_cases hg : goodB l = true
  · rw [cntF_good hg, chkI_good hg] at HC
    have HG := hide hg
    obtain ⟨hE, hM⟩ := (goodB_iff l).1 hg
    have HARG := hide (harg.nat15 hE)
    obtain ⟨ls, hls⟩ : ∃ ls, l.map Int.toNat = ls := ⟨_, rfl⟩
    rw [hls] at HARG hM HC
    have HLS := hide hls
    have HLL := hide (show ls.length = l.length by rw [← hls, List.length_map])
    have HM := hide hM
    obtain ⟨n, hn⟩ : ∃ n, l.length = n := ⟨_, rfl⟩
    have HN := hide hn
    rw [hn] at HLL HC hl ⊢
    have hll : ls.length ≤ 1000 := by rw [HLL.out]; exact hl
    have HNUM := hide (places_any ls hM hll)
    have HTOT := hide (total_any (cn ls) (cn_le1000 ls hll))
    obtain ⟨m, hm⟩ : ∃ m, (symTo ls 16).length = m := ⟨_, rfl⟩
    have hms : sumTo (cn ls) 16 = m := by rw [sumTo_at, ← symTo_length]; exact hm
    have hm9 : m ≤ 1000 := by rw [← hms, sumTo_at]; exact Nat.le_trans (cn_sum ls 16) hll
    rw [hms] at HTOT
    have HMM := hide hm
    have hcn := talCs_length (cn ls)
    have hfn := talCs_length (atC ls)
    have HS1 := hide (fun w => tal_store w (talCs (fun _ => 0)) (talCs (cn ls)) hZn hcn (talCs_one _))
    have HS2 := hide (fun w => tal_store w (talCs (fun _ => 0)) (talCs (atC ls)) hZn hfn (talCs_one _))
    have HMD1 := hide (fun w => tal_made w (cn ls))
    have HMD2 := hide (fun w => tal_made w (atC ls))
    have HBLD := hide (Tryz.builtCode (cn ls))
    unfold TalAt at HMD2 HMD1
    unfold talV at HC HNUM HTOT
    obtain ⟨cs, hcs⟩ : ∃ cs, talCs (cn ls) = cs := ⟨_, rfl⟩
    rw [hcs] at HNUM HTOT HC hcn HS1 HMD1 HBLD
    have HCS := hide hcs
    obtain ⟨fs, hfs⟩ : ∃ fs, talCs (atC ls) = fs := ⟨_, rfl⟩
    have HFS := hide hfs
    rw [hfs] at HNUM hfn HS2 HMD2
    clear hfs hcs hm hms
    generalize talCs (fun _ => 0) = Z at *
    have HSZ := hide (show (Tryz.prog.info? 99).map (·.size) = some cs.length by rw [hcn]; exact Tryz.sizeTal)
    have hmk := run_make_row' (P := Tryz.prog) 63 3 (.int .i64 0) 8 Tryz.underlying63 Tryz.infoInt rfl .i64 .i64 m (by omega) (by omega)
    clear hg hE hM hls harg hn b0
    go_enter Tryz.func40, Tryz.ntmps40
    go_wp2_with fail
    generalize W.alloc (.cells Zc.toArray 80) = wz at *
    refine HC.out.mono ?_
    rintro e w1 ⟨rfl, b1⟩
    have hst1 := HS1.out w1
    have HM1 := hide (HMD1.out w1)
    have HB1 := hide (HB0.out.trans (b1.mono HB0.out.size))
    have HRES1 := hide (show w1.heap[W.heap.size]? = some (.cells Zc.toArray 80 (0, 0)) by rw [b1.block _ HLT0.out]; exact HRES.out)
    have HL1 := hide (show W.heap.size < w1.heap.size from Nat.lt_of_lt_of_le HLT0.out b1.size)
    have HR1 := hide (show (w1.alloc (.cells cs.toArray 99)).rangeAt w1.heap.size 0 cs by have h := TalAt.range (f := cn ls) (by unfold TalAt; rw [HCS.out]; exact HM1.out); rw [HCS.out] at h; exact h)
    clear b1
    go_wp2_with (first
      | (refine wpList_load_mid rfl 99 (Operand.tmp 4) rfl w1.heap.size 0 rfl cs _ HR1.out Tryz.underlying99 rfl HSZ.out ?_))
    clear hst1
    refine (HNUM.out _).mono ?_
    rintro e w3 ⟨rfl, b3⟩
    have hs2 : (w1.alloc (.cells cs.toArray 99)).heap.size = w1.heap.size + 1 := by show (w1.heap.push _).size = _; simp
    have HM3 := hide (show w3.heap[w1.heap.size]? = some (.cells cs.toArray 99 (0, 0)) by rw [b3.block _ (by omega)]; exact HM1.out)
    have HRES3 := hide (show w3.heap[W.heap.size]? = some (.cells Zc.toArray 80 (0, 0)) by
      have h1 := HL1.out
      rw [b3.block _ (by omega), heap_alloc_old _ _ _ h1]
      exact HRES1.out)
    have HB3 := hide (show Below W.heap.size W w3 from (HB1.out.alloc HB1.out.size _).trans (b3.mono (by have := HB1.out.size; omega)))
    have HL3 := hide (show w1.heap.size < w3.heap.size by have := b3.size; omega)
    clear b3 hs2 HR1 HM1
    generalize w1.heap.size = PC at *
    have hst2 := HS2.out w3
    have HM4 := hide (HMD2.out w3)
    have HB4 := hide (HB3.out.alloc HB3.out.size (.cells fs.toArray 99))
    have HR4 := hide (show (w3.alloc (.cells fs.toArray 99)).rangeAt PC 0 cs by
      have h := TalAt.range (w := w3.alloc (.cells fs.toArray 99)) (P := PC) (f := cn ls) (TalAt.alloc (by unfold TalAt; rw [HCS.out]; exact HM3.out) _)
      rw [HCS.out] at h
      exact h)
    go_wp2_with (first
      | (refine wpList_load_mid rfl 99 (Operand.tmp 4) rfl PC 0 rfl cs _ HR4.out Tryz.underlying99 rfl HSZ.out ?_))
    clear hst2
    refine (HTOT.out _).mono ?_
    rintro e w5 ⟨rfl, b5⟩
    have hs4 : (w3.alloc (.cells fs.toArray 99)).heap.size = w3.heap.size + 1 := by show (w3.heap.push _).size = _; simp
    have HL0 := hide (show FillL (w5.alloc (.cells (madeCells #[.int .i64 0] m) 3)) W w3 w3.heap.size w5.heap.size m (nxtF (atC ls) ls 0) (symW ls 0) by
      have h5 := b5.size
      have bb : Below w3.heap.size w3 w5 := ((Below.refl _ w3).alloc (Nat.le_refl _) _).trans (b5.mono (by omega))
      refine ⟨?_, ?_, bb.alloc (by omega) _, HB3.out, HB3.out.size, Nat.le_refl _, by omega⟩
      · have h := HM4.out
        rw [← HFS.out] at h b5
        exact ((TalAt.below (f := atC ls) h b5 (by rw [HFS.out]; omega)).alloc _).congr (fun i _ => (nxtF_begin (atC ls) ls i).symm)
      · have h := own_made0 w5 m (by omega)
        rw [symW_begin, HMM.out]
        exact ownsRow_base h (by have := HB3.out.size; omega))
    have HL0B := hide (show PC < w3.heap.size from HL3.out)
    clear b5 hs4 HM4 HR4
    go_wp2
    clear hmk
    generalize w5.alloc (.cells (madeCells #[.int .i64 0] m) 3) = w6 at *
    generalize w5.heap.size = O at *
    obtain ⟨PN, hPN⟩ : ∃ PN, w3.heap.size = PN := ⟨_, rfl⟩
    (try simp only [hPN] at HL0)
    (try simp only [hPN] at HL0B)
    (try simp only [hPN])
    have HPN := hide hPN
    clear hPN
    go_loopw [26] (fun iv wr => ∃ j : Nat, j ≤ n ∧ iv = .int .i64 (j : Nat) ∧ Hid (FillL wr W w3 PN O m (nxtF (atC ls) ls j) (symW ls j))) (fun iv _ => n - (intOf iv).toNat)
    case atStart => exact ⟨0, Nat.zero_le _, rfl, HL0⟩
    case round =>
      clear HL0
      obtain ⟨j, hj, rfl, HL⟩ := hrel
      by_cases hlt : j < n
      · have hjl : j < ls.length := by rw [HLL.out]; exact hlt
        obtain ⟨b, off, rfl, hb, hc⟩ := HARG.out j _ (getD_some ls j hjl)
        have _c := (HL.out.bel.cell (p := ⟨b, off + j, none⟩) hb).trans hc
        have zj : (j : Int) < n := by omega
        by_cases h0 : ls.getD j 0 = 0
        · have HL2 := hide (HL.out.congr (fun i _ => (nxtF_skip (atC ls) ls j hjl h0 i).symm))
          have HSK := hide (symW_skip ls j h0)
          rw [← HSK.out] at HL2
          rw [h0] at _c
          clear h0 hc HSK
          go_wp2
          go_roundw
          case rel => exact ⟨j + 1, hlt, by go_num, HL2⟩
          case measure => exact meas_oneW j n hlt
        · have hle : ls.getD j 0 ≤ 15 := HM.out.each _ (List.mem_of_getElem? (getD_some ls j hjl))
          have hq := nxtF_at (atC ls) ls j h0
          have hpl := symTo_place ls j hjl h0 hle
          rw [← hq] at hpl
          have hqm := (List.getElem?_eq_some_iff.1 hpl).1
          rw [HMM.out] at hqm
          have c1 := HL.out.nxt.cell (ls.getD j 0) (by omega)
          have HP := HL.out.put (nxtF (atC ls) ls j (ls.getD j 0)) j
          have c3 := HP.nxt.cell (ls.getD j 0) (by omega)
          have f3 := HP.nxt.frozen (ls.getD j 0)
          have HI := hide ((HP.inc (ls.getD j 0) (nxtF (atC ls) ls j (ls.getD j 0) + 1) (by omega)).congr (fun i _ => nxtF_step (atC ls) ls j hjl h0 i))
          obtain ⟨c2, f2⟩ := HL.out.cell (by rw [symW_length]; exact HMM.out) (symW_get ls j _ hpl)
          rw [symW_set ls j _ hpl] at HI
          have z0 : (0 : Int) < (ls.getD j 0 : Nat) := by omega
          have z00 : (0 : Int) ≤ (ls.getD j 0 : Nat) := by omega
          have z16 : ((ls.getD j 0 : Nat) : Int) < 16 := by omega
          clear hq hpl HP h0 hle hc hjl
          generalize nxtF (atC ls) ls j (ls.getD j 0) = q at *
          generalize ls.getD j 0 = x at *
          have zq : (q : Int) < m := by omega
          rw [show ((q + 1 : Nat) : Int) = (q : Int) + 1 from by omega] at HI
          go_wp2
          go_roundw
          case rel => exact ⟨j + 1, hlt, by go_num, HI⟩
          case measure => exact meas_oneW j n hlt
      · have hje : j = n := by omega
        subst hje
        have hF := symW_end ls
        rw [HLL.out] at hF
        have hown := HL.out.own
        rw [hF] at hown
        have HBL := hide HL.out.bel
        have hone := codeCs_one (cn ls) (.slice (some ⟨O, 0, none⟩) m m) rfl
        have hlen := codeCs_length (cn ls) (.slice (some ⟨O, 0, none⟩) m m)
        have hres : wr.heap[W.heap.size]? = some (.cells Zc.toArray 80 (0, 0)) := by
          rw [HL.out.old.block _ (by have := HB3.out.size; have := HL0B.out; have := HL1.out; omega)]
          exact HRES3.out
        have HTC := hide (show TalAt wr PC (cn ls) by unfold TalAt; rw [HL.out.old.block _ HL0B.out, HCS.out]; exact HM3.out)
        have HRC := hide (show wr.rangeAt PC 0 cs by have h := HTC.out.range; rw [HCS.out] at h; exact h)
        have hth := there_cells hres
        rw [hZcn] at hth
        have HBD := hide (HBLD.out (some ⟨O, 0, none⟩) m m)
        have hst := cells_store (P := Tryz.prog) (w := wr) (p := W.heap.size) (cs := codeCs (cn ls) (.slice (some ⟨O, 0, none⟩) m m)) (by rw [hlen]; exact hth) hone
        have HLD := hide (code_load (World.rangeAt_setCells_same wr W.heap.size 0 (codeCs (cn ls) (.slice (some ⟨O, 0, none⟩) m m)) (by rw [hlen]; exact hth)) hlen)
        have HBF := hide (below_cells HBL.out W.heap.size 0 (Nat.le_refl _) (codeCs (cn ls) (.slice (some ⟨O, 0, none⟩) m m)))
        have HOF := hide (own_cells hown W.heap.size 0 (by intro e; have e2 : O = W.heap.size := (by simpa [Value.ownBlock] using e); have := HL.out.lt; have := HL.out.lo; omega) (codeCs (cn ls) (.slice (some ⟨O, 0, none⟩) m m)))
        have HCV := hide (show codeV (cn ls) (.slice (some ⟨O, 0, none⟩) m m) = .agg (codeCs (cn ls) (.slice (some ⟨O, 0, none⟩) m m)).toArray from rfl)
        clear hF hown hone hres hth
        generalize codeCs (cn ls) (.slice (some ⟨O, 0, none⟩) m m) = ks at *
        go_wp2_with (first
          | (refine wpList_load_mid rfl 99 (Operand.tmp 4) rfl PC 0 rfl cs _ HRC.out Tryz.underlying99 rfl HSZ.out ?_)
          | (refine wpList_built2 rfl 80 0 1 (Operand.tmp 45) (Operand.tmp 46) rfl (.agg cs.toArray) (.slice (some ⟨O, 0, none⟩) m m) rfl rfl ks.toArray HBD.out ?_))
        (try simp only [Exit.inBlock, Exit.then])
        refine bodyPost_ret (v := .tuple #[.agg ks.toArray, .int .i64 0]) ?_ rfl ⟨_, rfl, .inr ⟨HG.out, .slice (some ⟨O, 0, none⟩) m m, by rw [HLS.out, HCV.out], by rw [HLS.out, HMM.out]; exact HOF.out⟩, HBF.out⟩
        simp [results, Tryz.results40, asAddr, HLD.out]
  · rw [cntF_bad hg, chkI_bad hg] at HC
    have HG := hide (show goodB l = false by cases h : goodB l with | false => rfl | true => exact absurd h hg)
    have HS := hide (fun w => tal_store w (talCs (fun _ => 0)) (talCs (fun _ => 0)) hZn hZn (talCs_one _))
    unfold talV at HC
    generalize talCs (fun _ => 0) = Z at *
    clear harg hg b0
    go_enter Tryz.func40, Tryz.ntmps40
    go_wp2_with fail
    generalize W.alloc (.cells Zc.toArray 80) = wz at *
    refine HC.out.mono ?_
    rintro e w1 ⟨rfl, b1⟩
    have hst1 := HS.out w1
    have HB1 := hide (HB0.out.trans (b1.mono HB0.out.size))
    have HRES1 := hide (show w1.heap[W.heap.size]? = some (.cells Zc.toArray 80 (0, 0)) by rw [b1.block _ HLT0.out]; exact HRES.out)
    have HL1 := hide (show W.heap.size < w1.heap.size from Nat.lt_of_lt_of_le HLT0.out b1.size)
    have HB2 := hide (HB1.out.alloc HB1.out.size (.cells Z.toArray 99))
    have hres : (w1.alloc (.cells Z.toArray 99)).heap[W.heap.size]? = some (.cells Zc.toArray 80 (0, 0)) := by rw [heap_alloc_old _ _ _ HL1.out]; exact HRES1.out
    have hth := there_cells hres
    rw [hZcn] at hth
    have hst := cells_store (P := Tryz.prog) (w := w1.alloc (.cells Z.toArray 99)) (p := W.heap.size) (cs := Zc) (by rw [hZcn]; exact hth) hZc1
    have HLD := hide (code_load (World.rangeAt_setCells_same (w1.alloc (.cells Z.toArray 99)) W.heap.size 0 Zc (by rw [hZcn]; exact hth)) hZcn)
    have HBF := hide (below_cells HB2.out W.heap.size 0 (Nat.le_refl _) Zc)
    clear b1 hth hres
    go_wp2
    (try simp only [Exit.inBlock, Exit.then])
    refine bodyPost_ret (v := .tuple #[.agg Zc.toArray, .int .i64 4]) ?_ rfl ⟨_, rfl, .inl ⟨HG.out, by unfold codeV; rw [HZC.out]⟩, HBF.out⟩
    simp [results, Tryz.results40, asAddr, HLD.out]

end Go.Proofs.YtaalbaiglkadlaaGreat

/- Package canon: Read. -/
namespace Go.Proofs.YtaalbaiglkadlaaGreat
open Go.RowKit Go.Lib

set_option maxRecDepth 20000 in
set_option maxHeartbeats 1000000 in
theorem symbol_any (cs : List Value) (a : Option Addr) (m c D y : Nat) (W : World) (hlast : cs[16]? = some (.slice a m c)) (hD : D < m) (hc : ∃ b off, a = some ⟨b, off, none⟩ ∧ b < W.heap.size ∧ W.cell? ⟨b, off + D, none⟩ = some (.int .i64 (y : Int))) :
    Calls Tryz.prog 93 #[.agg cs.toArray, .int .i64 (D : Nat)] W fun e w' => e = .returned (.int .i64 (y : Int)) ∧ Below W.heap.size W w' := by
  obtain ⟨b, off, rfl, hb, hc2⟩ := hc
  have B := hide ((Below.refl _ W).alloc (Nat.le_refl _) (.cells cs.toArray 80))
  have _c1 : (W.alloc (.cells cs.toArray 80)).cell? ⟨W.heap.size, 16, none⟩ = some (.slice (some ⟨b, off, none⟩) m c) := by
    rw [cell_of_row _ _ 16 _ _ (0, 0) (heap_alloc_at W _ rfl), List.getElem?_toArray]
    exact hlast
  have _c2 := (B.out.cell (p := ⟨b, off + D, none⟩) hb).trans hc2
  have z0 : decide ((D : Int) < 0) = false := decide_eq_false (by omega)
  have z1 : (D : Int) < m := by omega
  clear hlast hb hc2
  go_enter Tryz.func93, Tryz.ntmps93
  go_wp2
  go_ret
  exact ⟨rfl, B.out⟩

set_option maxRecDepth 20000 in
set_option maxHeartbeats 4000000 in
theorem read_any (ls : List Nat) (a : Option Addr) (c m : Nat) (p : Nat) (s : ByteArray) (i : Nat) (W : World) (hm : (symTo ls 16).length = m) (harg : ArgN W a (symTo ls 16)) (hne : ∀ b off, a = some ⟨b, off, none⟩ → b ≠ p) (hls : ls.length ≤ 1000)
    (h : RdAt 43 W p s i false) (hi : i ≤ 8 * s.size) (hs : s.size ≤ 1000000) :
    Calls Tryz.prog 74 #[.pointer (some ⟨p, 0, none⟩), codeV (cn ls) (.slice a m c)] W fun e w' => ∃ x u bad, e = .returned (.int .i64 x) ∧ Hid (ReadRes ls (bitsF s i) (8 * s.size - i) x u bad) ∧ Hid (RdAt 43 w' p s (i + u) bad) ∧ Hid (Turn p W w') := by
  have hpW : p < W.heap.size := by unfold RdAt at h; exact (Array.getElem?_eq_some_iff.1 h).1
  have HGET := hide (codeCs_get (cn ls) (.slice a m c))
  have HLAST := hide (codeCs_last (cn ls) (.slice a m c))
  obtain ⟨cs, hcs⟩ : ∃ cs, codeCs (cn ls) (.slice a m c) = cs := ⟨_, rfl⟩
  have HL0 := hide (show ReadL 43 (W.alloc (.cells cs.toArray 80)) W p W.heap.size s i 0 cs a (symTo ls 16) from ⟨by unfold RdAt at h ⊢; rw [heap_alloc_old _ _ _ hpW]; exact h, heap_alloc_at _ _ rfl, harg.below ((Below.refl W.heap.size W).alloc (Nat.le_refl _) _) (Nat.le_refl _), (Turn.refl p W).alloc _⟩)
  have HM := hide hm
  have HNE := hide hne
  have hQ : W.heap.size ≠ p := by omega
  have HSZ := hide (show (Tryz.prog.info? 80).map (·.size) = some cs.length by rw [← hcs, codeCs_length]; exact Tryz.sizeCode)
  rw [hcs] at HGET HLAST
  unfold codeV
  rw [hcs]
  clear hcs h harg hm hne hpW
  obtain ⟨Q, hQe⟩ : ∃ Q, W.heap.size = Q := ⟨_, rfl⟩
  rw [hQe] at HL0 hQ
  obtain ⟨av, hav⟩ : ∃ av, 8 * s.size - i = av := ⟨_, rfl⟩
  have HAV := hide hav
  rw [hav]
  have hav2 : i + av = 8 * s.size := by omega
  have HAV2 := hide hav2
  clear hav hav2
  go_enter Tryz.func74, Tryz.ntmps74
  go_wp2
  clear hQe
  generalize hw1 : W.alloc (.cells cs.toArray 80) = w1 at *
  clear hw1
  go_loopw [5, 6, 7] (fun cv tv lv wr => ∃ (k A T : Nat), k ≤ 15 ∧ k ≤ av ∧ lv = .int .i64 ((k : Int) + 1) ∧ cv = .int .i64 (A : Int) ∧ tv = .int .i64 (T : Int) ∧ Hid (2 * A + firstC ls (k + 1) = 2 * numH (bitsF s i) k) ∧ Hid (T = atC ls (k + 1)) ∧ Hid (Past ls (bitsF s i) (k + 1)) ∧ Hid (ReadL 43 wr W p Q s i k cs a (symTo ls 16))) (fun _ _ lv _ => 16 - (intOf lv).toNat)
  case atStart => exact ⟨0, 0, 0, by omega, Nat.zero_le _, rfl, rfl, rfl, hide rfl, hide rfl, hide (fun j h1 h2 => by omega), HL0⟩
  case round =>
    clear HL0
    obtain ⟨k, A, T, hk, hka, rfl, rfl, rfl, HA, HT, HP, HL⟩ := hrel
    have hA9 : A ≤ 32768 := by have h1 := numH_lt (bitsF s i) (bitsF_le s i) k; have h2 := pow_small k hk; have := HA.out; omega
    by_cases hlt : k < 15
    · have zk : (k : Int) + 1 ≤ 15 := by omega
      by_cases hav : k < av
      · have HC := hide (rbit_ok p s (i + k) wr HL.out.rd (by have := HAV2.out; omega) (by omega))
        have HB := hide (bitsF_int s i k)
        have hb1 := bitsF_le s i k
        have HN := hide (show numH (bitsF s i) (k + 1) = 2 * numH (bitsF s i) k + bitsF s i k from rfl)
        rw [← HB.out] at HC
        have hT9 : T ≤ 1000 := by have h1 := cn_sum ls (k + 1); have := HT.out; omega
        generalize bitsF s i k = b at *
        go_wp2_with fail
        refine HC.out.mono ?_
        rintro e w2 ⟨rfl, hr2, ho2⟩
        have HL2 := hide (HL.out.next hr2 ho2 hQ HNE.out)
        have _d2 := hr2.c2
        have _e1 := (show w2.cell? ⟨Q, k + 1, none⟩ = some (.int .i64 (cn ls (k + 1) : Nat)) by rw [cell_of_row _ _ _ _ _ (0, 0) HL2.out.box, List.getElem?_toArray]; exact HGET.out (k + 1) (by omega))
        have hn9 := cn_le ls (k + 1)
        have zk0 : (0 : Int) ≤ (k : Int) + 1 := by omega
        have zk16 : (k : Int) + 1 < 16 := by omega
        obtain ⟨n, hn⟩ : ∃ n, cn ls (k + 1) = n := ⟨_, rfl⟩
        have HNN := hide hn
        rw [hn] at _e1 hn9
        obtain ⟨A2, hA2⟩ : ∃ A2, 2 * A + b = A2 := ⟨_, rfl⟩
        have eA : 2 * (A : Int) + (b : Int) = (A2 : Int) := by omega
        have hA2le : A2 ≤ 65537 := by omega
        have HN2 := hide (show A2 + firstC ls (k + 1) = numH (bitsF s i) (k + 1) by rw [HN.out, ← hA2]; have := HA.out; omega)
        clear hr2 ho2 hn hA2
        by_cases hst : A2 < n
        · have HS := hide (show Stops ls (bitsF s i) (k + 1) from ⟨by omega, by omega, HP.out, by rw [HNN.out]; have := HN2.out; omega⟩)
          have hidx := HS.out.idx
          have hsub : numH (bitsF s i) (k + 1) - firstC ls (k + 1) = A2 := by have := HN2.out; omega
          have HSY := hide (show symAt ls (bitsF s i) (k + 1) = (symTo ls 16).getD (T + A2) 0 by unfold symAt; rw [hsub, ← HT.out])
          rw [hsub, ← HT.out] at hidx
          have HCL := hide (HL2.out.arg _ _ (getD_some (symTo ls 16) _ hidx))
          rw [HM.out] at hidx
          have z1 : (A2 : Int) < (n : Int) := by omega
          obtain ⟨D, hD⟩ : ∃ D, T + A2 = D := ⟨_, rfl⟩
          rw [hD] at hidx HCL HSY
          have eD : (T : Int) + (A2 : Int) = (D : Int) := by omega
          generalize (symTo ls 16).getD D 0 = y at *
          have HSB := hide (symbol_any cs a m c D y w2 HLAST.out hidx HCL.out)
          have HRG := hide (show w2.rangeAt Q 0 cs from code_range HL2.out.box)
          clear hD hst hsub
          go_wp2_with (first
            | (refine wpList_load_mid rfl 80 (Operand.tmp 3) rfl Q 0 rfl cs _ HRG.out Tryz.underlying80 rfl HSZ.out ?_))
          refine HSB.out.mono ?_
          rintro e w3 ⟨rfl, b3⟩
          have HRD := hide (show RdAt 43 w3 p s (i + (k + 1)) false by
            have h := HL2.out.rd
            unfold RdAt at h ⊢
            rw [b3.block p (Array.getElem?_eq_some_iff.1 h).1]
            exact h)
          have HTN := hide (HL2.out.turn.trans (show Turn p w2 w3 from ⟨b3.os, b3.tape, b3.output, b3.size, fun k hk _ => b3.block k hk⟩))
          clear b3
          go_wp2
          go_ret
          refine ⟨_, k + 1, false, rfl, hide (.inl ⟨k + 1, HS.out, by omega, by rw [HSY.out], rfl, rfl⟩), HRD, HTN⟩
        · have z1 : ¬ ((A2 : Int) < (n : Int)) := by omega
          have HP2 := hide (HP.out.next (by rw [HNN.out]; have := HN2.out; omega))
          have HA3 := hide (show 2 * (A2 - n) + firstC ls (k + 1 + 1) = 2 * numH (bitsF s i) (k + 1) by
            show _ + 2 * (firstC ls (k + 1) + cn ls (k + 1)) = _
            rw [HNN.out]
            have := HN2.out
            omega)
          have HT2 := hide (show T + n = atC ls (k + 1 + 1) by show _ = atC ls (k + 1) + cn ls (k + 1); rw [← HT.out, HNN.out])
          have es : (A2 : Int) - (n : Int) = ((A2 - n : Nat) : Int) := by omega
          generalize A2 - n = A3 at *
          clear hst
          go_wp2
          go_roundw
          case rel => exact ⟨k + 1, A3, T + n, by omega, by omega, by go_num, rfl, by go_num, HA3, HT2, HP2, HL2⟩
          case measure => exact meas_oneW (k + 1) 16 (by omega)
      · have hke : k = av := by omega
        have HC := hide (rbit_end p s (i + k) wr HL.out.rd (by have := HAV2.out; omega))
        have HKE := hide hke
        have HDEC := hide (show (true : Bool) = decide (av < 15) by simp; omega)
        clear hke
        go_wp2_with fail
        refine HC.out.mono ?_
        rintro e w2 ⟨rfl, hr2, ho2⟩
        have _d2 := hr2.c2
        have HRD := hide hr2
        have HTN := hide (HL.out.turn.trans ho2.turn)
        clear hr2 ho2
        go_wp2
        go_ret
        refine ⟨-1, k, true, rfl, hide (.inr ⟨by rw [← HKE.out, Nat.min_eq_left (by omega)]; exact HP.out, rfl, by rw [← HKE.out, Nat.min_eq_left (by omega)], HDEC.out⟩), HRD, HTN⟩
    · have hke : k = 15 := by omega
      subst hke
      have HDEC := hide (show (false : Bool) = decide (av < 15) by simp; omega)
      go_wp2
      go_ret
      refine ⟨-1, 15, false, rfl, hide (.inr ⟨by rw [Nat.min_eq_right hka]; exact HP.out, rfl, by rw [Nat.min_eq_right hka], HDEC.out⟩), hide HL.out.rd, hide HL.out.turn⟩

end Go.Proofs.YtaalbaiglkadlaaGreat
