/- Piles with the least on top, as plain rows: what one step down, or up, does. Nothing of the program is named here. -/
import Derived.Test.YtihgdlnnfhpdcaaWRef
namespace Go.Proofs.Ytihgdlnnfhpdcaa

/-- Of less weight, or of the same and made before. -/
def ltP (x y : Nat × Int) : Prop := x.1 < y.1 ∨ (x.1 = y.1 ∧ x.2 < y.2)
def ltPB (x y : Nat × Int) : Bool := decide (x.1 < y.1) || (decide (x.1 = y.1) && decide (x.2 < y.2))
theorem ltPB_iff (x y : Nat × Int) : ltPB x y = true ↔ ltP x y := by simp [ltPB, ltP]
theorem ltPB_no (x y : Nat × Int) : ltPB x y = false ↔ ¬ ltP x y := by rw [← ltPB_iff]; simp

theorem nlt_trans {x y z : Nat × Int} (h : ¬ ltP x y) (k : ¬ ltP y z) : ¬ ltP x z := by
  unfold ltP at *
  omega
theorem nlt_of_lt {x y : Nat × Int} (h : ltP x y) : ¬ ltP y x := by
  unfold ltP at *
  omega

/-- The node at a place. -/
def atP (d : List (Nat × Int)) (k : Nat) : Nat × Int := d.getD k (0, 0)

theorem atP_some {d : List (Nat × Int)} {k : Nat} (h : k < d.length) : d[k]? = some (atP d k) := by
  unfold atP
  rw [List.getD_eq_getElem?_getD, List.getElem?_eq_getElem h]
  rfl
theorem atP_of {d : List (Nat × Int)} {k : Nat} {x : Nat × Int} (h : d[k]? = some x) : atP d k = x := by
  unfold atP
  rw [List.getD_eq_getElem?_getD, h]
  rfl

/-- Two change places. -/
def swp (d : List (Nat × Int)) (i j : Nat) : List (Nat × Int) := (d.set i (atP d j)).set j (atP d i)

theorem swp_length (d : List (Nat × Int)) (i j : Nat) : (swp d i j).length = d.length := by simp [swp]

theorem swp_at (d : List (Nat × Int)) (i j k : Nat) (hi : i < d.length) (hj : j < d.length) : atP (swp d i j) k = if k = j then atP d i else if k = i then atP d j else atP d k := by
  have hl := swp_length d i j
  by_cases hk : k < d.length
  · refine atP_of ?_
    unfold swp
    rw [List.getElem?_set]
    by_cases e : j = k
    · rw [if_pos e, if_pos (by simpa using hj), if_pos e.symm]
    · rw [if_neg e, if_neg (fun h => e h.symm), List.getElem?_set]
      by_cases e2 : i = k
      · rw [if_pos e2, if_pos hi, if_pos e2.symm]
      · rw [if_neg e2, if_neg (fun h => e2 h.symm)]
        exact atP_some hk
  · rw [if_neg (by omega), if_neg (by omega)]
    unfold atP
    rw [List.getD_eq_getElem?_getD, List.getD_eq_getElem?_getD, List.getElem?_eq_none (by omega), List.getElem?_eq_none (by omega)]

theorem swp_perm (d : List (Nat × Int)) (i j : Nat) (hi : i < d.length) (hj : j < d.length) : (swp d i j).Perm d := by
  have e1 : atP d i = d[i] := atP_of (List.getElem?_eq_getElem hi)
  have e2 : atP d j = d[j] := atP_of (List.getElem?_eq_getElem hj)
  unfold swp
  rw [e1, e2]
  exact List.set_set_perm hi hj

/-- c lies below k. -/
def Chi (k c : Nat) : Prop := c = 2 * k + 1 ∨ c = 2 * k + 2

/-- From i0 on, none of the first n is less than the one above it. -/
def HpFrom (d : List (Nat × Int)) (i0 n : Nat) : Prop := ∀ k c, i0 ≤ k → Chi k c → c < n → ¬ ltP (atP d c) (atP d k)

/-- So, but for those below i. -/
structure HpBut (d : List (Nat × Int)) (i0 n i : Nat) : Prop where
  but : ∀ k c, i0 ≤ k → k ≠ i → Chi k c → c < n → ¬ ltP (atP d c) (atP d k)
  gr : ∀ k c, i0 ≤ k → Chi k i → Chi i c → c < n → ¬ ltP (atP d c) (atP d k)

theorem HpBut.start {d : List (Nat × Int)} {i0 n : Nat} (h : HpFrom d (i0 + 1) n) : HpBut d i0 n i0 :=
  ⟨fun k c hk hne hc hn => h k c (by omega) hc hn, fun k c hk h1 _ _ => by unfold Chi at h1; omega⟩

theorem HpBut.leaf {d : List (Nat × Int)} {i0 n i : Nat} (h : HpBut d i0 n i) (hi : n ≤ 2 * i + 1) : HpFrom d i0 n := by
  intro k c hk hc hn
  refine h.but k c hk (fun e => ?_) hc hn
  unfold Chi at hc
  omega

/-- The least of those below i. -/
structure LeastChi (d : List (Nat × Int)) (n i j : Nat) : Prop where
  chi : Chi i j
  lt : j < n
  least : ∀ c, Chi i c → c < n → ¬ ltP (atP d c) (atP d j)

theorem LeastChi.one {d : List (Nat × Int)} {n i : Nat} (h : 2 * i + 1 < n) (h2 : n ≤ 2 * i + 2 ∨ ¬ ltP (atP d (2 * i + 2)) (atP d (2 * i + 1))) : LeastChi d n i (2 * i + 1) := by
  refine ⟨.inl rfl, h, fun c hc hn => ?_⟩
  rcases hc with e | e
  · subst e; unfold ltP; omega
  · subst e
    rcases h2 with h2 | h2
    · omega
    · exact h2
theorem LeastChi.two {d : List (Nat × Int)} {n i : Nat} (h : 2 * i + 2 < n) (h2 : ltP (atP d (2 * i + 2)) (atP d (2 * i + 1))) : LeastChi d n i (2 * i + 2) := by
  refine ⟨.inr rfl, h, fun c hc hn => ?_⟩
  rcases hc with e | e
  · subst e; exact nlt_of_lt h2
  · subst e; unfold ltP; omega

theorem HpBut.stop {d : List (Nat × Int)} {i0 n i j : Nat} (h : HpBut d i0 n i) (hj : LeastChi d n i j) (hl : ¬ ltP (atP d j) (atP d i)) : HpFrom d i0 n := by
  intro k c hk hc hn
  by_cases e : k = i
  · subst e
    exact nlt_trans (hj.least c hc hn) hl
  · exact h.but k c hk e hc hn

theorem HpBut.step {d : List (Nat × Int)} {i0 n i j : Nat} (h : HpBut d i0 n i) (hi : i0 ≤ i) (hj : LeastChi d n i j) (hl : ltP (atP d j) (atP d i)) (hn : n ≤ d.length) : HpBut (swp d i j) i0 n j := by
  have hjn := hj.lt
  have hij : i < j := by have := hj.chi; unfold Chi at this; omega
  have A := fun k => swp_at d i j k (by omega) (by omega)
  refine ⟨fun k c hk hne hc hcn => ?_, fun k c hk h1 h2 hcn => ?_⟩
  · rw [A k, A c, if_neg hne]
    by_cases e : k = i
    · rw [if_pos e]
      subst e
      by_cases e2 : c = j
      · rw [if_pos e2]
        exact nlt_of_lt hl
      · rw [if_neg e2, if_neg (by unfold Chi at hc; omega)]
        exact hj.least c hc hcn
    · rw [if_neg e]
      by_cases e2 : c = j
      · exfalso
        have := hj.chi
        unfold Chi at hc this
        omega
      · rw [if_neg e2]
        by_cases e3 : c = i
        · rw [if_pos e3]
          subst e3
          exact h.gr k j hk hc hj.chi hjn
        · rw [if_neg e3]
          exact h.but k c hk e hc hcn
  · have e : k = i := by
      have := hj.chi
      unfold Chi at h1 this
      omega
    subst e
    have h2' := h2
    unfold Chi at h2'
    have ek : atP (swp d k j) k = atP d j := by rw [A k, if_neg (by omega), if_pos rfl]
    have ec : atP (swp d k j) c = atP d c := by rw [A c, if_neg (by omega), if_neg (by omega)]
    rw [ek, ec]
    exact h.but j c (by omega) (by omega) h2 hcn

/-- So, but for j and the one above it. -/
structure HpUp (d : List (Nat × Int)) (n j : Nat) : Prop where
  but : ∀ k c, Chi k c → c < n → c ≠ j → ¬ ltP (atP d c) (atP d k)
  gr : ∀ k c, Chi k j → Chi j c → c < n → ¬ ltP (atP d c) (atP d k)

theorem HpUp.top {d : List (Nat × Int)} {n : Nat} (h : HpUp d n 0) : HpFrom d 0 n := by
  intro k c _ hc hn
  refine h.but k c hc hn (fun e => ?_)
  unfold Chi at hc
  omega
theorem HpUp.stop {d : List (Nat × Int)} {n i j : Nat} (h : HpUp d n j) (hi : Chi i j) (hl : ¬ ltP (atP d j) (atP d i)) : HpFrom d 0 n := by
  intro k c _ hc hn
  by_cases e : c = j
  · subst e
    have e2 : k = i := by unfold Chi at hc hi; omega
    subst e2
    exact hl
  · exact h.but k c hc hn e
theorem HpUp.step {d : List (Nat × Int)} {n i j : Nat} (h : HpUp d n j) (hi : Chi i j) (hj : j < n) (hl : ltP (atP d j) (atP d i)) (hn : n ≤ d.length) : HpUp (swp d i j) n i := by
  have hij : i < j := by unfold Chi at hi; omega
  have A := fun k => swp_at d i j k (by omega) (by omega)
  refine ⟨fun k c hc hcn hne => ?_, fun k c h1 h2 hcn => ?_⟩
  · rw [A k, A c]
    by_cases e : c = j
    · rw [if_pos e]
      subst e
      have e2 : k = i := by unfold Chi at hc hi; omega
      subst e2
      rw [if_neg (by omega), if_pos rfl]
      exact nlt_of_lt hl
    · rw [if_neg e, if_neg hne]
      by_cases e2 : k = j
      · rw [if_pos e2]
        subst e2
        exact h.gr i c hi hc hcn
      · rw [if_neg e2]
        by_cases e3 : k = i
        · rw [if_pos e3]
          subst e3
          exact nlt_trans (h.but k c hc hcn e) (nlt_of_lt hl)
        · rw [if_neg e3]
          exact h.but k c hc hcn e
  · have ek : atP (swp d i j) k = atP d k := by rw [A k, if_neg (by unfold Chi at h1; omega), if_neg (by unfold Chi at h1; omega)]
    rw [ek, A c]
    have hki : ¬ ltP (atP d i) (atP d k) := h.but k i h1 (by omega) (by omega)
    by_cases e : c = j
    · rw [if_pos e]
      exact hki
    · rw [if_neg e, if_neg (by unfold Chi at h2; omega)]
      exact nlt_trans (h.but i c h2 hcn e) hki

theorem HpFrom.least {d : List (Nat × Int)} {n : Nat} (h : HpFrom d 0 n) : ∀ k, k < n → ¬ ltP (atP d k) (atP d 0) := by
  intro k
  induction k using Nat.strongRecOn with
  | ind k ih =>
    intro hk
    by_cases e : k = 0
    · subst e; unfold ltP; omega
    · have hc : Chi ((k - 1) / 2) k := by unfold Chi; omega
      exact nlt_trans (h _ k (Nat.zero_le _) hc hk) (ih _ (by omega) (by omega))

theorem HpFrom.half (d : List (Nat × Int)) (n : Nat) : HpFrom d (n / 2) n := by
  intro k c hk hc hn
  unfold Chi at hc
  omega

/-- Behind a change of the top and the last. -/
theorem HpFrom.popped {d : List (Nat × Int)} {n : Nat} (h : HpFrom d 0 (n + 1)) (hn : n < d.length) : HpFrom (swp d 0 n) 1 n := by
  intro k c hk hc hcn
  rw [swp_at d 0 n k (by omega) hn, swp_at d 0 n c (by omega) hn]
  have hc' := hc
  unfold Chi at hc'
  rw [if_neg (by omega), if_neg (by omega), if_neg (by omega), if_neg (by omega)]
  exact h k c (Nat.zero_le _) hc (by omega)

theorem atP_append_left {d : List (Nat × Int)} {x : Nat × Int} {k : Nat} (h : k < d.length) : atP (d ++ [x]) k = atP d k := by
  refine atP_of ?_
  rw [List.getElem?_append_left h]
  exact atP_some h

/-- One more at the end. -/
theorem HpFrom.pushed {d : List (Nat × Int)} (h : HpFrom d 0 d.length) (x : Nat × Int) : HpUp (d ++ [x]) (d.length + 1) d.length := by
  refine ⟨fun k c hc hn hne => ?_, fun k c h1 h2 hn => ?_⟩
  · have hc' := hc
    unfold Chi at hc'
    rw [atP_append_left (by omega), atP_append_left (by omega)]
    exact h k c (Nat.zero_le _) hc (by omega)
  · unfold Chi at h2
    omega

/-- The first n are one way or the other the same. -/
structure Kept (n : Nat) (d d' : List (Nat × Int)) : Prop where
  perm : d'.Perm d
  rest : ∀ k, n ≤ k → atP d' k = atP d k
theorem Kept.refl (n : Nat) (d : List (Nat × Int)) : Kept n d d := ⟨List.Perm.refl _, fun _ _ => rfl⟩
theorem Kept.trans {n : Nat} {a b c : List (Nat × Int)} (h : Kept n a b) (k : Kept n b c) : Kept n a c := ⟨k.perm.trans h.perm, fun i hi => (k.rest i hi).trans (h.rest i hi)⟩
theorem Kept.swp {n : Nat} {d : List (Nat × Int)} {i j : Nat} (hi : i < n) (hj : j < n) (hn : n ≤ d.length) : Kept n d (swp d i j) :=
  ⟨swp_perm d i j (by omega) (by omega), fun k hk => by rw [swp_at d i j k (by omega) (by omega), if_neg (by omega), if_neg (by omega)]⟩
theorem Kept.len {n : Nat} {a b : List (Nat × Int)} (h : Kept n a b) : b.length = a.length := h.perm.length_eq

end Go.Proofs.Ytihgdlnnfhpdcaa
