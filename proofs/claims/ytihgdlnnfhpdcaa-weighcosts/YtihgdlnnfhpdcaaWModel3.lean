/- The lengths of a list of weights, by the plain process; what holds of them; and with a limit: the weights are halved until none is longer. -/
import Derived.Test.YtihgdlnnfhpdcaaWModel2
namespace Go.Proofs.Ytihgdlnnfhpdcaa

/-- The symbols that stand, as nodes, in order; i the first one's number, n that of its node. -/
def leaves : List Nat → Nat → Nat → List Gr
  | [], _, _ => []
  | w :: ws, i, n => if w = 0 then leaves ws (i + 1) n else ⟨w, n, [i]⟩ :: leaves ws (i + 1) (n + 1)

/-- Those that stand, by number. -/
def stand : List Nat → Nat → List Nat
  | [], _ => []
  | w :: ws, i => if w = 0 then stand ws (i + 1) else i :: stand ws (i + 1)

theorem leaves_syms (ws : List Nat) : ∀ i n, symsOf (leaves ws i n) = stand ws i := by
  induction ws with
  | nil => intro i n; rfl
  | cons w ws ih =>
    intro i n
    unfold leaves stand
    split
    · exact ih _ _
    · have := ih (i + 1) (n + 1)
      simp only [symsOf] at this ⊢
      simp [this]

theorem leaves_length (ws : List Nat) : ∀ i n, (leaves ws i n).length = (stand ws i).length := by
  induction ws with
  | nil => intro i n; rfl
  | cons w ws ih =>
    intro i n
    unfold leaves stand
    split
    · exact ih _ _
    · simp only [List.length_cons, ih]

theorem stand_mem (ws : List Nat) : ∀ i s, s ∈ stand ws i ↔ i ≤ s ∧ s < i + ws.length ∧ ws.getD (s - i) 0 ≠ 0 := by
  induction ws with
  | nil => intro i s; simp [stand]
  | cons w ws ih =>
    intro i s
    have hg : ∀ s, i + 1 ≤ s → (w :: ws).getD (s - i) 0 = ws.getD (s - (i + 1)) 0 := by
      intro s hs
      obtain ⟨t, rfl⟩ : ∃ t, s = i + 1 + t := ⟨s - (i + 1), by omega⟩
      rw [show i + 1 + t - i = t + 1 by omega, show i + 1 + t - (i + 1) = t by omega, List.getD_cons_succ]
    unfold stand
    split
    · rename_i hw
      rw [ih, List.length_cons]
      constructor
      · rintro ⟨h1, h2, h3⟩
        exact ⟨by omega, by omega, by rw [hg s h1]; exact h3⟩
      · rintro ⟨h1, h2, h3⟩
        have hne : s ≠ i := by
          intro e
          subst e
          rw [Nat.sub_self, List.getD_cons_zero] at h3
          exact h3 hw
        exact ⟨by omega, by omega, by rw [← hg s (by omega)]; exact h3⟩
    · rename_i hw
      rw [List.mem_cons, ih, List.length_cons]
      constructor
      · rintro (e | ⟨h1, h2, h3⟩)
        · subst e
          exact ⟨by omega, by omega, by rw [Nat.sub_self, List.getD_cons_zero]; exact hw⟩
        · exact ⟨by omega, by omega, by rw [hg s h1]; exact h3⟩
      · rintro ⟨h1, h2, h3⟩
        by_cases e : s = i
        · exact .inl e
        · exact .inr ⟨by omega, by omega, by rw [← hg s (by omega)]; exact h3⟩

theorem stand_nodup (ws : List Nat) : ∀ i, (stand ws i).Nodup := by
  induction ws with
  | nil => intro i; exact List.nodup_nil
  | cons w ws ih =>
    intro i
    unfold stand
    split
    · exact ih _
    · refine List.nodup_cons.2 ⟨fun h => ?_, ih _⟩
      have := (stand_mem ws (i + 1) i).1 h
      omega

theorem leaves_mem (ws : List Nat) : ∀ i n g, g ∈ leaves ws i n → n ≤ g.id ∧ g.id < n + (stand ws i).length ∧ 1 ≤ g.w ∧ ∃ s, g.ss = [s] ∧ i ≤ s ∧ g.w = ws.getD (s - i) 0 := by
  induction ws with
  | nil => intro i n g hg; cases hg
  | cons w ws ih =>
    intro i n g hg
    have hgd : ∀ s, i + 1 ≤ s → (w :: ws).getD (s - i) 0 = ws.getD (s - (i + 1)) 0 := by
      intro s hs
      obtain ⟨t, rfl⟩ : ∃ t, s = i + 1 + t := ⟨s - (i + 1), by omega⟩
      rw [show i + 1 + t - i = t + 1 by omega, show i + 1 + t - (i + 1) = t by omega, List.getD_cons_succ]
    unfold leaves at hg
    unfold stand
    split at hg
    · rename_i hw
      rw [if_pos hw]
      obtain ⟨h1, h2, h3, s, h4, h5, h6⟩ := ih _ _ g hg
      exact ⟨h1, h2, h3, s, h4, by omega, by rw [hgd s h5]; exact h6⟩
    · rename_i hw
      rw [if_neg hw, List.length_cons]
      rcases List.mem_cons.1 hg with e | e
      · subst e
        exact ⟨Nat.le_refl _, by show n < _; omega, by show 1 ≤ w; omega, i, rfl, Nat.le_refl _, by rw [Nat.sub_self, List.getD_cons_zero]⟩
      · obtain ⟨h1, h2, h3, s, h4, h5, h6⟩ := ih _ _ g e
        exact ⟨by omega, by omega, h3, s, h4, by omega, by rw [hgd s h5]; exact h6⟩

/-- Sorted. -/
def sorted (l : List Gr) : List Gr := l.foldr ins []

theorem sorted_perm (l : List Gr) : (sorted l).Perm l := by
  induction l with
  | nil => exact List.Perm.refl _
  | cons x l ih => exact (ins_perm x _).trans (ih.cons x)

theorem sorted_ord (l : List Gr) (h : l.Pairwise fun x y => x.id ≠ y.id) : Ord (sorted l) := by
  induction l with
  | nil => exact List.Pairwise.nil
  | cons x l ih =>
    obtain ⟨h1, h2⟩ := List.pairwise_cons.1 h
    exact ins_ord x _ (ih h2) fun y hy => (h1 y ((sorted_perm l).mem_iff.1 hy)).symm

theorem leaves_ids (ws : List Nat) : ∀ i n, (leaves ws i n).Pairwise fun x y => x.id ≠ y.id := by
  induction ws with
  | nil => intro i n; exact List.Pairwise.nil
  | cons w ws ih =>
    intro i n
    unfold leaves
    split
    · exact ih _ _
    · refine List.pairwise_cons.2 ⟨fun y hy => ?_, ih _ _⟩
      have := (leaves_mem ws _ _ y hy).1
      show n ≠ y.id
      omega

/-- What is left at the beginning. -/
def live0 (ws : List Nat) : List Gr := sorted (leaves ws 0 0)
def cnt (ws : List Nat) : Nat := (stand ws 0).length

theorem live0_perm (ws : List Nat) : (live0 ws).Perm (leaves ws 0 0) := sorted_perm _
theorem live0_length (ws : List Nat) : (live0 ws).length = cnt ws := by rw [(live0_perm ws).length_eq, leaves_length]; rfl
theorem live0_st (ws : List Nat) : St (live0 ws) (cnt ws) := by
  refine ⟨sorted_ord _ (leaves_ids ws 0 0), fun g hg => ?_⟩
  have := (leaves_mem ws 0 0 g ((live0_perm ws).mem_iff.1 hg)).2.1
  unfold cnt
  omega
theorem live0_syms (ws : List Nat) : (symsOf (live0 ws)).Perm (stand ws 0) := by rw [← leaves_syms ws 0 0]; exact symsOf_perm (live0_perm ws)
theorem live0_nodup (ws : List Nat) : (symsOf (live0 ws)).Nodup := (live0_syms ws).nodup_iff.2 (stand_nodup ws 0)
theorem live0_mem (ws : List Nat) (g : Gr) (hg : g ∈ live0 ws) : 1 ≤ g.w ∧ ∃ s, g.ss = [s] ∧ g.w = ws.getD s 0 := by
  obtain ⟨_, _, h3, s, h4, _, h6⟩ := leaves_mem ws 0 0 g ((live0_perm ws).mem_iff.1 hg)
  exact ⟨h3, s, h4, by simpa using h6⟩

/-- How deep each lies. -/
def dep (ws : List Nat) : Nat → Nat := huff (cnt ws - 1) (live0 ws) (cnt ws) fun _ => 0

/-- The lengths. -/
def lenF (ws : List Nat) (i : Nat) : Nat := if ws.getD i 0 = 0 then 0 else if cnt ws = 1 then 1 else dep ws i
def lens (ws : List Nat) : List Nat := (List.range ws.length).map (lenF ws)

theorem lens_length (ws : List Nat) : (lens ws).length = ws.length := by simp [lens]

theorem stand0 (ws : List Nat) (s : Nat) : s ∈ stand ws 0 ↔ s < ws.length ∧ ws.getD s 0 ≠ 0 := by
  rw [stand_mem]
  simp

theorem lenF_stand (ws : List Nat) (h : 2 ≤ cnt ws) (s : Nat) (hs : s ∈ stand ws 0) : lenF ws s = dep ws s := by
  unfold lenF
  rw [if_neg ((stand0 ws s).1 hs).2, if_neg (by omega)]

theorem map_lenF (ws : List Nat) (h : 2 ≤ cnt ws) : (stand ws 0).map (lenF ws) = (stand ws 0).map (dep ws) := List.map_congr_left fun s hs => lenF_stand ws h s hs

/-- THE CODE IS FULL. -/
theorem lens_full (ws : List Nat) (h : 2 ≤ cnt ws) (D : Nat) (hD : ∀ s ∈ stand ws 0, lenF ws s ≤ D) : kraft D ((stand ws 0).map (lenF ws)) = 2 ^ D := by
  obtain ⟨g, hp, hf⟩ := huff_full (cnt ws - 1) (live0 ws) (cnt ws) (fun _ => 0) (live0_st ws) (by rw [live0_length]; omega) (live0_nodup ws) (by
    intro g hg
    obtain ⟨_, s, hs, _⟩ := live0_mem ws g hg
    refine ⟨by rw [hs]; simp, fun D _ => ?_⟩
    rw [hs]
    simp [kraft])
  have hp2 := hp.trans (live0_syms ws)
  rw [map_lenF ws h, ← kraft_perm D (hp2.map (dep ws))]
  refine hf D fun s hs => ?_
  have hm := hp2.mem_iff.1 hs
  have h2 := hD s hm
  rw [lenF_stand ws h s hm] at h2
  exact h2

theorem mem_le_sum (l : List Nat) (x : Nat) (h : x ∈ l) : x ≤ l.sum := by
  induction l with
  | nil => cases h
  | cons y l ih =>
    rw [List.sum_cons]
    rcases List.mem_cons.1 h with e | e
    · omega
    · have := ih e; omega

theorem kraft_pos (D : Nat) (l : List Nat) (h : l ≠ []) : 0 < kraft D l := by
  cases l with
  | nil => exact absurd rfl h
  | cons x l =>
    have : 0 < 2 ^ (D - x) := Nat.pow_pos (by decide)
    show 0 < 2 ^ (D - x) + _
    omega

/-- None that stands has length 0. -/
theorem lens_pos (ws : List Nat) (h : 2 ≤ cnt ws) (s : Nat) (hs : s ∈ stand ws 0) : 1 ≤ lenF ws s := by
  refine Classical.byContradiction fun hn => ?_
  have h0 : lenF ws s = 0 := by omega
  have hf := lens_full ws h ((stand ws 0).map (lenF ws)).sum fun t ht => mem_le_sum _ _ (List.mem_map.2 ⟨t, ht, rfl⟩)
  generalize ((stand ws 0).map (lenF ws)).sum = D at hf
  have hp := List.perm_cons_erase hs
  have hl : ((stand ws 0).erase s).length + 1 = cnt ws := by
    have := hp.length_eq
    rw [List.length_cons] at this
    exact this.symm
  generalize (stand ws 0).erase s = r at hp hl
  rw [kraft_perm D (hp.map (lenF ws)), List.map_cons, h0] at hf
  have hne : r.map (lenF ws) ≠ [] := by
    intro e
    have : r = [] := List.map_eq_nil_iff.1 e
    rw [this] at hl
    simp at hl
    omega
  have := kraft_pos D _ hne
  simp only [kraft, Nat.sub_zero] at hf
  omega

theorem leaves_sum (ws : List Nat) : ∀ i n, ((leaves ws i n).map (·.w)).sum = ws.sum := by
  induction ws with
  | nil => intro i n; rfl
  | cons w ws ih =>
    intro i n
    unfold leaves
    split
    · rename_i hw
      rw [ih, List.sum_cons, hw, Nat.zero_add]
    · rw [List.map_cons, List.sum_cons, List.sum_cons, ih]

theorem lenF_le (ws : List Nat) (m : Nat) (hm : 1 ≤ m) (h : 2 ≤ cnt ws → ∀ s ∈ stand ws 0, dep ws s ≤ m) (s : Nat) : lenF ws s ≤ m := by
  unfold lenF
  split
  · omega
  · rename_i hw
    split
    · omega
    · rename_i hc
      have hs : s ∈ stand ws 0 := by
        rw [stand0]
        refine ⟨?_, hw⟩
        refine Classical.byContradiction fun hn => hw ?_
        rw [List.getD_eq_getElem?_getD, List.getElem?_eq_none (by omega)]
        rfl
      have : 0 < cnt ws := List.length_pos_of_mem hs
      exact h (by omega) s hs

/-- SO LITTLE WEIGHT MAKES NO LONG CODE. -/
theorem lens_fib (ws : List Nat) (h : ws.sum < 2584) (s : Nat) : lenF ws s ≤ 15 := by
  refine lenF_le ws 15 (by decide) (fun hc t ht => ?_) s
  obtain ⟨g, hh, hp, hd, hf, hw⟩ := huff_fib (cnt ws - 1) (live0 ws) (cnt ws) (fun _ => 0) (live0_st ws) (by rw [live0_length]; omega) (live0_nodup ws) (fun g hg => ⟨(live0_mem ws g hg).1, fun _ _ => Nat.le_refl _⟩)
  have h1 : g.w = ws.sum := by
    rw [hw, ← leaves_sum ws 0 0]
    exact ((live0_perm ws).map _).sum_nat
  have h2 : hh ≤ 15 := by
    refine Classical.byContradiction fun hn => ?_
    have h3 : fib 18 ≤ fib (hh + 2) := fib_mono (by omega)
    have h4 : fib 18 = 2584 := by decide
    omega
  have := hd t ((hp.trans (live0_syms ws)).mem_iff.2 ht)
  exact Nat.le_trans this h2

/-- WEIGHTS OF 1 MAKE A FLAT CODE. -/
theorem lens_flat (ws : List Nat) (m : Nat) (hm : 1 ≤ m) (h1 : ∀ w ∈ ws, w ≤ 1) (hc : cnt ws ≤ 2 ^ m) (s : Nat) : lenF ws s ≤ m := by
  refine lenF_le ws m hm (fun h2 t ht => ?_) s
  obtain ⟨g, hp, hw, hf⟩ := huff_flat (cnt ws - 1) (live0 ws) (cnt ws) (fun _ => 0) (live0_st ws) (by rw [live0_length]; omega) (live0_nodup ws) (fun g hg => by
    obtain ⟨h3, u, _, h4⟩ := live0_mem ws g hg
    refine ⟨?_, fun _ _ => Nat.le_refl _⟩
    have h5 : ws.getD u 0 ≤ 1 := by
      rw [List.getD_eq_getElem?_getD]
      cases he : ws[u]? with
      | none => decide
      | some x => exact h1 x (List.mem_of_getElem? he)
    omega)
  have hd := flat_depth hf (m := m) (by rw [hw, live0_length]; exact hc)
  exact hd t ((hp.trans (live0_syms ws)).mem_iff.2 ht)

/-- NO OTHER CODE COSTS LESS. -/
theorem lens_least (ws : List Nat) (h : 2 ≤ cnt ws) (m : Nat → Nat) (D : Nat) (hD : ∀ s ∈ stand ws 0, m s ≤ D) (hK : kraft D ((stand ws 0).map m) ≤ 2 ^ D) :
    costD (fun s => ws.getD s 0) (lenF ws) (stand ws 0) ≤ costD (fun s => ws.getD s 0) m (stand ws 0) := by
  have hcong : ∀ (d e : Nat → Nat) (l : List Nat), (∀ s ∈ l, d s = e s) → costD (fun s => ws.getD s 0) d l = costD (fun s => ws.getD s 0) e l := by
    intro d e l
    induction l with
    | nil => intro _; rfl
    | cons x l ih =>
      intro hx
      simp only [costD]
      rw [hx x List.mem_cons_self, ih fun s hs => hx s (List.mem_cons_of_mem _ hs)]
  obtain ⟨c, hc, he⟩ := huff_cost (fun s => ws.getD s 0) (cnt ws - 1) (live0 ws) (cnt ws) (fun _ => 0) (live0_st ws) (by rw [live0_length]; omega) (live0_nodup ws) (by
    intro g hg
    obtain ⟨_, s, h1, h2⟩ := live0_mem ws g hg
    rw [h1, h2]
    simp [sumW])
  have hz : ∀ l : List Nat, costD (fun s => ws.getD s 0) (fun _ => 0) l = 0 := by
    intro l
    induction l with
    | nil => rfl
    | cons x l ih => simp only [costD, ih]; omega
  rw [hz, Nat.zero_add, costD_perm _ _ (live0_syms ws)] at he
  rw [hcong (lenF ws) (dep ws) _ (fun s hs => lenF_stand ws h s hs)]
  show costD _ (huff _ _ _ _) _ ≤ _
  rw [he]
  have hw : ((live0 ws).map (·.w)).Perm ((stand ws 0).map fun s => ws.getD s 0) := by
    have h1 : (leaves ws 0 0).map (·.w) = (symsOf (leaves ws 0 0)).map fun s => ws.getD s 0 := by
      have key : ∀ l : List Gr, (∀ g ∈ l, ∃ s, g.ss = [s] ∧ g.w = ws.getD s 0) → l.map (·.w) = (symsOf l).map fun s => ws.getD s 0 := by
        intro l
        induction l with
        | nil => intro _; rfl
        | cons g l ih =>
          intro hg
          obtain ⟨s, hs1, hs2⟩ := hg g List.mem_cons_self
          have := ih fun x hx => hg x (List.mem_cons_of_mem _ hx)
          simp only [symsOf, List.flatMap_cons, List.map_append, List.map_cons] at this ⊢
          rw [this, hs1, hs2]
          rfl
      refine key _ fun g hg => ?_
      obtain ⟨_, s, h1, h2⟩ := live0_mem ws g ((live0_perm ws).mem_iff.2 hg)
      exact ⟨s, h1, h2⟩
    rw [leaves_syms] at h1
    rw [← h1]
    exact (live0_perm ws).map _
  have hcost : costP ((stand ws 0).map fun s => (ws.getD s 0, m s)) = costD (fun s => ws.getD s 0) m (stand ws 0) := by
    generalize stand ws 0 = l
    induction l with
    | nil => rfl
    | cons x l ih => simp only [List.map_cons, costP, costD, ih]
  rw [← hcost]
  refine HC_least (cnt ws - 1) _ c hc _ D ?_ ?_ ?_
  · rw [List.map_map]
    exact hw.symm
  · intro p hp
    obtain ⟨s, hs, rfl⟩ := List.mem_map.1 hp
    exact hD s hs
  · rw [List.map_map]
    exact hK

/-- A GREATER WEIGHT HAS NO LONGER CODE. -/
theorem lens_mono (ws : List Nat) (h : 2 ≤ cnt ws) (i k : Nat) (hi : i ∈ stand ws 0) (hk : k ∈ stand ws 0) (hw : ws.getD k 0 < ws.getD i 0) : lenF ws i ≤ lenF ws k := by
  refine Classical.byContradiction fun hn => ?_
  have hne : i ≠ k := fun e => by rw [e] at hn; omega
  have hp1 := List.perm_cons_erase hi
  have hk1 : k ∈ (stand ws 0).erase i := (List.mem_erase_of_ne fun e => hne e.symm).2 hk
  have hp2 := List.perm_cons_erase hk1
  have hp : (stand ws 0).Perm (i :: k :: ((stand ws 0).erase i).erase k) := hp1.trans (hp2.cons i)
  have hnd := hp.nodup_iff.1 (stand_nodup ws 0)
  generalize ((stand ws 0).erase i).erase k = r at hp hnd
  rw [List.nodup_cons, List.nodup_cons] at hnd
  have hir : i ∉ r := fun e => hnd.1 (List.mem_cons_of_mem _ e)
  have hkr : k ∉ r := hnd.2.1
  have hD : ∀ s ∈ stand ws 0, lenF ws s ≤ ((stand ws 0).map (lenF ws)).sum := fun t ht => mem_le_sum _ _ (List.mem_map.2 ⟨t, ht, rfl⟩)
  have hfull := lens_full ws h _ hD
  generalize ((stand ws 0).map (lenF ws)).sum = D at hD hfull
  -- the two exchanged
  have hmi : (fun s => if s = i then lenF ws k else if s = k then lenF ws i else lenF ws s) i = lenF ws k := if_pos rfl
  have hmk : (fun s => if s = i then lenF ws k else if s = k then lenF ws i else lenF ws s) k = lenF ws i := by
    show (if k = i then _ else _) = _
    rw [if_neg (fun e => hne e.symm), if_pos rfl]
  have hmr : ∀ s ∈ r, (fun s => if s = i then lenF ws k else if s = k then lenF ws i else lenF ws s) s = lenF ws s := by
    intro s hs
    show (if s = i then _ else _) = _
    have h1 : s ≠ i := fun e => hir (by rw [← e]; exact hs)
    have h2 : s ≠ k := fun e => hkr (by rw [← e]; exact hs)
    rw [if_neg h1, if_neg h2]
  generalize (fun s => if s = i then lenF ws k else if s = k then lenF ws i else lenF ws s) = m at hmi hmk hmr
  have hmap : r.map m = r.map (lenF ws) := List.map_congr_left hmr
  have hcr : ∀ l : List Nat, (∀ s ∈ l, m s = lenF ws s) → costD (fun s => ws.getD s 0) m l = costD (fun s => ws.getD s 0) (lenF ws) l := by
    intro l
    induction l with
    | nil => intro _; rfl
    | cons x l ih =>
      intro hx
      simp only [costD]
      rw [hx x List.mem_cons_self, ih fun s hs => hx s (List.mem_cons_of_mem _ hs)]
  have hless := lens_least ws h m D (by
    intro s hs
    rcases List.mem_cons.1 (hp.mem_iff.1 hs) with e | e
    · rw [e, hmi]; exact hD k hk
    · rcases List.mem_cons.1 e with e | e
      · rw [e, hmk]; exact hD i hi
      · rw [hmr s e]; exact hD s hs) (by
    rw [kraft_perm D (hp.map m), ← hfull, kraft_perm D (hp.map (lenF ws))]
    simp only [List.map_cons, kraft, hmi, hmk, hmap]
    omega)
  rw [costD_perm _ _ hp, costD_perm _ m hp] at hless
  simp only [costD, hmi, hmk, hcr r hmr] at hless
  obtain ⟨x, hx⟩ := Nat.exists_eq_add_of_lt hw
  obtain ⟨y, hy⟩ := Nat.exists_eq_add_of_lt (show lenF ws k < lenF ws i by omega)
  rw [hx, hy] at hless
  generalize ws.getD k 0 = A at hless
  generalize lenF ws k = B at hless
  have e1 : (A + x + 1) * (B + y + 1) = (A + x + 1) * B + (A * (y + 1) + (x + 1) * (y + 1)) := by
    rw [Nat.add_assoc B y 1, Nat.mul_add, Nat.add_assoc A x 1, Nat.add_mul A (x + 1) (y + 1)]
  have e2 : A * (B + y + 1) = A * B + A * (y + 1) := by rw [Nat.add_assoc B y 1, Nat.mul_add]
  have e3 : 0 < (x + 1) * (y + 1) := Nat.mul_pos (by omega) (by omega)
  omega

/-- SO MANY TIMES THE WEIGHTS MAKE THE SAME. -/
theorem leaves_times (c : Nat) (hc : 0 < c) (ws : List Nat) : ∀ i n, leaves (ws.map (· * c)) i n = (leaves ws i n).map (Gr.times c) := by
  induction ws with
  | nil => intro i n; rfl
  | cons w ws ih =>
    intro i n
    rw [List.map_cons]
    unfold leaves
    by_cases hw : w = 0
    · rw [if_pos (by rw [hw, Nat.zero_mul]), if_pos hw]
      exact ih _ _
    · rw [if_neg (fun e => by rcases Nat.mul_eq_zero.1 e with e | e <;> omega), if_neg hw, List.map_cons, ih]
      rfl

theorem stand_times (c : Nat) (hc : 0 < c) (ws : List Nat) : ∀ i, stand (ws.map (· * c)) i = stand ws i := by
  induction ws with
  | nil => intro i; rfl
  | cons w ws ih =>
    intro i
    rw [List.map_cons]
    unfold stand
    by_cases hw : w = 0
    · rw [if_pos (by rw [hw, Nat.zero_mul]), if_pos hw]
      exact ih _
    · rw [if_neg (fun e => by rcases Nat.mul_eq_zero.1 e with e | e <;> omega), if_neg hw, ih]

theorem sorted_times (c : Nat) (hc : 0 < c) (l : List Gr) : sorted (l.map (Gr.times c)) = (sorted l).map (Gr.times c) := by
  induction l with
  | nil => rfl
  | cons x l ih =>
    show ins (x.times c) (sorted (l.map (Gr.times c))) = (ins x (sorted l)).map (Gr.times c)
    rw [ih, ins_times c hc]

theorem lens_times (c : Nat) (hc : 0 < c) (ws : List Nat) : lens (ws.map (· * c)) = lens ws := by
  have h1 : cnt (ws.map (· * c)) = cnt ws := by unfold cnt; rw [stand_times c hc]
  have h2 : dep (ws.map (· * c)) = dep ws := by
    unfold dep live0
    rw [h1, leaves_times c hc, sorted_times c hc, huff_times c hc]
  unfold lens
  rw [List.length_map]
  refine List.map_congr_left fun i hi => ?_
  have h3 : (ws.map (· * c)).getD i 0 = ws.getD i 0 * c := by
    rw [List.getD_eq_getElem?_getD, List.getD_eq_getElem?_getD, List.getElem?_map]
    cases ws[i]? with
    | none => simp
    | some x => rfl
  unfold lenF
  rw [h1, h2, h3]
  by_cases hz : ws.getD i 0 = 0
  · rw [if_pos (by rw [hz, Nat.zero_mul]), if_pos hz]
  · rw [if_neg (fun e => by rcases Nat.mul_eq_zero.1 e with e | e <;> omega), if_neg hz]

/-! ### With a limit -/
def halves (ws : List Nat) : List Nat := ws.map fun w => (w + 1) / 2
def short (ws : List Nat) (m : Nat) : Prop := ∀ s, lenF ws s ≤ m

theorem halves_stand (ws : List Nat) : ∀ i, stand (halves ws) i = stand ws i := by
  induction ws with
  | nil => intro i; rfl
  | cons w ws ih =>
    intro i
    show stand ((w + 1) / 2 :: halves ws) i = _
    unfold stand
    by_cases hw : w = 0
    · rw [if_pos (by omega), if_pos hw]
      exact ih _
    · rw [if_neg (by omega), if_neg hw, ih]

theorem halves_cnt (ws : List Nat) : cnt (halves ws) = cnt ws := by unfold cnt; rw [halves_stand]

/-- Where some code is too long, the halves weigh less. -/
theorem halves_less (ws : List Nat) (m : Nat) (hm : 1 ≤ m) (hc : cnt ws ≤ 2 ^ m) (h : ¬ short ws m) : (halves ws).sum < ws.sum := by
  have hx : ∃ w ∈ ws, 2 ≤ w := by
    refine Classical.byContradiction fun hn => h fun s => lens_flat ws m hm (fun w hw => ?_) hc s
    refine Classical.byContradiction fun hn2 => hn ⟨w, hw, by omega⟩
  have hle : ∀ l : List Nat, (halves l).sum ≤ l.sum := by
    intro l
    induction l with
    | nil => exact Nat.le_refl _
    | cons x l ih =>
      show ((x + 1) / 2 :: halves l).sum ≤ _
      rw [List.sum_cons, List.sum_cons]
      omega
  have key : ∀ l : List Nat, (∃ w ∈ l, 2 ≤ w) → (halves l).sum < l.sum := by
    intro l
    induction l with
    | nil => rintro ⟨w, hw, _⟩; cases hw
    | cons x l ih =>
      rintro ⟨w, hw, h2⟩
      show ((x + 1) / 2 :: halves l).sum < _
      rw [List.sum_cons, List.sum_cons]
      rcases List.mem_cons.1 hw with e | e
      · have := hle l
        omega
      · have := ih ⟨w, e, h2⟩
        omega
  exact key ws hx

end Go.Proofs.Ytihgdlnnfhpdcaa
