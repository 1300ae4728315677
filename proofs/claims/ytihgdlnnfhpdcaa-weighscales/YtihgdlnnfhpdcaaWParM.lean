/- What a pile's process comes to: nodes and their parents, and how deep they lie, as plain rows. Nothing of the program is named here. -/
import Derived.Test.YtihgdlnnfhpdcaaWHeap
namespace Go.Proofs.Ytihgdlnnfhpdcaa

/-- A node that is left, as the pile has it. -/
def prP (g : Gr) : Nat × Int := (g.w, (g.id : Int))

theorem lt_of_ahead {x y : Gr} (h : ahead x y) : ltP (prP x) (prP y) := by
  unfold ahead at h
  unfold ltP prP
  dsimp only
  omega

/-- The pile's top is the first in order. -/
theorem pile_top {d : List (Nat × Int)} {a : Gr} {r : List Gr} (hord : Ord (a :: r)) (hp : d.Perm ((a :: r).map prP)) (hh : HpFrom d 0 d.length) : atP d 0 = prP a := by
  have hl : 0 < d.length := by rw [hp.length_eq]; simp
  have hm : prP a ∈ d := hp.mem_iff.2 (by simp)
  obtain ⟨k, hk, hke⟩ := List.getElem_of_mem hm
  have e1 : atP d k = prP a := atP_of (by rw [List.getElem?_eq_getElem hk, hke])
  have h1 := hh.least k hk
  rw [e1] at h1
  have h2 : atP d 0 ∈ d := List.mem_of_getElem? (atP_some hl)
  obtain ⟨g, hg, hge⟩ := List.mem_map.1 (hp.mem_iff.1 h2)
  rw [← hge] at h1 ⊢
  rcases List.mem_cons.1 hg with e | e
  · rw [e]
  · exact absurd (lt_of_ahead ((List.pairwise_cons.1 hord).1 g e)) h1

theorem atP_take {d : List (Nat × Int)} {n k : Nat} (h : k < n) : atP (d.take n) k = atP d k := by
  unfold atP
  rw [List.getD_eq_getElem?_getD, List.getD_eq_getElem?_getD, List.getElem?_take, if_pos h]

theorem hp_take {d : List (Nat × Int)} {n : Nat} (h : HpFrom d 0 n) (hn : n ≤ d.length) : HpFrom (d.take n) 0 (d.take n).length := by
  have hl : (d.take n).length = n := by rw [List.length_take]; omega
  rw [hl]
  intro k c hk hc hcn
  have hc2 := hc
  unfold Chi at hc2
  rw [atP_take hcn, atP_take (by omega)]
  exact h k c hk hc hcn

/-- What is left behind a change of the top and the last, a way down, and the last taken off. -/
theorem pop_perm {d d2 : List (Nat × Int)} {n : Nat} (hd : d.length = n + 1) (k : Kept n (swp d 0 n) d2) : atP d2 n = atP d 0 ∧ d.Perm (atP d 0 :: d2.take n) := by
  have h1 : atP d2 n = atP d 0 := by rw [k.rest n (Nat.le_refl _), swp_at d 0 n n (by omega) (by omega), if_pos rfl]
  have hl : d2.length = n + 1 := by rw [k.len, swp_length, hd]
  have e : d2 = d2.take n ++ [atP d2 n] := by
    have h2 := List.take_add_one (l := d2) (i := n)
    rw [atP_some (by omega), List.take_of_length_le (by omega)] at h2
    exact h2
  refine ⟨h1, (swp_perm d 0 n (by omega) (by omega)).symm.trans (k.perm.symm.trans ?_)⟩
  refine (List.Perm.of_eq e).trans ?_
  rw [← h1]
  exact List.perm_append_singleton _ _

/-- Each node's parent, 0 of one without. -/
def parOf (all : List (Nat × Int)) : List Nat := all.map fun p => p.2.toNat

theorem parOf_length (all : List (Nat × Int)) : (parOf all).length = all.length := by simp [parOf]
theorem parOf_get {all : List (Nat × Int)} {i w : Nat} {u : Int} (h : all[i]? = some (w, u)) : (parOf all).getD i 0 = u.toNat := by
  unfold parOf
  rw [List.getD_eq_getElem?_getD, List.getElem?_map, h]
  rfl

/-- The pile, the nodes and their parents, while nodes are put together. -/
structure PSim (ws : List Nat) (d : List (Nat × Int)) (all : List (Nat × Int)) (live : List Gr) (n : Nat) (dd : Nat → Nat) : Prop where
  sim : Sim ws (leafL ws 0) (live.map (·.id)) all live n dd
  run : huff (live.length - 1) live n dd = dep ws
  num : all.length + live.length = 2 * cntL ws
  syms : (symsOf live).Perm (stand ws 0)
  up : ∀ (i w : Nat) (u : Int), all[i]? = some (w, u) → (u = -1 ∧ ∃ g ∈ live, g.id = i) ∨ ((i : Int) < u ∧ u < n)
  last : live ≠ [] → ∃ g ∈ live, g.id + 1 = n
  pile : d.Perm (live.map prP)
  hp : HpFrom d 0 d.length

theorem stepAll_par {ws : List Nat} {leaf : List Int} {left : List Nat} {all : List (Nat × Int)} {a b : Gr} {r : List Gr} {n : Nat} {d : Nat → Nat} (h : Sim ws leaf left all (a :: b :: r) n d) :
    parOf (stepAll all a.id b.id) = (((parOf all).set a.id n).set b.id n) ++ [0] := by
  have hla := h.st.lt a List.mem_cons_self
  have hlb := h.st.lt b (List.mem_cons_of_mem _ List.mem_cons_self)
  have e := (h.step (l2 := r.map (·.id)) (List.Perm.refl _)).2
  rw [e]
  unfold parOf
  rw [List.map_set, List.map_set, List.map_append]
  have hl : (all.map fun p => p.2.toNat).length = n := by rw [List.length_map]; exact h.len
  generalize (all.map fun p => p.2.toNat) = L at *
  show ((L ++ [0]).set a.id ((n : Int)).toNat).set b.id ((n : Int)).toNat = _
  rw [Int.toNat_natCast, List.set_append_left _ _ (by omega), List.set_append_left _ _ (by rw [List.length_set]; omega)]

theorem PSim.step {ws : List Nat} {d d2 all : List (Nat × Int)} {a b : Gr} {r : List Gr} {n : Nat} {dd : Nat → Nat} (h : PSim ws d all (a :: b :: r) n dd) (hp : d2.Perm ((a.w + b.w, (n : Int)) :: r.map prP)) (hh : HpFrom d2 0 d2.length) :
    PSim ws d2 (stepAll all a.id b.id) (ins ⟨a.w + b.w, n, a.ss ++ b.ss⟩ r) (n + 1) (bump (a.ss ++ b.ss) dd) := by
  have hs := h.sim.step (l2 := r.map (·.id)) (List.Perm.refl _)
  have hpi := ins_perm ⟨a.w + b.w, n, a.ss ++ b.ss⟩ r
  have hla := h.sim.st.lt a List.mem_cons_self
  have hlb := h.sim.st.lt b (List.mem_cons_of_mem _ List.mem_cons_self)
  have hlen := h.sim.len
  have hs1 := hs.1
  refine ⟨⟨hs1.st, hs1.len, List.Perm.refl _, hs1.node, hs1.leafLen, hs1.reach, hs1.sum, hs1.nd⟩, ?_, ?_, ?_, ?_, ?_, ?_, hh⟩
  · rw [← h.run, ins_length]
    rfl
  · have h1 := h.num
    have h2 := hs1.len
    rw [h2, ins_length]
    simp only [List.length_cons] at h1
    omega
  · refine (symsOf_perm hpi).trans ?_
    rw [syms_step]
    exact h.syms
  · intro i w u hi
    rw [hs.2, List.getElem?_set] at hi
    by_cases e1 : b.id = i
    · rw [if_pos e1, if_pos (by simp; omega)] at hi
      injection hi with hi
      injection hi with _ hi
      right
      omega
    · rw [if_neg e1, List.getElem?_set] at hi
      by_cases e2 : a.id = i
      · rw [if_pos e2, if_pos (by simp; omega)] at hi
        injection hi with hi
        injection hi with _ hi
        right
        omega
      · rw [if_neg e2] at hi
        by_cases e3 : i < n
        · rw [List.getElem?_append_left (by omega)] at hi
          rcases h.up i w u hi with ⟨h1, g, hg, hgi⟩ | h1
          · refine .inl ⟨h1, g, hpi.mem_iff.2 (List.mem_cons_of_mem _ ?_), hgi⟩
            rcases List.mem_cons.1 hg with e | hg
            · exact absurd (by rw [← e]; exact hgi) e2
            · rcases List.mem_cons.1 hg with e | hg
              · exact absurd (by rw [← e]; exact hgi) e1
              · exact hg
          · right
            omega
        · have hi2 := (List.getElem?_eq_some_iff.1 hi).1
          simp only [List.length_append, List.length_cons, List.length_nil] at hi2
          have e4 : i = n := by omega
          rw [List.getElem?_append_right (by omega), show i - all.length = 0 by omega] at hi
          simp only [List.getElem?_cons_zero, Option.some.injEq, Prod.mk.injEq] at hi
          exact .inl ⟨hi.2.symm, ⟨a.w + b.w, n, a.ss ++ b.ss⟩, hpi.mem_iff.2 List.mem_cons_self, e4.symm⟩
  · intro _
    exact ⟨⟨a.w + b.w, n, a.ss ++ b.ss⟩, hpi.mem_iff.2 List.mem_cons_self, rfl⟩
  · refine hp.trans ?_
    exact (hpi.map prP).symm

/-! ### The beginning -/
theorem leaves_get (ws : List Nat) : ∀ (a n i : Nat), (leaves ws a n)[i]? = ((stand ws a)[i]?).map fun s => ⟨ws.getD (s - a) 0, n + i, [s]⟩ := by
  induction ws with
  | nil => intro a n i; simp [leaves, stand]
  | cons w ws ih =>
    intro a n i
    have key : ∀ (m q : Nat), ((stand ws (a + 1))[q]?).map (fun s => (⟨ws.getD (s - (a + 1)) 0, m, [s]⟩ : Gr)) = ((stand ws (a + 1))[q]?).map fun s => ⟨(w :: ws).getD (s - a) 0, m, [s]⟩ := by
      intro m q
      cases hq : (stand ws (a + 1))[q]? with
      | none => rfl
      | some s =>
        have hs := (stand_mem ws (a + 1) s).1 (List.mem_of_getElem? hq)
        have e : s - a = (s - (a + 1)) + 1 := by omega
        simp only [Option.map_some, e, List.getD_cons_succ]
    unfold leaves stand
    by_cases h : w = 0
    · rw [if_pos h, if_pos h, ih (a + 1) n i, key]
    · rw [if_neg h, if_neg h]
      cases i with
      | zero => simp
      | succ i =>
        rw [List.getElem?_cons_succ, List.getElem?_cons_succ, ih (a + 1) (n + 1) i, key, show n + 1 + i = n + (i + 1) by omega]

/-- The first j leaves, as the pile has them. -/
def nodesL (ws : List Nat) (j : Nat) : List (Nat × Int) := (List.range j).map fun i => (ws.getD ((stand ws 0).getD i 0) 0, (i : Int))

theorem nodesL_length (ws : List Nat) (j : Nat) : (nodesL ws j).length = j := by simp [nodesL]
theorem nodesL_snoc (ws : List Nat) (j : Nat) : nodesL ws (j + 1) = nodesL ws j ++ [(ws.getD ((stand ws 0).getD j 0) 0, (j : Int))] := by
  unfold nodesL
  rw [List.range_succ, List.map_append]
  rfl

theorem leaves_pr (ws : List Nat) : (leaves ws 0 0).map prP = nodesL ws (cnt ws) := by
  apply List.ext_getElem?
  intro i
  rw [List.getElem?_map, leaves_get ws 0 0 i]
  unfold nodesL
  by_cases h : i < cnt ws
  · have h2 : i < (stand ws 0).length := h
    rw [List.getElem?_map, List.getElem?_range h, List.getElem?_eq_getElem h2]
    simp only [Option.map_some, prP, Nat.sub_zero, Nat.zero_add, Option.some.injEq, Prod.mk.injEq, and_true]
    rw [List.getD_eq_getElem?_getD (l := stand ws 0), List.getElem?_eq_getElem h2]
    rfl
  · rw [List.getElem?_eq_none (by show cnt ws ≤ i; omega), List.getElem?_eq_none (by simp; omega)]
    rfl

theorem PSim.begin {ws : List Nat} {d : List (Nat × Int)} (hd : d.Perm (nodesL ws (cnt ws))) (hh : HpFrom d 0 d.length) : PSim ws d (allL ws) (live0 ws) (cnt ws) fun _ => 0 := by
  have hc : cnt ws = cntL ws := cntL_cnt ws 0
  have hb := Sim.begin ws
  rw [← hc] at hb
  have hids : ((live0 ws).map (·.id)).Perm (List.range (cnt ws)) := hb.perm.symm
  refine ⟨⟨hb.st, hb.len, List.Perm.refl _, hb.node, hb.leafLen, hb.reach, hb.sum, hb.nd⟩, ?_, ?_, live0_syms ws, ?_, ?_, ?_, hh⟩
  · rw [live0_length]
    rfl
  · rw [allL_length, live0_length]
    omega
  · intro i w u hi
    left
    have hi2 := (List.getElem?_eq_some_iff.1 hi).1
    rw [allL_length, ← hc] at hi2
    have hm := hids.mem_iff.2 (List.mem_range.2 hi2)
    obtain ⟨g, hg, hgi⟩ := List.mem_map.1 hm
    refine ⟨?_, g, hg, hgi⟩
    have h1 := hb.node g hg
    have e : g.id = i := hgi
    rw [e, hi] at h1
    injection h1 with h1
    injection h1
  · intro hne
    have hl := live0_length ws
    have hpos : 0 < (live0 ws).length := List.length_pos_iff.2 hne
    have hm := hids.mem_iff.2 (List.mem_range.2 (show cnt ws - 1 < cnt ws by omega))
    obtain ⟨g, hg, hgi⟩ := List.mem_map.1 hm
    have e : g.id = cnt ws - 1 := hgi
    exact ⟨g, hg, by omega⟩
  · refine hd.trans ?_
    rw [← leaves_pr]
    exact ((live0_perm ws).map prP).symm

theorem parOf_begin (ws : List Nat) : parOf (allL ws) = List.replicate (cnt ws) 0 := by
  have hc : cnt ws = cntL ws := cntL_cnt ws 0
  rw [hc]
  apply List.eq_replicate_iff.2
  refine ⟨by rw [parOf_length, allL_length], fun b hb => ?_⟩
  obtain ⟨p, hp, rfl⟩ := List.mem_map.1 hb
  obtain ⟨w, _, rfl⟩ := List.mem_map.1 hp
  rfl

/-! ### The end -/
/-- Each node but the last went into a later one. -/
def ParOk (par : List Nat) : Prop := ∀ x, x + 1 < par.length → x < par.getD x 0 ∧ par.getD x 0 < par.length

/-- How deep the nodes from i on lie. -/
structure DpOk (par D : List Nat) (i : Nat) : Prop where
  len : D.length = par.length
  bnd : ∀ x, x < D.length → D.getD x 0 + x + 1 ≤ D.length
  eqn : ∀ x, i ≤ x → x + 1 < D.length → D.getD x 0 = D.getD (par.getD x 0) 0 + 1
  zero : D.getD (D.length - 1) 0 = 0

theorem getD_set (l : List Nat) (i j v : Nat) (h : i < l.length) : (l.set i v).getD j 0 = if i = j then v else l.getD j 0 := by
  rw [List.getD_eq_getElem?_getD, List.getElem?_set]
  by_cases e : i = j
  · rw [if_pos e, if_pos h, if_pos e]; rfl
  · rw [if_neg e, if_neg e, ← List.getD_eq_getElem?_getD]

theorem DpOk.begin (par : List Nat) : DpOk par (List.replicate par.length 0) (par.length - 1) := by
  have e : ∀ x, (List.replicate par.length 0).getD x 0 = 0 := by
    intro x
    rw [List.getD_eq_getElem?_getD, List.getElem?_replicate]
    split <;> rfl
  refine ⟨List.length_replicate, fun x hx => ?_, fun x h1 h2 => ?_, e _⟩
  · rw [e]; omega
  · rw [List.length_replicate] at h2; omega

theorem DpOk.step {par D : List Nat} {i : Nat} (h : DpOk par D (i + 1)) (hp : ParOk par) (hi : i + 1 < par.length) : DpOk par (D.set i (D.getD (par.getD i 0) 0 + 1)) i := by
  have hl := h.len
  obtain ⟨p1, p2⟩ := hp i hi
  have b1 := h.bnd (par.getD i 0) (by omega)
  have S := fun j => getD_set D i j (D.getD (par.getD i 0) 0 + 1) (by omega)
  refine ⟨by rw [List.length_set]; exact hl, fun x hx => ?_, fun x h1 h2 => ?_, ?_⟩
  · rw [List.length_set] at hx ⊢
    rw [S x]
    by_cases e : i = x
    · rw [if_pos e]; omega
    · rw [if_neg e]; exact h.bnd x hx
  · rw [List.length_set] at h2
    have hpx := hp x (by omega)
    rw [S x, S (par.getD x 0), if_neg (show ¬ i = par.getD x 0 by omega)]
    by_cases e : i = x
    · rw [if_pos e, e]
    · rw [if_neg e]; exact h.eqn x (by omega) h2
  · rw [List.length_set, S, if_neg (by omega)]
    exact h.zero

theorem dp_reach {all : List (Nat × Int)} {D : List Nat} (hp : ∀ (i w : Nat) (u : Int), all[i]? = some (w, u) → u = -1 ∨ ((i : Int) < u ∧ u < all.length)) (hd : DpOk (parOf all) D 0) :
    ∀ (k i : Nat), Reach all k i (all.length - 1) → D.getD i 0 = k
  | 0, i, h => by
    have e : i = all.length - 1 := h
    have h2 := hd.zero
    rw [hd.len, parOf_length] at h2
    rw [e]
    exact h2
  | k + 1, i, h => by
    obtain ⟨w, j, h1, h2⟩ := h
    have h3 := dp_reach hp hd k j h2
    have h4 := hp i w j h1
    have h5 : (parOf all).getD i 0 = j := by rw [parOf_get h1]; exact Int.toNat_natCast j
    have h6 := hd.eqn i (Nat.zero_le _) (by rw [hd.len, parOf_length]; omega)
    rw [h5, h3] at h6
    exact h6

theorem stand_leaf (ws : List Nat) : ∀ (a n i s : Nat), (stand ws a)[i]? = some s → a ≤ s ∧ (leafL ws n)[s - a]? = some ((n + i : Nat) : Int) := by
  induction ws with
  | nil => intro a n i s h; simp [stand] at h
  | cons w ws ih =>
    intro a n i s h
    unfold stand at h
    unfold leafL
    by_cases hw : w = 0
    · rw [if_pos hw] at h ⊢
      obtain ⟨h1, h2⟩ := ih (a + 1) n i s h
      refine ⟨by omega, ?_⟩
      rw [show s - a = (s - (a + 1)) + 1 by omega, List.getElem?_cons_succ]
      exact h2
    · rw [if_neg hw] at h ⊢
      cases i with
      | zero =>
        simp only [List.getElem?_cons_zero, Option.some.injEq] at h
        subst h
        refine ⟨Nat.le_refl _, ?_⟩
        rw [Nat.sub_self]
        rfl
      | succ i =>
        rw [List.getElem?_cons_succ] at h
        obtain ⟨h1, h2⟩ := ih (a + 1) (n + 1) i s h
        refine ⟨by omega, ?_⟩
        rw [show s - a = (s - (a + 1)) + 1 by omega, List.getElem?_cons_succ, h2]
        congr 2
        omega

/-- All put together. -/
structure ParEnd (ws par : List Nat) : Prop where
  len : par.length ≤ 2 * cnt ws ∧ cnt ws ≤ par.length
  ok : ParOk par
  deep : ∀ D, DpOk par D 0 → ∀ i s, (stand ws 0)[i]? = some s → D.getD i 0 = dep ws s

theorem PSim.finish {ws : List Nat} {d all : List (Nat × Int)} {live : List Gr} {n : Nat} {dd : Nat → Nat} (h : PSim ws d all live n dd) (hl : live.length ≤ 1) : ParEnd ws (parOf all) := by
  have hc : cnt ws = cntL ws := cntL_cnt ws 0
  have hn := h.num
  have hlen := h.sim.len
  have hone : ∀ g ∈ live, live = [g] ∧ g.id + 1 = n := by
    intro g hg
    have hpos : 0 < live.length := List.length_pos_of_mem hg
    obtain ⟨g', hg'⟩ := List.length_eq_one_iff.1 (show live.length = 1 by omega)
    rw [hg'] at hg
    have e : g = g' := by simpa using hg
    obtain ⟨g2, h2, h3⟩ := h.last (by rw [hg']; simp)
    rw [hg'] at h2
    have e2 : g2 = g' := by simpa using h2
    rw [hg', e]
    rw [e2] at h3
    exact ⟨rfl, h3⟩
  refine ⟨⟨by rw [parOf_length]; omega, ?_⟩, ?_, ?_⟩
  · rw [parOf_length]
    have hll : live.length ≤ cnt ws := by
      by_cases h0 : live = []
      · rw [h0]; exact Nat.zero_le _
      · have : 0 < live.length := List.length_pos_iff.2 h0
        omega
    omega
  · intro x hx
    rw [parOf_length] at hx ⊢
    have hxs : ∃ w u, all[x]? = some (w, u) := ⟨_, _, List.getElem?_eq_getElem (show x < all.length by omega)⟩
    obtain ⟨w, u, hxs⟩ := hxs
    rw [parOf_get hxs]
    rcases h.up x w u hxs with ⟨_, g, hg, hgx⟩ | h1
    · have := (hone g hg).2
      omega
    · omega
  · intro D hD i s hs
    have hsm : s ∈ stand ws 0 := List.mem_of_getElem? hs
    have hm : s ∈ symsOf live := h.syms.mem_iff.2 hsm
    obtain ⟨g, hg, hgj⟩ := List.mem_flatMap.1 hm
    obtain ⟨h1, h2⟩ := hone g hg
    have hd : dd = dep ws := by
      have := h.run
      rw [h1] at this
      exact this
    obtain ⟨li, h3, h4⟩ := h.sim.reach g hg s hgj
    have h5 := (stand_leaf ws 0 0 i s hs).2
    rw [Nat.sub_zero, h3] at h5
    injection h5 with h5
    have e : li = i := by omega
    rw [e, hd] at h4
    refine dp_reach (fun x w u hx => ?_) hD _ _ ?_
    · rcases h.up x w u hx with ⟨h6, _⟩ | h6
      · exact .inl h6
      · right; omega
    · rw [show all.length - 1 = g.id by omega]
      exact h4

end Go.Proofs.Ytihgdlnnfhpdcaa
