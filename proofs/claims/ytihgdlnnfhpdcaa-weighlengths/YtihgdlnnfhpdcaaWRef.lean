/- The document's process of layer 4, with nodes that know their parents, held against the plain one. Nothing of the program is named here. -/
import Derived.Test.YtihgdlnnfhpdcaaWModel3
namespace Go.Proofs.Ytihgdlnnfhpdcaa

/-- In so many hops from i to r, by the parents. -/
def Reach (all : List (Nat × Int)) : Nat → Nat → Nat → Prop
  | 0, i, r => i = r
  | k + 1, i, r => ∃ (w j : Nat), all[i]? = some (w, (j : Int)) ∧ Reach all k j r

theorem Reach.mono {a b : List (Nat × Int)} (h : ∀ (i w j : Nat), a[i]? = some (w, (j : Int)) → b[i]? = some (w, (j : Int))) : ∀ {k i r : Nat}, Reach a k i r → Reach b k i r
  | 0, _, _, hr => hr
  | _ + 1, _, _, hr => by
    obtain ⟨w, j, h1, h2⟩ := hr
    exact ⟨w, j, h _ _ _ h1, Reach.mono h h2⟩

theorem Reach.snoc {a : List (Nat × Int)} {w r' : Nat} : ∀ {k i r : Nat}, Reach a k i r → a[r]? = some (w, (r' : Int)) → Reach a (k + 1) i r'
  | 0, i, r, hr, h => by
    have e : i = r := hr
    subst e
    exact ⟨w, r', h, rfl⟩
  | _ + 1, _, _, hr, h => by
    obtain ⟨w0, j, h1, h2⟩ := hr
    exact ⟨w0, j, h1, Reach.snoc h2 h⟩

/-- A node's weight. -/
def wtOf (all : List (Nat × Int)) (i : Nat) : Nat := (all.getD i (0, 0)).1

/-- Of less weight, or of the same and made before. -/
def LtN (all : List (Nat × Int)) (x y : Nat) : Prop := wtOf all x < wtOf all y ∨ (wtOf all x = wtOf all y ∧ x < y)

structure Sim (ws : List Nat) (leaf : List Int) (left : List Nat) (all : List (Nat × Int)) (live : List Gr) (n : Nat) (d : Nat → Nat) : Prop where
  st : St live n
  len : all.length = n
  perm : left.Perm (live.map (·.id))
  node : ∀ g ∈ live, all[g.id]? = some (g.w, -1)
  leafLen : leaf.length = ws.length
  reach : ∀ g ∈ live, ∀ s ∈ g.ss, ∃ li : Nat, leaf[s]? = some (li : Int) ∧ Reach all (d s) li g.id
  sum : (live.map (·.w)).sum = ws.sum
  nd : (symsOf live).Nodup

theorem wt_of_node {all : List (Nat × Int)} {i w : Nat} {u : Int} (h : all[i]? = some (w, u)) : wtOf all i = w := by
  unfold wtOf
  rw [List.getD_eq_getElem?_getD, h]
  rfl

theorem node_inj {all : List (Nat × Int)} {i j x y : Nat} {u v : Int} (h : all[i]? = some (x, u)) (k : all[j]? = some (y, v)) (e : i = j) : x = y := by
  subst e
  rw [h] at k
  injection k with k
  injection k

theorem take_drop_perm (l : List Nat) (b : Nat) (h : b < l.length) : l.Perm (l.getD b 0 :: (l.take b ++ l.drop (b + 1))) := by
  have e : l = l.take b ++ l.getD b 0 :: l.drop (b + 1) := by
    rw [List.getD_eq_getElem?_getD, List.getElem?_eq_getElem h]
    show l = l.take b ++ l[b] :: l.drop (b + 1)
    rw [← List.drop_eq_getElem_cons h, List.take_append_drop]
  refine List.Perm.trans (List.Perm.of_eq e) ?_
  exact List.perm_middle

/-- Who is ahead of all others is the first in order. -/
theorem pick {all : List (Nat × Int)} {left : List Nat} {a : Gr} {rest : List Gr} {best : Nat} (hord : Ord (a :: rest)) (hp : left.Perm ((a :: rest).map (·.id))) (hW : ∀ g ∈ a :: rest, wtOf all g.id = g.w)
    (hb : best < left.length) (hmin : ∀ j, j < left.length → j = best ∨ LtN all (left.getD best 0) (left.getD j 0)) :
    left.getD best 0 = a.id ∧ (left.take best ++ left.drop (best + 1)).Perm (rest.map (·.id)) := by
  have hmem : ∀ j, j < left.length → left.getD j 0 ∈ (a :: rest).map (·.id) := by
    intro j hj
    refine hp.mem_iff.1 ?_
    rw [List.getD_eq_getElem?_getD, List.getElem?_eq_getElem hj]
    exact List.getElem_mem hj
  have h1 : left.getD best 0 = a.id := by
    have ha : a.id ∈ left := hp.mem_iff.2 List.mem_cons_self
    obtain ⟨p, hpl, hpe⟩ := List.getElem_of_mem ha
    have hpd : left.getD p 0 = a.id := by rw [List.getD_eq_getElem?_getD, List.getElem?_eq_getElem hpl]; exact hpe
    rcases hmin p hpl with e | e
    · rw [← e]; exact hpd
    · exfalso
      rw [hpd] at e
      obtain ⟨g, hg, hge⟩ := List.mem_map.1 (hmem best hb)
      rw [← hge] at e
      have hwg := hW g hg
      have hwa := hW a List.mem_cons_self
      unfold LtN at e
      rw [hwg, hwa] at e
      rcases List.mem_cons.1 hg with e2 | e2
      · subst e2; omega
      · have := (List.pairwise_cons.1 hord).1 g e2
        unfold ahead at this
        omega
  refine ⟨h1, ?_⟩
  have h2 := (take_drop_perm left best hb).symm.trans hp
  rw [h1] at h2
  exact h2.cons_inv

/-- The nodes behind a step. -/
def stepAll (all : List (Nat × Int)) (x y : Nat) : List (Nat × Int) :=
  ((all ++ [(wtOf all x + wtOf all y, -1)]).set x (wtOf all x, (all.length : Int))).set y (wtOf all y, (all.length : Int))

theorem Sim.step {ws : List Nat} {leaf : List Int} {left l2 : List Nat} {all : List (Nat × Int)} {a b : Gr} {r : List Gr} {n : Nat} {d : Nat → Nat} (h : Sim ws leaf left all (a :: b :: r) n d) (hl : l2.Perm (r.map (·.id))) :
    Sim ws leaf (l2 ++ [n]) (stepAll all a.id b.id) (ins ⟨a.w + b.w, n, a.ss ++ b.ss⟩ r) (n + 1) (bump (a.ss ++ b.ss) d) ∧ stepAll all a.id b.id = ((all ++ [(a.w + b.w, -1)]).set a.id (a.w, (n : Int))).set b.id (b.w, (n : Int)) := by
  have hna := h.node a List.mem_cons_self
  have hnb := h.node b (List.mem_cons_of_mem _ List.mem_cons_self)
  have hla := h.st.lt a List.mem_cons_self
  have hlb := h.st.lt b (List.mem_cons_of_mem _ List.mem_cons_self)
  have hab : a.id ≠ b.id := by
    have := (List.pairwise_cons.1 h.st.ord).1 b List.mem_cons_self
    unfold ahead at this
    intro e
    have h2 := node_inj hna hnb e
    omega
  have hid : ∀ g ∈ r, g.id ≠ a.id ∧ g.id ≠ b.id := by
    intro g hg
    have h1 := (List.pairwise_cons.1 h.st.ord).1 g (List.mem_cons_of_mem _ hg)
    have h2 := (List.pairwise_cons.1 (List.pairwise_cons.1 h.st.ord).2).1 g hg
    have hng := h.node g (List.mem_cons_of_mem _ (List.mem_cons_of_mem _ hg))
    unfold ahead at h1 h2
    constructor
    · intro e
      have h3 := node_inj hng hna e
      omega
    · intro e
      have h3 := node_inj hng hnb e
      omega
  have heq : stepAll all a.id b.id = ((all ++ [(a.w + b.w, -1)]).set a.id (a.w, (n : Int))).set b.id (b.w, (n : Int)) := by
    unfold stepAll
    rw [wt_of_node hna, wt_of_node hnb, h.len]
  refine ⟨?_, heq⟩
  rw [heq]
  have hlen : (((all ++ [(a.w + b.w, (-1 : Int))]).set a.id (a.w, (n : Int))).set b.id (b.w, (n : Int))).length = n + 1 := by simp [h.len]
  -- the new nodes, each by its place
  have g1 : ∀ i, i < n → i ≠ a.id → i ≠ b.id → (((all ++ [(a.w + b.w, -1)]).set a.id (a.w, (n : Int))).set b.id (b.w, (n : Int)))[i]? = all[i]? := by
    intro i hi h1 h2
    rw [List.getElem?_set_ne (fun e => h2 e.symm), List.getElem?_set_ne (fun e => h1 e.symm), List.getElem?_append_left (by rw [h.len]; exact hi)]
  have gn : (((all ++ [(a.w + b.w, -1)]).set a.id (a.w, (n : Int))).set b.id (b.w, (n : Int)))[n]? = some (a.w + b.w, -1) := by
    rw [List.getElem?_set_ne (by omega), List.getElem?_set_ne (by omega), List.getElem?_append_right (by rw [h.len]; exact Nat.le_refl _), h.len, Nat.sub_self]
    rfl
  have ga : (((all ++ [(a.w + b.w, -1)]).set a.id (a.w, (n : Int))).set b.id (b.w, (n : Int)))[a.id]? = some (a.w, (n : Int)) := by
    rw [List.getElem?_set_ne (fun e => hab e.symm), List.getElem?_set_self (by simp [h.len]; omega)]
  have gb : (((all ++ [(a.w + b.w, -1)]).set a.id (a.w, (n : Int))).set b.id (b.w, (n : Int)))[b.id]? = some (b.w, (n : Int)) := by
    rw [List.getElem?_set_self (by simp [h.len]; omega)]
  generalize (((all ++ [(a.w + b.w, -1)]).set a.id (a.w, (n : Int))).set b.id (b.w, (n : Int))) = all' at *
  have hmono : ∀ (i w j : Nat), all[i]? = some (w, (j : Int)) → all'[i]? = some (w, (j : Int)) := by
    intro i w j hi
    have hin : i < n := by rw [← h.len]; exact (List.getElem?_eq_some_iff.1 hi).1
    rw [g1 i hin, hi]
    · intro e
      rw [e, hna] at hi
      injection hi with hi
      injection hi with _ hi
      omega
    · intro e
      rw [e, hnb] at hi
      injection hi with hi
      injection hi with _ hi
      omega
  have hpi := ins_perm ⟨a.w + b.w, n, a.ss ++ b.ss⟩ r
  have hap := apart (List.Perm.refl (symsOf (a :: b :: r))) h.nd
  refine ⟨h.st.next _, ?_, ?_, ?_, h.leafLen, ?_, ?_, ?_⟩
  · exact hlen
  · refine List.Perm.trans ?_ (hpi.map (·.id)).symm
    exact (List.perm_append_singleton n l2).trans (hl.cons n)
  · intro g hg
    rcases List.mem_cons.1 (hpi.mem_iff.1 hg) with e | e
    · subst e; exact gn
    · rw [g1 g.id (h.st.lt g (List.mem_cons_of_mem _ (List.mem_cons_of_mem _ e))) (hid g e).1 (hid g e).2]
      exact h.node g (List.mem_cons_of_mem _ (List.mem_cons_of_mem _ e))
  · intro g hg s hs
    rcases List.mem_cons.1 (hpi.mem_iff.1 hg) with e | e
    · subst e
      have hs' : s ∈ a.ss ++ b.ss := hs
      rw [bump_in _ _ _ hs']
      rcases List.mem_append.1 hs' with e | e
      · obtain ⟨li, h1, h2⟩ := h.reach a List.mem_cons_self s e
        exact ⟨li, h1, (h2.mono hmono).snoc ga⟩
      · obtain ⟨li, h1, h2⟩ := h.reach b (List.mem_cons_of_mem _ List.mem_cons_self) s e
        exact ⟨li, h1, (h2.mono hmono).snoc gb⟩
    · obtain ⟨li, h1, h2⟩ := h.reach g (List.mem_cons_of_mem _ (List.mem_cons_of_mem _ e)) s hs
      rw [bump_out _ _ _ (hap.1 g e s hs)]
      exact ⟨li, h1, h2.mono hmono⟩
  · rw [← h.sum, (hpi.map (·.w)).sum_nat]
    simp only [List.map_cons, List.sum_cons]
    omega
  · refine (symsOf_perm hpi).nodup_iff.2 ?_
    rw [syms_step]
    exact h.nd

/-! ### The beginning -/
def leafL : List Nat → Nat → List Int
  | [], _ => []
  | w :: ws, n => if w = 0 then -1 :: leafL ws n else (n : Int) :: leafL ws (n + 1)
def allL (ws : List Nat) : List (Nat × Int) := (ws.filter (· ≠ 0)).map fun w => (w, -1)
def cntL (ws : List Nat) : Nat := (ws.filter (· ≠ 0)).length

theorem cntL_snoc (l : List Nat) (w : Nat) : cntL (l ++ [w]) = cntL l + if w = 0 then 0 else 1 := by
  unfold cntL
  rw [List.filter_append, List.length_append]
  by_cases h : w = 0 <;> simp [h]
theorem allL_snoc (l : List Nat) (w : Nat) : allL (l ++ [w]) = allL l ++ if w = 0 then [] else [(w, -1)] := by
  unfold allL
  rw [List.filter_append, List.map_append]
  by_cases h : w = 0 <;> simp [h]
theorem allL_length (l : List Nat) : (allL l).length = cntL l := by simp [allL, cntL]
theorem leafL_snoc (l : List Nat) (w : Nat) : ∀ n, leafL (l ++ [w]) n = leafL l n ++ [if w = 0 then -1 else ((n + cntL l : Nat) : Int)] := by
  induction l with
  | nil =>
    intro n
    by_cases h : w = 0 <;> simp [leafL, cntL, h]
  | cons x l ih =>
    intro n
    rw [List.cons_append]
    unfold leafL
    by_cases hx : x = 0
    · rw [if_pos hx, if_pos hx, ih]
      simp [cntL, hx]
    · rw [if_neg hx, if_neg hx, ih]
      by_cases h : w = 0
      · simp [h]
      · simp [cntL, hx, h]
        omega
theorem leafL_length (l : List Nat) : ∀ n, (leafL l n).length = l.length := by
  induction l with
  | nil => intro n; rfl
  | cons x l ih => intro n; unfold leafL; split <;> simp [ih]

theorem cntL_cnt (ws : List Nat) : ∀ i, (stand ws i).length = cntL ws := by
  induction ws with
  | nil => intro i; rfl
  | cons w ws ih =>
    intro i
    unfold stand
    by_cases h : w = 0
    · rw [if_pos h, ih]; simp [cntL, h]
    · rw [if_neg h, List.length_cons, ih]; simp [cntL, h]

theorem leaves_all (ws : List Nat) : ∀ (i n : Nat) (g : Gr), g ∈ leaves ws i n → ∃ s q, g.ss = [i + s] ∧ g.id = n + q ∧ (allL ws)[q]? = some (g.w, -1) ∧ (leafL ws n)[s]? = some (g.id : Int) := by
  induction ws with
  | nil => intro i n g hg; cases hg
  | cons w ws ih =>
    intro i n g hg
    unfold leaves at hg
    unfold leafL
    split at hg
    · rename_i hw
      obtain ⟨s, q, h1, h2, h3, h4⟩ := ih _ _ g hg
      refine ⟨s + 1, q, by rw [h1]; congr 1; omega, h2, ?_, ?_⟩
      · rw [← h3]; simp [allL, hw]
      · rw [if_pos hw]; simpa using h4
    · rename_i hw
      rcases List.mem_cons.1 hg with e | e
      · subst e
        exact ⟨0, 0, rfl, rfl, by simp [allL, hw], by rw [if_neg hw]; rfl⟩
      · obtain ⟨s, q, h1, h2, h3, h4⟩ := ih _ _ g e
        refine ⟨s + 1, q + 1, by rw [h1]; congr 1; omega, by omega, ?_, ?_⟩
        · rw [← h3]; simp [allL, hw]
        · rw [if_neg hw]; simpa using h4

theorem leaves_idlist (ws : List Nat) : ∀ i n, (leaves ws i n).map (·.id) = (List.range (cntL ws)).map (n + ·) := by
  induction ws with
  | nil => intro i n; rfl
  | cons w ws ih =>
    intro i n
    unfold leaves
    by_cases h : w = 0
    · rw [if_pos h, ih]; simp [cntL, h]
    · rw [if_neg h, List.map_cons, ih]
      have e : cntL (w :: ws) = cntL ws + 1 := by simp [cntL, h]
      rw [e, List.range_succ_eq_map, List.map_cons, List.map_map]
      refine congrArg (_ :: ·) (List.map_congr_left fun a _ => ?_)
      show n + 1 + a = n + (a + 1)
      omega

theorem Sim.begin (ws : List Nat) : Sim ws (leafL ws 0) (List.range (cntL ws)) (allL ws) (live0 ws) (cntL ws) fun _ => 0 := by
  have hc : cnt ws = cntL ws := cntL_cnt ws 0
  have hmem : ∀ g ∈ live0 ws, ∃ s q, g.ss = [0 + s] ∧ g.id = 0 + q ∧ (allL ws)[q]? = some (g.w, -1) ∧ (leafL ws 0)[s]? = some (g.id : Int) := fun g hg => leaves_all ws 0 0 g ((live0_perm ws).mem_iff.1 hg)
  refine ⟨by rw [← hc]; exact live0_st ws, allL_length ws, ?_, ?_, leafL_length ws 0, ?_, ?_, live0_nodup ws⟩
  · refine List.Perm.trans ?_ ((live0_perm ws).map (·.id)).symm
    rw [leaves_idlist ws 0 0]
    refine List.Perm.of_eq ?_
    simp
  · intro g hg
    obtain ⟨s, q, _, h2, h3, _⟩ := hmem g hg
    rw [h2, Nat.zero_add]
    exact h3
  · intro g hg s hs
    obtain ⟨s', q, h1, h2, h3, h4⟩ := hmem g hg
    rw [h1] at hs
    have e : s = s' := by simpa using hs
    subst e
    exact ⟨g.id, h4, rfl⟩
  · rw [← leaves_sum ws 0 0]
    exact ((live0_perm ws).map _).sum_nat

end Go.Proofs.Ytihgdlnnfhpdcaa
