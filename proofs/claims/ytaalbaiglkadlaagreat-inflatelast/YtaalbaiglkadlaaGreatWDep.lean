/- Contract of the document's 'depths' of layer 4: how deep each symbol lies, by the plain process. -/
import Derived.Test.YtaalbaiglkadlaaGreatWRow
import Derived.Deep.RegionHeld3
import Derived.Deep.LoopGhost
import Derived.Test.YtaalbaiglkadlaaGreatIRow
namespace Go.Proofs.YtaalbaiglkadlaaGreat
open Go.RowKit Go.Lib

theorem own_form {w : World} {B : Nat} {e : TypeId} {size : Nat} {v : Value} {l : List Int} {x : Int} {xs : List Value} (h : w.ownsRow B e size v (l ++ [x]).length xs) : ∃ g cap, v = .slice (some ⟨g, 0, none⟩) (l.length + 1) cap := by
  rcases h.2 with ⟨_, h⟩ | ⟨g, cap, _, h, _⟩
  · simp at h
  · exact ⟨g, cap, by rw [h]; simp⟩

theorem own_int_at {w : World} {B g cap n : Nat} {l : List Int} {x : Int} (h : w.ownsRow B 3 1 (.slice (some ⟨g, 0, none⟩) (l.length + 1) cap) (l ++ [x]).length (intCs (l ++ [x]))) (hn : l.length = n) : w.cell? ⟨g, n, none⟩ = some (.int .i64 x) ∧ w.frozen? ⟨g, n, none⟩ = false := by
  subst hn
  have e : (l ++ [x]).length = l.length + 1 := by simp
  have h2 : w.ownsRow B 3 1 (.slice (some ⟨g, 0, none⟩) (l ++ [x]).length cap) (l ++ [x]).length (intCs (l ++ [x])) := by rw [e] at h ⊢; exact h
  refine own_int h2 ?_
  rw [List.getElem?_append_right (Nat.le_refl _), Nat.sub_self]
  rfl

theorem range_snoc' (n : Nat) : List.range (n + 1) = List.range n ++ [n] := List.range_succ

theorem set_last (l : List Int) (x y : Int) (n : Nat) (h : l.length = n) : (l ++ [x]).set n y = l ++ [y] := by
  subst h
  rw [List.set_append_right _ _ (Nat.le_refl _), Nat.sub_self]
  rfl

theorem cntL_le (l : List Nat) : cntL l ≤ l.length := List.length_filter_le _ _

theorem ids_nodup (all : List (Nat × Int)) : ∀ live : List Gr, Ord live → (∀ g ∈ live, all[g.id]? = some (g.w, -1)) → (live.map (·.id)).Nodup
  | [], _, _ => List.nodup_nil
  | g :: l, h, hn => by
    obtain ⟨h1, h2⟩ := List.pairwise_cons.1 h
    refine List.nodup_cons.2 ⟨fun hm => ?_, ids_nodup all l h2 fun x hx => hn x (List.mem_cons_of_mem _ hx)⟩
    obtain ⟨x, hx, he⟩ := List.mem_map.1 hm
    have h3 := h1 x hx
    have he2 : x.id = g.id := he
    have h4 := node_inj (hn x (List.mem_cons_of_mem _ hx)) (hn g List.mem_cons_self) he2
    unfold ahead at h3
    omega

/-- How many of the two least are found, and which. -/
structure Found (k : Nat) (a b : Gr) (r : List Gr) (left : List Nat) (x y : Int) : Prop where
  perm : left.Perm (((a :: b :: r).drop k).map (·.id))
  fst : 1 ≤ k → x = a.id
  snd : 2 ≤ k → y = b.id

/-- The least one of the first i. -/
def LeastOf (all : List (Nat × Int)) (left : List Nat) (i best : Nat) : Prop := best < i ∧ i ≤ left.length ∧ ∀ q, q < i → q = best ∨ LtN all (left.getD best 0) (left.getD q 0)

theorem Found.lt {k : Nat} {a b : Gr} {r : List Gr} {left : List Nat} {x y : Int} {n : Nat} (h : Found k a b r left x y) (hs : St (a :: b :: r) n) (z : Nat) (hz : z ∈ left) : z < n := by
  obtain ⟨g, hg, rfl⟩ := List.mem_map.1 (h.perm.mem_iff.1 hz)
  exact hs.lt g (List.mem_of_mem_drop hg)

theorem Found.nodup {k : Nat} {a b : Gr} {r : List Gr} {left : List Nat} {x y : Int} {all : List (Nat × Int)} (h : Found k a b r left x y) (ho : Ord (a :: b :: r)) (hn : ∀ g ∈ a :: b :: r, all[g.id]? = some (g.w, -1)) : left.Nodup := by
  refine h.perm.nodup_iff.2 ?_
  rw [List.map_drop]
  exact (ids_nodup all _ ho hn).sublist (List.drop_sublist _ _)

theorem LeastOf.take {all : List (Nat × Int)} {left : List Nat} {i best p q : Nat} (h : LeastOf all left i best) (hi : i < left.length) (hp : left[i]? = some p) (hq : left[best]? = some q) (hlt : LtN all p q) : LeastOf all left (i + 1) i := by
  have e1 : left.getD i 0 = p := by rw [List.getD_eq_getElem?_getD, hp]; rfl
  have e2 : left.getD best 0 = q := by rw [List.getD_eq_getElem?_getD, hq]; rfl
  refine ⟨by omega, hi, fun z hz => ?_⟩
  by_cases e : z = i
  · exact .inl e
  · right
    rw [e1]
    rcases h.2.2 z (by omega) with e3 | e3
    · rw [e3, e2]; exact hlt
    · rw [e2] at e3
      unfold LtN at *
      omega

theorem LeastOf.keep {all : List (Nat × Int)} {left : List Nat} {i best p q : Nat} (h : LeastOf all left i best) (hi : i < left.length) (hnd : left.Nodup) (hp : left[i]? = some p) (hq : left[best]? = some q) (hlt : ¬ LtN all p q) : LeastOf all left (i + 1) best := by
  have e1 : left.getD i 0 = p := by rw [List.getD_eq_getElem?_getD, hp]; rfl
  have e2 : left.getD best 0 = q := by rw [List.getD_eq_getElem?_getD, hq]; rfl
  have hpq : p ≠ q := by
    intro e
    subst e
    have hb := h.1
    obtain ⟨h1, h2⟩ := List.getElem?_eq_some_iff.1 hp
    obtain ⟨h3, h4⟩ := List.getElem?_eq_some_iff.1 hq
    exact (List.pairwise_iff_getElem.1 hnd) best i h3 h1 hb (h4.trans h2.symm)
  refine ⟨by have := h.1; omega, hi, fun z hz => ?_⟩
  by_cases e : z = i
  · right
    rw [e, e1, e2]
    unfold LtN at *
    omega
  · exact h.2.2 z (by omega)

/-- What lies behind a place: its address, as the walk spells it. -/
theorem drop_addr (g cap best : Nat) (left : List Nat) (hc : left.length ≤ cap) : ∃ A : Addr, (if cap = best + 1 then some (⟨g, 0, none⟩ : Addr) else some ⟨g, best + 1, none⟩) = some A ∧
    ∀ (w : World) (B : Nat), w.ownsRow B 3 1 (.slice (some ⟨g, 0, none⟩) left.length cap) left.length (natCs left) → ∀ j u, (natCs (left.drop (best + 1)))[j]? = some u → w.cell? (A.add j) = some u := by
  by_cases h : cap = best + 1
  · refine ⟨⟨g, 0, none⟩, if_pos h, fun w B _ j u hu => ?_⟩
    rw [List.drop_of_length_le (by omega)] at hu
    simp [natCs] at hu
  · refine ⟨⟨g, best + 1, none⟩, if_neg h, fun w B ho j u hu => ?_⟩
    have hadd : (⟨g, best + 1, none⟩ : Addr).add j = ⟨g, best + 1 + j, none⟩ := Addr.add_mid g (best + 1) j
    have hj : (natCs left)[best + 1 + j]? = some u := by
      rw [← hu]
      unfold natCs
      rw [List.map_drop, List.getElem?_drop]
    rw [hadd, ho.cellAt (best + 1 + j) (by have := (List.getElem?_eq_some_iff.1 hj).1; simp [natCs] at this; omega)]
    exact hj

theorem take_cells (g cap best : Nat) (left : List Nat) (w : World) (B : Nat) (ho : w.ownsRow B 3 1 (.slice (some ⟨g, 0, none⟩) left.length cap) left.length (natCs left)) :
    ∀ j u, (natCs (left.take best))[j]? = some u → w.cell? ((⟨g, 0, none⟩ : Addr).add j) = some u := by
  intro j u hu
  have hadd : (⟨g, 0, none⟩ : Addr).add j = ⟨g, 0 + j, none⟩ := Addr.add_mid g 0 j
  unfold natCs at hu
  rw [List.map_take, List.getElem?_take] at hu
  split at hu
  · rw [hadd, Nat.zero_add, ho.cellAt j (by have := (List.getElem?_eq_some_iff.1 hu).1; simp at this; omega)]
    exact hu
  · cases hu

theorem wrap_sum (a b : Nat) (h : a + b ≤ 562949953421312) : wrap64 ((a : Int) + b) = (a : Int) + b ∧ IntKind.i64.wrap ((a : Int) + b) = (a : Int) + b := by
  constructor
  · unfold wrap64; omega
  · rw [IntKind.wrap_i64]; omega

theorem sum_le (l : List Nat) (M : Nat) (h : ∀ x ∈ l, x ≤ M) : l.sum ≤ l.length * M := by
  induction l with
  | nil => simp
  | cons x l ih =>
    have h1 := h x List.mem_cons_self
    have h2 := ih fun y hy => h y (List.mem_cons_of_mem _ hy)
    rw [List.sum_cons, List.length_cons, Nat.add_mul]
    omega

theorem Found.len {k : Nat} {a b : Gr} {r : List Gr} {left : List Nat} {x y : Int} (h : Found k a b r left x y) (hk : k ≤ 2) : left.length + k = (a :: b :: r).length := by
  have h1 := h.perm.length_eq
  rw [List.length_map, List.length_drop] at h1
  simp only [List.length_cons] at h1 ⊢
  omega

theorem bound_facts (n : Nat) (h : n ≤ 1025) : n + 1 ≤ maxLen ∧ (n + 1) * 16 ≤ 140737488355328 ∧ (n + 1) * 8 ≤ 140737488355328 := by
  unfold maxLen
  omega

/-- append onto a row that is there: its old cells are as they were. -/
theorem run_append_kept {P : Program} (w : World) (base : Nat) (t ty e : TypeId) (i : TypeInfo) (z : Value) (size bytes : Nat) (ht : P.underlying t = some (.slice e)) (hi : P.info? e = some i) (hz : i.zero = some z)
    (hsize : i.size = size) (hby : i.bytes = bytes) (hzs : z.cells.size = size) (hsz : 0 < size)
    (g n cap : Nat) (xs : List Value) (hown : w.ownsRow base e size (.slice (some ⟨g, 0, none⟩) n cap) n xs)
    (a : Addr) (m c : Nat) (news : List Value) (hl : news.length = m * size) (hnews : ∀ j u, news[j]? = some u → w.cell? (a.add j) = some u) (h1 : ∀ u ∈ news, u.oneCell' = true)
    (h63 : n + m ≤ maxLen) (hbytes : (n + m) * bytes ≤ 140737488355328) (hbase : base ≤ w.heap.size) :
    ∃ v' w', (Builtin.append_ #[t, t] ty #[.slice (some ⟨g, 0, none⟩) n cap, .slice (some a) m c]).run P w = .ok v' w' ∧ w'.ownsRow base e size v' (n + m) (xs ++ news) ∧ w.grownBy w' (some g) ∧
      (v'.ownBlock = some g ∨ ∀ k, v'.ownBlock = some k → w.heap.size ≤ k) ∧ ∀ j, j < n * size → w'.cell? ⟨g, j, none⟩ = w.cell? ⟨g, j, none⟩ := by
  obtain ⟨v', w', hr, h2, h3, h4⟩ := run_append_fresh (P := P) w base t ty e i z size bytes ht hi hz hsize hby hzs hsz _ n xs hown a m c news hl hnews h1 h63 hbytes hbase
  refine ⟨v', w', hr, h2, h3, h4, ?_⟩
  have hxl : xs.length = n * size := hown.1
  have hold : ∀ j, j < n * size → w.cell? ⟨g, j, none⟩ = xs[j]? := fun j hj => hown.cellAt j hj
  have hg : ∃ cur, w.heap[g]? = some (.cells cur e (0, 0)) ∧ n ≤ cap ∧ cur.size = cap * size := by
    rcases hown.2 with ⟨h', _⟩ | ⟨g', cap', cur, h', _, hg, hn, _, hcs, _⟩
    · simp at h'
    · simp only [Value.slice.injEq, Option.some.injEq, Addr.mk.injEq, and_true, true_and] at h'
      obtain ⟨rfl, rfl⟩ := h'
      exact ⟨cur, hg, hn, hcs⟩
  obtain ⟨cur, hg, hnc, hcs⟩ := hg
  have hsmall : n + m ≤ 9223372036854775807 := by simp only [maxLen] at h63; omega
  subst hsize
  subst hby
  intro j hj
  by_cases hroom : n + m ≤ cap
  · have hfit : n * i.size + news.length ≤ cur.size := by rw [hl, hcs, ← Nat.add_mul]; exact Nat.mul_le_mul_right _ hroom
    have hr' := run_append_room (P := P) w t ty e i ht hi g n cap cur hg a m c news hl hnews h1 hroom hfit
    rw [hr'] at hr
    injection hr with e1 e2
    rw [← e1] at h2
    rw [h2.cellAt j (by rw [Nat.add_mul]; omega), hold j hj, List.getElem?_append_left (by omega)]
  · have holds : ∀ j u, xs[j]? = some u → w.cell? ((⟨g, 0, none⟩ : Addr).add j) = some u := hown.cells (g := g) rfl
    have hr' := run_append_grow (P := P) w t ty e i z ht hi hz ⟨g, 0, none⟩ n cap xs hown.1 holds a m c news hl hnews (by omega) (by omega) (growslice_fits (by omega) hbytes)
    rw [hr'] at hr
    injection hr with e1 e2
    rw [← e2]
    have hgl : g < w.heap.size := (Array.getElem?_eq_some_iff.1 hg).1
    exact ((Below.refl w.heap.size w).drew.alloc (Nat.le_refl _) _).cell (p := ⟨g, j, none⟩) hgl

theorem wp_append_kept {P : Program} {o : Oper} {a : Act} {w : World} {K : Act → World → Prop} {Q : Exit → Act → World → Prop} (s x : Operand) (t : TypeId)
    (ho : o.op = .call { callee := .builtin .append, args := #[s, x], argTypes := #[t, t] })
    (base : Nat) (e : TypeId) (i : TypeInfo) (z : Value) (size bytes : Nat) (ht : P.underlying t = some (.slice e)) (hi : P.info? e = some i) (hz : i.zero = some z)
    (hsize : i.size = size) (hby : i.bytes = bytes) (hzs : z.cells.size = size) (hsz : 0 < size)
    (g n cap : Nat) (xs : List Value) (hs : a.eval s = .slice (some ⟨g, 0, none⟩) n cap) (hown : w.ownsRow base e size (.slice (some ⟨g, 0, none⟩) n cap) n xs)
    (ad : Addr) (m c : Nat) (news : List Value) (hx : a.eval x = .slice (some ad) m c) (hl : news.length = m * size) (hnews : ∀ j u, news[j]? = some u → w.cell? (ad.add j) = some u) (h1 : ∀ u ∈ news, u.oneCell' = true)
    (h63 : n + m ≤ maxLen) (hbytes : (n + m) * bytes ≤ 140737488355328) (hbase : base ≤ w.heap.size)
    (h : ∀ v' w', w'.ownsRow base e size v' (n + m) (xs ++ news) → w.grownBy w' (some g) → (v'.ownBlock = some g ∨ ∀ k, v'.ownBlock = some k → w.heap.size ≤ k) → (∀ j, j < n * size → w'.cell? ⟨g, j, none⟩ = w.cell? ⟨g, j, none⟩) → K (a.put o.dst v') w') : o.wp P a w K Q := by
  obtain ⟨v', w', hr, h2, h3, h4, h5⟩ := run_append_kept (P := P) w base t o.type e i z size bytes ht hi hz hsize hby hzs hsz g n cap xs hown ad m c news hl hnews h1 h63 hbytes hbase
  unfold Oper.wp execOp
  simp only [ho, resolve, invoke, builtin, Sem.run_bind, Sem.run_pure, Result.andThen_ok, List.map_toArray, List.map_cons, List.map_nil, hs, hx, hr]
  exact h v' w' h2 h3 h4 h5

/-- The lengths of the first j symbols. -/
def outL (ws : List Nat) (j : Nat) : List Nat := (List.range ws.length).map fun i => if i < j then lenF ws i else 0

theorem outL_length (ws : List Nat) (j : Nat) : (outL ws j).length = ws.length := by simp [outL]
theorem outL_get (ws : List Nat) (j i : Nat) (h : i < ws.length) : (outL ws j)[i]? = some (if i < j then lenF ws i else 0) := by
  unfold outL
  rw [List.getElem?_map, List.getElem?_range h]
  rfl
theorem outL_all (ws : List Nat) : outL ws ws.length = lens ws := by
  unfold outL lens
  refine List.map_congr_left fun i hi => ?_
  rw [if_pos (List.mem_range.1 hi)]
theorem outL_zero (ws : List Nat) : natCs (outL ws 0) = List.replicate ws.length (.int .i64 0) := by
  apply List.eq_replicate_iff.2
  refine ⟨by simp [natCs, outL], fun b hb => ?_⟩
  obtain ⟨n, hn, rfl⟩ := List.mem_map.1 hb
  obtain ⟨i, _, rfl⟩ := List.mem_map.1 hn
  simp
theorem outL_set (ws : List Nat) (j : Nat) (h : j < ws.length) : (outL ws j).set j (lenF ws j) = outL ws (j + 1) := by
  apply List.ext_getElem?
  intro i
  by_cases hi : i < ws.length
  · rw [List.getElem?_set, outL_get ws (j + 1) i hi]
    by_cases e : j = i
    · subst e
      rw [if_pos rfl, if_pos (by rw [outL_length]; exact h), if_pos (by omega)]
    · rw [if_neg e, outL_get ws j i hi]
      by_cases h2 : i < j
      · rw [if_pos h2, if_pos (by omega)]
      · rw [if_neg h2, if_neg (by omega)]
  · rw [List.getElem?_eq_none (by rw [List.length_set, outL_length]; omega), List.getElem?_eq_none (by rw [outL_length]; omega)]
theorem outL_same (ws : List Nat) (j : Nat) (h : j < ws.length) : (outL ws j).set j 0 = outL ws j := by
  apply List.ext_getElem?
  intro i
  rw [List.getElem?_set]
  by_cases e : j = i
  · subst e
    rw [if_pos rfl, if_pos (by rw [outL_length]; exact h), outL_get ws j j h, if_neg (by omega)]
  · rw [if_neg e]

theorem Reach.some {all : List (Nat × Int)} {k i r : Nat} {z : Nat × Int} (h : Reach all k i r) (hr : all[r]? = some z) : ∃ w u, all[i]? = some (w, u) := by
  cases k with
  | zero =>
    have e : i = r := h
    exact ⟨z.1, z.2, by rw [e]; exact hr⟩
  | succ k =>
    obtain ⟨w, j, h1, _⟩ := h
    exact ⟨w, _, h1⟩

theorem leafL_get (ws : List Nat) : ∀ (n j : Nat), j < ws.length → ws.getD j 0 = 0 → (leafL ws n)[j]? = some (-1) := by
  induction ws with
  | nil => intro n j h; simp at h
  | cons w ws ih =>
    intro n j h hz
    unfold leafL
    cases j with
    | zero =>
      rw [List.getD_cons_zero] at hz
      rw [if_pos hz]
      rfl
    | succ j =>
      rw [List.getD_cons_succ] at hz
      rw [List.length_cons] at h
      split
      · rw [List.getElem?_cons_succ]; exact ih _ j (by omega) hz
      · rw [List.getElem?_cons_succ]; exact ih _ j (by omega) hz

theorem huff_le : ∀ (k : Nat) (l : List Gr) (n : Nat) (d : Nat → Nat) (s : Nat), huff k l n d s ≤ d s + k
  | 0, l, _, d, s => by cases l <;> exact Nat.le_refl _
  | k + 1, [], _, d, s => Nat.le_add_right _ _
  | k + 1, [_], _, d, s => Nat.le_add_right _ _
  | k + 1, a :: b :: r, n, d, s => by
    have h := huff_le k (ins ⟨a.w + b.w, n, a.ss ++ b.ss⟩ r) (n + 1) (bump (a.ss ++ b.ss) d) s
    have h2 : bump (a.ss ++ b.ss) d s ≤ d s + 1 := by unfold bump; split <;> omega
    show huff k _ (n + 1) _ s ≤ _
    omega

theorem dep_le (ws : List Nat) (h : ws.length ≤ 512) (s : Nat) : dep ws s ≤ 512 := by
  have h1 := huff_le (cnt ws - 1) (live0 ws) (cnt ws) (fun _ => 0) s
  have h2 : cnt ws = cntL ws := cntL_cnt ws 0
  have h3 := cntL_le ws
  unfold dep
  omega

end Go.Proofs.YtaalbaiglkadlaaGreat
