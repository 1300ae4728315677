/- Contract of the document's 'depths' of layer 4: how deep each symbol lies, by the plain process. -/
import Derived.Test.YtaalbaiglkadlaaWRow
import Derived.Deep.RegionHeld3
import Derived.Deep.LoopGhost
import Derived.Test.YtaalbaiglkadlaaIRow
namespace Go.Proofs.Ytaalbaiglkadlaa
open Go.RowKit Go.Lib

theorem Try.infoNode : (Try.prog.info? 121).map (fun i => (i.zero, i.size, i.bytes)) = some (some (.agg #[.int .i64 0, .int .i64 0]), 2, 16) := by kernel_rfl

theorem own_form {w : World} {B : Nat} {e : TypeId} {size : Nat} {v : Value} {l : List Int} {x : Int} {xs : List Value} (h : w.ownsRow B e size v (l ++ [x]).length xs) : ∃ g cap, v = .slice (some ⟨g, 0, none⟩) (l.length + 1) cap := by
  rcases h.2 with ⟨_, h⟩ | ⟨g, cap, _, h, _⟩
  · simp at h
  · exact ⟨g, cap, by rw [h]; simp⟩

theorem own_int_at {w : World} {B g cap n : Nat} {l : List Int} {x : Int} (h : w.ownsRow B 3 1 (.slice (some ⟨g, 0, none⟩) (l.length + 1) cap) (l ++ [x]).length (intCs (l ++ [x]))) (hn : l.length = n) : w.cell? ⟨g, n, none⟩ = some (.int .i64 x) ∧ w.frozen? ⟨g, n, none⟩ = false := by
  subst hn
  have e : (l ++ [x]).length = l.length + 1 := by simp
  have h2 : w.ownsRow B 3 1 (.slice (some ⟨g, 0, none⟩) (l ++ [x]).length cap) (l ++ [x]).length (intCs (l ++ [x])) := by rw [e] at h ⊢; exact h
  refine own_int h2 ?_
  rw [List.getElem?_append_right (Nat.le_refl _), Nat.sub_self]
  rfl

/-- The rows behind j symbols. -/
structure Loop1 (w W : World) (va vl vf : Value) (l : List Nat) : Prop where
  rows : Three w W.heap.size va vl vf (leafL l 0) (List.range (cntL l)) (allL l)
  bel : Below W.heap.size W w

theorem range_snoc' (n : Nat) : List.range (n + 1) = List.range n ++ [n] := List.range_succ

theorem Loop1.next0 {w W : World} {va vl vf : Value} {l : List Nat} (h : Three w W.heap.size va vl vf (leafL l 0 ++ [-1]) (List.range (cntL l)) (allL l)) (b : Below W.heap.size W w) : Loop1 w W va vl vf (l ++ [0]) := by
  refine ⟨?_, b⟩
  rw [leafL_snoc, cntL_snoc, allL_snoc]
  simpa using h

theorem Loop1.next1 {w W : World} {va vl vf : Value} {l : List Nat} {x : Nat} (hx : x ≠ 0) (h : Three w W.heap.size va vl vf (leafL l 0 ++ [(cntL l : Int)]) (List.range (cntL l) ++ [cntL l]) (allL l ++ [(x, -1)])) (b : Below W.heap.size W w) : Loop1 w W va vl vf (l ++ [x]) := by
  refine ⟨?_, b⟩
  rw [leafL_snoc, cntL_snoc, allL_snoc, if_neg hx, if_neg hx, if_neg hx, Nat.zero_add, range_snoc']
  exact h

theorem set_last (l : List Int) (x y : Int) (n : Nat) (h : l.length = n) : (l ++ [x]).set n y = l ++ [y] := by
  subst h
  rw [List.set_append_right _ _ (Nat.le_refl _), Nat.sub_self]
  rfl

theorem cntL_le (l : List Nat) : cntL l ≤ l.length := List.length_filter_le _ _

/-- The rows while nodes are put together. -/
structure Loop2 (w W : World) (va vl vf : Value) (ws : List Nat) (left : List Nat) (all : List (Nat × Int)) (live : List Gr) (n : Nat) (d : Nat → Nat) : Prop where
  sim : Sim ws (leafL ws 0) left all live n d
  rows : Three w W.heap.size va vl vf (leafL ws 0) left all
  bel : Below W.heap.size W w
  run : huff (live.length - 1) live n d = dep ws
  num : all.length + live.length = 2 * cntL ws
  syms : (symsOf live).Perm (stand ws 0)

theorem Loop2.start {w W : World} {va vl vf : Value} {ws : List Nat} (h : Loop1 w W va vl vf ws) : Loop2 w W va vl vf ws (List.range (cntL ws)) (allL ws) (live0 ws) (cntL ws) fun _ => 0 := by
  have hc : cnt ws = cntL ws := cntL_cnt ws 0
  refine ⟨Sim.begin ws, h.rows, h.bel, ?_, ?_, live0_syms ws⟩
  · rw [live0_length, ← hc]
    rfl
  · rw [allL_length, live0_length]
    omega

/-- The two least ones, under way: block p has them. -/
structure Loop3 (w W : World) (p : Nat) (va vl vf : Value) (leaf : List Int) (left : List Nat) (all : List (Nat × Int)) (x y : Int) : Prop where
  rows : Three w W.heap.size va vl vf leaf left all
  bel : Below W.heap.size W w
  two : w.heap[p]? = some (.cells #[.int .i64 x, .int .i64 y] 122 (0, 0))
  pB : W.heap.size ≤ p
  pa : va.ownBlock ≠ some p
  pl : vl.ownBlock ≠ some p
  pf : vf.ownBlock ≠ some p

theorem Loop3.drew {w W : World} {p : Nat} {va vl vf : Value} {leaf : List Int} {left : List Nat} {all : List (Nat × Int)} {x y : Int} (h : Loop3 w W p va vl vf leaf left all x y) : Loop3 w.drew W p va vl vf leaf left all x y :=
  ⟨h.rows.drew, h.bel.drew, h.two, h.pB, h.pa, h.pl, h.pf⟩

theorem Loop3.start {w W : World} {va vl vf : Value} {leaf : List Int} {left : List Nat} {all : List (Nat × Int)} (h : Three w W.heap.size va vl vf leaf left all) (b : Below W.heap.size W w) : Loop3 (w.alloc (.cells #[.int .i64 0, .int .i64 0] 122)) W w.heap.size va vl vf leaf left all 0 0 :=
  ⟨h.alloc _, b.alloc b.size _, by show (w.heap.push _)[w.heap.size]? = _; simp, b.size, own_ne h.oa (Nat.le_refl _), own_ne h.ol (Nat.le_refl _), own_ne h.of (Nat.le_refl _)⟩

theorem Loop3.drewN {w W : World} {p : Nat} {va vl vf : Value} {leaf : List Int} {left : List Nat} {all : List (Nat × Int)} {x y : Int} (h : Loop3 w W p va vl vf leaf left all x y) (m : Nat) : Loop3 (w.drewN m) W p va vl vf leaf left all x y :=
  ⟨⟨h.rows.oa, h.rows.ol, h.rows.of, h.rows.al, h.rows.af, h.rows.lf⟩, ⟨h.bel.os, h.bel.tape, h.bel.output, h.bel.size, h.bel.block⟩, h.two, h.pB, h.pa, h.pl, h.pf⟩

theorem ids_nodup (all : List (Nat × Int)) : ∀ live : List Gr, Ord live → (∀ g ∈ live, all[g.id]? = some (g.w, -1)) → (live.map (·.id)).Nodup
  | [], _, _ => List.nodup_nil
  | g :: l, h, hn => by
    obtain ⟨h1, h2⟩ := List.pairwise_cons.1 h
    refine List.nodup_cons.2 ⟨fun hm => ?_, ids_nodup all l h2 fun x hx => hn x (List.mem_cons_of_mem _ hx)⟩
    obtain ⟨x, hx, he⟩ := List.mem_map.1 hm
    have h3 := h1 x hx
    have he2 : x.id = g.id := he
    have h4 := node_inj (hn x (List.mem_cons_of_mem _ hx)) (hn g List.mem_cons_self) he2
    unfold ahead at h3
    omega

/-- How many of the two least are found, and which. -/
structure Found (k : Nat) (a b : Gr) (r : List Gr) (left : List Nat) (x y : Int) : Prop where
  perm : left.Perm (((a :: b :: r).drop k).map (·.id))
  fst : 1 ≤ k → x = a.id
  snd : 2 ≤ k → y = b.id

/-- The least one of the first i. -/
def LeastOf (all : List (Nat × Int)) (left : List Nat) (i best : Nat) : Prop := best < i ∧ i ≤ left.length ∧ ∀ q, q < i → q = best ∨ LtN all (left.getD best 0) (left.getD q 0)

theorem Found.lt {k : Nat} {a b : Gr} {r : List Gr} {left : List Nat} {x y : Int} {n : Nat} (h : Found k a b r left x y) (hs : St (a :: b :: r) n) (z : Nat) (hz : z ∈ left) : z < n := by
  obtain ⟨g, hg, rfl⟩ := List.mem_map.1 (h.perm.mem_iff.1 hz)
  exact hs.lt g (List.mem_of_mem_drop hg)

theorem Found.nodup {k : Nat} {a b : Gr} {r : List Gr} {left : List Nat} {x y : Int} {all : List (Nat × Int)} (h : Found k a b r left x y) (ho : Ord (a :: b :: r)) (hn : ∀ g ∈ a :: b :: r, all[g.id]? = some (g.w, -1)) : left.Nodup := by
  refine h.perm.nodup_iff.2 ?_
  rw [List.map_drop]
  exact (ids_nodup all _ ho hn).sublist (List.drop_sublist _ _)

theorem LeastOf.take {all : List (Nat × Int)} {left : List Nat} {i best p q : Nat} (h : LeastOf all left i best) (hi : i < left.length) (hp : left[i]? = some p) (hq : left[best]? = some q) (hlt : LtN all p q) : LeastOf all left (i + 1) i := by
  have e1 : left.getD i 0 = p := by rw [List.getD_eq_getElem?_getD, hp]; rfl
  have e2 : left.getD best 0 = q := by rw [List.getD_eq_getElem?_getD, hq]; rfl
  refine ⟨by omega, hi, fun z hz => ?_⟩
  by_cases e : z = i
  · exact .inl e
  · right
    rw [e1]
    rcases h.2.2 z (by omega) with e3 | e3
    · rw [e3, e2]; exact hlt
    · rw [e2] at e3
      unfold LtN at *
      omega

theorem LeastOf.keep {all : List (Nat × Int)} {left : List Nat} {i best p q : Nat} (h : LeastOf all left i best) (hi : i < left.length) (hnd : left.Nodup) (hp : left[i]? = some p) (hq : left[best]? = some q) (hlt : ¬ LtN all p q) : LeastOf all left (i + 1) best := by
  have e1 : left.getD i 0 = p := by rw [List.getD_eq_getElem?_getD, hp]; rfl
  have e2 : left.getD best 0 = q := by rw [List.getD_eq_getElem?_getD, hq]; rfl
  have hpq : p ≠ q := by
    intro e
    subst e
    have hb := h.1
    obtain ⟨h1, h2⟩ := List.getElem?_eq_some_iff.1 hp
    obtain ⟨h3, h4⟩ := List.getElem?_eq_some_iff.1 hq
    exact (List.pairwise_iff_getElem.1 hnd) best i h3 h1 hb (h4.trans h2.symm)
  refine ⟨by have := h.1; omega, hi, fun z hz => ?_⟩
  by_cases e : z = i
  · right
    rw [e, e1, e2]
    unfold LtN at *
    omega
  · exact h.2.2 z (by omega)

theorem Loop3.set0 {w W : World} {p : Nat} {va vl vf : Value} {leaf : List Int} {left : List Nat} {all : List (Nat × Int)} {x y : Int} (h : Loop3 w W p va vl vf leaf left all x y) (z : Int) : Loop3 (w.setCell ⟨p, 0, none⟩ (.int .i64 z)) W p va vl vf leaf left all z y :=
  ⟨⟨ownsRow_setCell_other h.rows.oa h.pa _, ownsRow_setCell_other h.rows.ol h.pl _, ownsRow_setCell_other h.rows.of h.pf _, h.rows.al, h.rows.af, h.rows.lf⟩, h.bel.setCell (p := ⟨p, 0, none⟩) h.pB _, by rw [heap_setCell_same _ _ _ _ _ _ _ h.two]; rfl, h.pB, h.pa, h.pl, h.pf⟩
theorem Loop3.set1 {w W : World} {p : Nat} {va vl vf : Value} {leaf : List Int} {left : List Nat} {all : List (Nat × Int)} {x y : Int} (h : Loop3 w W p va vl vf leaf left all x y) (z : Int) : Loop3 (w.setCell ⟨p, 1, none⟩ (.int .i64 z)) W p va vl vf leaf left all x z :=
  ⟨⟨ownsRow_setCell_other h.rows.oa h.pa _, ownsRow_setCell_other h.rows.ol h.pl _, ownsRow_setCell_other h.rows.of h.pf _, h.rows.al, h.rows.af, h.rows.lf⟩, h.bel.setCell (p := ⟨p, 1, none⟩) h.pB _, by rw [heap_setCell_same _ _ _ _ _ _ _ h.two]; rfl, h.pB, h.pa, h.pl, h.pf⟩
theorem Loop3.cells {w W : World} {p : Nat} {va vl vf : Value} {leaf : List Int} {left : List Nat} {all : List (Nat × Int)} {x y : Int} (h : Loop3 w W p va vl vf leaf left all x y) :
    w.cell? ⟨p, 0, none⟩ = some (.int .i64 x) ∧ w.cell? ⟨p, 1, none⟩ = some (.int .i64 y) ∧ w.frozen? ⟨p, 0, none⟩ = false ∧ w.frozen? ⟨p, 1, none⟩ = false := by
  refine ⟨?_, ?_, ?_, ?_⟩
  · rw [cell_of_row _ _ 0 _ _ (0, 0) h.two]; rfl
  · rw [cell_of_row _ _ 1 _ _ (0, 0) h.two]; rfl
  · simp [World.frozen?, h.two]
  · simp [World.frozen?, h.two]

/-- What is left is laid anew. -/
theorem Loop3.newLeft {w w' W : World} {p : Nat} {va vl vf v' : Value} {leaf : List Int} {left left2 : List Nat} {all : List (Nat × Int)} {x y : Int} (h : Loop3 w W p va vl vf leaf left all x y) (b : Below w.heap.size w w')
    (o : w'.ownsRow W.heap.size 3 1 v' left2.length (natCs left2)) (hf : ∀ k, v'.ownBlock = some k → w.heap.size ≤ k) : Loop3 w' W p va v' vf leaf left2 all x y := by
  have hp : p < w.heap.size := (Array.getElem?_eq_some_iff.1 h.two).1
  refine ⟨⟨own_below h.rows.oa b (Nat.le_refl _), o, own_below h.rows.of b (Nat.le_refl _), (apart_new h.rows.oa hf).symm, h.rows.af, apart_new h.rows.of hf⟩, h.bel.trans (b.mono h.bel.size), by rw [b.block p hp]; exact h.two, h.pB, h.pa, fun e => ?_, h.pf⟩
  have := hf p e
  omega

/-- What lies behind a place: its address, as the walk spells it. -/
theorem drop_addr (g cap best : Nat) (left : List Nat) (hc : left.length ≤ cap) : ∃ A : Addr, (if cap = best + 1 then some (⟨g, 0, none⟩ : Addr) else some ⟨g, best + 1, none⟩) = some A ∧
    ∀ (w : World) (B : Nat), w.ownsRow B 3 1 (.slice (some ⟨g, 0, none⟩) left.length cap) left.length (natCs left) → ∀ j u, (natCs (left.drop (best + 1)))[j]? = some u → w.cell? (A.add j) = some u := by
  by_cases h : cap = best + 1
  · refine ⟨⟨g, 0, none⟩, if_pos h, fun w B _ j u hu => ?_⟩
    rw [List.drop_of_length_le (by omega)] at hu
    simp [natCs] at hu
  · refine ⟨⟨g, best + 1, none⟩, if_neg h, fun w B ho j u hu => ?_⟩
    have hadd : (⟨g, best + 1, none⟩ : Addr).add j = ⟨g, best + 1 + j, none⟩ := Addr.add_mid g (best + 1) j
    have hj : (natCs left)[best + 1 + j]? = some u := by
      rw [← hu]
      unfold natCs
      rw [List.map_drop, List.getElem?_drop]
    rw [hadd, ho.cellAt (best + 1 + j) (by have := (List.getElem?_eq_some_iff.1 hj).1; simp [natCs] at this; omega)]
    exact hj

theorem take_cells (g cap best : Nat) (left : List Nat) (w : World) (B : Nat) (ho : w.ownsRow B 3 1 (.slice (some ⟨g, 0, none⟩) left.length cap) left.length (natCs left)) :
    ∀ j u, (natCs (left.take best))[j]? = some u → w.cell? ((⟨g, 0, none⟩ : Addr).add j) = some u := by
  intro j u hu
  have hadd : (⟨g, 0, none⟩ : Addr).add j = ⟨g, 0 + j, none⟩ := Addr.add_mid g 0 j
  unfold natCs at hu
  rw [List.map_take, List.getElem?_take] at hu
  split at hu
  · rw [hadd, Nat.zero_add, ho.cellAt j (by have := (List.getElem?_eq_some_iff.1 hu).1; simp at this; omega)]
    exact hu
  · cases hu

theorem Loop3.below {w w' W : World} {p : Nat} {va vl vf : Value} {leaf : List Int} {left : List Nat} {all : List (Nat × Int)} {x y : Int} (h : Loop3 w W p va vl vf leaf left all x y) (b : Below w.heap.size w w') : Loop3 w' W p va vl vf leaf left all x y := by
  have hp : p < w.heap.size := (Array.getElem?_eq_some_iff.1 h.two).1
  exact ⟨⟨own_below h.rows.oa b (Nat.le_refl _), own_below h.rows.ol b (Nat.le_refl _), own_below h.rows.of b (Nat.le_refl _), h.rows.al, h.rows.af, h.rows.lf⟩, h.bel.trans (b.mono h.bel.size), by rw [b.block p hp]; exact h.two, h.pB, h.pa, h.pl, h.pf⟩

/-- A node more. -/
theorem Loop3.newAll {w w' W : World} {p : Nat} {va vl vf v' : Value} {leaf : List Int} {left : List Nat} {all : List (Nat × Int)} {x y : Int} (h : Loop3 w W p va vl vf leaf left all x y) (z : Nat) (u : Int)
    (ho : w'.ownsRow W.heap.size 121 2 v' (all.length + 1) (nodeCs all ++ [.int .i64 (z : Int), .int .i64 u])) (hg : w.grownBy w' va.ownBlock) (hf : v'.ownBlock = va.ownBlock ∨ ∀ k, v'.ownBlock = some k → w.heap.size ≤ k) :
    Loop3 w' W p v' vl vf leaf left (all ++ [(z, u)]) x y := by
  have hp : p < w.heap.size := (Array.getElem?_eq_some_iff.1 h.two).1
  refine ⟨h.rows.appAll z u ho hg hf, Below.grownB h.bel hg h.rows.oa h.bel.size, by rw [hg.block p hp (fun e => h.pa e.symm)]; exact h.two, h.pB, fun e => ?_, h.pl, h.pf⟩
  rcases hf with e2 | e2
  · rw [e2] at e; exact h.pa e
  · have := e2 p e
    omega

theorem wrap_sum (a b : Nat) (h : a + b ≤ 562949953421312) : wrap64 ((a : Int) + b) = (a : Int) + b ∧ IntKind.i64.wrap ((a : Int) + b) = (a : Int) + b := by
  constructor
  · unfold wrap64; omega
  · rw [IntKind.wrap_i64]; omega

/-- A step is done. -/
theorem Loop2.step {w w' W : World} {va vl vf va' vl' : Value} {ws left l2 : List Nat} {all : List (Nat × Int)} {a b : Gr} {r : List Gr} {d : Nat → Nat} (h : Loop2 w W va vl vf ws left all (a :: b :: r) all.length d) (hl : l2.Perm (r.map (·.id)))
    (rows : Three w' W.heap.size va' vl' vf (leafL ws 0) (l2 ++ [all.length]) (((all ++ [(a.w + b.w, -1)]).set a.id (a.w, (all.length : Int))).set b.id (b.w, (all.length : Int)))) (bel : Below W.heap.size W w') :
    Loop2 w' W va' vl' vf ws (l2 ++ [all.length]) (stepAll all a.id b.id) (ins ⟨a.w + b.w, all.length, a.ss ++ b.ss⟩ r) (all.length + 1) (bump (a.ss ++ b.ss) d) := by
  have hs := h.sim.step hl
  refine ⟨hs.1, by rw [hs.2]; exact rows, bel, ?_, ?_, ?_⟩
  · rw [← h.run, ins_length]
    rfl
  · have h1 := h.num
    have h2 := hs.1.len
    rw [h2, ins_length]
    simp only [List.length_cons] at h1
    omega
  · refine (symsOf_perm (ins_perm _ r)).trans ?_
    rw [syms_step]
    exact h.syms

theorem sum_le (l : List Nat) (M : Nat) (h : ∀ x ∈ l, x ≤ M) : l.sum ≤ l.length * M := by
  induction l with
  | nil => simp
  | cons x l ih =>
    have h1 := h x List.mem_cons_self
    have h2 := ih fun y hy => h y (List.mem_cons_of_mem _ hy)
    rw [List.sum_cons, List.length_cons, Nat.add_mul]
    omega

theorem Loop2.bounds {w W : World} {va vl vf : Value} {ws left : List Nat} {all : List (Nat × Int)} {live : List Gr} {n : Nat} {d : Nat → Nat} (h : Loop2 w W va vl vf ws left all live n d) (hlen : ws.length ≤ 512) : all.length ≤ 1024 ∧ live.length ≤ 1024 ∧ left.length = live.length := by
  have h1 := h.num
  have h2 := cntL_le ws
  have h3 := h.sim.perm.length_eq
  rw [List.length_map] at h3
  omega

theorem Loop2.sums {w W : World} {va vl vf : Value} {ws left : List Nat} {all : List (Nat × Int)} {a b : Gr} {r : List Gr} {n : Nat} {d : Nat → Nat} (h : Loop2 w W va vl vf ws left all (a :: b :: r) n d) (hlen : ws.length ≤ 512) (hmax : ∀ x ∈ ws, x ≤ 1099511627776) : a.w + b.w ≤ 562949953421312 := by
  have h1 := h.sim.sum
  have h2 := sum_le ws 1099511627776 hmax
  have h3 : ws.length * 1099511627776 ≤ 512 * 1099511627776 := Nat.mul_le_mul_right _ hlen
  simp only [List.map_cons, List.sum_cons] at h1
  omega

theorem Found.len {k : Nat} {a b : Gr} {r : List Gr} {left : List Nat} {x y : Int} (h : Found k a b r left x y) (hk : k ≤ 2) : left.length + k = (a :: b :: r).length := by
  have h1 := h.perm.length_eq
  rw [List.length_map, List.length_drop] at h1
  simp only [List.length_cons] at h1 ⊢
  omega

theorem bound_facts (n : Nat) (h : n ≤ 1025) : n + 1 ≤ maxLen ∧ (n + 1) * 16 ≤ 140737488355328 ∧ (n + 1) * 8 ≤ 140737488355328 := by
  unfold maxLen
  omega

/-- append onto a row that is there: its old cells are as they were. -/
theorem run_append_kept {P : Program} (w : World) (base : Nat) (t ty e : TypeId) (i : TypeInfo) (z : Value) (size bytes : Nat) (ht : P.underlying t = some (.slice e)) (hi : P.info? e = some i) (hz : i.zero = some z)
    (hsize : i.size = size) (hby : i.bytes = bytes) (hzs : z.cells.size = size) (hsz : 0 < size)
    (g n cap : Nat) (xs : List Value) (hown : w.ownsRow base e size (.slice (some ⟨g, 0, none⟩) n cap) n xs)
    (a : Addr) (m c : Nat) (news : List Value) (hl : news.length = m * size) (hnews : ∀ j u, news[j]? = some u → w.cell? (a.add j) = some u) (h1 : ∀ u ∈ news, u.oneCell' = true)
    (h63 : n + m ≤ maxLen) (hbytes : (n + m) * bytes ≤ 140737488355328) (hbase : base ≤ w.heap.size) :
    ∃ v' w', (Builtin.append_ #[t, t] ty #[.slice (some ⟨g, 0, none⟩) n cap, .slice (some a) m c]).run P w = .ok v' w' ∧ w'.ownsRow base e size v' (n + m) (xs ++ news) ∧ w.grownBy w' (some g) ∧
      (v'.ownBlock = some g ∨ ∀ k, v'.ownBlock = some k → w.heap.size ≤ k) ∧ ∀ j, j < n * size → w'.cell? ⟨g, j, none⟩ = w.cell? ⟨g, j, none⟩ := by
  obtain ⟨v', w', hr, h2, h3, h4⟩ := run_append_fresh (P := P) w base t ty e i z size bytes ht hi hz hsize hby hzs hsz _ n xs hown a m c news hl hnews h1 h63 hbytes hbase
  refine ⟨v', w', hr, h2, h3, h4, ?_⟩
  have hxl : xs.length = n * size := hown.1
  have hold : ∀ j, j < n * size → w.cell? ⟨g, j, none⟩ = xs[j]? := fun j hj => hown.cellAt j hj
  have hg : ∃ cur, w.heap[g]? = some (.cells cur e (0, 0)) ∧ n ≤ cap ∧ cur.size = cap * size := by
    rcases hown.2 with ⟨h', _⟩ | ⟨g', cap', cur, h', _, hg, hn, _, hcs, _⟩
    · simp at h'
    · simp only [Value.slice.injEq, Option.some.injEq, Addr.mk.injEq, and_true, true_and] at h'
      obtain ⟨rfl, rfl⟩ := h'
      exact ⟨cur, hg, hn, hcs⟩
  obtain ⟨cur, hg, hnc, hcs⟩ := hg
  have hsmall : n + m ≤ 9223372036854775807 := by simp only [maxLen] at h63; omega
  subst hsize
  subst hby
  intro j hj
  by_cases hroom : n + m ≤ cap
  · have hfit : n * i.size + news.length ≤ cur.size := by rw [hl, hcs, ← Nat.add_mul]; exact Nat.mul_le_mul_right _ hroom
    have hr' := run_append_room (P := P) w t ty e i ht hi g n cap cur hg a m c news hl hnews h1 hroom hfit
    rw [hr'] at hr
    injection hr with e1 e2
    rw [← e1] at h2
    rw [h2.cellAt j (by rw [Nat.add_mul]; omega), hold j hj, List.getElem?_append_left (by omega)]
  · have holds : ∀ j u, xs[j]? = some u → w.cell? ((⟨g, 0, none⟩ : Addr).add j) = some u := hown.cells (g := g) rfl
    have hr' := run_append_grow (P := P) w t ty e i z ht hi hz ⟨g, 0, none⟩ n cap xs hown.1 holds a m c news hl hnews (by omega) (by omega) (growslice_fits (by omega) hbytes)
    rw [hr'] at hr
    injection hr with e1 e2
    rw [← e2]
    have hgl : g < w.heap.size := (Array.getElem?_eq_some_iff.1 hg).1
    exact ((Below.refl w.heap.size w).drew.alloc (Nat.le_refl _) _).cell (p := ⟨g, j, none⟩) hgl

theorem wp_append_kept {P : Program} {o : Oper} {a : Act} {w : World} {K : Act → World → Prop} {Q : Exit → Act → World → Prop} (s x : Operand) (t : TypeId)
    (ho : o.op = .call { callee := .builtin .append, args := #[s, x], argTypes := #[t, t] })
    (base : Nat) (e : TypeId) (i : TypeInfo) (z : Value) (size bytes : Nat) (ht : P.underlying t = some (.slice e)) (hi : P.info? e = some i) (hz : i.zero = some z)
    (hsize : i.size = size) (hby : i.bytes = bytes) (hzs : z.cells.size = size) (hsz : 0 < size)
    (g n cap : Nat) (xs : List Value) (hs : a.eval s = .slice (some ⟨g, 0, none⟩) n cap) (hown : w.ownsRow base e size (.slice (some ⟨g, 0, none⟩) n cap) n xs)
    (ad : Addr) (m c : Nat) (news : List Value) (hx : a.eval x = .slice (some ad) m c) (hl : news.length = m * size) (hnews : ∀ j u, news[j]? = some u → w.cell? (ad.add j) = some u) (h1 : ∀ u ∈ news, u.oneCell' = true)
    (h63 : n + m ≤ maxLen) (hbytes : (n + m) * bytes ≤ 140737488355328) (hbase : base ≤ w.heap.size)
    (h : ∀ v' w', w'.ownsRow base e size v' (n + m) (xs ++ news) → w.grownBy w' (some g) → (v'.ownBlock = some g ∨ ∀ k, v'.ownBlock = some k → w.heap.size ≤ k) → (∀ j, j < n * size → w'.cell? ⟨g, j, none⟩ = w.cell? ⟨g, j, none⟩) → K (a.put o.dst v') w') : o.wp P a w K Q := by
  obtain ⟨v', w', hr, h2, h3, h4, h5⟩ := run_append_kept (P := P) w base t o.type e i z size bytes ht hi hz hsize hby hzs hsz g n cap xs hown ad m c news hl hnews h1 h63 hbytes hbase
  unfold Oper.wp execOp
  simp only [ho, resolve, invoke, builtin, Sem.run_bind, Sem.run_pure, Result.andThen_ok, List.map_toArray, List.map_cons, List.map_nil, hs, hx, hr]
  exact h v' w' h2 h3 h4 h5

/-- The lengths of the first j symbols. -/
def outL (ws : List Nat) (j : Nat) : List Nat := (List.range ws.length).map fun i => if i < j then lenF ws i else 0

theorem outL_length (ws : List Nat) (j : Nat) : (outL ws j).length = ws.length := by simp [outL]
theorem outL_get (ws : List Nat) (j i : Nat) (h : i < ws.length) : (outL ws j)[i]? = some (if i < j then lenF ws i else 0) := by
  unfold outL
  rw [List.getElem?_map, List.getElem?_range h]
  rfl
theorem outL_all (ws : List Nat) : outL ws ws.length = lens ws := by
  unfold outL lens
  refine List.map_congr_left fun i hi => ?_
  rw [if_pos (List.mem_range.1 hi)]
theorem outL_zero (ws : List Nat) : natCs (outL ws 0) = List.replicate ws.length (.int .i64 0) := by
  apply List.eq_replicate_iff.2
  refine ⟨by simp [natCs, outL], fun b hb => ?_⟩
  obtain ⟨n, hn, rfl⟩ := List.mem_map.1 hb
  obtain ⟨i, _, rfl⟩ := List.mem_map.1 hn
  simp
theorem outL_set (ws : List Nat) (j : Nat) (h : j < ws.length) : (outL ws j).set j (lenF ws j) = outL ws (j + 1) := by
  apply List.ext_getElem?
  intro i
  by_cases hi : i < ws.length
  · rw [List.getElem?_set, outL_get ws (j + 1) i hi]
    by_cases e : j = i
    · subst e
      rw [if_pos rfl, if_pos (by rw [outL_length]; exact h), if_pos (by omega)]
    · rw [if_neg e, outL_get ws j i hi]
      by_cases h2 : i < j
      · rw [if_pos h2, if_pos (by omega)]
      · rw [if_neg h2, if_neg (by omega)]
  · rw [List.getElem?_eq_none (by rw [List.length_set, outL_length]; omega), List.getElem?_eq_none (by rw [outL_length]; omega)]
theorem outL_same (ws : List Nat) (j : Nat) (h : j < ws.length) : (outL ws j).set j 0 = outL ws j := by
  apply List.ext_getElem?
  intro i
  rw [List.getElem?_set]
  by_cases e : j = i
  · subst e
    rw [if_pos rfl, if_pos (by rw [outL_length]; exact h), outL_get ws j j h, if_neg (by omega)]
  · rw [if_neg e]

/-- The answer under way: block o has these numbers. -/
structure Loop5 (w W : World) (va vl vf : Value) (o : Nat) (ws left : List Nat) (all : List (Nat × Int)) (out : List Nat) : Prop where
  rows : Three w W.heap.size va vl vf (leafL ws 0) left all
  bel : Below W.heap.size W w
  own : w.ownsRow W.heap.size 3 1 (.slice (some ⟨o, 0, none⟩) out.length out.length) out.length (natCs out)
  oa : va.ownBlock ≠ some o
  ol : vl.ownBlock ≠ some o
  of : vf.ownBlock ≠ some o

theorem Loop5.start {w W : World} {va vl vf : Value} {ws left : List Nat} {all : List (Nat × Int)} (h : Three w W.heap.size va vl vf (leafL ws 0) left all) (b : Below W.heap.size W w) (hl : ws.length ≤ 512) :
    Loop5 (w.alloc (.cells (madeCells #[.int .i64 0] ws.length) 3)) W va vl vf w.heap.size ws left all (outL ws 0) := by
  have ho := World.ownsRow_lit (e := 3) (size := 1) w (madeCells #[.int .i64 0] ws.length) ws.length b.size (by unfold maxLen; omega) (by rw [size_madeCells]; omega)
  rw [toList_madeCells_one, ← outL_zero] at ho
  refine ⟨h.alloc _, b.alloc b.size _, ?_, own_ne h.oa (Nat.le_refl _), own_ne h.ol (Nat.le_refl _), own_ne h.of (Nat.le_refl _)⟩
  rw [outL_length]
  exact ho

theorem Loop5.set {w W : World} {va vl vf : Value} {o : Nat} {ws left : List Nat} {all : List (Nat × Int)} {out : List Nat} (h : Loop5 w W va vl vf o ws left all out) (j x : Nat) : Loop5 (w.setCell ⟨o, j, none⟩ (.int .i64 (x : Int))) W va vl vf o ws left all (out.set j x) := by
  have hs := h.own.stored j (.int .i64 (x : Int))
  refine ⟨⟨ownsRow_setCell_other h.rows.oa h.oa _, ownsRow_setCell_other h.rows.ol h.ol _, ownsRow_setCell_other h.rows.of h.of _, h.rows.al, h.rows.af, h.rows.lf⟩, h.bel.setCell (p := ⟨o, j, none⟩) (h.own.lt o rfl).1 _, ?_, h.oa, h.ol, h.of⟩
  have e : (natCs out).set j (.int .i64 (x : Int)) = natCs (out.set j x) := by unfold natCs; rw [List.map_set]
  rw [List.length_set, ← e]
  exact hs.1

theorem Reach.some {all : List (Nat × Int)} {k i r : Nat} {z : Nat × Int} (h : Reach all k i r) (hr : all[r]? = some z) : ∃ w u, all[i]? = some (w, u) := by
  cases k with
  | zero =>
    have e : i = r := h
    exact ⟨z.1, z.2, by rw [e]; exact hr⟩
  | succ k =>
    obtain ⟨w, j, h1, _⟩ := h
    exact ⟨w, _, h1⟩

theorem leafL_get (ws : List Nat) : ∀ (n j : Nat), j < ws.length → ws.getD j 0 = 0 → (leafL ws n)[j]? = some (-1) := by
  induction ws with
  | nil => intro n j h; simp at h
  | cons w ws ih =>
    intro n j h hz
    unfold leafL
    cases j with
    | zero =>
      rw [List.getD_cons_zero] at hz
      rw [if_pos hz]
      rfl
    | succ j =>
      rw [List.getD_cons_succ] at hz
      rw [List.length_cons] at h
      split
      · rw [List.getElem?_cons_succ]; exact ih _ j (by omega) hz
      · rw [List.getElem?_cons_succ]; exact ih _ j (by omega) hz

theorem huff_le : ∀ (k : Nat) (l : List Gr) (n : Nat) (d : Nat → Nat) (s : Nat), huff k l n d s ≤ d s + k
  | 0, l, _, d, s => by cases l <;> exact Nat.le_refl _
  | k + 1, [], _, d, s => Nat.le_add_right _ _
  | k + 1, [_], _, d, s => Nat.le_add_right _ _
  | k + 1, a :: b :: r, n, d, s => by
    have h := huff_le k (ins ⟨a.w + b.w, n, a.ss ++ b.ss⟩ r) (n + 1) (bump (a.ss ++ b.ss) d) s
    have h2 : bump (a.ss ++ b.ss) d s ≤ d s + 1 := by unfold bump; split <;> omega
    show huff k _ (n + 1) _ s ≤ _
    omega

theorem dep_le (ws : List Nat) (h : ws.length ≤ 512) (s : Nat) : dep ws s ≤ 512 := by
  have h1 := huff_le (cnt ws - 1) (live0 ws) (cnt ws) (fun _ => 0) s
  have h2 : cnt ws = cntL ws := cntL_cnt ws 0
  have h3 := cntL_le ws
  unfold dep
  omega

/-- At the end: of a symbol that stands, its leaf, and the way up. -/
theorem Loop2.last {w W : World} {va vl vf : Value} {ws left : List Nat} {all : List (Nat × Int)} {live : List Gr} {n : Nat} {d : Nat → Nat} (h : Loop2 w W va vl vf ws left all live n d) (hl : left.length ≤ 1) (j : Nat) (hj : j ∈ stand ws 0) :
    ∃ li r wr : Nat, (leafL ws 0)[j]? = some (li : Int) ∧ Reach all (dep ws j) li r ∧ all[r]? = some (wr, -1) ∧ lenF ws j = if all.length = 1 then 1 else dep ws j := by
  have hll : live.length = left.length := by rw [h.sim.perm.length_eq, List.length_map]
  have hm : j ∈ symsOf live := h.syms.mem_iff.2 hj
  obtain ⟨g, hg, hgj⟩ := List.mem_flatMap.1 hm
  have hpos : 0 < live.length := List.length_pos_of_mem hg
  have hone : live.length = 1 := by omega
  obtain ⟨g', hg'⟩ := List.length_eq_one_iff.1 hone
  have hd : d = dep ws := by
    have := h.run
    rw [hg'] at this
    exact this
  obtain ⟨li, h1, h2⟩ := h.sim.reach g hg j hgj
  rw [hd] at h2
  refine ⟨li, g.id, g.w, h1, h2, h.sim.node g hg, ?_⟩
  have hn := h.num
  have hc : cnt ws = cntL ws := cntL_cnt ws 0
  unfold lenF
  rw [if_neg ((stand0 ws j).1 hj).2]
  by_cases h3 : cnt ws = 1
  · rw [if_pos h3, if_pos (by omega)]
  · rw [if_neg h3, if_neg (by omega)]

set_option maxRecDepth 20000 in
set_option maxHeartbeats 4000000 in
theorem depths_any (ws : List Nat) (hlen : ws.length ≤ 512) (hmax : ∀ x ∈ ws, x ≤ 1099511627776) (a : Option Addr) (cap : Nat) (W : World) (harg : ArgN W a ws) :
    Calls Try.prog 70 #[.slice a ws.length cap] W fun e w' => ∃ v, e = .returned v ∧ w'.ownsRow W.heap.size 3 1 v ws.length (natCs (lens ws)) ∧ Below W.heap.size W w' := by
  have HA := hide harg
  have HM := hide hmax
  have HL := hide hlen
  have R0 := hide (show Loop1 W W (.slice none 0 0) (.slice none 0 0) (.slice none 0 0) (ws.take 0) from ⟨⟨World.ownsRow_nil _ _ _ _, World.ownsRow_nil _ _ _ _, World.ownsRow_nil _ _ _ _, Apart.nil _, Apart.nil _, Apart.nil _⟩, Below.refl _ _⟩)
  clear harg hmax hlen
  obtain ⟨i0, hi, hz0, hz1, hz2⟩ := info_parts Try.infoInt
  obtain ⟨i1, ki, kz0, kz1, kz2⟩ := info_parts Try.infoNode
  go_enter Try.func70, Try.ntmps70
  go_wp2
  go_loopw [3, 4, 5, 6] (fun va vl vf c wr => ∃ j : Nat, j ≤ ws.length ∧ c = .int .i64 j ∧ Hid (Loop1 wr W va vl vf (ws.take j))) (fun _ _ _ c _ => ws.length - (intOf c).toNat)
  case atStart => exact ⟨0, Nat.zero_le _, rfl, R0⟩
  case round =>
    obtain ⟨j, hj, rfl, HR⟩ := hrel
    by_cases hlt : j < ws.length
    · obtain ⟨x, hx⟩ : ∃ x, ws[j]? = some x := ⟨_, List.getElem?_eq_getElem hlt⟩
      obtain ⟨b, off, rfl, hb, hc⟩ := HA.out j x hx
      have HX := hide hx
      have hl512 := HL.out
      have hjl : (ws.take j).length = j := by rw [List.length_take]; omega
      have hlf : (leafL (ws.take j) 0).length = j := by rw [leafL_length, hjl]
      have hcn : cntL (ws.take j) ≤ j := by have := cntL_le (ws.take j); omega
      have hal := allL_length (ws.take j)
      have hB := HR.out.bel.size
      have hz : (wr.alloc (.cells #[.int .i64 (-1)] 3)).heap.size = wr.heap.size + 1 := by show (wr.heap.push _).size = _; simp
      have HB := hide hb
      have HC := hide hc
      have M1 := hide (show (leafL (ws.take j) 0).length + 1 ≤ maxLen by rw [hlf]; unfold maxLen; omega)
      have M2 := hide (show ((leafL (ws.take j) 0).length + 1) * 8 ≤ 140737488355328 by rw [hlf]; omega)
      have M3 := hide (show W.heap.size ≤ (wr.alloc (.cells #[.int .i64 (-1)] 3)).heap.size by rw [hz]; omega)
      clear hx hb hc
      by_cases hx0 : x = 0
      · subst hx0
        go_wp2_with (first
          | (at_builtin; refine wpList_append_fresh _ rfl _ _ 59 rfl W.heap.size 3 i0 (.int .i64 0) 1 8 Try.underlying59 hi hz0 hz1 hz2 rfl (by decide) u5 _ _ rfl (HR.out.rows.of.alloc _) ⟨wr.heap.size, 0, none⟩ 1 1 [.int .i64 (-1)] rfl rfl (cell_one_new _ _ _) (fun x hx => by simp at hx; subst hx; rfl) M1.out M2.out M3.out ?_; intro v1 w1 o1 g1 f1; have T1 := (HR.out.rows.alloc _).appLeaf (-1) o1 g1 f1; have B1 := Below.grownB (HR.out.bel.alloc hB _) g1 (HR.out.rows.of.alloc _) M3.out; have _cx := (B1.cell (p := ⟨b, off + j, none⟩) HB.out).trans HC.out; have HT := hide T1; have HB1 := hide B1; clear o1 g1 f1 T1 B1))
        go_roundw
        case rel => exact ⟨j + 1, hlt, by go_num, by rw [take_snocW ws j 0 HX.out]; exact Loop1.next0 HT.out HB1.out⟩
        case measure => exact meas_oneW j ws.length hlt
      · have hx1 : (0 : Int) < x := by omega
        have HAL := hide hal
        rcases len_form HR.out.rows.oa with ⟨rfl, hn0⟩ | ⟨ga, ca, rfl⟩
        · rw [hal] at hn0
          have HN0 := hide hn0
          clear hal hn0
          have T2c : ((leafL (ws.take j) 0) ++ [-1]).length = (leafL (ws.take j) 0).length + 1 := by simp
          have HT2c := hide T2c
          have HLF := hide hlf
          have N1 := hide (show (List.range (cntL (ws.take j))).length + 1 ≤ maxLen by rw [List.length_range]; unfold maxLen; omega)
          have N2 := hide (show ((List.range (cntL (ws.take j))).length + 1) * 8 ≤ 140737488355328 by rw [List.length_range]; omega)
          have N4 := hide (show (allL (ws.take j)).length + 1 ≤ maxLen by rw [HAL.out]; unfold maxLen; omega)
          have N5 := hide (show ((allL (ws.take j)).length + 1) * 16 ≤ 140737488355328 by rw [HAL.out]; omega)
          clear T2c
          go_wp2_with (first
            | (at_builtin; refine wpList_append_fresh _ rfl _ _ 59 rfl W.heap.size 3 i0 (.int .i64 0) 1 8 Try.underlying59 hi hz0 hz1 hz2 rfl (by decide) u5 _ _ rfl (HR.out.rows.of.alloc _) ⟨wr.heap.size, 0, none⟩ 1 1 [.int .i64 (-1)] rfl rfl (cell_one_new _ _ _) (fun x hx => by simp at hx; subst hx; rfl) M1.out M2.out M3.out ?_; intro v1 w1 o1 g1 f1; have T1 := (HR.out.rows.alloc _).appLeaf (-1) o1 g1 f1; have B1 := Below.grownB (HR.out.bel.alloc hB _) g1 (HR.out.rows.of.alloc _) M3.out; have _cx := (B1.cell (p := ⟨b, off + j, none⟩) HB.out).trans HC.out; obtain ⟨g, cp, rfl⟩ := own_form T1.of; obtain ⟨_c1, _f1⟩ := own_int_at T1.of hlf; have T2 := T1.setLeaf HT2c.out j ((0 : Nat) : Int); rw [set_last _ _ _ _ HLF.out] at T2; have B2 := B1.setCell (p := ⟨g, j, none⟩) (T1.of.lt g rfl).1 (.int .i64 ((0 : Nat) : Int)); have S2 := size_setCell w1 ⟨g, j, none⟩ (.int .i64 ((0 : Nat) : Int)); have HT2 := hide T2; have HB2 := hide B2; have HS2 := hide S2; clear T1 B1 T2 B2 S2 o1 g1 f1)
            | (at_builtin; refine wpList_append_fresh _ rfl _ _ 59 rfl W.heap.size 3 i0 (.int .i64 0) 1 8 Try.underlying59 hi hz0 hz1 hz2 rfl (by decide) u4 _ _ rfl (HT2.out.ol.alloc _) ⟨w1.heap.size, 0, none⟩ 1 1 [.int .i64 ((0 : Nat) : Int)] rfl rfl (cell_one_at _ _ HS2.out _ ()) (fun x hx => by simp at hx; subst hx; rfl) N1.out N2.out (size_alloc_le HB2.out.size) ?_; intro v2 w2 o2 g2 f2; have T3 := (HT2.out.alloc _).appLeft (0) o2 g2 f2; have B3 := Below.grownB (HB2.out.alloc HB2.out.size _) g2 (HT2.out.ol.alloc _) (size_alloc_le HB2.out.size); have _cx2 := (B3.cell (p := ⟨b, off + j, none⟩) HB.out).trans HC.out; have HT3 := hide T3; have HB3 := hide B3; clear T3 B3 o2 g2 f2)
            | (at_builtin; refine wpList_append_fresh _ rfl _ _ 119 rfl W.heap.size 121 i1 (.agg #[.int .i64 0, .int .i64 0]) 2 16 Try.underlying119 ki kz0 kz1 kz2 rfl (by decide) (.slice none 0 0) _ _ rfl (HT3.out.oa.alloc _) ⟨w2.heap.size, 0, none⟩ 1 1 [.int .i64 (x : Int), .int .i64 (-1)] rfl rfl (cell_two_new _ _ _ _) (fun x hx => by simp at hx; rcases hx with rfl | rfl <;> rfl) N4.out N5.out (size_alloc_le HB3.out.size) ?_; intro v3 w3 o3 g3 f3; have T4 := (HT3.out.alloc _).appAll x (-1) o3 g3 f3; have B4 := Below.grownB (HB3.out.alloc HB3.out.size _) g3 (HT3.out.oa.alloc _) (size_alloc_le HB3.out.size); have HT4 := hide T4; have HB4 := hide B4; clear T4 B4 o3 g3 f3))
          go_roundw
          case rel => exact ⟨j + 1, hlt, by go_num, by rw [take_snocW ws j x HX.out]; exact Loop1.next1 hx0 (by rw [HN0.out, HLF.out] at HT4; rw [HN0.out]; exact HT4.out) HB4.out⟩
          case measure => exact meas_oneW j ws.length hlt
        · rw [hal] at HR ⊢
          clear hal
          have T2c : ((leafL (ws.take j) 0) ++ [-1]).length = (leafL (ws.take j) 0).length + 1 := by simp
          have HT2c := hide T2c
          have HLF := hide hlf
          have N1 := hide (show (List.range (cntL (ws.take j))).length + 1 ≤ maxLen by rw [List.length_range]; unfold maxLen; omega)
          have N2 := hide (show ((List.range (cntL (ws.take j))).length + 1) * 8 ≤ 140737488355328 by rw [List.length_range]; omega)
          have N4 := hide (show (allL (ws.take j)).length + 1 ≤ maxLen by rw [HAL.out]; unfold maxLen; omega)
          have N5 := hide (show ((allL (ws.take j)).length + 1) * 16 ≤ 140737488355328 by rw [HAL.out]; omega)
          clear T2c
          go_wp2_with (first
            | (at_builtin; refine wpList_append_fresh _ rfl _ _ 59 rfl W.heap.size 3 i0 (.int .i64 0) 1 8 Try.underlying59 hi hz0 hz1 hz2 rfl (by decide) u5 _ _ rfl (HR.out.rows.of.alloc _) ⟨wr.heap.size, 0, none⟩ 1 1 [.int .i64 (-1)] rfl rfl (cell_one_new _ _ _) (fun x hx => by simp at hx; subst hx; rfl) M1.out M2.out M3.out ?_; intro v1 w1 o1 g1 f1; have T1 := (HR.out.rows.alloc _).appLeaf (-1) o1 g1 f1; have B1 := Below.grownB (HR.out.bel.alloc hB _) g1 (HR.out.rows.of.alloc _) M3.out; have _cx := (B1.cell (p := ⟨b, off + j, none⟩) HB.out).trans HC.out; obtain ⟨g, cp, rfl⟩ := own_form T1.of; obtain ⟨_c1, _f1⟩ := own_int_at T1.of hlf; have T2 := T1.setLeaf HT2c.out j ((cntL (ws.take j) : Nat) : Int); rw [set_last _ _ _ _ HLF.out] at T2; have B2 := B1.setCell (p := ⟨g, j, none⟩) (T1.of.lt g rfl).1 (.int .i64 ((cntL (ws.take j) : Nat) : Int)); have S2 := size_setCell w1 ⟨g, j, none⟩ (.int .i64 ((cntL (ws.take j) : Nat) : Int)); have HT2 := hide T2; have HB2 := hide B2; have HS2 := hide S2; clear T1 B1 T2 B2 S2 o1 g1 f1)
            | (at_builtin; refine wpList_append_fresh _ rfl _ _ 59 rfl W.heap.size 3 i0 (.int .i64 0) 1 8 Try.underlying59 hi hz0 hz1 hz2 rfl (by decide) u4 _ _ rfl (HT2.out.ol.alloc _) ⟨w1.heap.size, 0, none⟩ 1 1 [.int .i64 ((cntL (ws.take j) : Nat) : Int)] rfl rfl (cell_one_at _ _ HS2.out _ ()) (fun x hx => by simp at hx; subst hx; rfl) N1.out N2.out (size_alloc_le HB2.out.size) ?_; intro v2 w2 o2 g2 f2; have T3 := (HT2.out.alloc _).appLeft (cntL (ws.take j)) o2 g2 f2; have B3 := Below.grownB (HB2.out.alloc HB2.out.size _) g2 (HT2.out.ol.alloc _) (size_alloc_le HB2.out.size); have _cx2 := (B3.cell (p := ⟨b, off + j, none⟩) HB.out).trans HC.out; have HT3 := hide T3; have HB3 := hide B3; clear T3 B3 o2 g2 f2)
            | (at_builtin; refine wpList_append_fresh _ rfl _ _ 119 rfl W.heap.size 121 i1 (.agg #[.int .i64 0, .int .i64 0]) 2 16 Try.underlying119 ki kz0 kz1 kz2 rfl (by decide) (.slice (some ⟨ga, 0, none⟩) (cntL (ws.take j)) ca) _ _ rfl (HT3.out.oa.alloc _) ⟨w2.heap.size, 0, none⟩ 1 1 [.int .i64 (x : Int), .int .i64 (-1)] rfl rfl (cell_two_new _ _ _ _) (fun x hx => by simp at hx; rcases hx with rfl | rfl <;> rfl) N4.out N5.out (size_alloc_le HB3.out.size) ?_; intro v3 w3 o3 g3 f3; have T4 := (HT3.out.alloc _).appAll x (-1) o3 g3 f3; have B4 := Below.grownB (HB3.out.alloc HB3.out.size _) g3 (HT3.out.oa.alloc _) (size_alloc_le HB3.out.size); have HT4 := hide T4; have HB4 := hide B4; clear T4 B4 o3 g3 f3))
          go_roundw
          case rel => exact ⟨j + 1, hlt, by go_num, by rw [take_snocW ws j x HX.out]; exact Loop1.next1 hx0 (by rw [HLF.out] at HT4; exact HT4.out) HB4.out⟩
          case measure => exact meas_oneW j ws.length hlt
    · have hjw : j = ws.length := by omega
      subst hjw
      have H2 := hide (Loop2.start (by have := HR.out; rw [List.take_of_length_le (Nat.le_refl _)] at this; exact this))
      clear HR hlt hj R0
      rename World => wm
      go_wp2
      go_loopw [3, 4] (fun va vl wr => ∃ left all live n d, Hid (Loop2 wr W va vl u5 ws left all live n d)) (fun _ v _ => match v with | .slice _ n _ => n | _ => 0)
      case atStart => exact ⟨_, _, _, _, _, H2⟩
      case round =>
        obtain ⟨left, all, live, n, d, H⟩ := hrel
        have hnn := H.out.sim.len
        subst hnn
        by_cases hlen : 1 < left.length
        · have hll : live.length = left.length := by rw [H.out.sim.perm.length_eq, List.length_map]
          obtain ⟨ga, gb, gr, hlive⟩ : ∃ x y z, live = x :: y :: z := by
            match live, hll with
            | [], h => simp at h; omega
            | [_], h => simp at h; omega
            | x :: y :: z, _ => exact ⟨x, y, z, rfl⟩
          subst hlive
          obtain ⟨gl, cl, rfl⟩ := own_slice H.out.rows.ol (by omega)
          have hpos : 0 < all.length := by rw [H.out.sim.len]; exact Nat.lt_of_le_of_lt (Nat.zero_le _) (H.out.sim.st.lt ga List.mem_cons_self)
          obtain ⟨gA, cA, rfl⟩ := own_slice H.out.rows.oa hpos
          have hbd := H.out.bounds HL.out
          have hn512 : left.length ≤ 1024 := by omega
          have HALL := hide hbd.1
          have HLL := hide hll
          clear hbd
          have L0 := hide (Loop3.start H.out.rows H.out.bel)
          have F0 := hide (show Found 0 ga gb gr left 0 0 from ⟨H.out.sim.perm, fun h => absurd h (by decide), fun h => absurd h (by decide)⟩)
          have hl1 : (1 : Int) < left.length := by omega
          clear hll H2
          rename World => wn
          go_wp2
          go_loopw [4, 8] (fun vl c wr => ∃ k left' x y, k ≤ 2 ∧ c = .int .i64 (k : Nat) ∧ Hid (Loop3 wr W wn.heap.size (.slice (some ⟨gA, 0, none⟩) all.length cA) vl u5 (leafL ws 0) left' all x y) ∧ Hid (Found k ga gb gr left' x y)) (fun _ c _ => 2 - (intOf c).toNat)
          case atStart => exact ⟨0, left, 0, 0, by decide, rfl, L0, F0⟩
          case round =>
            obtain ⟨k, left', x, y, hk, rfl, HL3, HF⟩ := hrel
            by_cases hk2 : k < 2
            · have hkz : (k : Int) < 2 := by omega
              have hl' : left'.length + k = left.length := by rw [HF.out.len hk]; exact HLL.out
              obtain ⟨gl', cl', rfl⟩ := own_slice HL3.out.rows.ol (by omega)
              have Q0 := hide (show LeastOf all left' 1 0 from ⟨by decide, by omega, fun q hq => .inl (by omega)⟩)
              rename World => wk
              go_wp2
              go_loopw [9, 10] (fun bv iv wr => ∃ i best, bv = .int .i64 (best : Nat) ∧ iv = .int .i64 (i : Nat) ∧ Hid (Loop3 wr W wn.heap.size (.slice (some ⟨gA, 0, none⟩) all.length cA) (.slice (some ⟨gl', 0, none⟩) left'.length cl') u5 (leafL ws 0) left' all x y) ∧ Hid (LeastOf all left' i best)) (fun _ iv _ => left'.length - (intOf iv).toNat)
              case atStart => exact ⟨1, 0, rfl, rfl, HL3, Q0⟩
              case round =>
                obtain ⟨i, best, rfl, rfl, HL4, HQ⟩ := hrel
                have hlb := HQ.out.1
                have hli := HQ.out.2.1
                by_cases hi4 : i < left'.length
                · obtain ⟨p, hp⟩ : ∃ p, left'[i]? = some p := ⟨_, List.getElem?_eq_getElem hi4⟩
                  obtain ⟨q, hq⟩ : ∃ q, left'[best]? = some q := ⟨_, List.getElem?_eq_getElem (by omega)⟩
                  have hpn : p < all.length := by rw [H.out.sim.len]; exact HF.out.lt H.out.sim.st p (List.mem_of_getElem? hp)
                  have hqn : q < all.length := by rw [H.out.sim.len]; exact HF.out.lt H.out.sim.st q (List.mem_of_getElem? hq)
                  have hnd := HF.out.nodup H.out.sim.st.ord H.out.sim.node
                  obtain ⟨⟨wp, up⟩, hwp⟩ : ∃ z, all[p]? = some z := ⟨_, List.getElem?_eq_getElem hpn⟩
                  obtain ⟨⟨wq, uq⟩, hwq⟩ : ∃ z, all[q]? = some z := ⟨_, List.getElem?_eq_getElem hqn⟩
                  obtain ⟨_c1, _⟩ := own_nat HL4.out.rows.ol hp
                  obtain ⟨_c2, _⟩ := own_nat HL4.out.rows.ol hq
                  obtain ⟨_c3, _, _⟩ := own_node HL4.out.rows.oa hwp
                  obtain ⟨_c4, _, _⟩ := own_node HL4.out.rows.oa hwq
                  have z1 : (i : Int) < left'.length := by omega
                  have z2 : (best : Int) < left'.length := by omega
                  have z3 : (p : Int) < all.length := by omega
                  have z4 : (q : Int) < all.length := by omega
                  have HP := hide hp
                  have HQQ := hide hq
                  have HWP := hide hwp
                  have HWQ := hide hwq
                  clear hp hq hwp hwq hpn hqn
                  have HND := hide hnd
                  have HKP := hide (LeastOf.keep HQ.out hi4 hnd HP.out HQQ.out)
                  have HTK := hide (LeastOf.take HQ.out hi4 HP.out HQQ.out)
                  have HLT := hide (show LtN all p q ↔ wp < wq ∨ (wp = wq ∧ p < q) by unfold LtN; rw [wt_of_node HWP.out, wt_of_node HWQ.out])
                  clear hnd
                  by_cases t1 : wp < wq
                  · have d1 : decide ((wp : Int) < wq) = true := by simp; omega
                    go_wp2
                    go_quiet (fail)
                    go_wp2
                    go_roundw
                    case rel => exact ⟨i + 1, i, rfl, by go_num, hide (HL4.out.drewN _), hide (HTK.out (HLT.out.2 (.inl t1)))⟩
                    case measure => exact meas_oneW i left'.length hi4
                  · have d1 : decide ((wp : Int) < wq) = false := by simp; omega
                    by_cases t2 : wp = wq
                    · have d2 : ((wp : Int) == wq) = true := by simp; omega
                      by_cases t3 : p < q
                      · have d3 : decide ((p : Int) < q) = true := by simp; omega
                        go_wp2
                        go_quiet (fail)
                        go_wp2
                        go_roundw
                        case rel => exact ⟨i + 1, i, rfl, by go_num, hide (HL4.out.drewN _), hide (HTK.out (HLT.out.2 (.inr ⟨t2, t3⟩)))⟩
                        case measure => exact meas_oneW i left'.length hi4
                      · have d3 : decide ((p : Int) < q) = false := by simp; omega
                        go_wp2
                        go_quiet (fail)
                        go_wp2
                        go_roundw
                        case rel => exact ⟨i + 1, best, rfl, by go_num, hide (HL4.out.drewN _), hide (HKP.out (fun h => by have := HLT.out.1 h; omega))⟩
                        case measure => exact meas_oneW i left'.length hi4
                    · have d2 : ((wp : Int) == wq) = false := by simp; omega
                      go_wp2
                      go_quiet (fail)
                      go_wp2
                      go_roundw
                      case rel => exact ⟨i + 1, best, rfl, by go_num, hide (HL4.out.drewN _), hide (HKP.out (fun h => by have := HLT.out.1 h; omega))⟩
                      case measure => exact meas_oneW i left'.length hi4
                · have hie : i = left'.length := by omega
                  subst hie
                  have hk01 : k = 0 ∨ k = 1 := by omega
                  rcases hk01 with rfl | rfl
                  · have hpk := pick (all := all) (a := ga) (rest := gb :: gr) H.out.sim.st.ord HF.out.perm (fun g hg => wt_of_node (H.out.sim.node g hg)) hlb (fun q hq => HQ.out.2.2 q hq)
                    have hcb : left'[best]? = some ga.id := by rw [getD_some left' best hlb, hpk.1]
                    obtain ⟨_c1, _⟩ := own_nat HL4.out.rows.ol hcb
                    obtain ⟨_t0, _t1, _g0, _g1⟩ := HL4.out.cells
                    have z2 : (best : Int) < left'.length := by omega
                    have HCB := hide hcb
                    have HPK := hide hpk
                    have H5 := hide (HL4.out.set0 ((ga.id : Nat) : Int))
                    clear hcb hpk
                    have zc : (best : Int) ≤ cl' := by have := own_cap HL4.out.rows.ol; omega
                    have hcap := own_cap HL4.out.rows.ol
                    have HCAP := hide hcap
                    have zw : wrap64 ((best : Int) + 1) = (best : Int) + 1 := by unfold wrap64; omega
                    have zw2 : IntKind.i64.wrap ((best : Int) + 1) = (best : Int) + 1 := by rw [IntKind.wrap_i64]; omega
                    have zb : (best : Int) + 1 ≤ left'.length := by omega
                    have zl : (left'.length : Int) ≤ cl' := by omega
                    have z0 : (0 : Int) ≤ (best : Int) + 1 := by omega
                    obtain ⟨A, hA, hAc⟩ := drop_addr gl' cl' best left' hcap
                    have HAC := hide hAc
                    have HLB := hide hlb
                    have HN5 := hide hn512
                    clear hcap hAc
                    go_wp2
                    generalize wr.setCell ⟨wn.heap.size, 0, none⟩ (.int .i64 ((ga.id : Nat) : Int)) = w5 at *
                    refine wp_region_noPanic ?_
                    refine wp_region_held_drew (S := (fun _ => True)) (by kernel_rfl) ?_ (fun hHeld => ?_)
                    · exact trivial
                    refine wpAnyH_take (i := 1) (oi := _) (v := ?_) rfl (by kernel_rfl) (by kernel_rfl) (by kernel_rfl) (fun _ _ _ h => h) (Or.inl ⟨by rfl, ?_⟩) hHeld ?_
                    rotate_left
                    · (intro w hSw; (try dsimp only at hSw); go_simp; try with_reducible rfl)
                    (try simp only [Act.put, List.getElem_toArray, List.getElem_cons_zero, List.getElem_cons_succ, List.setIfInBounds_toArray, List.set_cons_zero, List.set_cons_succ])
                    refine wpAnyH_take (i := 2) (oi := _) (v := ?_) rfl (by kernel_rfl) (by kernel_rfl) (by kernel_rfl) (fun _ _ _ h => h) (Or.inl ⟨by rfl, ?_⟩) hHeld ?_
                    rotate_left
                    · (intro w hSw; (try dsimp only at hSw); go_simp; try with_reducible rfl)
                    (try simp only [Act.put, List.getElem_toArray, List.getElem_cons_zero, List.getElem_cons_succ, List.setIfInBounds_toArray, List.set_cons_zero, List.set_cons_succ])
                    refine wpAnyH_take (i := 5) (oi := _) (v := ?_) rfl (by kernel_rfl) (by kernel_rfl) (by kernel_rfl) (fun _ _ _ h => h) (Or.inl ⟨by rfl, ?_⟩) hHeld ?_
                    rotate_left
                    · (intro w hSw; (try dsimp only at hSw); go_simp; try with_reducible rfl)
                    (try simp only [Act.put, List.getElem_toArray, List.getElem_cons_zero, List.getElem_cons_succ, List.setIfInBounds_toArray, List.set_cons_zero, List.set_cons_succ])
                    refine wpAnyH_take (i := 6) (oi := _) (v := ?_) rfl (by kernel_rfl) (by kernel_rfl) (by kernel_rfl) (fun _ _ _ h => h) (Or.inl ⟨by rfl, ?_⟩) hHeld ?_
                    rotate_left
                    · (intro w hSw; (try dsimp only at hSw); go_simp; try with_reducible rfl)
                    (try simp only [Act.put, List.getElem_toArray, List.getElem_cons_zero, List.getElem_cons_succ, List.setIfInBounds_toArray, List.set_cons_zero, List.set_cons_succ])
                    refine wpAnyH_take (i := 7) (oi := _) (v := ?_) rfl (by kernel_rfl) (by kernel_rfl) (by kernel_rfl) (fun _ _ _ h => h) (Or.inl ⟨by rfl, ?_⟩) hHeld ?_
                    rotate_left
                    · (intro w hSw; (try dsimp only at hSw); go_simp; try with_reducible rfl)
                    (try simp only [Act.put, List.getElem_toArray, List.getElem_cons_zero, List.getElem_cons_succ, List.setIfInBounds_toArray, List.set_cons_zero, List.set_cons_succ])
                    refine wpAnyH_take (i := 3) (oi := _) (v := ?_) rfl (by kernel_rfl) (by kernel_rfl) (by kernel_rfl) (fun _ _ _ h => h) (Or.inl ⟨by rfl, ?_⟩) hHeld ?_
                    rotate_left
                    · (intro w hSw; (try dsimp only at hSw); go_simp; try with_reducible rfl)
                    (try simp only [Act.put, List.getElem_toArray, List.getElem_cons_zero, List.getElem_cons_succ, List.setIfInBounds_toArray, List.set_cons_zero, List.set_cons_succ])
                    refine wpAnyH_take (i := 8) (oi := _) (v := ?_) rfl (by kernel_rfl) (by kernel_rfl) (by kernel_rfl) (fun _ _ _ h => h) (Or.inl ⟨by rfl, ?_⟩) hHeld ?_
                    rotate_left
                    · (intro w hSw; (try dsimp only at hSw); go_simp; try with_reducible rfl)
                    (try simp only [Act.put, List.getElem_toArray, List.getElem_cons_zero, List.getElem_cons_succ, List.setIfInBounds_toArray, List.set_cons_zero, List.set_cons_succ])
                    refine wpAnyH_ready (rs := [0]) (by kernel_rfl) (by simp) ?_
                    refine AllReadyH.cons rfl (fun K hK => ?_) AllReadyH.nil
                    rw [if_pos (by rfl)]
                    go_simp
                    refine hK.out _ _ ?_ (fun hNext => ?_)
                    · exact trivial
                    clear hK K hHeld
                    have hHeld := hNext
                    clear hNext
                    (try simp only [Act.put, List.getElem_toArray, List.getElem_cons_zero, List.getElem_cons_succ, List.setIfInBounds_toArray, List.set_cons_zero, List.set_cons_succ])
                    have o5 : (w5.drew.alloc (.cells #[] 3)).ownsRow W.heap.size 3 1 (.slice (some ⟨w5.drew.heap.size, 0, none⟩) 0 0) 0 [] := World.ownsRow_lit w5.drew #[] 0 H5.out.bel.size (by decide) rfl
                    have r5 := H5.out.rows.ol.drew.alloc (.cells #[] 3)
                    have X1 : (natCs (left'.take best)).length = best * 1 := by rw [natCs_len, List.length_take]; have := HLB.out; omega
                    have X2 : 0 + best ≤ maxLen := by have := HLB.out; have := HN5.out; unfold maxLen; omega
                    have X3 : (0 + best) * 8 ≤ 140737488355328 := by have := HLB.out; have := HN5.out; omega
                    have X4 : W.heap.size ≤ (w5.drew.alloc (.cells #[] 3)).heap.size := size_alloc_le H5.out.bel.size
                    refine wpAnyH_ready (rs := [4]) (by kernel_rfl) (by simp) ?_
                    refine AllReadyH.cons rfl (fun K hK => ?_) AllReadyH.nil
                    rw [if_pos (by rfl)]
                    refine wp_append_fresh (Operand.tmp 114) (Operand.tmp 117) 59 rfl W.heap.size 3 i0 (.int .i64 0) 1 8 Try.underlying59 hi hz0 hz1 hz2 rfl (by decide) (.slice (some ⟨w5.heap.size, 0, none⟩) 0 0) 0 [] rfl o5 ⟨gl', 0, none⟩ best cl' (natCs (left'.take best)) rfl X1 (take_cells _ _ _ _ _ _ r5) (natCs_one _) X2 X3 X4 ?_
                    intro v6 w6 o6 g6 f6
                    have b6 : Below w5.heap.size w5 w6 := by
                      refine Below.grown ((Below.refl _ w5).drew.alloc (Nat.le_refl _) (.cells #[] 3)) g6 (size_alloc_le (Nat.le_refl _)) fun k hk => ?_
                      have e : w5.heap.size = k := by simpa [Value.ownBlock] using hk
                      omega
                    have f6' : ∀ k, v6.ownBlock = some k → w5.heap.size ≤ k := by
                      intro k hk
                      rcases f6 with e | e
                      · rw [e] at hk
                        have e2 : w5.heap.size = k := by simpa [Value.ownBlock] using hk
                        omega
                      · exact Nat.le_trans (size_alloc_le (Nat.le_refl _)) (e k hk)
                    have r6 := own_below H5.out.rows.ol b6 (Nat.le_refl _)
                    clear f6 g6 o5 r5 X1 X2 X3 X4
                    refine hK.out _ _ ?_ (fun hNext => ?_)
                    · exact trivial
                    clear hK K hHeld
                    have hHeld := hNext
                    clear hNext
                    (try simp only [Act.put, List.getElem_toArray, List.getElem_cons_zero, List.getElem_cons_succ, List.setIfInBounds_toArray, List.set_cons_zero, List.set_cons_succ])
                    have Y1 : (natCs (left'.drop (best + 1))).length = (left'.length - (best + 1)) * 1 := by rw [natCs_len, List.length_drop]; omega
                    have Y2 : 0 + best + (left'.length - (best + 1)) ≤ maxLen := by have := HLB.out; have := HN5.out; unfold maxLen; omega
                    have Y3 : (0 + best + (left'.length - (best + 1))) * 8 ≤ 140737488355328 := by have := HLB.out; have := HN5.out; omega
                    have Y4 : W.heap.size ≤ w6.heap.size := Nat.le_trans H5.out.bel.size b6.size
                    refine wpAnyH_ready (rs := [9]) (by kernel_rfl) (by simp) ?_
                    refine AllReadyH.cons rfl (fun K hK => ?_) AllReadyH.nil
                    rw [if_pos (by rfl)]
                    refine wp_append_fresh (Operand.tmp 118) (Operand.tmp 122) 59 rfl W.heap.size 3 i0 (.int .i64 0) 1 8 Try.underlying59 hi hz0 hz1 hz2 rfl (by decide) v6 _ _ rfl o6 A (left'.length - (best + 1)) (cl' - (best + 1)) (natCs (left'.drop (best + 1))) rfl Y1 (HAC.out _ _ r6) (natCs_one _) Y2 Y3 Y4 ?_
                    intro v7 w7 o7 g7 f7
                    have b7 : Below w5.heap.size w5 w7 := b6.grown g7 b6.size f6'
                    have f7' : ∀ k, v7.ownBlock = some k → w5.heap.size ≤ k := by
                      intro k hk
                      rcases f7 with e | e
                      · rw [e] at hk; exact f6' k hk
                      · exact Nat.le_trans b6.size (e k hk)
                    have o7' : w7.ownsRow W.heap.size 3 1 v7 (left'.take best ++ left'.drop (best + 1)).length (natCs (left'.take best ++ left'.drop (best + 1))) := by
                      rw [List.nil_append, natCs_append] at o7
                      have e : (left'.take best ++ left'.drop (best + 1)).length = 0 + best + (left'.length - (best + 1)) := by rw [List.length_append, List.length_take, List.length_drop]; have := HLB.out; omega
                      rw [e]
                      exact o7
                    have H7 := hide (H5.out.newLeft b7 o7' f7')
                    clear o6 o7 o7' g7 f7 f7' f6' b6 b7 r6 Y1 Y2 Y3 Y4
                    refine hK.out _ _ ?_ (fun hNext => ?_)
                    · exact trivial
                    clear hK K hHeld
                    have hHeld := hNext
                    clear hNext
                    (try simp only [Act.put, List.getElem_toArray, List.getElem_cons_zero, List.getElem_cons_succ, List.setIfInBounds_toArray, List.set_cons_zero, List.set_cons_succ])
                    refine wpAnyH_take (i := 10) (oi := _) (v := ?_) rfl (by kernel_rfl) (by kernel_rfl) (by kernel_rfl) (fun _ _ _ h => h) (Or.inl ⟨by rfl, ?_⟩) hHeld ?_
                    rotate_left
                    · (intro w hSw; (try dsimp only at hSw); go_simp; try with_reducible rfl)
                    (try simp only [Act.put, List.getElem_toArray, List.getElem_cons_zero, List.getElem_cons_succ, List.setIfInBounds_toArray, List.set_cons_zero, List.set_cons_succ])
                    refine wpAnyH_done (by kernel_rfl) ?_ _
                    refine NoPanic.normal ?_
                    go_wp2
                    go_roundw
                    case rel => exact ⟨1, _, _, _, by decide, rfl, H7, hide ⟨HPK.out.2, fun _ => rfl, fun h => absurd h (by decide)⟩⟩
                    case measure => decide
                  · have hpk := pick (all := all) (a := gb) (rest := gr) (List.pairwise_cons.1 H.out.sim.st.ord).2 HF.out.perm (fun g hg => wt_of_node (H.out.sim.node g (List.mem_cons_of_mem _ hg))) hlb (fun q hq => HQ.out.2.2 q hq)
                    have hcb : left'[best]? = some gb.id := by rw [getD_some left' best hlb, hpk.1]
                    obtain ⟨_c1, _⟩ := own_nat HL4.out.rows.ol hcb
                    obtain ⟨_t0, _t1, _g0, _g1⟩ := HL4.out.cells
                    have z2 : (best : Int) < left'.length := by omega
                    have HCB := hide hcb
                    have HPK := hide hpk
                    have H5 := hide (HL4.out.set1 ((gb.id : Nat) : Int))
                    clear hcb hpk
                    have zc : (best : Int) ≤ cl' := by have := own_cap HL4.out.rows.ol; omega
                    have hcap := own_cap HL4.out.rows.ol
                    have HCAP := hide hcap
                    have zw : wrap64 ((best : Int) + 1) = (best : Int) + 1 := by unfold wrap64; omega
                    have zw2 : IntKind.i64.wrap ((best : Int) + 1) = (best : Int) + 1 := by rw [IntKind.wrap_i64]; omega
                    have zb : (best : Int) + 1 ≤ left'.length := by omega
                    have zl : (left'.length : Int) ≤ cl' := by omega
                    have z0 : (0 : Int) ≤ (best : Int) + 1 := by omega
                    obtain ⟨A, hA, hAc⟩ := drop_addr gl' cl' best left' hcap
                    have HAC := hide hAc
                    have HLB := hide hlb
                    have HN5 := hide hn512
                    clear hcap hAc
                    go_wp2
                    generalize wr.setCell ⟨wn.heap.size, 1, none⟩ (.int .i64 ((gb.id : Nat) : Int)) = w5 at *
                    refine wp_region_noPanic ?_
                    refine wp_region_held_drew (S := (fun _ => True)) (by kernel_rfl) ?_ (fun hHeld => ?_)
                    · exact trivial
                    refine wpAnyH_take (i := 1) (oi := _) (v := ?_) rfl (by kernel_rfl) (by kernel_rfl) (by kernel_rfl) (fun _ _ _ h => h) (Or.inl ⟨by rfl, ?_⟩) hHeld ?_
                    rotate_left
                    · (intro w hSw; (try dsimp only at hSw); go_simp; try with_reducible rfl)
                    (try simp only [Act.put, List.getElem_toArray, List.getElem_cons_zero, List.getElem_cons_succ, List.setIfInBounds_toArray, List.set_cons_zero, List.set_cons_succ])
                    refine wpAnyH_take (i := 2) (oi := _) (v := ?_) rfl (by kernel_rfl) (by kernel_rfl) (by kernel_rfl) (fun _ _ _ h => h) (Or.inl ⟨by rfl, ?_⟩) hHeld ?_
                    rotate_left
                    · (intro w hSw; (try dsimp only at hSw); go_simp; try with_reducible rfl)
                    (try simp only [Act.put, List.getElem_toArray, List.getElem_cons_zero, List.getElem_cons_succ, List.setIfInBounds_toArray, List.set_cons_zero, List.set_cons_succ])
                    refine wpAnyH_take (i := 5) (oi := _) (v := ?_) rfl (by kernel_rfl) (by kernel_rfl) (by kernel_rfl) (fun _ _ _ h => h) (Or.inl ⟨by rfl, ?_⟩) hHeld ?_
                    rotate_left
                    · (intro w hSw; (try dsimp only at hSw); go_simp; try with_reducible rfl)
                    (try simp only [Act.put, List.getElem_toArray, List.getElem_cons_zero, List.getElem_cons_succ, List.setIfInBounds_toArray, List.set_cons_zero, List.set_cons_succ])
                    refine wpAnyH_take (i := 6) (oi := _) (v := ?_) rfl (by kernel_rfl) (by kernel_rfl) (by kernel_rfl) (fun _ _ _ h => h) (Or.inl ⟨by rfl, ?_⟩) hHeld ?_
                    rotate_left
                    · (intro w hSw; (try dsimp only at hSw); go_simp; try with_reducible rfl)
                    (try simp only [Act.put, List.getElem_toArray, List.getElem_cons_zero, List.getElem_cons_succ, List.setIfInBounds_toArray, List.set_cons_zero, List.set_cons_succ])
                    refine wpAnyH_take (i := 7) (oi := _) (v := ?_) rfl (by kernel_rfl) (by kernel_rfl) (by kernel_rfl) (fun _ _ _ h => h) (Or.inl ⟨by rfl, ?_⟩) hHeld ?_
                    rotate_left
                    · (intro w hSw; (try dsimp only at hSw); go_simp; try with_reducible rfl)
                    (try simp only [Act.put, List.getElem_toArray, List.getElem_cons_zero, List.getElem_cons_succ, List.setIfInBounds_toArray, List.set_cons_zero, List.set_cons_succ])
                    refine wpAnyH_take (i := 3) (oi := _) (v := ?_) rfl (by kernel_rfl) (by kernel_rfl) (by kernel_rfl) (fun _ _ _ h => h) (Or.inl ⟨by rfl, ?_⟩) hHeld ?_
                    rotate_left
                    · (intro w hSw; (try dsimp only at hSw); go_simp; try with_reducible rfl)
                    (try simp only [Act.put, List.getElem_toArray, List.getElem_cons_zero, List.getElem_cons_succ, List.setIfInBounds_toArray, List.set_cons_zero, List.set_cons_succ])
                    refine wpAnyH_take (i := 8) (oi := _) (v := ?_) rfl (by kernel_rfl) (by kernel_rfl) (by kernel_rfl) (fun _ _ _ h => h) (Or.inl ⟨by rfl, ?_⟩) hHeld ?_
                    rotate_left
                    · (intro w hSw; (try dsimp only at hSw); go_simp; try with_reducible rfl)
                    (try simp only [Act.put, List.getElem_toArray, List.getElem_cons_zero, List.getElem_cons_succ, List.setIfInBounds_toArray, List.set_cons_zero, List.set_cons_succ])
                    refine wpAnyH_ready (rs := [0]) (by kernel_rfl) (by simp) ?_
                    refine AllReadyH.cons rfl (fun K hK => ?_) AllReadyH.nil
                    rw [if_pos (by rfl)]
                    go_simp
                    refine hK.out _ _ ?_ (fun hNext => ?_)
                    · exact trivial
                    clear hK K hHeld
                    have hHeld := hNext
                    clear hNext
                    (try simp only [Act.put, List.getElem_toArray, List.getElem_cons_zero, List.getElem_cons_succ, List.setIfInBounds_toArray, List.set_cons_zero, List.set_cons_succ])
                    have o5 : (w5.drew.alloc (.cells #[] 3)).ownsRow W.heap.size 3 1 (.slice (some ⟨w5.drew.heap.size, 0, none⟩) 0 0) 0 [] := World.ownsRow_lit w5.drew #[] 0 H5.out.bel.size (by decide) rfl
                    have r5 := H5.out.rows.ol.drew.alloc (.cells #[] 3)
                    have X1 : (natCs (left'.take best)).length = best * 1 := by rw [natCs_len, List.length_take]; have := HLB.out; omega
                    have X2 : 0 + best ≤ maxLen := by have := HLB.out; have := HN5.out; unfold maxLen; omega
                    have X3 : (0 + best) * 8 ≤ 140737488355328 := by have := HLB.out; have := HN5.out; omega
                    have X4 : W.heap.size ≤ (w5.drew.alloc (.cells #[] 3)).heap.size := size_alloc_le H5.out.bel.size
                    refine wpAnyH_ready (rs := [4]) (by kernel_rfl) (by simp) ?_
                    refine AllReadyH.cons rfl (fun K hK => ?_) AllReadyH.nil
                    rw [if_pos (by rfl)]
                    refine wp_append_fresh (Operand.tmp 114) (Operand.tmp 117) 59 rfl W.heap.size 3 i0 (.int .i64 0) 1 8 Try.underlying59 hi hz0 hz1 hz2 rfl (by decide) (.slice (some ⟨w5.heap.size, 0, none⟩) 0 0) 0 [] rfl o5 ⟨gl', 0, none⟩ best cl' (natCs (left'.take best)) rfl X1 (take_cells _ _ _ _ _ _ r5) (natCs_one _) X2 X3 X4 ?_
                    intro v6 w6 o6 g6 f6
                    have b6 : Below w5.heap.size w5 w6 := by
                      refine Below.grown ((Below.refl _ w5).drew.alloc (Nat.le_refl _) (.cells #[] 3)) g6 (size_alloc_le (Nat.le_refl _)) fun k hk => ?_
                      have e : w5.heap.size = k := by simpa [Value.ownBlock] using hk
                      omega
                    have f6' : ∀ k, v6.ownBlock = some k → w5.heap.size ≤ k := by
                      intro k hk
                      rcases f6 with e | e
                      · rw [e] at hk
                        have e2 : w5.heap.size = k := by simpa [Value.ownBlock] using hk
                        omega
                      · exact Nat.le_trans (size_alloc_le (Nat.le_refl _)) (e k hk)
                    have r6 := own_below H5.out.rows.ol b6 (Nat.le_refl _)
                    clear f6 g6 o5 r5 X1 X2 X3 X4
                    refine hK.out _ _ ?_ (fun hNext => ?_)
                    · exact trivial
                    clear hK K hHeld
                    have hHeld := hNext
                    clear hNext
                    (try simp only [Act.put, List.getElem_toArray, List.getElem_cons_zero, List.getElem_cons_succ, List.setIfInBounds_toArray, List.set_cons_zero, List.set_cons_succ])
                    have Y1 : (natCs (left'.drop (best + 1))).length = (left'.length - (best + 1)) * 1 := by rw [natCs_len, List.length_drop]; omega
                    have Y2 : 0 + best + (left'.length - (best + 1)) ≤ maxLen := by have := HLB.out; have := HN5.out; unfold maxLen; omega
                    have Y3 : (0 + best + (left'.length - (best + 1))) * 8 ≤ 140737488355328 := by have := HLB.out; have := HN5.out; omega
                    have Y4 : W.heap.size ≤ w6.heap.size := Nat.le_trans H5.out.bel.size b6.size
                    refine wpAnyH_ready (rs := [9]) (by kernel_rfl) (by simp) ?_
                    refine AllReadyH.cons rfl (fun K hK => ?_) AllReadyH.nil
                    rw [if_pos (by rfl)]
                    refine wp_append_fresh (Operand.tmp 118) (Operand.tmp 122) 59 rfl W.heap.size 3 i0 (.int .i64 0) 1 8 Try.underlying59 hi hz0 hz1 hz2 rfl (by decide) v6 _ _ rfl o6 A (left'.length - (best + 1)) (cl' - (best + 1)) (natCs (left'.drop (best + 1))) rfl Y1 (HAC.out _ _ r6) (natCs_one _) Y2 Y3 Y4 ?_
                    intro v7 w7 o7 g7 f7
                    have b7 : Below w5.heap.size w5 w7 := b6.grown g7 b6.size f6'
                    have f7' : ∀ k, v7.ownBlock = some k → w5.heap.size ≤ k := by
                      intro k hk
                      rcases f7 with e | e
                      · rw [e] at hk; exact f6' k hk
                      · exact Nat.le_trans b6.size (e k hk)
                    have o7' : w7.ownsRow W.heap.size 3 1 v7 (left'.take best ++ left'.drop (best + 1)).length (natCs (left'.take best ++ left'.drop (best + 1))) := by
                      rw [List.nil_append, natCs_append] at o7
                      have e : (left'.take best ++ left'.drop (best + 1)).length = 0 + best + (left'.length - (best + 1)) := by rw [List.length_append, List.length_take, List.length_drop]; have := HLB.out; omega
                      rw [e]
                      exact o7
                    have H7 := hide (H5.out.newLeft b7 o7' f7')
                    clear o6 o7 o7' g7 f7 f7' f6' b6 b7 r6 Y1 Y2 Y3 Y4
                    refine hK.out _ _ ?_ (fun hNext => ?_)
                    · exact trivial
                    clear hK K hHeld
                    have hHeld := hNext
                    clear hNext
                    (try simp only [Act.put, List.getElem_toArray, List.getElem_cons_zero, List.getElem_cons_succ, List.setIfInBounds_toArray, List.set_cons_zero, List.set_cons_succ])
                    refine wpAnyH_take (i := 10) (oi := _) (v := ?_) rfl (by kernel_rfl) (by kernel_rfl) (by kernel_rfl) (fun _ _ _ h => h) (Or.inl ⟨by rfl, ?_⟩) hHeld ?_
                    rotate_left
                    · (intro w hSw; (try dsimp only at hSw); go_simp; try with_reducible rfl)
                    (try simp only [Act.put, List.getElem_toArray, List.getElem_cons_zero, List.getElem_cons_succ, List.setIfInBounds_toArray, List.set_cons_zero, List.set_cons_succ])
                    refine wpAnyH_done (by kernel_rfl) ?_ _
                    refine NoPanic.normal ?_
                    go_wp2
                    go_roundw
                    case rel => exact ⟨2, _, _, _, by decide, rfl, H7, hide ⟨HPK.out.2, fun _ => HF.out.fst (by decide), fun _ => rfl⟩⟩
                    case measure => decide
            · have hke : k = 2 := by omega
              subst hke
              have hfx := HF.out.fst (by decide)
              have hfy := HF.out.snd (by decide)
              subst hfx
              subst hfy
              obtain ⟨_t0, _t1, _, _⟩ := HL3.out.cells
              have hna := H.out.sim.node ga List.mem_cons_self
              have hnb := H.out.sim.node gb (List.mem_cons_of_mem _ List.mem_cons_self)
              obtain ⟨_n0, _, _⟩ := own_node HL3.out.rows.oa hna
              obtain ⟨_n1, _, _⟩ := own_node HL3.out.rows.oa hnb
              have hla := H.out.sim.st.lt ga List.mem_cons_self
              have hlb := H.out.sim.st.lt gb (List.mem_cons_of_mem _ List.mem_cons_self)
              rw [← H.out.sim.len] at hla hlb
              have za : (ga.id : Int) < all.length := by omega
              have zb : (gb.id : Int) < all.length := by omega
              have hsum := H.out.sums HL.out HM.out
              obtain ⟨zs, zs2⟩ := wrap_sum ga.w gb.w hsum
              have HNA := hide hna
              have HNB := hide hnb
              have HLA := hide hla
              have HLB := hide hlb
              clear hna hnb hla hlb hsum
              rename World => wk
              go_wp2
              refine wp_region_noPanic ?_
              refine wp_region_held_drew (S := (fun w' => w'.cell? ⟨wn.heap.size, 0, none⟩ = some (.int .i64 ((ga.id : Nat) : Int)) ∧ w'.cell? ⟨wn.heap.size, 1, none⟩ = some (.int .i64 ((gb.id : Nat) : Int)) ∧ w'.cell? ⟨gA, ga.id * 2, none⟩ = some (.int .i64 ((ga.w : Nat) : Int)) ∧ w'.cell? ⟨gA, gb.id * 2, none⟩ = some (.int .i64 ((gb.w : Nat) : Int)))) (by kernel_rfl) ?_ (fun hHeld => ?_)
              · exact ⟨_t0, _t1, _n0, _n1⟩
              refine wpAnyH_take (i := 0) (oi := _) (v := ?_) rfl (by kernel_rfl) (by kernel_rfl) (by kernel_rfl) (fun _ _ _ h => h) (Or.inl ⟨by rfl, ?_⟩) hHeld ?_
              rotate_left
              · (intro w hSw; (try dsimp only at hSw); go_simp; try with_reducible rfl)
              (try simp only [Act.put, List.getElem_toArray, List.getElem_cons_zero, List.setIfInBounds_toArray, List.set_cons_zero, List.set_cons_succ])
              refine wpAnyH_take (i := 1) (oi := _) (v := ?_) rfl (by kernel_rfl) (by kernel_rfl) (by kernel_rfl) (fun _ _ _ h => h) (Or.inl ⟨by rfl, ?_⟩) hHeld ?_
              rotate_left
              · (intro w hSw; (try dsimp only at hSw); go_simp; try with_reducible rfl)
              (try simp only [Act.put, List.getElem_toArray, List.getElem_cons_zero, List.getElem_cons_succ, List.setIfInBounds_toArray, List.set_cons_zero, List.set_cons_succ])
              refine wpAnyH_take (i := 2) (oi := _) (v := ?_) rfl (by kernel_rfl) (by kernel_rfl) (by kernel_rfl) (fun _ _ _ h => h) (Or.inl ⟨by rfl, ?_⟩) hHeld ?_
              rotate_left
              · (intro w hSw; (try dsimp only at hSw); go_simp; try with_reducible rfl)
              (try simp only [Act.put, List.getElem_toArray, List.getElem_cons_zero, List.getElem_cons_succ, List.setIfInBounds_toArray, List.set_cons_zero, List.set_cons_succ])
              refine wpAnyH_take (i := 3) (oi := _) (v := ?_) rfl (by kernel_rfl) (by kernel_rfl) (by kernel_rfl) (fun _ _ _ h => h) (Or.inl ⟨by rfl, ?_⟩) hHeld ?_
              rotate_left
              · (intro w hSw; (try dsimp only at hSw); go_simp; try with_reducible rfl)
              (try simp only [Act.put, List.getElem_toArray, List.getElem_cons_zero, List.getElem_cons_succ, List.setIfInBounds_toArray, List.set_cons_zero, List.set_cons_succ])
              refine wpAnyH_take (i := 4) (oi := _) (v := ?_) rfl (by kernel_rfl) (by kernel_rfl) (by kernel_rfl) (fun _ _ _ h => h) (Or.inl ⟨by rfl, ?_⟩) hHeld ?_
              rotate_left
              · (intro w hSw; (try dsimp only at hSw); go_simp; try with_reducible rfl)
              (try simp only [Act.put, List.getElem_toArray, List.getElem_cons_zero, List.getElem_cons_succ, List.setIfInBounds_toArray, List.set_cons_zero, List.set_cons_succ])
              refine wpAnyH_take (i := 5) (oi := _) (v := ?_) rfl (by kernel_rfl) (by kernel_rfl) (by kernel_rfl) (fun _ _ _ h => h) (Or.inl ⟨by rfl, ?_⟩) hHeld ?_
              rotate_left
              · (intro w hSw; (try dsimp only at hSw); go_simp; try with_reducible rfl)
              (try simp only [Act.put, List.getElem_toArray, List.getElem_cons_zero, List.getElem_cons_succ, List.setIfInBounds_toArray, List.set_cons_zero, List.set_cons_succ])
              refine wpAnyH_take (i := 6) (oi := _) (v := ?_) rfl (by kernel_rfl) (by kernel_rfl) (by kernel_rfl) (fun _ _ _ h => h) (Or.inl ⟨by rfl, ?_⟩) hHeld ?_
              rotate_left
              · (intro w hSw; (try dsimp only at hSw); go_simp; try with_reducible rfl)
              (try simp only [Act.put, List.getElem_toArray, List.getElem_cons_zero, List.getElem_cons_succ, List.setIfInBounds_toArray, List.set_cons_zero, List.set_cons_succ])
              refine wpAnyH_take (i := 7) (oi := _) (v := ?_) rfl (by kernel_rfl) (by kernel_rfl) (by kernel_rfl) (fun _ _ _ h => h) (Or.inl ⟨by rfl, ?_⟩) hHeld ?_
              rotate_left
              · (intro w hSw; (try dsimp only at hSw); go_simp; try with_reducible rfl)
              (try simp only [Act.put, List.getElem_toArray, List.getElem_cons_zero, List.getElem_cons_succ, List.setIfInBounds_toArray, List.set_cons_zero, List.set_cons_succ])
              refine wpAnyH_take (i := 8) (oi := _) (v := ?_) rfl (by kernel_rfl) (by kernel_rfl) (by kernel_rfl) (fun _ _ _ h => h) (Or.inl ⟨by rfl, ?_⟩) hHeld ?_
              rotate_left
              · (intro w hSw; (try dsimp only at hSw); go_simp; try with_reducible rfl)
              (try simp only [Act.put, List.getElem_toArray, List.getElem_cons_zero, List.getElem_cons_succ, List.setIfInBounds_toArray, List.set_cons_zero, List.set_cons_succ])
              refine wpAnyH_take (i := 9) (oi := _) (v := ?_) rfl (by kernel_rfl) (by kernel_rfl) (by kernel_rfl) (fun _ _ _ h => h) (Or.inl ⟨by rfl, ?_⟩) hHeld ?_
              rotate_left
              · (intro w hSw; (try dsimp only at hSw); go_simp; try with_reducible rfl)
              (try simp only [Act.put, List.getElem_toArray, List.getElem_cons_zero, List.getElem_cons_succ, List.setIfInBounds_toArray, List.set_cons_zero, List.set_cons_succ])
              refine wpAnyH_take (i := 10) (oi := _) (v := ?_) rfl (by kernel_rfl) (by kernel_rfl) (by kernel_rfl) (fun _ _ _ h => h) (Or.inl ⟨by rfl, ?_⟩) hHeld ?_
              rotate_left
              · (intro w hSw; (try dsimp only at hSw); go_simp; try with_reducible rfl)
              (try simp only [Act.put, List.getElem_toArray, List.getElem_cons_zero, List.getElem_cons_succ, List.setIfInBounds_toArray, List.set_cons_zero, List.set_cons_succ])
              refine wpAnyH_take (i := 11) (oi := _) (v := ?_) rfl (by kernel_rfl) (by kernel_rfl) (by kernel_rfl) (fun _ _ _ h => h) (Or.inl ⟨by rfl, ?_⟩) hHeld ?_
              rotate_left
              · (intro w hSw; (try dsimp only at hSw); go_simp; try with_reducible rfl)
              (try simp only [Act.put, List.getElem_toArray, List.getElem_cons_zero, List.getElem_cons_succ, List.setIfInBounds_toArray, List.set_cons_zero, List.set_cons_succ])
              refine wpAnyH_take (i := 12) (oi := _) (v := ?_) rfl (by kernel_rfl) (by kernel_rfl) (by kernel_rfl) (fun _ _ _ h => h) (Or.inl ⟨by rfl, ?_⟩) hHeld ?_
              rotate_left
              · (intro w hSw; (try dsimp only at hSw); go_simp; try with_reducible rfl)
              (try simp only [Act.put, List.getElem_toArray, List.getElem_cons_zero, List.getElem_cons_succ, List.setIfInBounds_toArray, List.set_cons_zero, List.set_cons_succ])
              refine wpAnyH_take (i := 13) (oi := _) (v := ?_) rfl (by kernel_rfl) (by kernel_rfl) (by kernel_rfl) (fun _ _ _ h => h) (Or.inl ⟨by rfl, ?_⟩) hHeld ?_
              rotate_left
              · (intro w hSw; (try dsimp only at hSw); go_simp; try with_reducible rfl)
              (try simp only [Act.put, List.getElem_toArray, List.getElem_cons_zero, List.getElem_cons_succ, List.setIfInBounds_toArray, List.set_cons_zero, List.set_cons_succ])
              refine wpAnyH_take (i := 14) (oi := _) (v := ?_) rfl (by kernel_rfl) (by kernel_rfl) (by kernel_rfl) (fun _ _ _ h => h) (Or.inl ⟨by rfl, ?_⟩) hHeld ?_
              rotate_left
              · (intro w hSw; (try dsimp only at hSw); go_simp; try with_reducible rfl)
              (try simp only [Act.put, List.getElem_toArray, List.getElem_cons_zero, List.getElem_cons_succ, List.setIfInBounds_toArray, List.set_cons_zero, List.set_cons_succ])
              refine wpAnyH_ready (rs := [15]) (by kernel_rfl) (by simp) ?_
              refine AllReadyH.cons rfl (fun K hK => ?_) AllReadyH.nil
              rw [if_pos (by rfl)]
              go_simp
              have b15 : Below wk.heap.size wk (wk.alloc (.cells #[.int .i64 ((ga.w : Int) + gb.w), .int .i64 (-1)] 121)).drew := ((Below.refl _ wk).alloc (Nat.le_refl _) _).drew
              have H15 := hide (HL3.out.below b15)
              have s15 := H15.out.cells
              have n15 := own_node H15.out.rows.oa HNA.out
              have m15 := own_node H15.out.rows.oa HNB.out
              refine hK.out _ _ ?_ (fun hNext => ?_)
              · exact ⟨s15.1, s15.2.1, n15.1, m15.1⟩
              clear hK K hHeld
              have hHeld := hNext
              clear hNext
              (try simp only [Act.put, List.getElem_toArray, List.getElem_cons_zero, List.getElem_cons_succ, List.setIfInBounds_toArray, List.set_cons_zero, List.set_cons_succ])
              have X1 := (bound_facts all.length (Nat.le_succ_of_le HALL.out)).1
              have X2 := (bound_facts all.length (Nat.le_succ_of_le HALL.out)).2.1
              refine wpAnyH_ready (rs := [16]) (by kernel_rfl) (by simp) ?_
              refine AllReadyH.cons rfl (fun K hK => ?_) AllReadyH.nil
              rw [if_pos (by rfl)]
              refine wp_append_kept (Operand.tmp 126) (Operand.tmp 141) 119 rfl W.heap.size 121 i1 (.agg #[.int .i64 0, .int .i64 0]) 2 16 Try.underlying119 ki kz0 kz1 kz2 rfl (by decide) gA all.length cA (nodeCs all) rfl H15.out.rows.oa ⟨wk.heap.size, 0, none⟩ 1 1 [.int .i64 ((ga.w : Int) + gb.w), .int .i64 (-1)] rfl rfl (cell_two_new wk _ _ _) (fun x hx => by simp at hx; rcases hx with rfl | rfl <;> rfl) X1 X2 H15.out.bel.size ?_
              intro v8 w8 o8 g8 f8 k8
              have H8 := hide (H15.out.newAll (ga.w + gb.w) (-1) (by rw [Int.natCast_add]; exact o8) g8 f8)
              obtain ⟨gB, cB, rfl⟩ := own_slice o8 (by omega)
              have s8 := H8.out.cells
              have q0 := (k8 (ga.id * 2) (by have := HLA.out; omega)).trans n15.1
              have q1 := (k8 (gb.id * 2) (by have := HLB.out; omega)).trans m15.1
              clear o8 g8 f8 k8 X1 X2
              refine hK.out _ _ ?_ (fun hNext => ?_)
              · exact ⟨s8.1, s8.2.1, q0, q1⟩
              clear hK K hHeld
              have hHeld := hNext
              clear hNext
              (try simp only [Act.put, List.getElem_toArray, List.getElem_cons_zero, List.getElem_cons_succ, List.setIfInBounds_toArray, List.set_cons_zero, List.set_cons_succ])
              refine wpAnyH_take (i := 17) (oi := _) (v := ?_) rfl (by kernel_rfl) (by kernel_rfl) (by kernel_rfl) (fun _ _ _ h => h) (Or.inl ⟨by rfl, ?_⟩) hHeld ?_
              rotate_left
              · (intro w hSw; (try dsimp only at hSw); go_simp; try with_reducible rfl)
              (try simp only [Act.put, List.getElem_toArray, List.getElem_cons_zero, List.getElem_cons_succ, List.setIfInBounds_toArray, List.set_cons_zero, List.set_cons_succ])
              refine wpAnyH_done (by kernel_rfl) ?_ _
              refine NoPanic.normal ?_
              have hA8 : (all ++ [(ga.w + gb.w, (-1 : Int))])[ga.id]? = some (ga.w, -1) := by rw [List.getElem?_append_left HLA.out]; exact HNA.out
              have hB8 : (all ++ [(ga.w + gb.w, (-1 : Int))])[gb.id]? = some (gb.w, -1) := by rw [List.getElem?_append_left HLB.out]; exact HNB.out
              have hl8 : (all ++ [(ga.w + gb.w, (-1 : Int))]).length = all.length + 1 := by simp
              have o8 := H8.out.rows.oa
              rw [hl8] at o8
              have o8' : w8.ownsRow W.heap.size 121 2 (.slice (some ⟨gB, 0, none⟩) (all ++ [(ga.w + gb.w, (-1 : Int))]).length cB) (all ++ [(ga.w + gb.w, (-1 : Int))]).length (nodeCs (all ++ [(ga.w + gb.w, (-1 : Int))])) := by rw [hl8]; exact o8
              obtain ⟨_, _u0, _v0⟩ := own_node o8' hA8
              obtain ⟨_, _u1, _v1⟩ := own_node o8' hB8
              have _s0 := s8.1
              have _s1 := s8.2.1
              have hgp : gB ≠ wn.heap.size := fun e => H8.out.pa (by rw [← e]; rfl)
              have hab : ga.id ≠ gb.id := fun e => by
                have h3 := (List.pairwise_cons.1 H.out.sim.st.ord).1 gb List.mem_cons_self
                have h4 := node_inj HNA.out HNB.out e
                unfold ahead at h3
                omega
              have za8 : (ga.id : Int) < (all.length : Int) + 1 := by omega
              have zb8 : (gb.id : Int) < (all.length : Int) + 1 := by omega
              have HA8 := hide hA8
              have HB8 := hide hB8
              clear hA8 hB8 o8 o8' hl8 s8 q0 q1 s15 n15 m15
              go_wp2
              go_region
              have T9a := H8.out.rows.setUp (by simp) ga.id ga.w (-1) ((all.length : Nat) : Int) HA8.out
              have hB9 : ((all ++ [(ga.w + gb.w, (-1 : Int))]).set ga.id (ga.w, ((all.length : Nat) : Int)))[gb.id]? = some (gb.w, -1) := by rw [List.getElem?_set_ne hab]; exact HB8.out
              have T9 := T9a.setUp (by simp) gb.id gb.w (-1) ((all.length : Nat) : Int) hB9
              have hgW : W.heap.size ≤ gB := (H8.out.rows.oa.lt gB rfl).1
              have B9 := (H8.out.bel.setCell (p := ⟨gB, ga.id * 2 + 1, none⟩) hgW (.int .i64 ((all.length : Nat) : Int))).setCell (p := ⟨gB, gb.id * 2 + 1, none⟩) hgW (.int .i64 ((all.length : Nat) : Int))
              have HT9 := hide T9.drew
              have HB9 := hide B9.drew
              clear T9a T9 B9 hB9 _u0 _v0 _u1 _v1 _s0 _s1
              generalize ((w8.setCell ⟨gB, ga.id * 2 + 1, none⟩ (.int .i64 ((all.length : Nat) : Int))).setCell ⟨gB, gb.id * 2 + 1, none⟩ (.int .i64 ((all.length : Nat) : Int))).drew = w9 at *
              have HL2 := hide (show left'.length + 2 = left.length by rw [HF.out.len (by decide)]; exact HLL.out)
              have N0 : left'.length ≤ 1025 := by have := HL2.out; omega
              have N1 := hide (bound_facts left'.length N0).1
              have N2 := hide (bound_facts left'.length N0).2.2
              clear N0
              go_wp2_with (first
                | (at_builtin; refine wpList_append_fresh _ rfl _ _ 59 rfl W.heap.size 3 i0 (.int .i64 0) 1 8 Try.underlying59 hi hz0 hz1 hz2 rfl (by decide) u4 _ _ rfl (HT9.out.ol.alloc _) ⟨w9.heap.size, 0, none⟩ 1 1 [.int .i64 ((all.length : Nat) : Int)] rfl rfl (cell_one_new _ _ _) (fun x hx => by simp at hx; subst hx; rfl) N1.out N2.out (size_alloc_le HB9.out.size) ?_; intro v10 w10 o10 g10 f10; have T10 := (HT9.out.alloc _).appLeft (all.length) o10 g10 f10; have B10 := Below.grownB (HB9.out.alloc HB9.out.size _) g10 (HT9.out.ol.alloc _) (size_alloc_le HB9.out.size); obtain ⟨gL, cL, rfl⟩ := own_slice o10 (Nat.succ_pos _); have HT10 := hide T10; have HB10 := hide B10; clear T10 B10 o10 g10 f10))
              go_roundw
              case rel => exact ⟨_, _, _, _, _, hide (H.out.step HF.out.perm HT10.out HB10.out)⟩
              case measure => exact (show left'.length + 1 < left.length by have := HL2.out; omega)
        · have HLE := hide (show left.length ≤ 1 by omega)
          have hmk := run_make_row' (P := Try.prog) 59 3 (.int .i64 0) 8 Try.underlying59 Try.infoInt rfl .i64 .i64 ws.length (by have := HL.out; omega) (by have := HL.out; omega)
          have O0 := hide (Loop5.start H.out.rows H.out.bel HL.out)
          have hl1 : ¬ (1 : Int) < left.length := by omega
          have hfl : ∃ a' c', u4 = .slice a' left.length c' := by
            rcases len_form H.out.rows.ol with ⟨e, e2⟩ | ⟨g, c, e⟩
            · exact ⟨none, 0, by rw [e, e2]⟩
            · exact ⟨_, _, e⟩
          obtain ⟨al, cl, rfl⟩ := hfl
          clear H2 hlen
          rename World => wn
          go_wp2
          go_loopw [13] (fun c wr => ∃ j : Nat, j ≤ ws.length ∧ c = .int .i64 j ∧ Hid (Loop5 wr W u3 (.slice al left.length cl) u5 wn.heap.size ws left all (outL ws j))) (fun c _ => ws.length - (intOf c).toNat)
          case atStart => exact ⟨0, Nat.zero_le _, rfl, O0⟩
          case round =>
            obtain ⟨j, hj, rfl, H5⟩ := hrel
            by_cases hlt : j < ws.length
            · have hl512 := HL.out
              obtain ⟨gf, cf, rfl⟩ := own_slice H5.out.rows.of (by rw [leafL_length]; omega)
              have zf : (j : Int) < ((leafL ws 0).length : Int) := by rw [leafL_length]; omega
              have zo : (j : Int) < ws.length := by omega
              by_cases hz : ws.getD j 0 = 0
              · obtain ⟨_c0, _⟩ := own_int H5.out.rows.of (leafL_get ws 0 j hlt hz)
                have HZ := hide hz
                clear hz
                go_wp2
                go_roundw
                case rel =>
                  refine ⟨j + 1, hlt, by go_num, hide ?_⟩
                  have e : outL ws (j + 1) = outL ws j := by
                    rw [← outL_set ws j hlt, show lenF ws j = 0 from if_pos HZ.out, outL_same ws j hlt]
                  rw [e]
                  exact H5.out
                case measure => exact meas_oneW j ws.length hlt
              · obtain ⟨li, r, wr0, g1, g2, g3, g4⟩ := H.out.last HLE.out j ((stand0 ws j).2 ⟨hlt, hz⟩)
                obtain ⟨w0, up0, g5⟩ := g2.some g3
                obtain ⟨gA, cA, rfl⟩ := own_slice H5.out.rows.oa (Nat.lt_of_le_of_lt (Nat.zero_le _) (List.getElem?_eq_some_iff.1 g3).1)
                obtain ⟨_c0, _⟩ := own_int H5.out.rows.of g1
                obtain ⟨_, _c1, _⟩ := own_node H5.out.rows.oa g5
                have zl : (li : Int) < all.length := by have := (List.getElem?_eq_some_iff.1 g5).1; omega
                have zn : ¬ ((li : Nat) : Int) < 0 := by omega
                have hd := dep_le ws HL.out j
                have HG2 := hide g2
                have HG3 := hide g3
                have HG4 := hide g4
                have HG5 := hide g5
                have HD := hide hd
                have O5 := hide (show Loop5 wr W (.slice (some ⟨gA, 0, none⟩) all.length cA) (.slice al left.length cl) (.slice (some ⟨gf, 0, none⟩) (leafL ws 0).length cf) wn.heap.size ws left all ((outL ws j).set j (dep ws j - dep ws j)) by rw [Nat.sub_self, outL_same ws j hlt]; exact H5.out)
                have HLEAF := hide zf
                clear g1 g2 g3 g4 g5 hz hd H5
                rename World => wj
                go_wp2
                clear _c0 _c1
                go_loopg [14] (dep ws j) (fun gk c wr => ∃ node w0 up, c = .int .i64 up ∧ gk ≤ dep ws j ∧ Hid (Reach all gk node r) ∧ Hid (all[node]? = some (w0, up)) ∧ Hid (Loop5 wr W (.slice (some ⟨gA, 0, none⟩) all.length cA) (.slice al left.length cl) (.slice (some ⟨gf, 0, none⟩) (leafL ws 0).length cf) wn.heap.size ws left all ((outL ws j).set j (dep ws j - gk))))
                case atStart => exact ⟨li, w0, up0, rfl, Nat.le_refl _, HG2, HG5, O5⟩
                case round =>
                  obtain ⟨node, w1, up, rfl, hgk, HR6, HN6, H6⟩ := hrel
                  cases gk with
                  | zero =>
                    have er : node = r := HR6.out
                    subst er
                    have e3 := HN6.out.symm.trans HG3.out
                    injection e3 with e3
                    injection e3 with _ e4
                    subst e4
                    have H6' := hide H6.out
                    have ho := H6.out.own
                    rw [List.length_set, outL_length] at ho
                    have hcell : ((outL ws j).set j (dep ws j - 0))[j]? = some (dep ws j) := by rw [List.getElem?_set_self (by rw [outL_length]; exact hlt), Nat.sub_zero]
                    have hown6 := H6.out.own
                    obtain ⟨_c2, _f2⟩ := own_nat hown6 hcell
                    have HR1 := hide (outL_set ws j hlt)
                    have HSET := hide (H6.out.set j 1)
                    clear ho hown6 hcell
                    by_cases hone : all.length = 1
                    · have HLEN := hide (show lenF ws j = 1 by rw [HG4.out, if_pos hone])
                      have zone : (all.length : Int) = 1 := by omega
                      clear hone
                      go_wp2
                      go_roundw
                      case rel => exact ⟨j + 1, hlt, by go_num, hide (by have h := HSET.out; rw [List.set_set] at h; rw [← HR1.out, HLEN.out]; exact h)⟩
                      case measure => exact meas_oneW j ws.length hlt
                    · have HLEN := hide (show lenF ws j = dep ws j by rw [HG4.out, if_neg hone])
                      have zone : ((all.length : Int) == 1) = false := beq_eq_false_iff_ne.2 (by omega)
                      clear hone
                      go_wp2
                      go_roundw
                      case rel => exact ⟨j + 1, hlt, by go_num, hide (by have h := H6'.out; rw [Nat.sub_zero] at h; rw [← HR1.out, HLEN.out]; exact h)⟩
                      case measure => exact meas_oneW j ws.length hlt
                  | succ k =>
                    obtain ⟨w2, nx, e1, e2⟩ := HR6.out
                    have e3 := HN6.out.symm.trans e1
                    injection e3 with e3
                    injection e3 with _ e4
                    subst e4
                    obtain ⟨w3, up3, e5⟩ := Reach.some e2 HG3.out
                    obtain ⟨v, hv⟩ : ∃ v, dep ws j - (k + 1) = v := ⟨_, rfl⟩
                    have hv512 : v ≤ 512 := by have := HD.out; omega
                    have HV := hide (show v + 1 = dep ws j - k by omega)
                    rw [hv] at H6
                    have hown6 := H6.out.own
                    obtain ⟨_c2, _f2⟩ := own_nat hown6 (j := j) (x := v) (by rw [List.getElem?_set_self (by rw [outL_length]; exact hlt)])
                    have H7 := H6.out.set j (v + 1)
                    rw [List.set_set, show ((v + 1 : Nat) : Int) = (v : Int) + 1 by omega] at H7
                    obtain ⟨_, _c3, _⟩ := own_node H7.rows.oa e5
                    have zx : (nx : Int) < all.length := by have := (List.getElem?_eq_some_iff.1 e5).1; omega
                    have zv : wrap64 ((v : Int) + 1) = (v : Int) + 1 := by unfold wrap64; omega
                    have HE2 := hide e2
                    have HE5 := hide e5
                    have HH7 := hide H7
                    have HGK := hide hgk
                    clear hv e1 e2 e5 H7 hown6 hgk HR6 HN6
                    go_wp2
                    go_roundg k
                    case measure => omega
                    case rel => exact ⟨nx, w3, up3, rfl, by have := HGK.out; omega, HE2, HE5, by rw [← HV.out]; exact HH7⟩
            · have hje : j = ws.length := by omega
              subst hje
              rw [outL_all] at H5
              have HO := hide H5.out.own
              go_wp2
              go_ret
              exact ⟨_, rfl, by have h := HO.out; rw [lens_length] at h; exact h, H5.out.bel⟩

end Go.Proofs.Ytaalbaiglkadlaa
