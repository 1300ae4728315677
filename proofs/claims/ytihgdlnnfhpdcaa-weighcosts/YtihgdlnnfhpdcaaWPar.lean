/- Contract of layer 4's 'parents': the pile and the row of parents, side by side. -/
import Derived.Test.YtihgdlnnfhpdcaaWLeaf
namespace Go.Proofs.Ytihgdlnnfhpdcaa
open Go.RowKit Go.Lib

structure Side (w W : World) (B P : Nat) (v u : Value) (d : List (Nat × Int)) (par : List Nat) : Prop where
  pile : PileAt w B P v d
  own : w.ownsRow B 3 1 u par.length (natCs par)
  uP : u.ownBlock ≠ some P
  vu : Apart v u
  bel : Below B W w
  pB : B ≤ P

theorem Side.step {w w' W : World} {B P : Nat} {v v' u : Value} {d d' : List (Nat × Int)} {par : List Nat} (h : Side w W B P v u d par) (s : Step P v v' w w') (p : PileAt w' B P v' d') : Side w' W B P v' u d' par := by
  refine ⟨p, ?_, h.uP, ?_, ⟨s.os.trans h.bel.os, s.tape.trans h.bel.tape, s.output.trans h.bel.output, Nat.le_trans h.bel.size s.size, fun k hk => ?_⟩, h.pB⟩
  · refine ⟨h.own.1, ?_⟩
    rcases h.own.2 with h2 | ⟨g, cap, cur, hv, hb, hg, r⟩
    · exact .inl h2
    · have hgl : g < w.heap.size := (Array.getElem?_eq_some_iff.1 hg).1
      refine .inr ⟨g, cap, cur, hv, hb, ?_, r⟩
      rw [s.block g hgl (fun e => h.uP (by rw [hv, e]; rfl)) (fun e => h.vu g e.symm (by rw [hv]; rfl))]
      exact hg
  · intro k hk hu
    have hkl := (h.own.lt k hu).2
    rcases s.own with e | e
    · rw [e] at hk; exact h.vu k hk hu
    · have := e k hk; omega
  · have hbs := h.bel.size
    have hPl : P < w.heap.size := (Array.getElem?_eq_some_iff.1 h.pile.box).1
    have := h.pB
    by_cases hks : k < w.heap.size
    · rw [s.block k hks (by omega) (fun e => ?_)]
      · exact h.bel.block k hk
      · have := (h.pile.own.lt k e.symm).1
        omega
    · omega

theorem Side.alloc {w W : World} {B P : Nat} {v u : Value} {d : List (Nat × Int)} {par : List Nat} (h : Side w W B P v u d par) (hB : B ≤ w.heap.size) (o : Obj) : Side (w.alloc o) W B P v u d par :=
  ⟨h.pile.alloc o, h.own.alloc o, h.uP, h.vu, h.bel.alloc hB o, h.pB⟩
theorem Side.drewN {w W : World} {B P : Nat} {v u : Value} {d : List (Nat × Int)} {par : List Nat} (h : Side w W B P v u d par) (q : Nat) : Side (w.drewN q) W B P v u d par :=
  ⟨h.pile.drewN q, h.own, h.uP, h.vu, below_drewN h.bel q, h.pB⟩
theorem Side.setAny {w W : World} {B P : Nat} {v u : Value} {d : List (Nat × Int)} {par : List Nat} (h : Side w W B P v u d par) (R i : Nat) (x : Value) (hB : B ≤ R) (hP : P ≠ R) (hv : v.ownBlock ≠ some R) (hu : u.ownBlock ≠ some R) : Side (w.setCell ⟨R, i, none⟩ x) W B P v u d par :=
  ⟨⟨by rw [Below.heap_setCell _ _ _ _ hP]; exact h.pile.box, ownsRow_setCell_other h.pile.own hv _, h.pile.ne⟩, ownsRow_setCell_other h.own hu _, h.uP, h.vu, h.bel.setCell (p := ⟨R, i, none⟩) hB _, h.pB⟩
theorem Side.setOut {w W : World} {B P o n co : Nat} {v : Value} {d : List (Nat × Int)} {par : List Nat} (h : Side w W B P v (.slice (some ⟨o, 0, none⟩) n co) d par) (j x : Nat) : Side (w.setCell ⟨o, j, none⟩ (.int .i64 (x : Int))) W B P v (.slice (some ⟨o, 0, none⟩) n co) d (par.set j x) := by
  have hne : o ≠ P := fun e => h.uP (by rw [e]; rfl)
  have hn : par.length = n := by
    rcases len_form h.own with ⟨h1, _⟩ | ⟨g, cap, h1⟩
    · cases h1
    · injection h1 with _ h2 _; exact h2.symm
  refine ⟨⟨by rw [Below.heap_setCell _ _ _ _ (fun e => hne e.symm)]; exact h.pile.box, ownsRow_setCell_other h.pile.own (fun e => h.vu o e rfl) _, h.pile.ne⟩, ?_, h.uP, h.vu, h.bel.setCell (p := ⟨o, j, none⟩) (h.own.lt o rfl).1 _, h.pB⟩
  have ho := h.own
  rw [hn] at ho
  rw [List.length_set, hn]
  exact own_set ho j x
theorem Side.app {w w' W : World} {B P : Nat} {v u u' : Value} {d : List (Nat × Int)} {par : List Nat} (h : Side w W B P v u d par) (x : Nat) (hB : B ≤ w.heap.size)
    (ho : w'.ownsRow B 3 1 u' (par.length + 1) (natCs par ++ [.int .i64 (x : Int)])) (hg : w.grownBy w' u.ownBlock) (hf : u'.ownBlock = u.ownBlock ∨ ∀ k, u'.ownBlock = some k → w.heap.size ≤ k) : Side w' W B P v u' d (par ++ [x]) := by
  have hPl : P < w.heap.size := (Array.getElem?_eq_some_iff.1 h.pile.box).1
  refine ⟨⟨?_, own_kept h.pile.own hg h.vu.symm, h.pile.ne⟩, ?_, ?_, ?_, Below.grownB h.bel hg h.own hB, h.pB⟩
  · rw [hg.block P hPl (fun e => h.uP e.symm)]
    exact h.pile.box
  · rw [List.length_append, ← natCs_append]
    exact ho
  · intro e
    rcases hf with e2 | e2
    · exact h.uP (by rw [← e2]; exact e)
    · have := e2 P e; omega
  · exact (h.vu.symm.fresh h.pile.own hf).symm

/-- The state while nodes are put together. -/
structure Pars (w W : World) (B P : Nat) (v u : Value) (ws : List Nat) (d all : List (Nat × Int)) (live : List Gr) (n : Nat) (dd : Nat → Nat) : Prop where
  side : Side w W B P v u d (parOf all)
  psim : PSim ws d all live n dd

/-- There is such a state, with so many nodes left, and so many in all. -/
def ParsAt (w W : World) (B P : Nat) (u : Value) (ws : List Nat) (k n : Nat) : Prop :=
  ∃ v d all live dd, Pars w W B P v u ws d all live n dd ∧ live.length = k

theorem ParsAt.form {w W : World} {B P : Nat} {u : Value} {ws : List Nat} {k n : Nat} (h : ParsAt w W B P u ws k n) : ∃ a cap, w.cell? ⟨P, 0, none⟩ = some (.slice a k cap) ∧ ∃ d all live dd, Pars w W B P (.slice a k cap) u ws d all live n dd ∧ live.length = k := by
  obtain ⟨v, d, all, live, dd, h1, h2⟩ := h
  have hd : d.length = k := by rw [h1.psim.pile.length_eq, List.length_map, h2]
  rcases len_form h1.side.pile.own with ⟨e1, e2⟩ | ⟨g, cap, e1⟩
  · have e3 : v = .slice none k 0 := by rw [e1]; congr 1; omega
    subst e3
    exact ⟨_, _, h1.side.pile.cell, d, all, live, dd, h1, h2⟩
  · rw [hd] at e1
    subst e1
    exact ⟨_, _, h1.side.pile.cell, d, all, live, dd, h1, h2⟩

theorem PSim.bounds {ws : List Nat} {d all : List (Nat × Int)} {live : List Gr} {n : Nat} {dd : Nat → Nat} (h : PSim ws d all live n dd) (hlen : ws.length ≤ 512) : n ≤ 1024 ∧ live.length ≤ 1024 ∧ n + live.length ≤ 1024 := by
  have h1 := h.num
  have h2 := cntL_le ws
  have h3 := h.sim.len
  omega
theorem PSim.ne {ws : List Nat} {d all : List (Nat × Int)} {a b : Gr} {r : List Gr} {n : Nat} {dd : Nat → Nat} (h : PSim ws d all (a :: b :: r) n dd) : a.id ≠ b.id := by
  have hna := h.sim.node a List.mem_cons_self
  have hnb := h.sim.node b (List.mem_cons_of_mem _ List.mem_cons_self)
  have := (List.pairwise_cons.1 h.sim.st.ord).1 b List.mem_cons_self
  unfold ahead at this
  intro e
  have h2 := node_inj hna hnb e
  omega
theorem PSim.sums {ws : List Nat} {d all : List (Nat × Int)} {a b : Gr} {r : List Gr} {n : Nat} {dd : Nat → Nat} (h : PSim ws d all (a :: b :: r) n dd) (hlen : ws.length ≤ 512) (hmax : ∀ x ∈ ws, x ≤ 1099511627776) : a.w + b.w ≤ 562949953421312 := by
  have h1 := h.sim.sum
  have h2 := sum_le ws 1099511627776 hmax
  have h3 : ws.length * 1099511627776 ≤ 512 * 1099511627776 := Nat.mul_le_mul_right _ hlen
  simp only [List.map_cons, List.sum_cons] at h1
  omega

theorem Side.begin {W : World} {B m cap : Nat} {a : Option Addr} {d : List (Nat × Int)} (hB : B ≤ W.heap.size) (hm : m ≤ 1024) (h : PileAt (W.alloc (.cells #[.slice a m cap] 35)) B W.heap.size (.slice a m cap) d) (hv : (Value.slice a m cap).ownBlock ≠ some (W.heap.size + 1)) :
    Side ((W.alloc (.cells #[.slice a m cap] 35)).alloc (.cells (madeCells #[.int .i64 0] m) 3)) W B W.heap.size (.slice a m cap) (.slice (some ⟨W.heap.size + 1, 0, none⟩) m m) d (List.replicate m 0) := by
  have hsz : (W.alloc (.cells #[.slice a m cap] 35)).heap.size = W.heap.size + 1 := by show (W.heap.push _).size = _; simp
  have ho := own_made0 (W.alloc (.cells #[.slice a m cap] 35)) m hm
  rw [hsz] at ho
  refine ⟨h.alloc _, ?_, fun e => ?_, fun k hk hu => ?_, ((Below.refl B W).alloc hB _).alloc (size_alloc_le hB) _, hB⟩
  · rw [List.length_replicate]
    exact ownsRow_base ho (by omega)
  · have e2 : W.heap.size + 1 = W.heap.size := by injection e
    omega
  · have e2 : W.heap.size + 1 = k := by injection hu
    subst e2
    exact hv hk

/-- A step's bare facts: the first of those that are left is the pile's top. -/
theorem Pars.top {w W : World} {B P : Nat} {v u : Value} {ws : List Nat} {d all : List (Nat × Int)} {x : Gr} {r : List Gr} {n : Nat} {dd : Nat → Nat} (h : Pars w W B P v u ws d all (x :: r) n dd) : atP d 0 = prP x :=
  pile_top h.psim.sim.st.ord h.psim.pile h.psim.hp

theorem node_pr (g : Gr) : nodeV (prP g) = .agg #[.int .i64 (g.w : Int), .int .i64 (g.id : Int)] := rfl

/-- Behind the two least, laid into blocks of their own. -/
structure Laid (w W : World) (B P A A2 : Nat) (v u : Value) (d : List (Nat × Int)) (par : List Nat) (x y : Gr) : Prop where
  side : Side w W B P v u d par
  ba : w.heap[A]? = some (.cells #[.int .i64 (x.w : Int), .int .i64 (x.id : Int)] 44 (0, 0))
  bb : w.heap[A2]? = some (.cells #[.int .i64 (y.w : Int), .int .i64 (y.id : Int)] 44 (0, 0))
  ua : u.ownBlock ≠ some A
  ub : u.ownBlock ≠ some A2
  siz : B ≤ w.heap.size

theorem Laid.begin {w W : World} {B P : Nat} {v u : Value} {d : List (Nat × Int)} {par : List Nat} (h : Side w W B P v u d par) (x y : Gr) :
    Laid ((w.alloc (.cells #[.int .i64 (x.w : Int), .int .i64 (x.id : Int)] 44)).alloc (.cells #[.int .i64 (y.w : Int), .int .i64 (y.id : Int)] 44)) W B P w.heap.size (w.heap.size + 1) v u d par x y := by
  have hB : B ≤ w.heap.size := Nat.le_trans h.pB (Nat.le_of_lt (Array.getElem?_eq_some_iff.1 h.pile.box).1)
  have hsz : (w.alloc (.cells #[.int .i64 (x.w : Int), .int .i64 (x.id : Int)] 44)).heap.size = w.heap.size + 1 := by show (w.heap.push _).size = _; simp
  refine ⟨(h.alloc hB _).alloc (by omega) _, ?_, ?_, own_ne h.own (Nat.le_refl _), own_ne h.own (by omega), size_alloc_le (by omega)⟩
  · rw [heap_alloc_old _ _ _ (by omega)]
    show (w.heap.push _)[w.heap.size]? = _
    simp
  · have key : ∀ (w0 : World) (N : Nat) (o : Obj), w0.heap.size = N → (w0.alloc o).heap[N]? = some o := by
      intro w0 N o e
      subst e
      show (w0.heap.push o)[w0.heap.size]? = _
      simp
    exact key _ _ _ hsz

theorem Laid.set {w W : World} {B P A A2 o n co : Nat} {v : Value} {d : List (Nat × Int)} {par : List Nat} {x y : Gr} (h : Laid w W B P A A2 v (.slice (some ⟨o, 0, none⟩) n co) d par x y) (j z : Nat) : Laid (w.setCell ⟨o, j, none⟩ (.int .i64 (z : Int))) W B P A A2 v (.slice (some ⟨o, 0, none⟩) n co) d (par.set j z) x y := by
  refine ⟨h.side.setOut j z, ?_, ?_, h.ua, h.ub, by rw [size_setCell]; exact h.siz⟩
  · rw [Below.heap_setCell _ _ _ _ (fun e => h.ua (by rw [e]; rfl))]; exact h.ba
  · rw [Below.heap_setCell _ _ _ _ (fun e => h.ub (by rw [e]; rfl))]; exact h.bb
theorem Laid.drewN {w W : World} {B P A A2 : Nat} {v u : Value} {d : List (Nat × Int)} {par : List Nat} {x y : Gr} (h : Laid w W B P A A2 v u d par x y) (q : Nat) : Laid (w.drewN q) W B P A A2 v u d par x y :=
  ⟨h.side.drewN q, h.ba, h.bb, h.ua, h.ub, h.siz⟩
theorem Laid.alloc {w W : World} {B P A A2 : Nat} {v u : Value} {d : List (Nat × Int)} {par : List Nat} {x y : Gr} (h : Laid w W B P A A2 v u d par x y) (o : Obj) : Laid (w.alloc o) W B P A A2 v u d par x y :=
  ⟨h.side.alloc h.siz o, by rw [heap_alloc_old _ _ _ (Array.getElem?_eq_some_iff.1 h.ba).1]; exact h.ba, by rw [heap_alloc_old _ _ _ (Array.getElem?_eq_some_iff.1 h.bb).1]; exact h.bb, h.ua, h.ub, size_alloc_le h.siz⟩
theorem Laid.cells {w W : World} {B P A A2 : Nat} {v u : Value} {d : List (Nat × Int)} {par : List Nat} {x y : Gr} (h : Laid w W B P A A2 v u d par x y) :
    w.cell? ⟨A, 0, none⟩ = some (.int .i64 (x.w : Int)) ∧ w.cell? ⟨A, 1, none⟩ = some (.int .i64 (x.id : Int)) ∧ w.cell? ⟨A2, 0, none⟩ = some (.int .i64 (y.w : Int)) ∧ w.cell? ⟨A2, 1, none⟩ = some (.int .i64 (y.id : Int)) :=
  ⟨(two_cells h.ba).1, (two_cells h.ba).2.1, (two_cells h.bb).1, (two_cells h.bb).2.1⟩
theorem Laid.app {w w' W : World} {B P A A2 : Nat} {v u u' : Value} {d : List (Nat × Int)} {par : List Nat} {x y : Gr} (h : Laid w W B P A A2 v u d par x y) (z : Nat)
    (ho : w'.ownsRow B 3 1 u' (par.length + 1) (natCs par ++ [.int .i64 (z : Int)])) (hg : w.grownBy w' u.ownBlock) (hf : u'.ownBlock = u.ownBlock ∨ ∀ k, u'.ownBlock = some k → w.heap.size ≤ k) : Laid w' W B P A A2 v u' d (par ++ [z]) x y := by
  have hA := (Array.getElem?_eq_some_iff.1 h.ba).1
  have hA2 := (Array.getElem?_eq_some_iff.1 h.bb).1
  refine ⟨h.side.app z h.siz ho hg hf, ?_, ?_, ?_, ?_, Nat.le_trans h.siz hg.size⟩
  · rw [hg.block A hA (fun e => h.ua e.symm)]; exact h.ba
  · rw [hg.block A2 hA2 (fun e => h.ub e.symm)]; exact h.bb
  · intro e
    rcases hf with e2 | e2
    · exact h.ua (by rw [← e2]; exact e)
    · have := e2 A e; omega
  · intro e
    rcases hf with e2 | e2
    · exact h.ub (by rw [← e2]; exact e)
    · have := e2 A2 e; omega

/-- Behind the two least: what is left of the pile. -/
structure Two (w W : World) (B P g cap k : Nat) (u : Value) (d2 : List (Nat × Int)) (par : List Nat) (r : List Gr) : Prop where
  side : Side w W B P (.slice (some ⟨g, 0, none⟩) k cap) u d2 par
  hp : HpFrom d2 0 d2.length
  perm : d2.Perm (r.map prP)

set_option maxRecDepth 20000 in
set_option maxHeartbeats 4000000 in
theorem parents_any (ws : List Nat) (m : Nat) (v : Value) (B : Nat) (W : World) (hm : cnt ws = m) (ho : W.ownsRow B 44 2 v m (nodeCs (nodesL ws m))) (hB : B ≤ W.heap.size) (hlen : ws.length ≤ 512) (hmax : ∀ x ∈ ws, x ≤ 1099511627776) :
    Calls Try.prog 21 #[v] W fun e w' => ∃ u, e = .returned u ∧ ∃ par, Hid (ParEnd ws par) ∧ Hid (w'.ownsRow B 3 1 u par.length (natCs par)) ∧ Hid (Below B W w') := by
  obtain ⟨a, cap, rfl⟩ : ∃ a cap, v = .slice a m cap := by
    rcases len_form ho with ⟨e1, e2⟩ | ⟨g, cap, e1⟩
    · exact ⟨none, 0, by rw [e1, e2]⟩
    · exact ⟨_, _, e1⟩
  have hmn : m ≤ 512 := by have h := stand_le ws; have e : (stand ws 0).length = m := hm; omega
  have hne : (Value.slice a m cap).ownBlock ≠ some W.heap.size := own_ne ho (Nat.le_refl _)
  have HP0 := hide (show PileAt (W.alloc (.cells #[.slice a m cap] 35)) B W.heap.size (.slice a m cap) (nodesL ws m) from ⟨by show (W.heap.push _)[W.heap.size]? = _; simp, by rw [nodesL_length]; exact ho.alloc _, hne⟩)
  have hmk := run_make_row' (P := Try.prog) 22 3 (.int .i64 0) 8 Try.underlying22 Try.infoInt rfl .i64 .i64 m (by omega) (by omega)
  have HL := hide hlen
  have HX := hide hmax
  have HM := hide hm
  have HB := hide hB
  obtain ⟨i0, hi, hz0, hz1, hz2⟩ := info_parts Try.infoInt
  have HS0 := hide (Side.begin (B := B) hB (by omega) HP0.out (fun e => by have := (ho.lt _ e).2; omega))
  have HCI := hide (hinit_any W.heap.size m cap B a (nodesL ws m) _ HS0.out.pile (by omega))
  clear hlen hmax hm ho hne
  go_enter Try.func21, Try.ntmps21
  go_wp2_with fail
  refine HCI.out.mono ?_
  rintro e w2 ⟨rfl, HIN⟩
  obtain ⟨P, hP⟩ : ∃ P, W.heap.size = P := ⟨_, rfl⟩
  have HST := hide (show ParsAt w2 W B P (.slice (some ⟨W.heap.size + 1, 0, none⟩) m m) ws m m by
    obtain ⟨d, h1, h2, h3⟩ := HIN.out
    have hs := HS0.out.step h2 h1.at_
    rw [← hP]
    refine ⟨_, d, allL ws, live0 ws, fun _ => 0, ⟨by rw [parOf_begin, HM.out]; exact hs, ?_⟩, by rw [live0_length, HM.out]⟩
    have hb := PSim.begin (ws := ws) (d := d) (by rw [HM.out]; exact h3) h1.hp
    rw [HM.out] at hb
    exact hb)
  have HPP := hide hP
  generalize W.heap.size + 1 = o0 at HST ⊢
  rw [hP]
  clear hP HIN HCI HS0 HP0
  rename World => ww
  go_wp2
  go_loopg [3] m (fun gk uv wr => ∃ n, Hid (ParsAt wr W B P uv ws gk n))
  case atStart => exact ⟨m, HST⟩
  case round =>
    clear HST
    obtain ⟨n, HPA⟩ := hrel
    obtain ⟨a2, cap2, hcell, d, all, live, dd, hpars, hk⟩ := HPA.out.form
    have HPS := hide hpars
    have hbd := hpars.psim.bounds HL.out
    rw [hk] at hbd
    by_cases h1 : 1 < gk
    · match live, hk, hpars, HPS with
      | [], hk, _, _ => simp at hk; omega
      | [_], hk, _, _ => simp at hk; omega
      | x :: y :: r, hk, hpars, HPS =>
        have hall : all.length = n := hpars.psim.sim.len
        have hn0 : 0 < n := by
          have := hpars.psim.sim.st.lt x List.mem_cons_self
          omega
        obtain ⟨o, co, rfl⟩ : ∃ o co, u3 = .slice (some ⟨o, 0, none⟩) n co := by
          obtain ⟨o, co, e⟩ := own_slice hpars.side.own (by rw [parOf_length]; omega)
          exact ⟨o, co, by rw [e, parOf_length, hall]⟩
        have hdl : d.length = gk := hpars.side.pile.len
        obtain ⟨g, rfl⟩ : ∃ g, a2 = some ⟨g, 0, none⟩ := by
          obtain ⟨g, cap3, e⟩ := own_slice hpars.side.pile.own (by omega)
          injection e with e _ _
          exact ⟨g, e⟩
        obtain ⟨k, rfl⟩ : ∃ k, gk = k + 2 := ⟨gk - 2, by omega⟩
        have zk : (1 : Int) < (k : Int) + 2 := by omega
        have HC1 := hide (least_any P g (k + 2) (k + 1) cap2 B d wr ⟨hpars.side.pile, hpars.psim.hp⟩ rfl (by omega))
        have HTOP := hide hpars.top
        rw [hpars.top, node_pr] at HC1
        have HALL := hide hall
        have HBD := hide hbd
        have HK := hide hk
        clear hall hdl hpars hk hbd
        go_wp2_with fail
        refine HC1.out.mono ?_
        rintro e w1 ⟨rfl, HP1⟩
        obtain ⟨d1, h3, h4, h5⟩ := HP1.out
        have hs1 := HPS.out.side.step h4 h3.at_
        have hp1 : d1.Perm ((y :: r).map prP) := by
          rw [HTOP.out] at h5
          exact (h5.symm.trans HPS.out.psim.pile).cons_inv
        have ht1 := pile_top (List.pairwise_cons.1 HPS.out.psim.sim.st.ord).2 hp1 h3.hp
        have HC2 := hide (least_any P g (k + 1) k cap2 B d1 w1 h3 rfl (by have := HBD.out; omega))
        rw [ht1, node_pr] at HC2
        have HS1 := hide hs1
        have HP1' := hide hp1
        have HT1 := hide ht1
        clear h3 h4 h5 hs1 hp1 ht1 HP1 HC1
        go_wp2_with fail
        refine HC2.out.mono ?_
        rintro e w2 ⟨rfl, HP2⟩
        have HTW := hide (show ∃ d2, Two w2 W B P g cap2 k (.slice (some ⟨o, 0, none⟩) n co) d2 (parOf all) r by
          obtain ⟨d2, h3, h4, h5⟩ := HP2.out
          rw [HT1.out] at h5
          exact ⟨d2, HS1.out.step h4 h3.at_, h3.hp, (h5.symm.trans HP1'.out).cons_inv⟩)
        clear HP2 HC2 HS1 HP1' HT1 hcell
        obtain ⟨d2, htw⟩ := HTW.out
        have HT2 := hide htw
        have hlaid := Laid.begin htw.side x y
        have hxn := HPS.out.psim.sim.st.lt x List.mem_cons_self
        have hyn := HPS.out.psim.sim.st.lt y (List.mem_cons_of_mem _ List.mem_cons_self)
        have hxy := HPS.out.psim.ne
        have zx : (x.id : Int) < n := by omega
        have zy : (y.id : Int) < n := by omega
        have hpl : (parOf all).length = n := by rw [parOf_length, HALL.out]
        have ho := hlaid.side.own
        rw [hpl] at ho
        obtain ⟨c1, f1⟩ := own_nat (by rw [hpl]; exact ho) (getD_some (parOf all) x.id (by omega))
        obtain ⟨c2, f2⟩ := own_nat (by rw [hpl]; exact ho) (getD_some (parOf all) y.id (by omega))
        obtain ⟨k1, k2, k3, k4⟩ := hlaid.cells
        have hoA : o ≠ w2.heap.size := fun e => hlaid.ua (by rw [e]; rfl)
        have hoA2 : o ≠ w2.heap.size + 1 := fun e => hlaid.ub (by rw [e]; rfl)
        have HLD := hide hlaid
        have HPL := hide hpl
        generalize (parOf all).getD x.id 0 = px at *
        generalize (parOf all).getD y.id 0 = py at *
        clear ho hpl hlaid htw HTW
        go_wp2_with fail
        obtain ⟨A2, hA2⟩ : ∃ A2, w2.heap.size + 1 = A2 := ⟨_, rfl⟩
        rw [hA2] at k3 k4 HLD hoA2
        simp only [hA2]
        clear hA2
        obtain ⟨A, hA⟩ : ∃ A, w2.heap.size = A := ⟨_, rfl⟩
        rw [hA] at k1 k2 HLD hoA
        simp only [hA]
        clear hA
        generalize (w2.alloc (.cells #[.int .i64 (x.w : Int), .int .i64 (x.id : Int)] 44)).alloc (.cells #[.int .i64 (y.w : Int), .int .i64 (y.id : Int)] 44) = w3 at *
        go_region
        have HL4 : Hid (Laid ((w3.setCell ⟨o, x.id, none⟩ (.int .i64 (n : Int))).setCell ⟨o, y.id, none⟩ (.int .i64 (n : Int))).drew W B P A A2 (.slice (some ⟨g, 0, none⟩) k cap2) (.slice (some ⟨o, 0, none⟩) n co) d2 (((parOf all).set x.id n).set y.id n) x y) := hide (((HLD.out.set x.id n).set y.id n).drewN 1)
        have HPAR := hide (stepAll_par HPS.out.psim.sim)
        obtain ⟨par2, hpar2⟩ : ∃ par2, ((parOf all).set x.id n).set y.id n = par2 := ⟨_, rfl⟩
        have hp2l : par2.length = n := by rw [← hpar2, List.length_set, List.length_set]; exact HPL.out
        rw [hpar2] at HL4 HPAR
        have ho4 := HL4.out.side.own
        rw [hp2l] at ho4
        have HO4 := hide ho4
        have X1 := hide (show n + 1 ≤ maxLen by have := HBD.out; unfold maxLen; omega)
        have X2 := hide (show (n + 1) * 8 ≤ 140737488355328 by have := HBD.out; omega)
        have HP2L := hide hp2l
        obtain ⟨s, hs⟩ : ∃ s, x.w + y.w = s := ⟨_, rfl⟩
        have zs1 : wrap64 ((x.w : Int) + y.w) = (s : Int) := by rw [(wrap_sum _ _ (HPS.out.psim.sums HL.out HX.out)).1]; omega
        have zs2 : IntKind.i64.wrap ((x.w : Int) + y.w) = (s : Int) := by rw [(wrap_sum _ _ (HPS.out.psim.sums HL.out HX.out)).2]; omega
        have HS := hide hs
        clear hs
        clear hp2l ho4 hpar2 c1 c2 f1 f2 k1 k2 k3 k4
        generalize (((w3.setCell ⟨o, x.id, none⟩ (.int .i64 (n : Int))).setCell ⟨o, y.id, none⟩ (.int .i64 (n : Int))).drew) = w4 at *
        go_wp2_with (first
          | (at_builtin; refine wpList_append_fresh _ rfl _ _ 22 rfl B 3 i0 (.int .i64 0) 1 8 Try.underlying22 hi hz0 hz1 hz2 rfl (by decide) (.slice (some ⟨o, 0, none⟩) n co) _ _ rfl (HO4.out.alloc _) ⟨w4.heap.size, 0, none⟩ 1 1 [.int .i64 0] rfl rfl (cell_one_new _ _ _) (one_int _) X1.out X2.out (size_alloc_le HL4.out.siz) ?_; intro v5 w5 o5 g5 f5; have HL5 := hide ((HL4.out.alloc (.cells #[.int .i64 0] 3)).app 0 (by rw [HP2L.out]; exact o5) g5 f5); obtain ⟨k1, k2, k3, k4⟩ := HL5.out.cells; clear o5 g5 f5))
        refine (hpush_any P k cap2 B (some ⟨g, 0, none⟩) d2 (s, (n : Int)) w5 ⟨HL5.out.side.pile, HT2.out.hp⟩ (by have := HBD.out; omega) HL5.out.siz).mono ?_
        rintro e w6 ⟨rfl, g6, cap6, HP6⟩
        have HNX := hide (show ParsAt w6 W B P v5 ws (k + 1) (n + 1) by
          obtain ⟨d3, h6, h7, h8⟩ := HP6.out
          have hs6 := HL5.out.side.step h7 h6.at_
          rw [← HPAR.out] at hs6
          refine ⟨_, d3, stepAll all x.id y.id, _, _, ⟨hs6, HPS.out.psim.step ?_ h6.hp⟩, ?_⟩
          · rw [HS.out]
            exact h8.trans (HT2.out.perm.cons _)
          · have := HK.out
            simp only [List.length_cons] at this
            rw [ins_length]
            omega)
        clear HP6 k1 k2 k3 k4
        go_wp2
        go_roundg (k + 1)
        case measure => omega
        case rel => exact ⟨n + 1, HNX⟩
    · have HE := hide (hpars.psim.finish (by omega))
      have HO := hide hpars.side.own
      have HBE := hide hpars.side.bel
      have zk : ¬ (1 : Int) < gk := by omega
      clear hpars hbd
      go_wp2
      go_ret
      exact ⟨_, rfl, _, HE, HO, HBE⟩

end Go.Proofs.Ytihgdlnnfhpdcaa
