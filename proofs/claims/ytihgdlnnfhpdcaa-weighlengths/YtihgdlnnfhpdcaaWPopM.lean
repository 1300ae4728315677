/- Contracts of the pile's own Pop and Push of layer 4. -/
import Derived.Test.YtihgdlnnfhpdcaaWDown
import Derived.Deep.AppendLies
import Derived.Deep.RegionLaw
namespace Go.Proofs.Ytihgdlnnfhpdcaa
open Go.RowKit Go.Lib

/-- A node as a value. -/
def nodeV (x : Nat × Int) : Value := .agg #[.int .i64 (x.1 : Int), .int .i64 x.2]

theorem nodeCs_take (d : List (Nat × Int)) (k : Nat) : nodeCs (d.take k) = (nodeCs d).take (k * 2) := by
  induction d generalizing k with
  | nil => simp [nodeCs]
  | cons p d ih =>
    cases k with
    | zero => simp [nodeCs]
    | succ k =>
      rw [List.take_succ_cons, nodeCs_cons, nodeCs_cons, ih, show (k + 1) * 2 = k * 2 + 1 + 1 by omega, List.take_succ_cons, List.take_succ_cons]

theorem own_take {w : World} {B g cap n k : Nat} {e : TypeId} {d : List (Nat × Int)} (h : w.ownsRow B e 2 (.slice (some ⟨g, 0, none⟩) n cap) n (nodeCs d)) (hk : k ≤ n) (hd : d.length = n) : w.ownsRow B e 2 (.slice (some ⟨g, 0, none⟩) k cap) k (nodeCs (d.take k)) := by
  refine ⟨by rw [nodeCs_length, List.length_take]; omega, ?_⟩
  rcases h.2 with ⟨h', _⟩ | ⟨g', cap', cur, h', hb, hg, hn, hm, hc, ht⟩
  · simp at h'
  · simp only [Value.slice.injEq, Option.some.injEq, Addr.mk.injEq, and_true, true_and] at h'
    obtain ⟨rfl, rfl⟩ := h'
    refine .inr ⟨_, _, cur, rfl, hb, hg, by omega, hm, hc, ?_⟩
    rw [nodeCs_take, ← ht, List.take_take]
    congr 1
    omega

theorem heap_alloc_old (w : World) (o : Obj) (i : Nat) (hi : i < w.heap.size) : (w.alloc o).heap[i]? = w.heap[i]? := by
  show (w.heap.push o)[i]? = _
  rw [Array.getElem?_push, if_neg (by omega)]

/-- The box gets another slice, whose row is there, and new blocks may have come. -/
theorem box_step {W w : World} {B P : Nat} {v0 v v' : Value} {d d' : List (Nat × Int)} (h : PileAt w B P v d) (hs : Step P v0 v W w) (hne : v'.ownBlock ≠ some P)
    (ho : w.ownsRow B 44 2 v' d'.length (nodeCs d')) (hv : v'.ownBlock = v.ownBlock ∨ ∀ k, v'.ownBlock = some k → W.heap.size ≤ k) :
    PileAt (w.setCell ⟨P, 0, none⟩ v') B P v' d' ∧ Step P v0 v' W (w.setCell ⟨P, 0, none⟩ v') := by
  refine ⟨⟨?_, ownsRow_setCell_other ho hne _, hne⟩, hs.os, hs.tape, hs.output, by rw [size_setCell]; exact hs.size, ?_, ?_⟩
  · rw [heap_setCell_same _ _ _ _ _ _ _ h.box]
    rfl
  · intro i hi hp hv2
    rw [Below.heap_setCell _ _ _ _ hp]
    exact hs.block i hi hp hv2
  · rcases hv with e | e
    · rw [e]; exact hs.own
    · exact .inr e

theorem PileAt.alloc {w : World} {B P : Nat} {v : Value} {d : List (Nat × Int)} (h : PileAt w B P v d) (o : Obj) : PileAt (w.alloc o) B P v d :=
  ⟨by rw [heap_alloc_old _ _ _ (Array.getElem?_eq_some_iff.1 h.box).1]; exact h.box, h.own.alloc o, h.ne⟩
theorem Step.alloc {p : Nat} {v v' : Value} {W w : World} (h : Step p v v' W w) (o : Obj) : Step p v v' W (w.alloc o) :=
  ⟨h.os, h.tape, h.output, size_alloc_le h.size, fun k hk hp hv => by rw [heap_alloc_old _ _ _ (Nat.lt_of_lt_of_le hk h.size)]; exact h.block k hk hp hv, h.own⟩
theorem Step.drew {p : Nat} {v v' : Value} {W w : World} (h : Step p v v' W w) : Step p v v' W w.drew := ⟨h.os, h.tape, h.output, h.size, h.block, h.own⟩
theorem PileAt.drew {w : World} {B P : Nat} {v : Value} {d : List (Nat × Int)} (h : PileAt w B P v d) : PileAt w.drew B P v d := ⟨h.box, h.own, h.ne⟩

theorem pop_step {W : World} {B P g n k cap : Nat} {d : List (Nat × Int)} (h : PileAt W B P (.slice (some ⟨g, 0, none⟩) n cap) d) (hd : d.length = n) (hk : k ≤ n) (o : Obj) :
    PileAt ((W.setCell ⟨P, 0, none⟩ (.slice (some ⟨g, 0, none⟩) k cap)).alloc o) B P (.slice (some ⟨g, 0, none⟩) k cap) (d.take k) ∧
    Step P (.slice (some ⟨g, 0, none⟩) n cap) (.slice (some ⟨g, 0, none⟩) k cap) W ((W.setCell ⟨P, 0, none⟩ (.slice (some ⟨g, 0, none⟩) k cap)).alloc o) := by
  have ho := h.own
  rw [hd] at ho
  have hlt : (d.take k).length = k := by rw [List.length_take]; omega
  have hb := box_step (v0 := .slice (some ⟨g, 0, none⟩) n cap) (v' := .slice (some ⟨g, 0, none⟩) k cap) h (Step.refl _ _ _) h.ne (by rw [hlt]; exact own_take ho hk hd) (.inl rfl)
  exact ⟨hb.1.alloc o, hb.2.alloc o⟩

set_option maxRecDepth 20000 in
set_option maxHeartbeats 2000000 in
theorem popm_any (P g n k cap B : Nat) (d : List (Nat × Int)) (W : World) (h : PileAt W B P (.slice (some ⟨g, 0, none⟩) n cap) d) (hd : d.length = n) (hk : k + 1 = n) (hn2 : n ≤ 1024) :
    Calls Try.prog 48 #[.pointer (some ⟨P, 0, none⟩)] W fun e w' => e = .returned (.iface 44 (nodeV (atP d k))) ∧ Hid (PileAt w' B P (.slice (some ⟨g, 0, none⟩) k cap) (d.take k)) ∧ Hid (Step P (.slice (some ⟨g, 0, none⟩) n cap) (.slice (some ⟨g, 0, none⟩) k cap) W w') := by
  have hcell := h.cell
  have hfz := h.frozen
  have HR := hide (fun o => pop_step h hd (k := k) (by omega) o)
  have ho := h.own
  rw [hd] at ho
  have hcap : n ≤ cap := own_cap ho
  obtain ⟨c1, c2, _, _⟩ := own_nodeP (j := k) (by rw [hd]; exact ho) (by omega)
  have hPW : P < W.heap.size := (Array.getElem?_eq_some_iff.1 h.box).1
  have hgW : g < W.heap.size := (ho.lt g rfl).2
  have e1 : (n : Int) - 1 = (k : Int) := by omega
  have z1 : (k : Int) < n := by omega
  have z2 : (k : Int) ≤ cap := by omega
  have hPn : P ≠ W.heap.size := by omega
  have hgn : g ≠ W.heap.size := by omega
  have HV := hide (show nodeV (atP d k) = .agg #[.int .i64 ((atP d k).1 : Int), .int .i64 (atP d k).2] from rfl)
  generalize atP d k = x at *
  obtain ⟨a, u⟩ := x
  dsimp only at c1 c2 HV
  clear h ho hd hk
  go_enter Try.func48, Try.ntmps48
  go_wp2
  go_ret
  exact ⟨rfl, hide (HR.out _).1, hide (HR.out _).2⟩

theorem Try.infoPile : (Try.prog.info? 44).map (fun i => (i.zero, i.size, i.bytes)) = some (some (.agg #[.int .i64 0, .int .i64 0]), 2, 16) := by kernel_rfl

theorem node_assert (v : Value) (w : World) : (Instr.typeAssert (.iface 44 v) 20 44 false).run Try.prog w = .ok v w := by kernel_rfl

theorem push_box {w1 w2 : World} {B P : Nat} {v : Value} {d : List (Nat × Int)} (h : PileAt w1 B P v d) (hg : w1.grownBy w2 v.ownBlock) : w2.heap[P]? = some (.cells #[v] 35 (0, 0)) := by
  rw [hg.block P (Array.getElem?_eq_some_iff.1 h.box).1 (fun e => h.ne e.symm)]
  exact h.box
theorem box_cell {w : World} {P : Nat} {v : Value} (h : w.heap[P]? = some (.cells #[v] 35 (0, 0))) : w.cell? ⟨P, 0, none⟩ = some v ∧ w.frozen? ⟨P, 0, none⟩ = false := by
  refine ⟨?_, by simp [World.frozen?, h]⟩
  rw [cell_of_row _ _ 0 _ _ (0, 0) h]
  rfl

theorem push_step {W w1 w2 : World} {B P n g cap : Nat} {v : Value} {d : List (Nat × Int)} {x : Nat × Int} (h : PileAt w1 B P v d) (hs : Step P v v W w1) (hd : d.length = n)
    (ho : w2.ownsRow B 44 2 (.slice (some ⟨g, 0, none⟩) (n + 1) cap) (n + 1) (nodeCs d ++ [.int .i64 (x.1 : Int), .int .i64 x.2])) (hg : w1.grownBy w2 v.ownBlock) (hv : v.ownBlock = some g ∨ g = w1.heap.size) :
    PileAt (w2.setCell ⟨P, 0, none⟩ (.slice (some ⟨g, 0, none⟩) (n + 1) cap)) B P (.slice (some ⟨g, 0, none⟩) (n + 1) cap) (d ++ [x]) ∧ Step P v (.slice (some ⟨g, 0, none⟩) (n + 1) cap) W (w2.setCell ⟨P, 0, none⟩ (.slice (some ⟨g, 0, none⟩) (n + 1) cap)) := by
  have hP := (Array.getElem?_eq_some_iff.1 h.box).1
  have hne : (Value.slice (some ⟨g, 0, none⟩) (n + 1) cap).ownBlock ≠ some P := by
    intro e
    have e2 : g = P := by injection e
    rcases hv with e3 | e3
    · exact h.ne (by rw [e3, e2])
    · omega
  refine ⟨⟨?_, ?_, hne⟩, hg.os.trans hs.os, hg.tape.trans hs.tape, hg.output.trans hs.output, ?_, ?_, ?_⟩
  · rw [heap_setCell_same _ _ _ _ _ _ _ (push_box h hg)]
    rfl
  · have hl : (d ++ [x]).length = n + 1 := by rw [List.length_append, hd]; rfl
    rw [hl, nodeCs_append]
    exact ownsRow_setCell_other ho hne _
  · rw [size_setCell]
    exact Nat.le_trans hs.size hg.size
  · intro k hk hp hv2
    rw [Below.heap_setCell _ _ _ _ hp, hg.block k (Nat.lt_of_lt_of_le hk hs.size) hv2]
    exact hs.block k hk hp hv2
  · rcases hv with e | e
    · exact .inl e.symm
    · refine .inr fun k hk => ?_
      have e2 : g = k := by injection hk
      have := hs.size
      omega

theorem at_alloc {w : World} {o : Obj} {v : Value} {g : Nat} (h : v.ownBlock = some g ∨ g = w.heap.size + 1) : v.ownBlock = some g ∨ g = (w.drew.alloc o).heap.size := by
  rcases h with h | h
  · exact .inl h
  · right
    rw [h]
    show w.heap.size + 1 = (w.heap.push o).size
    simp

set_option maxRecDepth 20000 in
set_option maxHeartbeats 2000000 in
theorem pushm_any (P n cap B : Nat) (a : Option Addr) (d : List (Nat × Int)) (x : Nat × Int) (W : World) (h : PileAt W B P (.slice a n cap) d) (hd : d.length = n) (hn2 : n ≤ 1023) (hB : B ≤ W.heap.size) :
    Calls Try.prog 49 #[.pointer (some ⟨P, 0, none⟩), .iface 44 (nodeV x)] W fun e w' => e = .returned (.tuple #[]) ∧ ∃ g cap', Hid (PileAt w' B P (.slice (some ⟨g, 0, none⟩) (n + 1) cap') (d ++ [x])) ∧ Hid (Step P (.slice a n cap) (.slice (some ⟨g, 0, none⟩) (n + 1) cap') W w') := by
  obtain ⟨i1, ki, kz0, kz1, kz2⟩ := info_parts Try.infoPile
  have hcell := h.cell
  have hfz := h.frozen
  have ho := h.own
  rw [hd] at ho
  have HH := hide h
  obtain ⟨x1, x2⟩ := x
  unfold nodeV
  have hPW : P < W.heap.size := (Array.getElem?_eq_some_iff.1 h.box).1
  have hPn : P ≠ W.heap.size := by omega
  have X1 : n + 1 ≤ maxLen := by unfold maxLen; omega
  have X2 : (n + 1) * 16 ≤ 140737488355328 := by omega
  have HO := hide ho
  have HX1 := hide X1
  have HX2 := hide X2
  have hta := node_assert
  have HD := hide hd
  clear ho h X1 X2 hd
  go_enter Try.func49, Try.ntmps49
  go_wp2_with fail
  have HP1 := hide (fun o => (HH.out.drew.alloc o : PileAt (W.drew.alloc o) B P _ d))
  have HS1 := hide (fun o => ((Step.refl P (.slice a n cap) W).drew.alloc o))
  go_region_law ((refine step_append_lies _ (by rfl) (.tmp 7) (.tmp 10) 35 (by rfl) B 44 i1 (.agg #[.int .i64 0, .int .i64 0]) 2 16 Try.underlying35 ki kz0 kz1 kz2 rfl (by decide) (.slice a n cap) n (nodeCs d) (by rfl) (HO.out.drew.alloc _) ⟨W.heap.size, 0, none⟩ 1 1 [.int .i64 (x1 : Int), .int .i64 x2] (by rfl) rfl (cell_two_new _ _ _ _) (fun x hx => by simp at hx; rcases hx with rfl | rfl <;> rfl) (by decide) HX1.out HX2.out (size_alloc_le hB) (W.heap.size + 1) (by simp) ?_; intro g cap' w1 hown hgrow hat hlt; obtain ⟨_c, _f⟩ := box_cell (push_box (HP1.out _) hgrow); have HF := hide (push_step (x := (x1, x2)) (HP1.out _) (HS1.out _) HD.out hown hgrow (at_alloc hat)); clear hown hgrow hat hlt))
  all_goals
    go_end0
    exact ⟨rfl, g, cap', hide HF.out.1, hide HF.out.2⟩

end Go.Proofs.Ytihgdlnnfhpdcaa
