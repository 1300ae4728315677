/- The program's layer 11: an opening under way; a byte more, a match more. -/
import Derived.Test.YtaalbaiglkadlaaGreatICodeC
import Derived.Deep.AppendLies
namespace Go.Proofs.YtaalbaiglkadlaaGreat
open Go.RowKit Go.Lib

theorem OutSt.keep {T : TypeId} {w w' W : World} {p i : Nat} {s : ByteArray} {out : List Nat} {v : Value} (h : OutSt T w W p s i out v) (hp : w'.heap[p]? = w.heap[p]?) (hv : ∀ g, v.ownBlock = some g → w'.heap[g]? = w.heap[g]?) (b : Below W.heap.size W w') : OutSt T w' W p s i out v := by
  refine ⟨?_, ?_, b, h.new, h.ne⟩
  · unfold RdAt
    rw [hp]
    exact h.rd
  · refine ⟨h.own.1, ?_⟩
    rcases h.own.2 with h2 | ⟨g, cap, cur, e, hg, hh, r2⟩
    · exact .inl h2
    · exact .inr ⟨g, cap, cur, e, hg, (hv g (by rw [e]; rfl)).trans hh, r2⟩
/-- An opening under way: its reader, its bytes, its box. -/
structure OpSt (w W : World) (O p : Nat) (s : ByteArray) (i : Nat) (out : List Nat) (v : Value) (limit : Int) : Prop where
  st : OutSt 43 w W p s i out v
  bx : Bx w O p v limit
  on : W.heap.size ≤ O
  ov : v.ownBlock ≠ some O
section
variable {w w' W w4 : World} {O p i j : Nat} {s : ByteArray} {out o : List Nat} {v v4 : Value} {limit : Int}
theorem OpSt.read (h : OpSt w W O p s i out v limit) (t : Turn p w w') (r : RdAt 43 w' p s j false) : OpSt w' W O p s j out v limit := ⟨h.st.read t r, h.bx.turn t, h.on, h.ov⟩
theorem OpSt.bad (h : OpSt w W O p s i out v limit) (t : Turn p w w') : Below W.heap.size W w' := h.st.bad t
theorem OpSt.drewN (h : OpSt w W O p s i out v limit) (n : Nat) : OpSt (w.drewN n) W O p s i out v limit := h.read ((Turn.refl p w).drewN n) (by have := h.st.rd; unfold RdAt at this ⊢; exact this)
theorem OpSt.alloc (h : OpSt w W O p s i out v limit) (ob : Obj) : OpSt (w.alloc ob) W O p s i out v limit := ⟨h.st.alloc ob, h.bx.alloc ob, h.on, h.ov⟩
theorem OpSt.below (h : OpSt w W O p s i out v limit) (b : Below w.heap.size w w') : OpSt w' W O p s i out v limit := ⟨h.st.below b, h.bx.below b, h.on, h.ov⟩
theorem OpSt.slice (h : OpSt w W O p s i out v limit) : ∃ a c, v = .slice a out.length c := by
  rcases len_form h.st.own with ⟨e1, e2⟩ | ⟨g, c, e1⟩
  · exact ⟨none, 0, by rw [e1, e2]⟩
  · exact ⟨_, c, e1⟩
theorem OpSt.byte {a : Option Addr} {c : Nat} (h : OpSt w W O p s i out (.slice a out.length c) limit) (q : Nat) (hq : q < out.length) : ∃ g, a = some ⟨g, 0, none⟩ ∧ w.cell? ⟨g, q, none⟩ = some (.int .u8 (out.getD q 0 : Nat)) := by
  rcases len_form h.st.own with ⟨_, e2⟩ | ⟨g, c2, e1⟩
  · omega
  · injection e1 with e1 _ _
    subst e1
    refine ⟨g, rfl, ?_⟩
    rw [h.st.own.cellAt q (by omega)]
    unfold u8Cs
    rw [List.getElem?_map, List.getD_eq_getElem?_getD, List.getElem?_eq_getElem hq]
    rfl
theorem OpSt.old (h : OpSt w W O p s i out v limit) : O < w.heap.size ∧ p < w.heap.size ∧ (∀ k, v.ownBlock = some k → k < w.heap.size) ∧ ∀ k, v.ownBlock = some k → W.heap.size ≤ k :=
  ⟨h.bx.lt, (Array.getElem?_eq_some_iff.1 h.st.rd).1, fun k hk => (h.st.own.lt k hk).2, fun k hk => (h.st.own.lt k hk).1⟩
/-- The row grown, ahead of its laying into the box. -/
theorem OpSt.box4 (h : OpSt w W O p s i out v limit) (hg : w.grownBy w4 v.ownBlock) : Bx w4 O p v limit := h.bx.same (hg.block O h.bx.lt (fun e => h.ov e.symm))
/-- The row grown and laid into the box. -/
theorem OpSt.put (h : OpSt w W O p s i out v limit) (ho : w4.ownsRow W.heap.size 5 1 v4 o.length (u8Cs o)) (hg : w.grownBy w4 v.ownBlock) (hf : v4.ownBlock = v.ownBlock ∨ ∀ k, v4.ownBlock = some k → w.heap.size ≤ k) :
    OpSt (w4.setCell ⟨O, 2, none⟩ v4) W O p s i o v4 limit ∧ Mv O p v v4 w (w4.setCell ⟨O, 2, none⟩ v4) := by
  have hov : v4.ownBlock ≠ some O := by
    rcases hf with e | e
    · rw [e]; exact h.ov
    · intro e2
      have := e O e2
      have := h.bx.lt
      omega
  have hb := (h.st.grow ho hg hf).bel
  refine ⟨⟨(h.st.grow ho hg hf).keep ?_ (fun g hg2 => ?_) (hb.setCell (p := ⟨O, 2, none⟩) h.on _), (h.box4 hg).put v4, h.on, hov⟩, (Mv.grown hg hf).box 2 v4⟩
  · exact Below.heap_setCell _ _ _ _ (show p ≠ O from fun e => h.bx.op e.symm)
  · exact Below.heap_setCell _ _ _ _ (show g ≠ O from fun e => hov (by rw [hg2, e]))
end

theorem lies_own {v : Value} {g n c : Nat} {w : World} (h : v.ownBlock = some g ∨ g = w.heap.size) : (Value.slice (some ⟨g, 0, none⟩) n c).ownBlock = v.ownBlock ∨ ∀ k, (Value.slice (some ⟨g, 0, none⟩) n c).ownBlock = some k → w.heap.size ≤ k := by
  rcases h with e | e
  · exact .inl e.symm
  · refine .inr fun k hk => ?_
    have e2 : g = k := by injection hk
    omega
theorem at_alloc8 {w : World} {o : Obj} {v : Value} {g m : Nat} (h : v.ownBlock = some g ∨ g = w.heap.size + 1) : v.ownBlock = some g ∨ g = ((w.drewN m).alloc o).heap.size := by
  rcases h with h | h
  · exact .inl h
  · right
    rw [h]
    show w.heap.size + 1 = (w.heap.push o).size
    simp

/-- What a byte more leaves. -/
def LitPost (W0 W : World) (O p : Nat) (s : ByteArray) (i : Nat) (out : List Nat) (b : Nat) (v : Value) (limit : Int) (e : Ending) (w' : World) : Prop :=
  ((out.length : Int) < limit ∧ e = .returned (.int .i64 0) ∧ ∃ v', OpSt w' W0 O p s i (out ++ [b]) v' limit ∧ Mv O p v v' W w') ∨ (limit ≤ (out.length : Int) ∧ e = .returned (.int .i64 6) ∧ Below W0.heap.size W0 w')

set_option maxRecDepth 20000 in
set_option maxHeartbeats 8000000 in
theorem literal11 (W0 W : World) (O p : Nat) (s : ByteArray) (i : Nat) (out : List Nat) (b : Nat) (v : Value) (limit : Int) (h : OpSt W W0 O p s i out v limit) (hr : out = [] ∨ (out.length : Int) ≤ limit) (h2 : limit ≤ 1000000) :
    Calls Tryz.prog 54 #[.pointer (some ⟨O, 0, none⟩), .int .u8 (b : Nat)] W fun e w' => LitPost W0 W O p s i out b v limit e w' := by
  obtain ⟨a, c, rfl⟩ := h.slice
  obtain ⟨L, hL⟩ : ∃ L, out.length = L := ⟨_, rfl⟩
  have HL := hide hL
  have hL9 : L ≤ 1000000 := by
    rcases hr with e | e
    · rw [← hL, e]; exact Nat.zero_le _
    · omega
  rw [hL] at h ⊢
  have HP := hide h
  obtain ⟨i1, ki, kz0, kz1, kz2⟩ := info_parts Tryz.infoU8
  have HRM := hide (room11 O p L c a limit 1 W h.bx hL9 (by decide))
  clear h hr hL
  go_enter Tryz.func54, Tryz.ntmps54
  go_wp2_with fail
  refine HRM.out.mono ?_
  rintro e w1 ⟨rfl, m, rfl⟩
  clear HRM
  by_cases hl : (L : Int) < limit
  · have bl : decide ((L : Int) + 1 ≤ limit) = true := decide_eq_true (by omega)
    have HP1 := hide (HP.out.drewN m)
    have _c2 := HP1.out.bx.c2
    have HOW := hide HP1.out.st.own
    have HSZ := hide HP1.out.st.bel.size
    have X1 := hide (show L + 1 ≤ maxLen by unfold maxLen; omega)
    have X2 := hide (show (L + 1) * 1 ≤ 140737488355328 by omega)
    have HL2 := hide (show (out ++ [b]).length = L + 1 by rw [List.length_append, HL.out]; rfl)
    have HPA := hide (fun ob => (HP1.out.alloc ob))
    have HMA := hide (fun ob => ((Mv.ofBelow ((below_drewN (Below.refl W.heap.size W) m).alloc (Nat.le_refl _) ob)) : Mv O p (.slice a L c) (.slice a L c) W _))
    rw [HL.out] at HOW
    go_wp2_with (first
      | (at_builtin; (refine wpList_append_lies _ rfl _ _ 30 rfl W0.heap.size 5 i1 (.int .u8 0) 1 1 Tryz.underlying30 ki kz0 kz1 kz2 rfl (by decide) (.slice a L c) _ _ rfl (HOW.out.alloc _) ⟨W.heap.size, 0, none⟩ 1 1 [.int .u8 (b : Int)] rfl rfl (cell_one_new _ _ _) (one_u8 _) (by decide) X1.out X2.out (size_alloc_le HSZ.out) (W.heap.size + 1) (by simp) ?_; intro gn cn w4 o4 g4 h4 l4; rw [show [Value.int .u8 (b : Int)] = u8Cs [b] from rfl, u8Cs_append] at o4; have HX4 := hide ((HPA.out _).box4 g4); have _d2 := HX4.out.c2; have _f2 := HX4.out.frozen 2; have HP4 := hide ((HPA.out _).put (o := out ++ [b]) (by rw [HL2.out]; exact o4) g4 (lies_own (at_alloc8 h4))); clear o4 g4 h4 l4)))
    go_ret
    have hM := (HMA.out _).trans HP4.out.2
    exact .inl ⟨by rw [HL.out]; exact hl, rfl, _, HP4.out.1, hM⟩
  · have bl : decide ((L : Int) + 1 ≤ limit) = false := decide_eq_false (by omega)
    have HG := hide (show LitPost W0 W O p s i out b (.slice a L c) limit (.returned (.int .i64 6)) (W.drewN m) from .inr ⟨by rw [HL.out]; omega, rfl, below_drewN HP.out.st.bel m⟩)
    go_wp2
    go_ret
    exact HG.out

end Go.Proofs.YtaalbaiglkadlaaGreat
