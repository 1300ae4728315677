/- The program's layer 11: an opening's box; its room, its next number, its next symbol, what stands above a least one. -/
import Derived.Test.YtaalbaiglkadlaaGreatICodeA
import Derived.Test.YtaalbaiglkadlaaGreatICodeB
import Derived.Test.YtaalbaiglkadlaaGreatIOpen
namespace Go.Proofs.YtaalbaiglkadlaaGreat
open Go.RowKit Go.Lib

/-- The cells of an opening: its reader, its reader's bits, its bytes, its limit. -/
def boxCs (p : Nat) (v : Value) (limit : Int) : List Value := [.pointer (some ⟨p, 0, none⟩), .func (.func 13) #[.pointer (some ⟨p, 0, none⟩)] #[], v, .int .i64 limit]
structure Bx (w : World) (O p : Nat) (v : Value) (limit : Int) : Prop where
  box : w.heap[O]? = some (.cells (boxCs p v limit).toArray 47 (0, 0))
  op : O ≠ p
section
variable {w w' : World} {O p : Nat} {v v' : Value} {limit : Int}
theorem Bx.lt (h : Bx w O p v limit) : O < w.heap.size := (Array.getElem?_eq_some_iff.1 h.box).1
theorem Bx.c0 (h : Bx w O p v limit) : w.cell? ⟨O, 0, none⟩ = some (.pointer (some ⟨p, 0, none⟩)) := by
  rw [cell_of_row _ _ 0 _ _ (0, 0) h.box, List.getElem?_toArray]; rfl
theorem Bx.c1 (h : Bx w O p v limit) : w.cell? ⟨O, 1, none⟩ = some (.func (.func 13) #[.pointer (some ⟨p, 0, none⟩)] #[]) := by
  rw [cell_of_row _ _ 1 _ _ (0, 0) h.box, List.getElem?_toArray]; rfl
theorem Bx.c2 (h : Bx w O p v limit) : w.cell? ⟨O, 2, none⟩ = some v := by
  rw [cell_of_row _ _ 2 _ _ (0, 0) h.box, List.getElem?_toArray]; rfl
theorem Bx.c3 (h : Bx w O p v limit) : w.cell? ⟨O, 3, none⟩ = some (.int .i64 limit) := by
  rw [cell_of_row _ _ 3 _ _ (0, 0) h.box, List.getElem?_toArray]; rfl
theorem Bx.frozen (h : Bx w O p v limit) (k : Nat) : w.frozen? ⟨O, k, none⟩ = false := by simp [World.frozen?, h.box]
theorem Bx.same (h : Bx w O p v limit) (e : w'.heap[O]? = w.heap[O]?) : Bx w' O p v limit := ⟨e.trans h.box, h.op⟩
theorem Bx.turn (h : Bx w O p v limit) (t : Turn p w w') : Bx w' O p v limit := h.same (t.block O h.lt h.op)
theorem Bx.below (h : Bx w O p v limit) (b : Below w.heap.size w w') : Bx w' O p v limit := h.same (b.block O h.lt)
theorem Bx.alloc (h : Bx w O p v limit) (ob : Obj) : Bx (w.alloc ob) O p v limit := h.same (heap_alloc_old _ _ _ h.lt)
theorem Bx.drewN (h : Bx w O p v limit) (n : Nat) : Bx (w.drewN n) O p v limit := ⟨h.box, h.op⟩
theorem Bx.put (h : Bx w O p v limit) (v' : Value) : Bx (w.setCell ⟨O, 2, none⟩ v') O p v' limit := by
  refine ⟨?_, h.op⟩
  rw [heap_setCell_same _ _ _ _ _ _ _ h.box, List.setIfInBounds_toArray]
  rfl
end

theorem wrap_intI (x : Int) (h1 : 0 ≤ x) (h2 : x ≤ 1099511627776) : wrap64 x = x ∧ IntKind.i64.wrap x = x := by
  constructor
  · unfold wrap64; omega
  · rw [IntKind.wrap_i64]; omega
theorem wrap_two (a b : Nat) (h : a + b ≤ 2000000) : wrap64 ((a : Int) + (b : Int)) = (a : Int) + (b : Int) ∧ IntKind.i64.wrap ((a : Int) + (b : Int)) = (a : Int) + (b : Int) := wrap_intI _ (by omega) (by omega)

set_option maxRecDepth 20000 in
set_option maxHeartbeats 4000000 in
theorem room11 (O p L c : Nat) (a : Option Addr) (limit : Int) (n : Nat) (W : World) (h : Bx W O p (.slice a L c) limit) (hL : L ≤ 1000000) (hn : n ≤ 100000) :
    Calls Tryz.prog 38 #[.pointer (some ⟨O, 0, none⟩), .int .i64 (n : Nat)] W fun e w' => e = .returned (.bool (decide ((L : Int) + (n : Int) ≤ limit))) ∧ ∃ m, w' = W.drewN m := by
  have _c2 := h.c2
  have _c3 := h.c3
  have ew := (wrap_two L n (by omega)).1
  have ew2 := (wrap_two L n (by omega)).2
  clear h
  go_enter Tryz.func38, Tryz.ntmps38
  go_wp2_with fail
  go_quiet (fail)
  go_wp2
  go_ret
  exact ⟨rfl, _, rfl⟩

/-- What the next number gives. -/
def NumPost (k p : Nat) (s : ByteArray) (i : Nat) (W : World) (e : Ending) (w' : World) : Prop := Only p W w' ∧
  ((∃ x, rdP k (srcB s) (8 * s.size) i = .ok (x, i + k) ∧ x < 2 ^ k ∧ i + k ≤ 8 * s.size ∧ e = .returned (.tuple #[.int .i64 (x : Nat), .int .i64 0]) ∧ RdAt 43 w' p s (i + k) false) ∨
   (rdP k (srcB s) (8 * s.size) i = .error 2 ∧ e = .returned (.tuple #[.int .i64 0, .int .i64 2])))

set_option maxRecDepth 20000 in
set_option maxHeartbeats 4000000 in
theorem number11 (O p : Nat) (v : Value) (limit : Int) (s : ByteArray) (i k : Nat) (W : World) (h : Bx W O p v limit) (hr : RdAt 43 W p s i false) (hk : k ≤ 30) (hi : i ≤ 8 * s.size) (hs : s.size ≤ 1000000) :
    Calls Tryz.prog 94 #[.pointer (some ⟨O, 0, none⟩), .int .i64 (k : Nat)] W fun e w' => NumPost k p s i W e w' := by
  obtain ⟨x, q, b, hx, hq, hrel, HC⟩ := rd_all k p i s false hk hi hs
  have HC := hide (HC W hr)
  have HB := hide h
  have _c0 := h.c0
  have _c1 := h.c1
  clear h hr
  rcases hrel with ⟨_, rfl, hk1⟩ | ⟨_, rfl, hk1⟩ | ⟨h9, _⟩
  · have hk2 := rdP_inv hk1
    have HKQ := hide hk2.2.2
    have HK1 := hide hk1
    have HK3 := hide hk2.1
    clear hk1 hk2
    go_enter Tryz.func94, Tryz.ntmps94
    go_wp2_with fail
    refine HC.out.mono ?_
    rintro e w1 ⟨rfl, ho, hr1⟩
    have HB1 := hide (HB.out.turn ho.turn)
    have _d0 := HB1.out.c0
    have _r2 := hr1.c2
    have HG := hide (show NumPost k p s i W (.returned (.tuple #[.int .i64 (x : Nat), .int .i64 0])) w1 from ⟨ho, .inl ⟨x, by rw [← HKQ.out]; exact HK1.out, hx, HK3.out, rfl, by rw [← HKQ.out]; exact hr1⟩⟩)
    clear ho hr1 _c0 _c1 HC HK1 HK3 HKQ
    go_wp2
    go_ret2
    exact HG.out
  · have HK1 := hide hk1
    clear hk1
    go_enter Tryz.func94, Tryz.ntmps94
    go_wp2_with fail
    refine HC.out.mono ?_
    rintro e w1 ⟨rfl, ho, hr1⟩
    have HB1 := hide (HB.out.turn ho.turn)
    have _d0 := HB1.out.c0
    have _r2 := hr1.c2
    have HG := hide (show NumPost k p s i W (.returned (.tuple #[.int .i64 0, .int .i64 2])) w1 from ⟨ho, .inr ⟨HK1.out, rfl⟩⟩)
    clear ho hr1 _c0 _c1 HC HK1
    go_wp2
    go_ret2
    exact HG.out
  · cases h9

/-- What the reading of a symbol leaves, in one form. -/
def SymX (ls : List Nat) (p : Nat) (s : ByteArray) (i : Nat) (y : Int) (w' : World) : Prop :=
  (∃ x j, symP ls (srcB s) (8 * s.size) i = .ok (x, j) ∧ i < j ∧ j ≤ 8 * s.size ∧ x < ls.length ∧ y = (x : Nat) ∧ RdAt 43 w' p s j false) ∨
  (symP ls (srcB s) (8 * s.size) i = .error 2 ∧ y < 0 ∧ ∃ i', RdAt 43 w' p s i' true) ∨
  (symP ls (srcB s) (8 * s.size) i = .error 4 ∧ y < 0 ∧ ∃ i', RdAt 43 w' p s i' false)
theorem sym_x (ls : List Nat) (a : Option Addr) (c m : Nat) (p : Nat) (s : ByteArray) (i : Nat) (W : World) (hm : (symTo ls 16).length = m) (harg : ArgN W a (symTo ls 16)) (hne : ∀ b off, a = some ⟨b, off, none⟩ → b ≠ p) (hls : ls.length ≤ 1000)
    (h : RdAt 43 W p s i false) (hi : i ≤ 8 * s.size) (hs : s.size ≤ 1000000) :
    Calls Tryz.prog 74 #[.pointer (some ⟨p, 0, none⟩), codeV (cn ls) (.slice a m c)] W fun e w' => ∃ y, e = .returned (.int .i64 y) ∧ Turn p W w' ∧ Hid (SymX ls p s i y w') := by
  refine (sym_all ls a c m p s i W hm harg hne hls h hi hs).mono ?_
  rintro e w' ⟨ht, ⟨x, j, h1, h2, h3, h4, rfl, h5⟩ | ⟨h1, y, h2, rfl, i', _, h3⟩ | ⟨h1, y, h2, rfl, i', _, h3⟩⟩
  · exact ⟨_, rfl, ht, .inl ⟨x, j, h1, h2, h3, h4, rfl, h5⟩⟩
  · exact ⟨_, rfl, ht, .inr (.inl ⟨h1, h2, i', h3⟩)⟩
  · exact ⟨_, rfl, ht, .inr (.inr ⟨h1, h2, i', h3⟩)⟩
/-- What the next symbol gives. -/
def SymR (ls : List Nat) (p : Nat) (s : ByteArray) (i : Nat) (W : World) (e : Ending) (w' : World) : Prop := Turn p W w' ∧
  ((∃ x j, symP ls (srcB s) (8 * s.size) i = .ok (x, j) ∧ i < j ∧ j ≤ 8 * s.size ∧ x < ls.length ∧ e = .returned (.tuple #[.int .i64 (x : Nat), .int .i64 0]) ∧ RdAt 43 w' p s j false) ∨
   (∃ er, symP ls (srcB s) (8 * s.size) i = .error er ∧ er ≠ 0 ∧ e = .returned (.tuple #[.int .i64 0, .int .i64 er])))

set_option maxRecDepth 20000 in
set_option maxHeartbeats 8000000 in
theorem symbol11 (O p : Nat) (v : Value) (limit : Int) (ls : List Nat) (a : Option Addr) (c m : Nat) (s : ByteArray) (i : Nat) (W : World) (hb : Bx W O p v limit) (hm : (symTo ls 16).length = m) (harg : ArgN W a (symTo ls 16)) (hne : ∀ b off, a = some ⟨b, off, none⟩ → b ≠ p) (hls : ls.length ≤ 1000)
    (h : RdAt 43 W p s i false) (hi : i ≤ 8 * s.size) (hs : s.size ≤ 1000000) :
    Calls Tryz.prog 53 #[.pointer (some ⟨O, 0, none⟩), codeV (cn ls) (.slice a m c)] W fun e w' => SymR ls p s i W e w' := by
  have hpW : p < W.heap.size := by unfold RdAt at h; exact (Array.getElem?_eq_some_iff.1 h).1
  have HRD := hide (sym_x ls a c m p s i ((W.alloc (.cells (codeCs (cn ls) (.slice a m c)).toArray 80)).drewN 1) hm (harg.below (below_drewN ((Below.refl W.heap.size W).alloc (Nat.le_refl _) _) 1) (Nat.le_refl _)) hne hls (by unfold RdAt at h ⊢; exact (heap_alloc_old _ _ _ hpW).trans h) hi hs)
  have HT0 := hide (((Turn.refl p W).alloc (.cells (codeCs (cn ls) (.slice a m c)).toArray 80)).drewN 1)
  have HN17 := hide (codeCs_length (cn ls) (.slice a m c))
  have HBX := hide (heap_alloc_at W (.cells (codeCs (cn ls) (.slice a m c)).toArray 80) rfl)
  have HB := hide (hb.alloc (.cells (codeCs (cn ls) (.slice a m c)).toArray 80))
  unfold codeV at HRD ⊢
  generalize codeCs (cn ls) (.slice a m c) = cs at *
  have HSZ := hide (show (Tryz.prog.info? 80).map (·.size) = some cs.length by rw [HN17.out]; exact Tryz.sizeCode)
  have _c0 := HB.out.c0
  have HPL := hide (show W.heap.size ≠ p by omega)
  clear h harg hm hne hb
  go_enter Tryz.func53, Tryz.ntmps53
  go_wp2_with fail
  have hrg := code_range HBX.out
  have hi := HSZ.out
  have hu := Tryz.underlying80
  refine wp_region_noPanic ?_
  refine wp_region_held_drew (S := (fun w' => w'.rangeAt W.heap.size 0 cs ∧ w'.cell? ⟨O, 0, none⟩ = some (.pointer (some ⟨p, 0, none⟩)))) (by kernel_rfl) ?_ (fun hHeld => ?_)
  · exact ⟨(World.rangeAt_drew _ _ _ _).2 hrg, (HB.out.drewN 1).c0⟩
  refine wpAnyH_take (i := 0) (oi := _) (v := ?_) rfl (by kernel_rfl) (by kernel_rfl) (by kernel_rfl) (fun _ _ _ h => h) (Or.inl ⟨by rfl, ?_⟩) hHeld ?_
  rotate_left
  · (intro w hSw; (try dsimp only at hSw); go_simp; try with_reducible rfl)
  (try simp only [Act.put, List.getElem_toArray, List.getElem_cons_zero, List.setIfInBounds_toArray, List.set_cons_zero, List.set_cons_succ])
  refine wpAnyH_take (i := 1) (oi := _) (v := ?_) rfl (by kernel_rfl) (by kernel_rfl) (by kernel_rfl) (fun _ _ _ h => h) (Or.inl ⟨by rfl, ?_⟩) hHeld ?_
  rotate_left
  · (intro w hSw; (try dsimp only at hSw); go_simp; try with_reducible rfl)
  (try simp only [Act.put, List.getElem_toArray, List.getElem_cons_zero, List.getElem_cons_succ, List.setIfInBounds_toArray, List.set_cons_zero, List.set_cons_succ])
  refine wpAnyH_take (i := 2) (oi := _) (v := ?_) rfl (by kernel_rfl) (by kernel_rfl) (by kernel_rfl) (fun _ _ _ h => h) (Or.inl ⟨by rfl, ?_⟩) hHeld ?_
  rotate_left
  · (intro w hSw; (try dsimp only at hSw); go_simp; try with_reducible rfl)
  (try simp only [Act.put, List.getElem_toArray, List.getElem_cons_zero, List.getElem_cons_succ, List.setIfInBounds_toArray, List.set_cons_zero, List.set_cons_succ])
  refine wpAnyH_take (i := 3) (oi := _) (v := ?_) rfl (by kernel_rfl) (by kernel_rfl) (by kernel_rfl) (fun _ _ _ h => h) (Or.inl ⟨by rfl, ?_⟩) hHeld ?_
  rotate_left
  · (intro w hSw; (try dsimp only at hSw); go_simp; try with_reducible rfl)
  (try simp only [Act.put, List.getElem_toArray, List.getElem_cons_zero, List.getElem_cons_succ, List.setIfInBounds_toArray, List.set_cons_zero, List.set_cons_succ])
  refine wpAnyH_take (i := 4) (oi := _) (v := _) rfl (by kernel_rfl) (by kernel_rfl) (by kernel_rfl) (fun _ _ _ h => h) (yieldsIf_load_mid (by rfl) _ _ rfl _ _ rfl cs _ (fun _ h => h.1) hu rfl hi) hHeld ?_
  (try simp only [Act.put, List.getElem_toArray, List.getElem_cons_zero, List.getElem_cons_succ, List.setIfInBounds_toArray, List.set_cons_zero, List.set_cons_succ])
  refine wpAnyH_ready (rs := [5]) (by kernel_rfl) (by simp) ?_
  refine AllReadyH.cons rfl (fun K hK => ?_) AllReadyH.nil
  go_simp
  refine HRD.out.mono ?_
  rintro e x1 ⟨y, rfl, ht, HX⟩
  have HB1 := hide ((HB.out.drewN 1).turn ht)
  have HT := hide (HT0.out.trans ht)
  have r : x1.rangeAt W.heap.size 0 cs ∧ x1.cell? ⟨O, 0, none⟩ = some (.pointer (some ⟨p, 0, none⟩)) := ⟨code_range ((ht.block _ (by show W.heap.size < (W.heap.push _).size; simp) HPL.out).trans HBX.out), HB1.out.c0⟩
  clear ht
  go_wp2_with fail
  refine hK.out _ _ ?_ (fun hNext => ?_)
  · exact r
  clear hK K hHeld
  have hHeld := hNext
  clear hNext
  (try simp only [Act.put, List.getElem_toArray, List.getElem_cons_zero, List.getElem_cons_succ, List.setIfInBounds_toArray, List.set_cons_zero, List.set_cons_succ])
  clear r
  refine wpAnyH_take (i := 6) (oi := _) (v := ?_) rfl (by kernel_rfl) (by kernel_rfl) (by kernel_rfl) (fun _ _ _ h => h) (Or.inl ⟨by rfl, ?_⟩) hHeld ?_
  rotate_left
  · (intro w hSw; (try dsimp only at hSw); go_simp; try with_reducible rfl)
  (try simp only [Act.put, List.getElem_toArray, List.getElem_cons_zero, List.getElem_cons_succ, List.setIfInBounds_toArray, List.set_cons_zero, List.set_cons_succ])
  refine wpAnyH_done (by kernel_rfl) ?_ _
  refine NoPanic.normal ?_
  clear hHeld hrg hi hu _c0
  have _d0 := HB1.out.c0
  rcases HX.out with ⟨x, j, h1, h2, h3, h4, rfl, h5⟩ | ⟨h1, h2, i', h5⟩ | ⟨h1, h2, i', h5⟩
  · have zx : decide ((x : Int) < 0) = false := decide_eq_false (by omega)
    have HG := hide (show SymR ls p s i W (.returned (.tuple #[.int .i64 (x : Nat), .int .i64 0])) x1 from ⟨HT.out, .inl ⟨x, j, h1, h2, h3, h4, rfl, h5⟩⟩)
    clear HX h1 h5 h2 h3 h4
    go_wp2
    go_ret2
    exact HG.out
  · have zx : ¬ (0 : Int) ≤ y := by omega
    have _r2 := h5.c2
    have HG := hide (show SymR ls p s i W (.returned (.tuple #[.int .i64 0, .int .i64 2])) x1 from ⟨HT.out, .inr ⟨2, h1, by decide, rfl⟩⟩)
    clear HX h1 h5
    go_wp2
    go_ret2
    exact HG.out
  · have zx : ¬ (0 : Int) ≤ y := by omega
    have _r2 := h5.c2
    have HG := hide (show SymR ls p s i W (.returned (.tuple #[.int .i64 0, .int .i64 4])) x1 from ⟨HT.out, .inr ⟨4, h1, by decide, rfl⟩⟩)
    clear HX h1 h5
    go_wp2
    go_ret2
    exact HG.out

end Go.Proofs.YtaalbaiglkadlaaGreat
