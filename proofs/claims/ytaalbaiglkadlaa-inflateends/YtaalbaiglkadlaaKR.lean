import Derived.Test.YtaalbaiglkadlaaKA
import Derived.Deep.WholeRow
import Derived.Deep.MidRow
import Derived.Laws.ResultCell
import Derived.Test.YtaalbaiglkadlaaRfA
import Derived.DeepKeys
import Derived.WideShapes
/- Codes as values, and the contract of the document's 'Build' of layer 5. -/
namespace Go.Proofs.Ytaalbaiglkadlaa
open Go.RowKit Go.Lib

/-- A code's cells: how many have each length, and the symbols. -/
def codeCs (f : Nat → Nat) (v : Value) : List Value := [.int .i64 (f 0 : Nat), .int .i64 (f 1 : Nat), .int .i64 (f 2 : Nat), .int .i64 (f 3 : Nat), .int .i64 (f 4 : Nat), .int .i64 (f 5 : Nat), .int .i64 (f 6 : Nat), .int .i64 (f 7 : Nat), .int .i64 (f 8 : Nat), .int .i64 (f 9 : Nat), .int .i64 (f 10 : Nat), .int .i64 (f 11 : Nat), .int .i64 (f 12 : Nat), .int .i64 (f 13 : Nat), .int .i64 (f 14 : Nat), .int .i64 (f 15 : Nat), v]
def codeV (f : Nat → Nat) (v : Value) : Value := .agg (codeCs f v).toArray

theorem codeCs_get (f : Nat → Nat) (v : Value) (i : Nat) (h : i < 16) : (codeCs f v)[i]? = some (.int .i64 (f i : Nat)) :=
  match i, h with
  | 0, _ => rfl
  | 1, _ => rfl
  | 2, _ => rfl
  | 3, _ => rfl
  | 4, _ => rfl
  | 5, _ => rfl
  | 6, _ => rfl
  | 7, _ => rfl
  | 8, _ => rfl
  | 9, _ => rfl
  | 10, _ => rfl
  | 11, _ => rfl
  | 12, _ => rfl
  | 13, _ => rfl
  | 14, _ => rfl
  | 15, _ => rfl
  | n + 16, h => absurd h (by omega)
theorem codeCs_last (f : Nat → Nat) (v : Value) : (codeCs f v)[16]? = some v := rfl
theorem codeCs_set (f : Nat → Nat) (v : Value) (i x : Nat) (h : i < 16) : (codeCs f v).set i (.int .i64 (x : Nat)) = codeCs (fun j => if j = i then x else f j) v :=
  match i, h with
  | 0, _ => rfl
  | 1, _ => rfl
  | 2, _ => rfl
  | 3, _ => rfl
  | 4, _ => rfl
  | 5, _ => rfl
  | 6, _ => rfl
  | 7, _ => rfl
  | 8, _ => rfl
  | 9, _ => rfl
  | 10, _ => rfl
  | 11, _ => rfl
  | 12, _ => rfl
  | 13, _ => rfl
  | 14, _ => rfl
  | 15, _ => rfl
  | n + 16, h => absurd h (by omega)
theorem codeCs_setLast (f : Nat → Nat) (v u : Value) : (codeCs f v).set 16 u = codeCs f u := rfl
theorem codeCs_congr (f g : Nat → Nat) (v : Value) (h : ∀ i, i < 16 → f i = g i) : codeCs f v = codeCs g v := by
  unfold codeCs
  rw [h 0 (by omega), h 1 (by omega), h 2 (by omega), h 3 (by omega), h 4 (by omega), h 5 (by omega), h 6 (by omega), h 7 (by omega), h 8 (by omega), h 9 (by omega), h 10 (by omega), h 11 (by omega), h 12 (by omega), h 13 (by omega), h 14 (by omega), h 15 (by omega)]

theorem heap_alloc_at (w : World) (o : Obj) {N : Nat} (h : w.heap.size = N) : (w.alloc o).heap[N]? = some o := by
  subst h
  show (w.heap.push o)[w.heap.size]? = _
  simp
theorem codeCs_length (f : Nat → Nat) (v : Value) : (codeCs f v).length = 17 := rfl
theorem codeCs_one (f : Nat → Nat) (v : Value) (hv : v.oneCell' = true) : ∀ u ∈ codeCs f v, u.oneCell' = true := by
  intro u hu
  unfold codeCs at hu
  simp only [List.mem_cons, List.not_mem_nil, or_false] at hu
  rcases hu with rfl | rfl | rfl | rfl | rfl | rfl | rfl | rfl | rfl | rfl | rfl | rfl | rfl | rfl | rfl | rfl | rfl <;> first | rfl | exact hv
theorem Try.sizeCode : (Try.prog.info? 66).map (·.size) = some 17 := by kernel_rfl
theorem Try.zeroCode (w : World) : (zeroValue 66).run Try.prog w = .ok (.agg (codeCs (fun _ => 0) (.slice none 0 0)).toArray) w := by
  have h : (Try.prog.info? 66).map (·.zero) = some (some (.agg (codeCs (fun _ => 0) (.slice none 0 0)).toArray)) := by kernel_rfl
  cases hq : Try.prog.info? 66 with
  | none => rw [hq] at h; cases h
  | some i =>
    rw [hq] at h
    have hz : i.zero = some (.agg (codeCs (fun _ => 0) (.slice none 0 0)).toArray) := by simpa using h
    simp [zeroValue, typeInfo, hq, hz]
/-- A code, laid into a variable of its own. -/
theorem code_store (w : World) (Z cs : List Value) (hz : Z.length = 17) (hn : cs.length = 17) (h1 : ∀ v ∈ cs, v.oneCell' = true) :
    (storeCells ⟨w.heap.size, 0, none⟩ cs).run Try.prog (w.alloc (.cells Z.toArray 66)) = .ok () (w.alloc (.cells cs.toArray 66)) := by
  have h := run_storeCells_new (P := Try.prog) w 66 Z.toArray cs.toArray (by rw [List.size_toArray, hn]; exact Try.sizeCode) (by rw [List.size_toArray, List.size_toArray, hn, hz]) (all_oneCell_toArray h1)
  exact h
theorem code_range {w : World} {P : Nat} {cs : List Value} (h : w.heap[P]? = some (.cells cs.toArray 66 (0, 0))) : w.rangeAt P 0 cs := by
  intro j v hv
  rw [Nat.zero_add, cell_of_row _ _ j _ _ (0, 0) h, List.getElem?_toArray]
  exact hv
theorem code_load {w : World} {P : Nat} {cs : List Value} (h : w.rangeAt P 0 cs) (hn : cs.length = 17) : (loadVar 66 ⟨P, 0, none⟩).run Try.prog w = .ok (.agg cs.toArray) w :=
  run_loadVar_mid w P 0 66 cs _ h Try.underlying66 rfl (by rw [hn]; exact Try.sizeCode)
theorem there_cells {w : World} {P : Nat} {cs : List Value} (h : w.heap[P]? = some (.cells cs.toArray 66 (0, 0))) : w.there P 0 cs.length := by
  intro j hj
  constructor
  · rw [Nat.zero_add, cell_of_row _ _ j _ _ (0, 0) h, List.getElem?_toArray, List.getElem?_eq_getElem hj]
    rfl
  · simp [World.frozen?, h]
theorem cells_store {P : Program} {w : World} {p : Nat} {cs : List Value} (ht : w.there p 0 cs.length) (h1 : ∀ v ∈ cs, v.oneCell' = true) :
    (storeCells ⟨p, 0, none⟩ cs).run P w = .ok () (w.setCells p 0 cs) := by
  have h := run_storeCells_cells (P := P) p 0 cs 0 w (fun j hj => by simpa using (ht j hj).1) (fun j hj => by simpa using (ht j hj).2) h1
  simpa using h
theorem below_cells {B : Nat} {a w : World} (h : Below B a w) (p o : Nat) (hp : B ≤ p) (cs : List Value) : Below B a (w.setCells p o cs) := by
  induction cs generalizing o w with
  | nil => exact h
  | cons v r ih => exact ih (h.setCell (p := ⟨p, o, none⟩) hp v) (o + 1)
theorem own_cells {w : World} {B : Nat} {e : TypeId} {size n : Nat} {v : Value} {xs : List Value} (h : w.ownsRow B e size v n xs) (p o : Nat) (hp : v.ownBlock ≠ some p) (cs : List Value) : (w.setCells p o cs).ownsRow B e size v n xs := by
  induction cs generalizing o w with
  | nil => exact h
  | cons c r ih => exact ih (ownsRow_setCell_other h hp _) (o + 1)
theorem own_oneCell {w : World} {B : Nat} {e : TypeId} {size n : Nat} {v : Value} {xs : List Value} (h : w.ownsRow B e size v n xs) : v.oneCell' = true := by
  rcases len_form h with ⟨e1, _⟩ | ⟨g, c, e1⟩ <;> rw [e1] <;> rfl

/-- A code in a block of its own. -/
structure CodeAt (w : World) (B P : Nat) (f : Nat → Nat) (v : Value) (S : List Nat) : Prop where
  box : w.heap[P]? = some (.cells (codeCs f v).toArray 66 (0, 0))
  own : w.ownsRow B 3 1 v S.length (natCs S)
  ne : v.ownBlock ≠ some P

theorem CodeAt.cell {w : World} {B P : Nat} {f : Nat → Nat} {v : Value} {S : List Nat} (h : CodeAt w B P f v S) (i : Nat) (hi : i < 16) : w.cell? ⟨P, i, none⟩ = some (.int .i64 (f i : Nat)) := by
  rw [cell_of_row _ _ i _ _ (0, 0) h.box, List.getElem?_toArray]
  exact codeCs_get f v i hi
theorem CodeAt.last {w : World} {B P : Nat} {f : Nat → Nat} {v : Value} {S : List Nat} (h : CodeAt w B P f v S) : w.cell? ⟨P, 16, none⟩ = some v := by
  rw [cell_of_row _ _ 16 _ _ (0, 0) h.box]
  rfl
theorem CodeAt.frozen {w : World} {B P : Nat} {f : Nat → Nat} {v : Value} {S : List Nat} (h : CodeAt w B P f v S) (i : Nat) : w.frozen? ⟨P, i, none⟩ = false := by simp [World.frozen?, h.box]
theorem CodeAt.set {w : World} {B P : Nat} {f : Nat → Nat} {v : Value} {S : List Nat} (h : CodeAt w B P f v S) (i x : Nat) (hi : i < 16) : CodeAt (w.setCell ⟨P, i, none⟩ (.int .i64 (x : Nat))) B P (fun j => if j = i then x else f j) v S :=
  ⟨by rw [heap_setCell_same _ _ _ _ _ _ _ h.box, List.setIfInBounds_toArray, codeCs_set f v i x hi], ownsRow_setCell_other h.own h.ne _, h.ne⟩
theorem CodeAt.alloc {w : World} {B P : Nat} {f : Nat → Nat} {v : Value} {S : List Nat} (h : CodeAt w B P f v S) (o : Obj) : CodeAt (w.alloc o) B P f v S :=
  ⟨by rw [heap_alloc_old _ _ _ (Array.getElem?_eq_some_iff.1 h.box).1]; exact h.box, h.own.alloc o, h.ne⟩
theorem CodeAt.app {w w' : World} {B P : Nat} {f : Nat → Nat} {v v' : Value} {S : List Nat} (h : CodeAt w B P f v S) (x : Nat)
    (ho : w'.ownsRow B 3 1 v' (S.length + 1) (natCs S ++ [.int .i64 (x : Int)])) (hg : w.grownBy w' v.ownBlock) (hf : v'.ownBlock = v.ownBlock ∨ ∀ k, v'.ownBlock = some k → w.heap.size ≤ k) :
    w'.cell? ⟨P, 16, none⟩ = some v ∧ w'.frozen? ⟨P, 16, none⟩ = false ∧ CodeAt (w'.setCell ⟨P, 16, none⟩ v') B P f v' (S ++ [x]) := by
  have hP := (Array.getElem?_eq_some_iff.1 h.box).1
  have hb : w'.heap[P]? = some (.cells (codeCs f v).toArray 66 (0, 0)) := by rw [hg.block P hP (fun e => h.ne e.symm)]; exact h.box
  have hne : v'.ownBlock ≠ some P := by
    intro e
    rcases hf with e2 | e2
    · exact h.ne (by rw [← e2]; exact e)
    · have := e2 P e; omega
  refine ⟨?_, by simp [World.frozen?, hb], ⟨?_, ?_, hne⟩⟩
  · rw [cell_of_row _ _ 16 _ _ (0, 0) hb]; rfl
  · rw [heap_setCell_same _ _ _ _ _ _ _ hb, List.setIfInBounds_toArray, codeCs_setLast]
  · rw [List.length_append, ← natCs_append]
    exact ownsRow_setCell_other ho hne _

/-- The counts under way. -/
def fIn (ls : List Nat) (k j i : Nat) : Nat := if i < k then cn ls i else if i = k then rkK ls k j else 0
theorem fIn_begin (ls : List Nat) (i : Nat) : fIn ls 1 0 i = 0 := by
  unfold fIn
  by_cases h : i < 1
  · rw [if_pos h, show i = 0 by omega]; rfl
  · rw [if_neg h]
    split
    · simp [rkK]
    · rfl
theorem fIn_next (ls : List Nat) (k : Nat) (hk : k ≠ 0) : fIn ls k ls.length = fIn ls (k + 1) 0 := by
  funext i
  unfold fIn
  by_cases h : i < k
  · rw [if_pos h, if_pos (by omega)]
  · rw [if_neg h]
    by_cases h2 : i = k
    · rw [if_pos h2, if_pos (by omega), rk_all ls k hk, h2]
    · rw [if_neg h2, if_neg (by omega)]
      split
      · simp [rkK]
      · rfl
theorem fIn_step (ls : List Nat) (k j : Nat) (hj : j < ls.length) (h : ls.getD j 0 = k) : (fun i => if i = k then fIn ls k j k + 1 else fIn ls k j i) = fIn ls k (j + 1) := by
  funext i
  unfold fIn
  by_cases e : i = k
  · rw [if_pos e, e, if_neg (by omega), if_pos rfl, if_neg (by omega), if_pos rfl, rk_succ ls k j hj, if_pos h]
  · rw [if_neg e]
    by_cases h2 : i < k
    · rw [if_pos h2, if_pos h2]
    · rw [if_neg h2, if_neg e, if_neg h2, if_neg e]
theorem fIn_skip (ls : List Nat) (k j : Nat) (hj : j < ls.length) (h : ls.getD j 0 ≠ k) : fIn ls k (j + 1) = fIn ls k j := by
  funext i
  unfold fIn
  by_cases h2 : i < k
  · rw [if_pos h2, if_pos h2]
  · rw [if_neg h2, if_neg h2, rk_succ ls k j hj, if_neg h]; rfl

/-- The answer of Build: the error, or the code. -/
def BuildRes (W : World) (l : List Int) (r : Value) (w' : World) : Prop :=
  (goodB l = false ∧ r = .tuple #[codeV (fun _ => 0) (.slice none 0 0), .int .i64 4]) ∨
  (goodB l = true ∧ ∃ v, r = .tuple #[codeV (cn (l.map Int.toNat)) v, .int .i64 0] ∧ w'.ownsRow W.heap.size 3 1 v (symTo (l.map Int.toNat) 16).length (natCs (symTo (l.map Int.toNat) 16)))

theorem sym_len (ls : List Nat) (k j : Nat) (hk : k ≠ 0) (hj : j ≤ ls.length) : (symTo ls k ++ symK ls k j).length ≤ atC ls k + cn ls k := by
  rw [List.length_append, symTo_length, symK_length ls k j hj]
  have := rk_le_cn ls k j hk hj
  omega
theorem cn_sum (ls : List Nat) (k : Nat) : atC ls k ≤ ls.length := by
  have key : ∀ k, atC ls k = ls.countP (fun x => x != 0 && decide (x < k)) := by
    intro k
    induction k with
    | zero =>
      show 0 = _
      symm
      rw [List.countP_eq_zero]
      intro x _
      simp
    | succ k ih => rw [count_step, ← ih]; rfl
  rw [key]
  exact List.countP_le_length

theorem cell_set_new (w : World) (a : Addr) (u x : Value) (t : TypeId) : ∀ j v, [x][j]? = some v → ((w.setCell a u).alloc (.cells #[x] t)).cell? ((⟨w.heap.size, 0, none⟩ : Addr).add j) = some v := by
  have h := cell_one_new (w.setCell a u) x t
  rw [size_setCell] at h
  exact h

/-- The code under way; the answer's block is as it was made. -/
structure BuildL (w W : World) (P : Nat) (Z : List Value) (f : Nat → Nat) (v : Value) (S : List Nat) : Prop where
  code : CodeAt w W.heap.size P f v S
  bel : Below W.heap.size W w
  res : w.heap[W.heap.size]? = some (.cells Z.toArray 66 (0, 0))
  ne : v.ownBlock ≠ some W.heap.size
  lt : W.heap.size < P

theorem BuildL.mid {w W : World} {P : Nat} {Z : List Value} {f : Nat → Nat} {v : Value} {S : List Nat} (h : BuildL w W P Z f v S) (i x : Nat) (hi : i < 16) (o : Obj) : BuildL ((w.setCell ⟨P, i, none⟩ (.int .i64 (x : Nat))).alloc o) W P Z (fun j => if j = i then x else f j) v S := by
  have hlt := h.lt
  have h1 := (h.code.set i x hi).alloc o
  have hs : W.heap.size < w.heap.size := (Array.getElem?_eq_some_iff.1 h.res).1
  refine ⟨h1, (h.bel.setCell (p := ⟨P, i, none⟩) (Nat.le_of_lt hlt) _).alloc (by rw [size_setCell]; omega) o, ?_, h.ne, hlt⟩
  rw [heap_alloc_old _ _ _ (by rw [size_setCell]; exact hs), Below.heap_setCell _ _ _ _ (show W.heap.size ≠ P by omega)]
  exact h.res
theorem BuildL.app {w w' W : World} {P : Nat} {Z : List Value} {f : Nat → Nat} {v v' : Value} {S : List Nat} (h : BuildL w W P Z f v S) (x : Nat)
    (ho : w'.ownsRow W.heap.size 3 1 v' (S.length + 1) (natCs S ++ [.int .i64 (x : Int)])) (hg : w.grownBy w' v.ownBlock) (hf : v'.ownBlock = v.ownBlock ∨ ∀ k, v'.ownBlock = some k → w.heap.size ≤ k) :
    w'.cell? ⟨P, 16, none⟩ = some v ∧ w'.frozen? ⟨P, 16, none⟩ = false ∧ BuildL (w'.setCell ⟨P, 16, none⟩ v') W P Z f v' (S ++ [x]) := by
  obtain ⟨h1, h2, h3⟩ := h.code.app x ho hg hf
  have hlt := h.lt
  have hs : W.heap.size < w.heap.size := (Array.getElem?_eq_some_iff.1 h.res).1
  refine ⟨h1, h2, h3, (Below.grownB h.bel hg h.code.own (Nat.le_of_lt hs)).setCell (p := ⟨P, 16, none⟩) (Nat.le_of_lt hlt) _, ?_, ?_, hlt⟩
  · rw [Below.heap_setCell _ _ _ _ (show W.heap.size ≠ P by omega), hg.block _ hs (fun e => h.ne e.symm)]
    exact h.res
  · intro e
    rcases hf with e2 | e2
    · exact h.ne (by rw [← e2]; exact e)
    · have := e2 _ e; omega

set_option maxRecDepth 20000 in
set_option maxHeartbeats 4000000 in
theorem qbuild_any (l : List Int) (a : Option Addr) (cap : Nat) (W : World) (harg : ArgZ W a l) (hl : l.length ≤ 1000) :
    Calls Try.prog 23 #[.slice a l.length cap] W fun e w' => ∃ r, e = .returned r ∧ BuildRes W l r w' ∧ Below W.heap.size W w' := by
  have HCK := hide (fun o => qcheck_any l a cap (W.alloc o) (harg.below ((Below.refl _ W).alloc (Nat.le_refl _) o)) hl)
  have hv := Try.zeroCode
  have hZ1 := codeCs_one (fun _ => 0) (.slice none 0 0) rfl
  have hZn := codeCs_length (fun _ => 0) (.slice none 0 0)
  obtain ⟨Z, hZ⟩ : ∃ Z, codeCs (fun _ => 0) (.slice none 0 0) = Z := ⟨_, rfl⟩
  have HZ := hide hZ
  rw [hZ] at hZ1 hZn
  simp only [hZ] at hv
  clear hZ
  by_cases hg : goodB l = true
  · rw [chkI_good hg] at HCK
    have HG := hide hg
    obtain ⟨hE, hM⟩ := (goodB_iff l).1 hg
    have HARG := hide (harg.nat15 hE)
    obtain ⟨ls, hls⟩ : ∃ ls, l.map Int.toNat = ls := ⟨_, rfl⟩
    rw [hls] at HARG hM
    have HLS := hide hls
    have HLL := hide (show ls.length = l.length by rw [← hls, List.length_map])
    have HM := hide hM
    obtain ⟨n, hn⟩ : ∃ n, l.length = n := ⟨_, rfl⟩
    have HN := hide hn
    rw [hn] at HLL HCK hl ⊢
    obtain ⟨P, hP⟩ : ∃ P, W.heap.size + 1 = P := ⟨_, rfl⟩
    have hsz : (W.alloc (.cells Z.toArray 66)).heap.size = W.heap.size + 1 := by show (W.heap.push _).size = _; simp
    have HC0 := hide (show CodeAt ((W.alloc (.cells Z.toArray 66)).alloc (.cells Z.toArray 66)) W.heap.size P (fIn ls 1 0) (.slice none 0 0) (symTo ls 1 ++ symK ls 1 0) by
      refine ⟨?_, World.ownsRow_nil _ _ _ _, fun e => by cases e⟩
      rw [codeCs_congr (fIn ls 1 0) (fun _ => 0) _ (fun i _ => fIn_begin ls i), HZ.out, ← hP]
      exact heap_alloc_at _ _ hsz)
    have B0 := hide (show Below W.heap.size W ((W.alloc (.cells Z.toArray 66)).alloc (.cells Z.toArray 66)) from ((Below.refl _ W).alloc (Nat.le_refl _) _).alloc (by omega) _)
    have HR0 := hide (show ((W.alloc (.cells Z.toArray 66)).alloc (.cells Z.toArray 66)).heap[W.heap.size]? = some (.cells Z.toArray 66 (0, 0)) by
      rw [heap_alloc_old _ _ _ (by omega)]
      show (W.heap.push _)[W.heap.size]? = _
      simp)
    have HPW := hide (show W.heap.size < P by omega)
    obtain ⟨i0, hi, hz0, hz1, hz2⟩ := info_parts Try.infoInt
    clear hg hE hM hls harg hn hsz
    go_enter Try.func23, Try.ntmps23
    go_wp2_with fail
    refine (HCK.out _).mono ?_
    rintro e w0 ⟨rfl, rfl⟩
    go_wp2
    have HL0 := hide (show BuildL _ W P Z (fIn ls 1 0) (.slice none 0 0) (symTo ls 1 ++ symK ls 1 0) from ⟨HC0.out, B0.out, HR0.out, (fun e => by cases e), HPW.out⟩)
    clear hP
    generalize hw1 : (W.alloc (.cells Z.toArray 66)).alloc (.cells Z.toArray 66) = w1 at *
    clear hw1 HC0 B0 HR0
    go_loopw [5, 6] (fun lv _ wr => ∃ k : Nat, k ≤ 15 ∧ lv = .int .i64 ((k : Int) + 1) ∧ ∃ v, Hid (BuildL wr W P Z (fIn ls (k + 1) 0) v (symTo ls (k + 1) ++ symK ls (k + 1) 0))) (fun lv _ _ => 16 - (intOf lv).toNat)
    case atStart => exact ⟨0, by omega, rfl, _, HL0⟩
    case round =>
      clear HL0
      obtain ⟨k, hk, rfl, v0, HL⟩ := hrel
      by_cases hlt : k < 15
      · have zk : (k : Int) + 1 ≤ 15 := by omega
        go_wp2
        rename World => wo
        go_loopw [6] (fun iv wr => ∃ j : Nat, j ≤ n ∧ iv = .int .i64 j ∧ ∃ v, Hid (BuildL wr W P Z (fIn ls (k + 1) j) v (symTo ls (k + 1) ++ symK ls (k + 1) j))) (fun iv _ => n - (intOf iv).toNat)
        case atStart => exact ⟨0, Nat.zero_le _, rfl, v0, HL⟩
        case round =>
          clear HL
          obtain ⟨j, hj, rfl, v, HL⟩ := hrel
          by_cases hjn : j < n
          · have hjl : j < ls.length := by rw [HLL.out]; exact hjn
            obtain ⟨b, off, rfl, hb, hc⟩ := HARG.out j _ (getD_some ls j hjl)
            have _c := (HL.out.bel.cell (p := ⟨b, off + j, none⟩) hb).trans hc
            have zj : (j : Int) < n := by omega
            by_cases hx : ls.getD j 0 = k + 1
            · have hlen := sym_len ls (k + 1) j (by omega) (by omega)
              have hsum := cn_sum ls (k + 1 + 1)
              have hsum2 : atC ls (k + 1) + cn ls (k + 1) ≤ n := by rw [← HLL.out]; exact hsum
              have X1 := hide (show (symTo ls (k + 1) ++ symK ls (k + 1) j).length + 1 ≤ maxLen by unfold maxLen; omega)
              have X2 := hide (show ((symTo ls (k + 1) ++ symK ls (k + 1) j).length + 1) * 8 ≤ 140737488355328 by omega)
              have hf9 : fIn ls (k + 1) j (k + 1) ≤ 1000 := by
                unfold fIn
                rw [if_neg (by omega), if_pos rfl]
                have := rk_le_cn ls (k + 1) j (by omega) (by omega)
                omega
              have HMD := hide (fun o => HL.out.mid (k + 1) (fIn ls (k + 1) j (k + 1) + 1) (by omega) o)
              rw [fIn_step ls (k + 1) j hjl hx] at HMD
              have HSY := hide (symK_succ ls (k + 1) j)
              rw [if_pos hx] at HSY
              have _c2 := HL.out.code.cell (k + 1) (by omega)
              have _c3 := HL.out.code.last
              have _f2 := HL.out.code.frozen (k + 1)
              rw [hx] at _c
              have ec : ((k + 1 : Nat) : Int) = (k : Int) + 1 := by omega
              rw [ec] at _c
              have hne16 : k + 1 ≠ 16 := by omega
              have hk1 : (0 : Int) ≤ (k : Int) + 1 := by omega
              have hk16 : (k : Int) + 1 < 16 := by omega
              clear hc hx hlen hsum hsum2
              generalize fIn ls (k + 1) j (k + 1) = y at *
              rw [show ((y + 1 : Nat) : Int) = (y : Int) + 1 from by omega] at HMD
              go_wp2_with (first
                | (at_builtin; refine wpList_append_fresh _ rfl _ _ 59 rfl W.heap.size 3 i0 (.int .i64 0) 1 8 Try.underlying59 hi hz0 hz1 hz2 rfl (by decide) v _ _ rfl (HMD.out _).code.own ⟨wr.heap.size, 0, none⟩ 1 1 [.int .i64 (j : Int)] rfl rfl (cell_set_new _ _ _ _ _) (one_int _) X1.out X2.out (Nat.le_of_lt (Array.getElem?_eq_some_iff.1 (HMD.out _).res).1) ?_; intro v1 w1 o1 g1 f1; obtain ⟨gg, cc, rfl⟩ := own_slice o1 (Nat.succ_pos _); obtain ⟨_c4, _f4, h4⟩ := (HMD.out _).app j o1 g1 f1; have HL4 := hide h4; clear o1 g1 f1 h4; generalize (symTo ls (k + 1) ++ symK ls (k + 1) j).length + 1 = q1 at *))
              go_roundw
              case rel => exact ⟨j + 1, hjn, by go_num, _, by rw [HSY.out, ← List.append_assoc]; exact HL4⟩
              case measure => exact meas_oneW j n hjn
            · have HSK := hide (fIn_skip ls (k + 1) j hjl hx)
              have HSY := hide (symK_succ ls (k + 1) j)
              rw [if_neg hx, List.append_nil] at HSY
              have bx : (((ls.getD j 0 : Nat) : Int) == (k : Int) + 1) = false := by simp; rw [List.getD_eq_getElem?_getD] at hx; omega
              generalize ls.getD j 0 = x at *
              clear hc hx
              go_wp2
              go_roundw
              case rel => exact ⟨j + 1, hjn, by go_num, v, by rw [HSK.out, HSY.out]; exact HL⟩
              case measure => exact meas_oneW j n hjn
          · have hje : j = n := by omega
            subst hje
            have HNX := hide (fIn_next ls (k + 1) (by omega))
            rw [HLL.out] at HNX
            have HSX := hide (show symTo ls (k + 1) ++ symK ls (k + 1) j = symTo ls (k + 1 + 1) ++ symK ls (k + 1 + 1) 0 by
              show _ = (symTo ls (k + 1) ++ (if k + 1 = 0 then [] else symK ls (k + 1) ls.length)) ++ _
              rw [if_neg (by omega), HLL.out]
              simp [symK])
            rw [HNX.out, HSX.out] at HL
            go_wp2
            go_roundw
            case rel => exact ⟨k + 1, by omega, by go_num, v, HL⟩
            case measure => exact meas_oneW (k + 1) 16 (by omega)
      · have hke : k = 15 := by omega
        subst hke
        have hcs : codeCs (fIn ls 16 0) v0 = codeCs (cn ls) v0 := codeCs_congr _ _ _ (fun i hi => by unfold fIn; rw [if_pos hi])
        have hbox := HL.out.code.box
        rw [show 15 + 1 = 16 from rfl, hcs] at hbox
        have hown := HL.out.code.own
        rw [show 15 + 1 = 16 from rfl, show symK ls 16 0 = [] from rfl, List.append_nil] at hown
        have HO := hide hown
        have hone := codeCs_one (cn ls) v0 (own_oneCell hown)
        have hlen := codeCs_length (cn ls) v0
        have HRG := hide (code_range hbox)
        have hth := there_cells HL.out.res
        rw [hZn] at hth
        have hst := cells_store (P := Try.prog) (w := wr) (p := W.heap.size) (cs := codeCs (cn ls) v0) (by rw [hlen]; exact hth) hone
        have HLD := hide (code_load (World.rangeAt_setCells_same wr W.heap.size 0 (codeCs (cn ls) v0) (by rw [hlen]; exact hth)) hlen)
        have HBF := hide (below_cells HL.out.bel W.heap.size 0 (Nat.le_refl _) (codeCs (cn ls) v0))
        have HOF := hide (own_cells hown W.heap.size 0 HL.out.ne (codeCs (cn ls) v0))
        have HCV := hide (show codeV (cn ls) v0 = .agg (codeCs (cn ls) v0).toArray from rfl)
        have HLN := hide hlen
        clear hcs hbox hown hth hone hlen
        generalize codeCs (cn ls) v0 = cs at *
        have HSZ := hide (show (Try.prog.info? 66).map (·.size) = some cs.length by rw [HLN.out]; exact Try.sizeCode)
        go_wp2_with (first
          | (refine wpList_load_mid rfl 66 (Operand.tmp 4) rfl P 0 rfl cs _ HRG.out Try.underlying66 rfl HSZ.out ?_))
        (try simp only [Exit.inBlock, Exit.then])
        refine bodyPost_ret (v := .tuple #[.agg cs.toArray, .int .i64 0]) ?_ rfl ⟨_, rfl, .inr ⟨HG.out, v0, by rw [HLS.out, HCV.out], by rw [HLS.out]; exact HOF.out⟩, HBF.out⟩
        simp [results, Try.results23, asAddr, HLD.out]
  · rw [chkI_bad hg] at HCK
    have HG := hide (show goodB l = false by cases h : goodB l with | false => rfl | true => exact absurd h hg)
    have hst := code_store W Z Z hZn hZn hZ1
    have HLD := hide (code_load (code_range (w := W.alloc (.cells Z.toArray 66)) (P := W.heap.size) (by show (W.heap.push _)[W.heap.size]? = _; simp)) hZn)
    clear hg harg
    go_enter Try.func23, Try.ntmps23
    go_wp2_with fail
    refine (HCK.out _).mono ?_
    rintro e w0 ⟨rfl, rfl⟩
    go_wp2
    (try simp only [Exit.inBlock, Exit.then])
    refine bodyPost_ret (v := .tuple #[.agg Z.toArray, .int .i64 4]) ?_ rfl ⟨_, rfl, .inl ⟨HG.out, by unfold codeV; rw [HZ.out]⟩, (Below.refl _ W).alloc (Nat.le_refl _) _⟩
    simp [results, Try.results23, asAddr, HLD.out]

end Go.Proofs.Ytaalbaiglkadlaa

/- Contract of the document's 'Read' of layer 5: the symbol that the next bits are. -/
namespace Go.Proofs.Ytaalbaiglkadlaa
open Go.RowKit Go.Lib

/-- Of what was there, block p alone may have turned. -/
structure Turn (p : Nat) (w w' : World) : Prop where
  os : w'.os = w.os
  tape : w'.tape = w.tape
  output : w'.output = w.output
  size : w.heap.size ≤ w'.heap.size
  block : ∀ k, k < w.heap.size → k ≠ p → w'.heap[k]? = w.heap[k]?

theorem Turn.refl (p : Nat) (w : World) : Turn p w w := ⟨rfl, rfl, rfl, Nat.le_refl _, fun _ _ _ => rfl⟩
theorem Turn.trans {p : Nat} {a b c : World} (h : Turn p a b) (k : Turn p b c) : Turn p a c :=
  ⟨k.os.trans h.os, k.tape.trans h.tape, k.output.trans h.output, Nat.le_trans h.size k.size, fun i hi hp => (k.block i (Nat.lt_of_lt_of_le hi h.size) hp).trans (h.block i hi hp)⟩
theorem Only.turn {p : Nat} {a b : World} (h : Only p a b) : Turn p a b := ⟨h.os, h.tape, h.output, Nat.le_of_eq h.size.symm, fun k _ hk => h.block k hk⟩
theorem Turn.alloc {p : Nat} {a b : World} (h : Turn p a b) (o : Obj) : Turn p a (b.alloc o) :=
  ⟨h.os, h.tape, h.output, size_alloc_le h.size, fun k hk hp => by rw [heap_alloc_old _ _ _ (Nat.lt_of_lt_of_le hk h.size)]; exact h.block k hk hp⟩
theorem Turn.drewN {p : Nat} {a b : World} (h : Turn p a b) (q : Nat) : Turn p a (b.drewN q) := ⟨h.os, h.tape, h.output, h.size, h.block⟩
theorem Turn.below {p B : Nat} {a w w' : World} (h : Below B a w) (k : Turn p w w') (hp : B ≤ p) (hB : B ≤ w.heap.size) : Below B a w' :=
  ⟨k.os.trans h.os, k.tape.trans h.tape, k.output.trans h.output, Nat.le_trans h.size k.size, fun i hi => (k.block i (by omega) (by omega)).trans (h.block i hi)⟩
theorem ArgN.turn {w w' : World} {a : Option Addr} {l : List Nat} {p : Nat} (h : ArgN w a l) (o : Turn p w w') (hne : ∀ b off, a = some ⟨b, off, none⟩ → b ≠ p) : ArgN w' a l := by
  intro i x hx
  obtain ⟨b, off, h1, h2, h3⟩ := h i x hx
  refine ⟨b, off, h1, Nat.lt_of_lt_of_le h2 o.size, ?_⟩
  rw [World.cell?_of_block (a := ⟨b, off + i, none⟩) (o.block b h2 (hne b off h1))]
  exact h3

/-- The bits from i on. -/
def bitsF (s : ByteArray) (i j : Nat) : Nat := (bitI s (i + j)).toNat
theorem bitsF_le (s : ByteArray) (i j : Nat) : bitsF s i j ≤ 1 := by
  unfold bitsF
  rcases bitI_01 s (i + j) with h | h <;> rw [h] <;> decide
theorem bitsF_int (s : ByteArray) (i j : Nat) : ((bitsF s i j : Nat) : Int) = bitI s (i + j) := by
  unfold bitsF
  rcases bitI_01 s (i + j) with h | h <;> rw [h] <;> rfl

theorem cn_le (ls : List Nat) (k : Nat) : cn ls k ≤ ls.length := by
  unfold cn
  split
  · exact Nat.zero_le _
  · exact List.countP_le_length

theorem pow_small (k : Nat) (h : k ≤ 15) : (2 : Nat) ^ k ≤ 32768 := by
  have : (2 : Nat) ^ k ≤ 2 ^ 15 := Nat.pow_le_pow_right (by decide) h
  omega

/-- What the reader and the code are, k bits on. -/
structure ReadL (T : TypeId) (w W : World) (p Q : Nat) (s : ByteArray) (i k : Nat) (cs : List Value) (a : Option Addr) (S : List Nat) : Prop where
  rd : RdAt T w p s (i + k) false
  box : w.heap[Q]? = some (.cells cs.toArray 66 (0, 0))
  arg : ArgN w a S
  turn : Turn p W w

theorem ReadL.next {T : TypeId} {w w' W : World} {p Q : Nat} {s : ByteArray} {i k : Nat} {cs : List Value} {a : Option Addr} {S : List Nat} (h : ReadL T w W p Q s i k cs a S) (r : RdAt T w' p s (i + (k + 1)) false) (o : Only p w w') (hQ : Q ≠ p) (hne : ∀ b off, a = some ⟨b, off, none⟩ → b ≠ p) : ReadL T w' W p Q s i (k + 1) cs a S :=
  ⟨r, by rw [o.block Q hQ]; exact h.box, h.arg.turn o.turn hne, h.turn.trans o.turn⟩

set_option maxRecDepth 20000 in
set_option maxHeartbeats 4000000 in
theorem qread_any (ls : List Nat) (a : Option Addr) (c m : Nat) (p : Nat) (s : ByteArray) (i : Nat) (W : World) (hm : (symTo ls 16).length = m) (harg : ArgN W a (symTo ls 16)) (hne : ∀ b off, a = some ⟨b, off, none⟩ → b ≠ p) (hls : ls.length ≤ 1000)
    (h : RdAt 56 W p s i false) (hi : i ≤ 8 * s.size) (hs : s.size ≤ 1000000) :
    Calls Try.prog 69 #[.pointer (some ⟨p, 0, none⟩), codeV (cn ls) (.slice a m c)] W fun e w' => ∃ x u bad, e = .returned (.int .i64 x) ∧ Hid (ReadRes ls (bitsF s i) (8 * s.size - i) x u bad) ∧ Hid (RdAt 56 w' p s (i + u) bad) ∧ Hid (Turn p W w') := by
  have hpW : p < W.heap.size := by unfold RdAt at h; exact (Array.getElem?_eq_some_iff.1 h).1
  have HGET := hide (codeCs_get (cn ls) (.slice a m c))
  have HLAST := hide (codeCs_last (cn ls) (.slice a m c))
  obtain ⟨cs, hcs⟩ : ∃ cs, codeCs (cn ls) (.slice a m c) = cs := ⟨_, rfl⟩
  have HL0 := hide (show ReadL 56 (W.alloc (.cells cs.toArray 66)) W p W.heap.size s i 0 cs a (symTo ls 16) from ⟨by unfold RdAt at h ⊢; rw [heap_alloc_old _ _ _ hpW]; exact h, heap_alloc_at _ _ rfl, harg.below ((Below.refl W.heap.size W).alloc (Nat.le_refl _) _) (Nat.le_refl _), (Turn.refl p W).alloc _⟩)
  have HM := hide hm
  have HNE := hide hne
  have hQ : W.heap.size ≠ p := by omega
  rw [hcs] at HGET HLAST
  unfold codeV
  rw [hcs]
  clear hcs h harg hm hne hpW
  obtain ⟨Q, hQe⟩ : ∃ Q, W.heap.size = Q := ⟨_, rfl⟩
  rw [hQe] at HL0 hQ
  obtain ⟨av, hav⟩ : ∃ av, 8 * s.size - i = av := ⟨_, rfl⟩
  have HAV := hide hav
  rw [hav]
  have hav2 : i + av = 8 * s.size := by omega
  have HAV2 := hide hav2
  clear hav hav2
  go_enter Try.func69, Try.ntmps69
  go_wp2
  clear hQe
  generalize hw1 : W.alloc (.cells cs.toArray 66) = w1 at *
  clear hw1
  go_loopw [5, 6, 7, 8] (fun cv fv tv lv wr => ∃ (k A F T : Nat), k ≤ 15 ∧ k ≤ av ∧ lv = .int .i64 ((k : Int) + 1) ∧ cv = .int .i64 (A : Int) ∧ fv = .int .i64 (F : Int) ∧ tv = .int .i64 (T : Int) ∧ Hid (A = numH (bitsF s i) k) ∧ Hid (F = firstC ls (k + 1)) ∧ Hid (T = atC ls (k + 1)) ∧ Hid (Past ls (bitsF s i) (k + 1)) ∧ Hid (ReadL 56 wr W p Q s i k cs a (symTo ls 16))) (fun _ _ _ lv _ => 16 - (intOf lv).toNat)
  case atStart => exact ⟨0, 0, 0, 0, by omega, Nat.zero_le _, rfl, rfl, rfl, rfl, hide rfl, hide rfl, hide rfl, hide (fun j h1 h2 => by omega), HL0⟩
  case round =>
    clear HL0
    obtain ⟨k, A, F, T, hk, hka, rfl, rfl, rfl, rfl, HA, HF, HT, HP, HL⟩ := hrel
    have hA9 : A ≤ 32768 := by have h1 := numH_lt (bitsF s i) (bitsF_le s i) k; have h2 := pow_small k hk; have := HA.out; omega
    by_cases hlt : k < 15
    · have zk : (k : Int) + 1 ≤ 15 := by omega
      by_cases hav : k < av
      · have HC := hide (qbit_ok p s (i + k) wr HL.out.rd (by have := HAV2.out; omega) (by omega))
        have HB := hide (bitsF_int s i k)
        have hb1 := bitsF_le s i k
        have HN := hide (show numH (bitsF s i) (k + 1) = 2 * numH (bitsF s i) k + bitsF s i k from rfl)
        rw [← HB.out] at HC
        have hF9 : F ≤ 65536 := by
          have h1 := HP.out.first (by omega)
          have h2 := numH_lt (bitsF s i) (bitsF_le s i) (k + 1)
          have h3 := pow_small (k + 1) (by omega)
          have := HF.out
          omega
        have HFA := hide (show F ≤ 2 * A + bitsF s i k by
          have h1 := HP.out.first (by omega)
          rw [HN.out, ← HA.out, ← HF.out] at h1
          exact h1)
        have hT9 : T ≤ 1000 := by have h1 := cn_sum ls (k + 1); have := HT.out; omega
        generalize bitsF s i k = b at *
        go_wp2_with fail
        refine HC.out.mono ?_
        rintro e w2 ⟨rfl, hr2, ho2⟩
        have HL2 := hide (HL.out.next hr2 ho2 hQ HNE.out)
        have _d2 := hr2.c2
        have _e1 := (show w2.cell? ⟨Q, k + 1, none⟩ = some (.int .i64 (cn ls (k + 1) : Nat)) by rw [cell_of_row _ _ _ _ _ (0, 0) HL2.out.box, List.getElem?_toArray]; exact HGET.out (k + 1) (by omega))
        have _e2 := (show w2.cell? ⟨Q, 16, none⟩ = some (.slice a m c) by rw [cell_of_row _ _ _ _ _ (0, 0) HL2.out.box, List.getElem?_toArray]; exact HLAST.out)
        have hn9 := cn_le ls (k + 1)
        have HN2 := hide (show numH (bitsF s i) (k + 1) = 2 * A + b by rw [HN.out, HA.out])
        have zk0 : (0 : Int) ≤ (k : Int) + 1 := by omega
        have zk16 : (k : Int) + 1 < 16 := by omega
        obtain ⟨n, hn⟩ : ∃ n, cn ls (k + 1) = n := ⟨_, rfl⟩
        have HNN := hide hn
        rw [hn] at _e1 hn9
        obtain ⟨A2, hA2⟩ : ∃ A2, 2 * A + b = A2 := ⟨_, rfl⟩
        have eA : (A : Int) * 2 + (b : Int) = (A2 : Int) := by omega
        have hA2le : A2 ≤ 65537 := by omega
        rw [hA2] at HN2 HFA
        have hFA := HFA.out
        clear hr2 ho2 hn hA2
        by_cases hst : A2 < F + n
        · have HS := hide (show Stops ls (bitsF s i) (k + 1) from ⟨by omega, by omega, HP.out, by rw [HN2.out, HNN.out, ← HF.out]; exact hst⟩)
          have hidx := HS.out.idx
          have HSY := hide (show symAt ls (bitsF s i) (k + 1) = (symTo ls 16).getD (T + (A2 - F)) 0 by unfold symAt; rw [HN2.out, ← HF.out, ← HT.out])
          rw [HN2.out, ← HF.out, ← HT.out] at hidx
          obtain ⟨b3, off3, e3, hb3, _c3⟩ := HL2.out.arg _ _ (getD_some (symTo ls 16) _ hidx)
          subst e3
          rw [HM.out] at hidx
          have z1 : (A2 : Int) - (F : Int) < (n : Int) := by omega
          obtain ⟨D, hD⟩ : ∃ D, T + (A2 - F) = D := ⟨_, rfl⟩
          rw [hD] at hidx _c3 HSY
          have eD : (T : Int) + (A2 : Int) - (F : Int) = (D : Int) := by omega
          have zD : (D : Int) < m := by omega
          have hTA : T + A2 ≤ 100000 := by omega
          generalize (symTo ls 16).getD D 0 = y at *
          clear hD hst
          go_wp2
          go_ret
          refine ⟨_, k + 1, false, rfl, hide (.inl ⟨k + 1, HS.out, by omega, by rw [HSY.out], rfl, rfl⟩), hide HL2.out.rd, hide HL2.out.turn⟩
        · have z1 : ¬ ((A2 : Int) - (F : Int) < (n : Int)) := by omega
          have HP2 := hide (HP.out.next (by rw [HN2.out, HNN.out, ← HF.out]; omega))
          have HF2 := hide (show (F + n) * 2 = firstC ls (k + 1 + 1) by show _ = 2 * (firstC ls (k + 1) + cn ls (k + 1)); rw [← HF.out, HNN.out]; omega)
          have HT2 := hide (show T + n = atC ls (k + 1 + 1) by show _ = atC ls (k + 1) + cn ls (k + 1); rw [← HT.out, HNN.out])
          clear hst
          go_wp2
          go_roundw
          case rel => exact ⟨k + 1, A2, (F + n) * 2, T + n, by omega, by omega, by go_num, rfl, by go_num, by go_num, hide HN2.out.symm, HF2, HT2, HP2, HL2⟩
          case measure => exact meas_oneW (k + 1) 16 (by omega)
      · have hke : k = av := by omega
        have HC := hide (qbit_end p s (i + k) wr HL.out.rd (by have := HAV2.out; omega) (by have := HAV2.out; omega) (by omega))
        have HKE := hide hke
        have HDEC := hide (show (true : Bool) = decide (av < 15) by simp; omega)
        clear hke
        go_wp2_with fail
        refine HC.out.mono ?_
        rintro e w2 ⟨rfl, hr2, ho2⟩
        have _d2 := hr2.c2
        have HRD := hide hr2
        have HTN := hide (HL.out.turn.trans ho2.turn)
        clear hr2 ho2
        go_wp2
        go_ret
        refine ⟨-1, k, true, rfl, hide (.inr ⟨by rw [← HKE.out, Nat.min_eq_left (by omega)]; exact HP.out, rfl, by rw [← HKE.out, Nat.min_eq_left (by omega)], HDEC.out⟩), HRD, HTN⟩
    · have hke : k = 15 := by omega
      subst hke
      have HDEC := hide (show (false : Bool) = decide (av < 15) by simp; omega)
      go_wp2
      go_ret
      refine ⟨-1, 15, false, rfl, hide (.inr ⟨by rw [Nat.min_eq_right hka]; exact HP.out, rfl, by rw [Nat.min_eq_right hka], HDEC.out⟩), hide HL.out.rd, hide HL.out.turn⟩

end Go.Proofs.Ytaalbaiglkadlaa

/- Like codes, and like numbers, are told to be: the document's 'Same' of layer 5, and the statements' 'same'. -/
namespace Go.Proofs.Ytaalbaiglkadlaa
open Go.RowKit Go.Lib

/-- A load of many cells behind a guard that lets it. -/
theorem wpList_load_wanted {P : Program} {ops : Array Oper} {rest : List Oper} {op : Oper} {a : Act} {w : World} {Q : Exit → Act → World → Prop} (hw : Region.wanted op (yielded ops a.tmps) = true) (ty : TypeId) (x : Operand) (ho : op.op = .load ty x)
    (b o : Nat) (hx : a.eval x = .pointer (some ⟨b, o, none⟩)) (cs : List Value) (d : TypeDesc) (hc : w.rangeAt b o cs)
    (hu : P.underlying ty = some d) (hd : d.isRow = true) (hi : (P.info? ty).map (·.size) = some cs.length)
    (h : wpList P ops Q rest (a.put op.dst (.agg cs.toArray)) w) : wpList P ops Q (op :: rest) a w :=
  wpList_step fun _ hK => by rw [if_pos hw]; exact wp_load_mid ty x ho b o hx cs d hc hu hd hi (hK _ _ h)

theorem Try.intInfo : ∃ i, Try.prog.info? 3 = some i := by
  have h : (Try.prog.info? 3).isSome = true := by kernel_rfl
  exact Option.isSome_iff_exists.1 h
theorem Try.intPlain : Try.prog.plainKey 3 = true := by kernel_rfl
theorem Try.sizeCnt : (Try.prog.info? 64).map (·.size) = some 16 := by kernel_rfl

/-- The counts alone. -/
def cntCs (f : Nat → Nat) : List Value := (List.range 16).map fun i => Value.int .i64 (f i : Nat)
theorem cntCs_get (f : Nat → Nat) (i : Nat) (h : i < 16) : (cntCs f)[i]? = some (.int .i64 (f i : Nat)) := by
  simp [cntCs, h]
theorem cnt_items (f : Nat → Nat) (w : World) : ∀ is : List Nat, (∀ i ∈ is, i < 16) → (Op.eqItems 9999 3 1 (cntCs f).toArray (cntCs f).toArray is).run Try.prog w = .ok true w
  | [], _ => by simp [Op.eqItems]
  | i :: is, h => by
    have hp := run_part_plain (P := Try.prog) w Try.intPlain (xs := (cntCs f).toArray) (off := i * 1) (v := .int .i64 (f i : Nat)) (by rw [Nat.mul_one, List.getElem?_toArray]; exact cntCs_get f i (h i List.mem_cons_self))
    have he := run_equalIn_int (P := Try.prog) w 9998 3 .i64 .i64 (f i : Nat) (f i : Nat) Try.underlying3
    simp only [Op.eqItems, Sem.run_bind, hp, Result.andThen_ok, he]
    have ih := cnt_items f w is fun j hj => h j (List.mem_cons_of_mem _ hj)
    simpa using ih
theorem cnt_eql (f : Nat → Nat) (w : World) : (Op.equalIn 10000 64 (.agg (cntCs f).toArray) (.agg (cntCs f).toArray)).run Try.prog w = .ok true w := by
  obtain ⟨i, hi⟩ := Try.intInfo
  rw [show (10000 : Nat) = 9999 + 1 from rfl, run_equalIn_array w 9999 _ _ Try.underlying64 hi, Try.cellsZ]
  exact cnt_items f w _ fun i hi => List.mem_range.1 hi
theorem cnt_range {w : World} {P : Nat} {f : Nat → Nat} {v : Value} (h : w.heap[P]? = some (.cells (codeCs f v).toArray 66 (0, 0))) : w.rangeAt P 0 (cntCs f) := by
  intro j u hu
  have hj : j < 16 := by
    have := (List.getElem?_eq_some_iff.1 hu).1
    simpa [cntCs] using this
  rw [cntCs_get f j hj] at hu
  rw [Nat.zero_add, cell_of_row _ _ j _ _ (0, 0) h, List.getElem?_toArray, codeCs_get f v j hj]
  exact hu

end Go.Proofs.Ytaalbaiglkadlaa
