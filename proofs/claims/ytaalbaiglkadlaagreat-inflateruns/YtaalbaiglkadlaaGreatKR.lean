import Derived.Test.YtaalbaiglkadlaaGreatKA
import Derived.Deep.WholeRow
import Derived.Deep.MidRow
import Derived.Laws.ResultCell
import Derived.Test.YtaalbaiglkadlaaGreatRfA
import Derived.DeepKeys
import Derived.WideShapes
/- Codes as values, and the contract of the document's 'Build' of layer 5. -/
namespace Go.Proofs.YtaalbaiglkadlaaGreat
open Go.RowKit Go.Lib

/-- A code's cells: how many have each length, and the symbols. -/
def codeCs (f : Nat → Nat) (v : Value) : List Value := [.int .i64 (f 0 : Nat), .int .i64 (f 1 : Nat), .int .i64 (f 2 : Nat), .int .i64 (f 3 : Nat), .int .i64 (f 4 : Nat), .int .i64 (f 5 : Nat), .int .i64 (f 6 : Nat), .int .i64 (f 7 : Nat), .int .i64 (f 8 : Nat), .int .i64 (f 9 : Nat), .int .i64 (f 10 : Nat), .int .i64 (f 11 : Nat), .int .i64 (f 12 : Nat), .int .i64 (f 13 : Nat), .int .i64 (f 14 : Nat), .int .i64 (f 15 : Nat), v]
def codeV (f : Nat → Nat) (v : Value) : Value := .agg (codeCs f v).toArray

theorem codeCs_get (f : Nat → Nat) (v : Value) (i : Nat) (h : i < 16) : (codeCs f v)[i]? = some (.int .i64 (f i : Nat)) :=
  match i, h with
  | 0, _ => rfl
  | 1, _ => rfl
  | 2, _ => rfl
  | 3, _ => rfl
  | 4, _ => rfl
  | 5, _ => rfl
  | 6, _ => rfl
  | 7, _ => rfl
  | 8, _ => rfl
  | 9, _ => rfl
  | 10, _ => rfl
  | 11, _ => rfl
  | 12, _ => rfl
  | 13, _ => rfl
  | 14, _ => rfl
  | 15, _ => rfl
  | n + 16, h => absurd h (by omega)
theorem codeCs_last (f : Nat → Nat) (v : Value) : (codeCs f v)[16]? = some v := rfl
theorem codeCs_set (f : Nat → Nat) (v : Value) (i x : Nat) (h : i < 16) : (codeCs f v).set i (.int .i64 (x : Nat)) = codeCs (fun j => if j = i then x else f j) v :=
  match i, h with
  | 0, _ => rfl
  | 1, _ => rfl
  | 2, _ => rfl
  | 3, _ => rfl
  | 4, _ => rfl
  | 5, _ => rfl
  | 6, _ => rfl
  | 7, _ => rfl
  | 8, _ => rfl
  | 9, _ => rfl
  | 10, _ => rfl
  | 11, _ => rfl
  | 12, _ => rfl
  | 13, _ => rfl
  | 14, _ => rfl
  | 15, _ => rfl
  | n + 16, h => absurd h (by omega)
theorem codeCs_setLast (f : Nat → Nat) (v u : Value) : (codeCs f v).set 16 u = codeCs f u := rfl
theorem codeCs_congr (f g : Nat → Nat) (v : Value) (h : ∀ i, i < 16 → f i = g i) : codeCs f v = codeCs g v := by
  unfold codeCs
  rw [h 0 (by omega), h 1 (by omega), h 2 (by omega), h 3 (by omega), h 4 (by omega), h 5 (by omega), h 6 (by omega), h 7 (by omega), h 8 (by omega), h 9 (by omega), h 10 (by omega), h 11 (by omega), h 12 (by omega), h 13 (by omega), h 14 (by omega), h 15 (by omega)]

theorem heap_alloc_at (w : World) (o : Obj) {N : Nat} (h : w.heap.size = N) : (w.alloc o).heap[N]? = some o := by
  subst h
  show (w.heap.push o)[w.heap.size]? = _
  simp
theorem codeCs_length (f : Nat → Nat) (v : Value) : (codeCs f v).length = 17 := rfl
theorem codeCs_one (f : Nat → Nat) (v : Value) (hv : v.oneCell' = true) : ∀ u ∈ codeCs f v, u.oneCell' = true := by
  intro u hu
  unfold codeCs at hu
  simp only [List.mem_cons, List.not_mem_nil, or_false] at hu
  rcases hu with rfl | rfl | rfl | rfl | rfl | rfl | rfl | rfl | rfl | rfl | rfl | rfl | rfl | rfl | rfl | rfl | rfl <;> first | rfl | exact hv
theorem Tryz.sizeCode : (Tryz.prog.info? 80).map (·.size) = some 17 := by kernel_rfl
theorem Tryz.zeroCode (w : World) : (zeroValue 80).run Tryz.prog w = .ok (.agg (codeCs (fun _ => 0) (.slice none 0 0)).toArray) w := by
  have h : (Tryz.prog.info? 80).map (·.zero) = some (some (.agg (codeCs (fun _ => 0) (.slice none 0 0)).toArray)) := by kernel_rfl
  cases hq : Tryz.prog.info? 80 with
  | none => rw [hq] at h; cases h
  | some i =>
    rw [hq] at h
    have hz : i.zero = some (.agg (codeCs (fun _ => 0) (.slice none 0 0)).toArray) := by simpa using h
    simp [zeroValue, typeInfo, hq, hz]
/-- A code, laid into a variable of its own. -/
theorem code_store (w : World) (Z cs : List Value) (hz : Z.length = 17) (hn : cs.length = 17) (h1 : ∀ v ∈ cs, v.oneCell' = true) :
    (storeCells ⟨w.heap.size, 0, none⟩ cs).run Tryz.prog (w.alloc (.cells Z.toArray 80)) = .ok () (w.alloc (.cells cs.toArray 80)) := by
  have h := run_storeCells_new (P := Tryz.prog) w 80 Z.toArray cs.toArray (by rw [List.size_toArray, hn]; exact Tryz.sizeCode) (by rw [List.size_toArray, List.size_toArray, hn, hz]) (all_oneCell_toArray h1)
  exact h
theorem code_range {w : World} {P : Nat} {cs : List Value} (h : w.heap[P]? = some (.cells cs.toArray 80 (0, 0))) : w.rangeAt P 0 cs := by
  intro j v hv
  rw [Nat.zero_add, cell_of_row _ _ j _ _ (0, 0) h, List.getElem?_toArray]
  exact hv
theorem code_load {w : World} {P : Nat} {cs : List Value} (h : w.rangeAt P 0 cs) (hn : cs.length = 17) : (loadVar 80 ⟨P, 0, none⟩).run Tryz.prog w = .ok (.agg cs.toArray) w :=
  run_loadVar_mid w P 0 80 cs _ h Tryz.underlying80 rfl (by rw [hn]; exact Tryz.sizeCode)
theorem there_cells {w : World} {P : Nat} {cs : List Value} (h : w.heap[P]? = some (.cells cs.toArray 80 (0, 0))) : w.there P 0 cs.length := by
  intro j hj
  constructor
  · rw [Nat.zero_add, cell_of_row _ _ j _ _ (0, 0) h, List.getElem?_toArray, List.getElem?_eq_getElem hj]
    rfl
  · simp [World.frozen?, h]
theorem cells_store {P : Program} {w : World} {p : Nat} {cs : List Value} (ht : w.there p 0 cs.length) (h1 : ∀ v ∈ cs, v.oneCell' = true) :
    (storeCells ⟨p, 0, none⟩ cs).run P w = .ok () (w.setCells p 0 cs) := by
  have h := run_storeCells_cells (P := P) p 0 cs 0 w (fun j hj => by simpa using (ht j hj).1) (fun j hj => by simpa using (ht j hj).2) h1
  simpa using h
theorem below_cells {B : Nat} {a w : World} (h : Below B a w) (p o : Nat) (hp : B ≤ p) (cs : List Value) : Below B a (w.setCells p o cs) := by
  induction cs generalizing o w with
  | nil => exact h
  | cons v r ih => exact ih (h.setCell (p := ⟨p, o, none⟩) hp v) (o + 1)
theorem own_cells {w : World} {B : Nat} {e : TypeId} {size n : Nat} {v : Value} {xs : List Value} (h : w.ownsRow B e size v n xs) (p o : Nat) (hp : v.ownBlock ≠ some p) (cs : List Value) : (w.setCells p o cs).ownsRow B e size v n xs := by
  induction cs generalizing o w with
  | nil => exact h
  | cons c r ih => exact ih (ownsRow_setCell_other h hp _) (o + 1)
theorem own_oneCell {w : World} {B : Nat} {e : TypeId} {size n : Nat} {v : Value} {xs : List Value} (h : w.ownsRow B e size v n xs) : v.oneCell' = true := by
  rcases len_form h with ⟨e1, _⟩ | ⟨g, c, e1⟩ <;> rw [e1] <;> rfl

/-- A code in a block of its own. -/
structure CodeAt (w : World) (B P : Nat) (f : Nat → Nat) (v : Value) (S : List Nat) : Prop where
  box : w.heap[P]? = some (.cells (codeCs f v).toArray 80 (0, 0))
  own : w.ownsRow B 3 1 v S.length (natCs S)
  ne : v.ownBlock ≠ some P

theorem CodeAt.cell {w : World} {B P : Nat} {f : Nat → Nat} {v : Value} {S : List Nat} (h : CodeAt w B P f v S) (i : Nat) (hi : i < 16) : w.cell? ⟨P, i, none⟩ = some (.int .i64 (f i : Nat)) := by
  rw [cell_of_row _ _ i _ _ (0, 0) h.box, List.getElem?_toArray]
  exact codeCs_get f v i hi
theorem CodeAt.last {w : World} {B P : Nat} {f : Nat → Nat} {v : Value} {S : List Nat} (h : CodeAt w B P f v S) : w.cell? ⟨P, 16, none⟩ = some v := by
  rw [cell_of_row _ _ 16 _ _ (0, 0) h.box]
  rfl
theorem CodeAt.frozen {w : World} {B P : Nat} {f : Nat → Nat} {v : Value} {S : List Nat} (h : CodeAt w B P f v S) (i : Nat) : w.frozen? ⟨P, i, none⟩ = false := by simp [World.frozen?, h.box]
theorem CodeAt.set {w : World} {B P : Nat} {f : Nat → Nat} {v : Value} {S : List Nat} (h : CodeAt w B P f v S) (i x : Nat) (hi : i < 16) : CodeAt (w.setCell ⟨P, i, none⟩ (.int .i64 (x : Nat))) B P (fun j => if j = i then x else f j) v S :=
  ⟨by rw [heap_setCell_same _ _ _ _ _ _ _ h.box, List.setIfInBounds_toArray, codeCs_set f v i x hi], ownsRow_setCell_other h.own h.ne _, h.ne⟩
theorem CodeAt.alloc {w : World} {B P : Nat} {f : Nat → Nat} {v : Value} {S : List Nat} (h : CodeAt w B P f v S) (o : Obj) : CodeAt (w.alloc o) B P f v S :=
  ⟨by rw [heap_alloc_old _ _ _ (Array.getElem?_eq_some_iff.1 h.box).1]; exact h.box, h.own.alloc o, h.ne⟩
theorem CodeAt.app {w w' : World} {B P : Nat} {f : Nat → Nat} {v v' : Value} {S : List Nat} (h : CodeAt w B P f v S) (x : Nat)
    (ho : w'.ownsRow B 3 1 v' (S.length + 1) (natCs S ++ [.int .i64 (x : Int)])) (hg : w.grownBy w' v.ownBlock) (hf : v'.ownBlock = v.ownBlock ∨ ∀ k, v'.ownBlock = some k → w.heap.size ≤ k) :
    w'.cell? ⟨P, 16, none⟩ = some v ∧ w'.frozen? ⟨P, 16, none⟩ = false ∧ CodeAt (w'.setCell ⟨P, 16, none⟩ v') B P f v' (S ++ [x]) := by
  have hP := (Array.getElem?_eq_some_iff.1 h.box).1
  have hb : w'.heap[P]? = some (.cells (codeCs f v).toArray 80 (0, 0)) := by rw [hg.block P hP (fun e => h.ne e.symm)]; exact h.box
  have hne : v'.ownBlock ≠ some P := by
    intro e
    rcases hf with e2 | e2
    · exact h.ne (by rw [← e2]; exact e)
    · have := e2 P e; omega
  refine ⟨?_, by simp [World.frozen?, hb], ⟨?_, ?_, hne⟩⟩
  · rw [cell_of_row _ _ 16 _ _ (0, 0) hb]; rfl
  · rw [heap_setCell_same _ _ _ _ _ _ _ hb, List.setIfInBounds_toArray, codeCs_setLast]
  · rw [List.length_append, ← natCs_append]
    exact ownsRow_setCell_other ho hne _

/-- The counts under way. -/
def fIn (ls : List Nat) (k j i : Nat) : Nat := if i < k then cn ls i else if i = k then rkK ls k j else 0
theorem fIn_begin (ls : List Nat) (i : Nat) : fIn ls 1 0 i = 0 := by
  unfold fIn
  by_cases h : i < 1
  · rw [if_pos h, show i = 0 by omega]; rfl
  · rw [if_neg h]
    split
    · simp [rkK]
    · rfl
theorem fIn_next (ls : List Nat) (k : Nat) (hk : k ≠ 0) : fIn ls k ls.length = fIn ls (k + 1) 0 := by
  funext i
  unfold fIn
  by_cases h : i < k
  · rw [if_pos h, if_pos (by omega)]
  · rw [if_neg h]
    by_cases h2 : i = k
    · rw [if_pos h2, if_pos (by omega), rk_all ls k hk, h2]
    · rw [if_neg h2, if_neg (by omega)]
      split
      · simp [rkK]
      · rfl
theorem fIn_step (ls : List Nat) (k j : Nat) (hj : j < ls.length) (h : ls.getD j 0 = k) : (fun i => if i = k then fIn ls k j k + 1 else fIn ls k j i) = fIn ls k (j + 1) := by
  funext i
  unfold fIn
  by_cases e : i = k
  · rw [if_pos e, e, if_neg (by omega), if_pos rfl, if_neg (by omega), if_pos rfl, rk_succ ls k j hj, if_pos h]
  · rw [if_neg e]
    by_cases h2 : i < k
    · rw [if_pos h2, if_pos h2]
    · rw [if_neg h2, if_neg e, if_neg h2, if_neg e]
theorem fIn_skip (ls : List Nat) (k j : Nat) (hj : j < ls.length) (h : ls.getD j 0 ≠ k) : fIn ls k (j + 1) = fIn ls k j := by
  funext i
  unfold fIn
  by_cases h2 : i < k
  · rw [if_pos h2, if_pos h2]
  · rw [if_neg h2, if_neg h2, rk_succ ls k j hj, if_neg h]; rfl

/-- The answer of Build: the error, or the code. -/
def BuildRes (W : World) (l : List Int) (r : Value) (w' : World) : Prop :=
  (goodB l = false ∧ r = .tuple #[codeV (fun _ => 0) (.slice none 0 0), .int .i64 4]) ∨
  (goodB l = true ∧ ∃ v, r = .tuple #[codeV (cn (l.map Int.toNat)) v, .int .i64 0] ∧ w'.ownsRow W.heap.size 3 1 v (symTo (l.map Int.toNat) 16).length (natCs (symTo (l.map Int.toNat) 16)))

theorem sym_len (ls : List Nat) (k j : Nat) (hk : k ≠ 0) (hj : j ≤ ls.length) : (symTo ls k ++ symK ls k j).length ≤ atC ls k + cn ls k := by
  rw [List.length_append, symTo_length, symK_length ls k j hj]
  have := rk_le_cn ls k j hk hj
  omega
theorem cn_sum (ls : List Nat) (k : Nat) : atC ls k ≤ ls.length := by
  have key : ∀ k, atC ls k = ls.countP (fun x => x != 0 && decide (x < k)) := by
    intro k
    induction k with
    | zero =>
      show 0 = _
      symm
      rw [List.countP_eq_zero]
      intro x _
      simp
    | succ k ih => rw [count_step, ← ih]; rfl
  rw [key]
  exact List.countP_le_length

theorem cell_set_new (w : World) (a : Addr) (u x : Value) (t : TypeId) : ∀ j v, [x][j]? = some v → ((w.setCell a u).alloc (.cells #[x] t)).cell? ((⟨w.heap.size, 0, none⟩ : Addr).add j) = some v := by
  have h := cell_one_new (w.setCell a u) x t
  rw [size_setCell] at h
  exact h

/-- The code under way; the answer's block is as it was made. -/
structure BuildL (w W : World) (P : Nat) (Z : List Value) (f : Nat → Nat) (v : Value) (S : List Nat) : Prop where
  code : CodeAt w W.heap.size P f v S
  bel : Below W.heap.size W w
  res : w.heap[W.heap.size]? = some (.cells Z.toArray 80 (0, 0))
  ne : v.ownBlock ≠ some W.heap.size
  lt : W.heap.size < P

theorem BuildL.mid {w W : World} {P : Nat} {Z : List Value} {f : Nat → Nat} {v : Value} {S : List Nat} (h : BuildL w W P Z f v S) (i x : Nat) (hi : i < 16) (o : Obj) : BuildL ((w.setCell ⟨P, i, none⟩ (.int .i64 (x : Nat))).alloc o) W P Z (fun j => if j = i then x else f j) v S := by
  have hlt := h.lt
  have h1 := (h.code.set i x hi).alloc o
  have hs : W.heap.size < w.heap.size := (Array.getElem?_eq_some_iff.1 h.res).1
  refine ⟨h1, (h.bel.setCell (p := ⟨P, i, none⟩) (Nat.le_of_lt hlt) _).alloc (by rw [size_setCell]; omega) o, ?_, h.ne, hlt⟩
  rw [heap_alloc_old _ _ _ (by rw [size_setCell]; exact hs), Below.heap_setCell _ _ _ _ (show W.heap.size ≠ P by omega)]
  exact h.res
theorem BuildL.app {w w' W : World} {P : Nat} {Z : List Value} {f : Nat → Nat} {v v' : Value} {S : List Nat} (h : BuildL w W P Z f v S) (x : Nat)
    (ho : w'.ownsRow W.heap.size 3 1 v' (S.length + 1) (natCs S ++ [.int .i64 (x : Int)])) (hg : w.grownBy w' v.ownBlock) (hf : v'.ownBlock = v.ownBlock ∨ ∀ k, v'.ownBlock = some k → w.heap.size ≤ k) :
    w'.cell? ⟨P, 16, none⟩ = some v ∧ w'.frozen? ⟨P, 16, none⟩ = false ∧ BuildL (w'.setCell ⟨P, 16, none⟩ v') W P Z f v' (S ++ [x]) := by
  obtain ⟨h1, h2, h3⟩ := h.code.app x ho hg hf
  have hlt := h.lt
  have hs : W.heap.size < w.heap.size := (Array.getElem?_eq_some_iff.1 h.res).1
  refine ⟨h1, h2, h3, (Below.grownB h.bel hg h.code.own (Nat.le_of_lt hs)).setCell (p := ⟨P, 16, none⟩) (Nat.le_of_lt hlt) _, ?_, ?_, hlt⟩
  · rw [Below.heap_setCell _ _ _ _ (show W.heap.size ≠ P by omega), hg.block _ hs (fun e => h.ne e.symm)]
    exact h.res
  · intro e
    rcases hf with e2 | e2
    · exact h.ne (by rw [← e2]; exact e)
    · have := e2 _ e; omega

end Go.Proofs.YtaalbaiglkadlaaGreat

/- Contract of the document's 'Read' of layer 5: the symbol that the next bits are. -/
namespace Go.Proofs.YtaalbaiglkadlaaGreat
open Go.RowKit Go.Lib

/-- Of what was there, block p alone may have turned. -/
structure Turn (p : Nat) (w w' : World) : Prop where
  os : w'.os = w.os
  tape : w'.tape = w.tape
  output : w'.output = w.output
  size : w.heap.size ≤ w'.heap.size
  block : ∀ k, k < w.heap.size → k ≠ p → w'.heap[k]? = w.heap[k]?

theorem Turn.refl (p : Nat) (w : World) : Turn p w w := ⟨rfl, rfl, rfl, Nat.le_refl _, fun _ _ _ => rfl⟩
theorem Turn.trans {p : Nat} {a b c : World} (h : Turn p a b) (k : Turn p b c) : Turn p a c :=
  ⟨k.os.trans h.os, k.tape.trans h.tape, k.output.trans h.output, Nat.le_trans h.size k.size, fun i hi hp => (k.block i (Nat.lt_of_lt_of_le hi h.size) hp).trans (h.block i hi hp)⟩
theorem Only.turn {p : Nat} {a b : World} (h : Only p a b) : Turn p a b := ⟨h.os, h.tape, h.output, Nat.le_of_eq h.size.symm, fun k _ hk => h.block k hk⟩
theorem Turn.alloc {p : Nat} {a b : World} (h : Turn p a b) (o : Obj) : Turn p a (b.alloc o) :=
  ⟨h.os, h.tape, h.output, size_alloc_le h.size, fun k hk hp => by rw [heap_alloc_old _ _ _ (Nat.lt_of_lt_of_le hk h.size)]; exact h.block k hk hp⟩
theorem Turn.drewN {p : Nat} {a b : World} (h : Turn p a b) (q : Nat) : Turn p a (b.drewN q) := ⟨h.os, h.tape, h.output, h.size, h.block⟩
theorem Turn.below {p B : Nat} {a w w' : World} (h : Below B a w) (k : Turn p w w') (hp : B ≤ p) (hB : B ≤ w.heap.size) : Below B a w' :=
  ⟨k.os.trans h.os, k.tape.trans h.tape, k.output.trans h.output, Nat.le_trans h.size k.size, fun i hi => (k.block i (by omega) (by omega)).trans (h.block i hi)⟩
theorem ArgN.turn {w w' : World} {a : Option Addr} {l : List Nat} {p : Nat} (h : ArgN w a l) (o : Turn p w w') (hne : ∀ b off, a = some ⟨b, off, none⟩ → b ≠ p) : ArgN w' a l := by
  intro i x hx
  obtain ⟨b, off, h1, h2, h3⟩ := h i x hx
  refine ⟨b, off, h1, Nat.lt_of_lt_of_le h2 o.size, ?_⟩
  rw [World.cell?_of_block (a := ⟨b, off + i, none⟩) (o.block b h2 (hne b off h1))]
  exact h3

/-- The bits from i on. -/
def bitsF (s : ByteArray) (i j : Nat) : Nat := (bitI s (i + j)).toNat
theorem bitsF_le (s : ByteArray) (i j : Nat) : bitsF s i j ≤ 1 := by
  unfold bitsF
  rcases bitI_01 s (i + j) with h | h <;> rw [h] <;> decide
theorem bitsF_int (s : ByteArray) (i j : Nat) : ((bitsF s i j : Nat) : Int) = bitI s (i + j) := by
  unfold bitsF
  rcases bitI_01 s (i + j) with h | h <;> rw [h] <;> rfl

theorem cn_le (ls : List Nat) (k : Nat) : cn ls k ≤ ls.length := by
  unfold cn
  split
  · exact Nat.zero_le _
  · exact List.countP_le_length

theorem pow_small (k : Nat) (h : k ≤ 15) : (2 : Nat) ^ k ≤ 32768 := by
  have : (2 : Nat) ^ k ≤ 2 ^ 15 := Nat.pow_le_pow_right (by decide) h
  omega

/-- What the reader and the code are, k bits on. -/
structure ReadL (T : TypeId) (w W : World) (p Q : Nat) (s : ByteArray) (i k : Nat) (cs : List Value) (a : Option Addr) (S : List Nat) : Prop where
  rd : RdAt T w p s (i + k) false
  box : w.heap[Q]? = some (.cells cs.toArray 80 (0, 0))
  arg : ArgN w a S
  turn : Turn p W w

theorem ReadL.next {T : TypeId} {w w' W : World} {p Q : Nat} {s : ByteArray} {i k : Nat} {cs : List Value} {a : Option Addr} {S : List Nat} (h : ReadL T w W p Q s i k cs a S) (r : RdAt T w' p s (i + (k + 1)) false) (o : Only p w w') (hQ : Q ≠ p) (hne : ∀ b off, a = some ⟨b, off, none⟩ → b ≠ p) : ReadL T w' W p Q s i (k + 1) cs a S :=
  ⟨r, by rw [o.block Q hQ]; exact h.box, h.arg.turn o.turn hne, h.turn.trans o.turn⟩

end Go.Proofs.YtaalbaiglkadlaaGreat

/- Like codes, and like numbers, are told to be: the document's 'Same' of layer 5, and the statements' 'same'. -/
namespace Go.Proofs.YtaalbaiglkadlaaGreat
open Go.RowKit Go.Lib

/-- A load of many cells behind a guard that lets it. -/
theorem wpList_load_wanted {P : Program} {ops : Array Oper} {rest : List Oper} {op : Oper} {a : Act} {w : World} {Q : Exit → Act → World → Prop} (hw : Region.wanted op (yielded ops a.tmps) = true) (ty : TypeId) (x : Operand) (ho : op.op = .load ty x)
    (b o : Nat) (hx : a.eval x = .pointer (some ⟨b, o, none⟩)) (cs : List Value) (d : TypeDesc) (hc : w.rangeAt b o cs)
    (hu : P.underlying ty = some d) (hd : d.isRow = true) (hi : (P.info? ty).map (·.size) = some cs.length)
    (h : wpList P ops Q rest (a.put op.dst (.agg cs.toArray)) w) : wpList P ops Q (op :: rest) a w :=
  wpList_step fun _ hK => by rw [if_pos hw]; exact wp_load_mid ty x ho b o hx cs d hc hu hd hi (hK _ _ h)

theorem Tryz.intInfo : ∃ i, Tryz.prog.info? 3 = some i := by
  have h : (Tryz.prog.info? 3).isSome = true := by kernel_rfl
  exact Option.isSome_iff_exists.1 h
theorem Tryz.intPlain : Tryz.prog.plainKey 3 = true := by kernel_rfl
theorem Tryz.sizeCnt : (Tryz.prog.info? 78).map (·.size) = some 16 := by kernel_rfl

/-- The counts alone. -/
def cntCs (f : Nat → Nat) : List Value := (List.range 16).map fun i => Value.int .i64 (f i : Nat)
theorem cntCs_get (f : Nat → Nat) (i : Nat) (h : i < 16) : (cntCs f)[i]? = some (.int .i64 (f i : Nat)) := by
  simp [cntCs, h]
theorem cnt_items (f : Nat → Nat) (w : World) : ∀ is : List Nat, (∀ i ∈ is, i < 16) → (Op.eqItems 9999 3 1 (cntCs f).toArray (cntCs f).toArray is).run Tryz.prog w = .ok true w
  | [], _ => by simp [Op.eqItems]
  | i :: is, h => by
    have hp := run_part_plain (P := Tryz.prog) w Tryz.intPlain (xs := (cntCs f).toArray) (off := i * 1) (v := .int .i64 (f i : Nat)) (by rw [Nat.mul_one, List.getElem?_toArray]; exact cntCs_get f i (h i List.mem_cons_self))
    have he := run_equalIn_int (P := Tryz.prog) w 9998 3 .i64 .i64 (f i : Nat) (f i : Nat) Tryz.underlying3
    simp only [Op.eqItems, Sem.run_bind, hp, Result.andThen_ok, he]
    have ih := cnt_items f w is fun j hj => h j (List.mem_cons_of_mem _ hj)
    simpa using ih
theorem cnt_eql (f : Nat → Nat) (w : World) : (Op.equalIn 10000 78 (.agg (cntCs f).toArray) (.agg (cntCs f).toArray)).run Tryz.prog w = .ok true w := by
  obtain ⟨i, hi⟩ := Tryz.intInfo
  rw [show (10000 : Nat) = 9999 + 1 from rfl, run_equalIn_array w 9999 _ _ Tryz.underlying78 hi, Tryz.cellsZ]
  exact cnt_items f w _ fun i hi => List.mem_range.1 hi
theorem cnt_range {w : World} {P : Nat} {f : Nat → Nat} {v : Value} (h : w.heap[P]? = some (.cells (codeCs f v).toArray 80 (0, 0))) : w.rangeAt P 0 (cntCs f) := by
  intro j u hu
  have hj : j < 16 := by
    have := (List.getElem?_eq_some_iff.1 hu).1
    simpa [cntCs] using this
  rw [cntCs_get f j hj] at hu
  rw [Nat.zero_add, cell_of_row _ _ j _ _ (0, 0) h, List.getElem?_toArray, codeCs_get f v j hj]
  exact hu

end Go.Proofs.YtaalbaiglkadlaaGreat
