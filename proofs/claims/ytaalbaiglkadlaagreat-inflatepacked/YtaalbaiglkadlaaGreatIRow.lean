/- Rows of numbers: slices that came in, rows that a call owns, appends, rows filled number by number. Nothing of the program is named here, but its types. -/
import Derived.Test.YtaalbaiglkadlaaGreatRows
import Derived.Test.YtaalbaiglkadlaaGreatAppend
import Derived.Test.YtaalbaiglkadlaaGreatWorld
import Derived.WalkKit
import Derived.WalkSpells
import Derived.WalkLawsBesides
import Derived.Deep.OwnRows
import Derived.Laws.OwnMore
import Derived.Maps.AppendAt
import Derived.OneCell
import Derived.Deep.RegionHeld3
import Derived.Deep.LoopGhost
import Derived.ProofKit
import Derived.OpenShut
import Derived.Deep.Slices
import Derived.Lib.SmallJoins
namespace Go.Proofs.YtaalbaiglkadlaaGreat
open Go.RowKit Go.Lib Go.Deep

theorem Tryz.infoInt : (Tryz.prog.info? 3).map (fun i => (i.zero, i.size, i.bytes)) = some (some (.int .i64 0), 1, 8) := by kernel_rfl

def intCs (l : List Int) : List Value := l.map (Value.int .i64)

def natCs (l : List Nat) : List Value := l.map fun (n : Nat) => Value.int .i64 (n : Int)

/-- No row is another's. -/
def Apart (v u : Value) : Prop := ∀ k, v.ownBlock = some k → u.ownBlock ≠ some k

theorem Apart.symm {v u : Value} (h : Apart v u) : Apart u v := fun k hk hv => h k hv hk

theorem Apart.nil (u : Value) : Apart (.slice none 0 0) u := fun k hk => by cases hk

theorem Apart.fresh {w : World} {v v' u : Value} {B : Nat} {e : TypeId} {size n : Nat} {xs : List Value} (h : Apart v u) (hu : w.ownsRow B e size u n xs) (hf : v'.ownBlock = v.ownBlock ∨ ∀ k, v'.ownBlock = some k → w.heap.size ≤ k) : Apart v' u := by
  intro k hk hu2
  rcases hf with e | e
  · rw [e] at hk; exact h k hk hu2
  · have h1 := e k hk
    have h2 := (hu.lt k hu2).2
    omega

theorem own_kept {w w' : World} {v u : Value} {B : Nat} {e : TypeId} {size n : Nat} {xs : List Value} (hu : w.ownsRow B e size u n xs) (hg : w.grownBy w' v.ownBlock) (h : Apart v u) : w'.ownsRow B e size u n xs := by
  refine hu.kept hg ?_
  cases hv : u.ownBlock with
  | none => exact .inl rfl
  | some k => exact .inr fun e => h k e.symm hv

theorem own_int {w : World} {B g cap : Nat} {l : List Int} {j : Nat} {x : Int} (h : w.ownsRow B 3 1 (.slice (some ⟨g, 0, none⟩) l.length cap) l.length (intCs l)) (hj : l[j]? = some x) : w.cell? ⟨g, j, none⟩ = some (.int .i64 x) ∧ w.frozen? ⟨g, j, none⟩ = false := by
  have hl : j < l.length := (List.getElem?_eq_some_iff.1 hj).1
  refine ⟨?_, h.frozenAt j⟩
  rw [h.cellAt j (by omega)]
  unfold intCs
  rw [List.getElem?_map, hj]
  rfl

theorem own_nat {w : World} {B g cap : Nat} {l : List Nat} {j x : Nat} (h : w.ownsRow B 3 1 (.slice (some ⟨g, 0, none⟩) l.length cap) l.length (natCs l)) (hj : l[j]? = some x) : w.cell? ⟨g, j, none⟩ = some (.int .i64 (x : Int)) ∧ w.frozen? ⟨g, j, none⟩ = false := by
  have hl : j < l.length := (List.getElem?_eq_some_iff.1 hj).1
  refine ⟨?_, h.frozenAt j⟩
  rw [h.cellAt j (by omega)]
  unfold natCs
  rw [List.getElem?_map, hj]
  rfl

/-- A slice that came in holds these numbers. -/
def ArgN (w : World) (a : Option Addr) (l : List Nat) : Prop := ∀ (i x : Nat), l[i]? = some x → ∃ b off, a = some ⟨b, off, none⟩ ∧ b < w.heap.size ∧ w.cell? ⟨b, off + i, none⟩ = some (.int .i64 (x : Int))

theorem ArgN.below {w w' : World} {a : Option Addr} {l : List Nat} (h : ArgN w a l) {B : Nat} (b : Below B w w') (hB : w.heap.size ≤ B) : ArgN w' a l := by
  intro i x hx
  obtain ⟨b0, off, h1, h2, h3⟩ := h i x hx
  exact ⟨b0, off, h1, Nat.lt_of_lt_of_le h2 b.size, by rw [b.cell (p := ⟨b0, off + i, none⟩) (Nat.lt_of_lt_of_le h2 hB)]; exact h3⟩

theorem size_setCell (w : World) (a : Addr) (v : Value) : (w.setCell a v).heap.size = w.heap.size := by simp [World.setCell]

theorem size_alloc_le {w : World} {o : Obj} {B : Nat} (h : B ≤ w.heap.size) : B ≤ (w.alloc o).heap.size := by
  show B ≤ (w.heap.push o).size
  simp
  omega

theorem Below.grownB {B : Nat} {a w w' : World} {v : Value} {e : TypeId} {size n : Nat} {xs : List Value} (h : Below B a w) (hg : w.grownBy w' v.ownBlock) (ho : w.ownsRow B e size v n xs) (hB : B ≤ w.heap.size) : Below B a w' :=
  h.grown hg hB fun k hk => (ho.lt k hk).1

theorem meas_oneW (j n : Nat) (h : j < n) : n - (intOf (.int .i64 ((j : Int) + 1))).toNat < n - (intOf (.int .i64 (j : Int))).toNat := by
  show n - ((j : Int) + 1).toNat < n - ((j : Nat) : Int).toNat
  omega

theorem len_form {w : World} {B : Nat} {e : TypeId} {size : Nat} {v : Value} {n : Nat} {xs : List Value} (h : w.ownsRow B e size v n xs) : (v = .slice none 0 0 ∧ n = 0) ∨ ∃ g cap, v = .slice (some ⟨g, 0, none⟩) n cap := by
  rcases h.2 with h | ⟨g, cap, _, h, _⟩
  · exact .inl h
  · exact .inr ⟨g, cap, h⟩

theorem own_ne {w : World} {B : Nat} {e : TypeId} {size n : Nat} {v : Value} {xs : List Value} (h : w.ownsRow B e size v n xs) {p : Nat} (hp : w.heap.size ≤ p) : v.ownBlock ≠ some p := by
  intro e
  have := (h.lt p e).2
  omega

theorem getD_some (l : List Nat) (i : Nat) (h : i < l.length) : l[i]? = some (l.getD i 0) := by
  rw [List.getD_eq_getElem?_getD, List.getElem?_eq_getElem h]
  rfl

theorem own_slice {w : World} {B : Nat} {e : TypeId} {size : Nat} {v : Value} {n : Nat} {xs : List Value} (h : w.ownsRow B e size v n xs) (hn : 0 < n) : ∃ g cap, v = .slice (some ⟨g, 0, none⟩) n cap := by
  rcases len_form h with ⟨_, h0⟩ | h0
  · omega
  · exact h0

theorem own_cap {w : World} {B g cap : Nat} {e : TypeId} {size n : Nat} {xs : List Value} (h : w.ownsRow B e size (.slice (some ⟨g, 0, none⟩) n cap) n xs) : n ≤ cap := by
  rcases h.2 with ⟨h', _⟩ | ⟨g', cap', cur, h', _, _, hn, _⟩
  · simp at h'
  · simp only [Value.slice.injEq, Option.some.injEq, Addr.mk.injEq, and_true, true_and] at h'
    obtain ⟨rfl, rfl⟩ := h'
    exact hn

theorem own_below {w w' : World} {B N : Nat} {e : TypeId} {size n : Nat} {v : Value} {xs : List Value} (h : w.ownsRow B e size v n xs) (b : Below N w w') (hN : w.heap.size ≤ N) : w'.ownsRow B e size v n xs := by
  refine ⟨h.1, ?_⟩
  rcases h.2 with h2 | ⟨g, cap, cur, hv, hb, hg, r⟩
  · exact .inl h2
  · have hgl : g < w.heap.size := (Array.getElem?_eq_some_iff.1 hg).1
    exact .inr ⟨g, cap, cur, hv, hb, by rw [b.block g (Nat.lt_of_lt_of_le hgl hN)]; exact hg, r⟩

theorem apart_new {w : World} {B : Nat} {e : TypeId} {size n : Nat} {v u : Value} {xs : List Value} (h : w.ownsRow B e size u n xs) (hv : ∀ k, v.ownBlock = some k → w.heap.size ≤ k) : Apart v u := by
  intro k hk hu
  have h1 := hv k hk
  have h2 := (h.lt k hu).2
  omega

theorem natCs_one (l : List Nat) : ∀ u ∈ natCs l, u.oneCell' = true := by
  intro u hu
  obtain ⟨n, _, rfl⟩ := List.mem_map.1 hu
  rfl

theorem natCs_len (l : List Nat) : (natCs l).length = l.length := by simp [natCs]

theorem natCs_append (a b : List Nat) : natCs a ++ natCs b = natCs (a ++ b) := by simp [natCs]

theorem take_snocW (l : List Nat) (k x : Nat) (h : l[k]? = some x) : l.take (k + 1) = l.take k ++ [x] := by
  rw [List.take_add_one, h]
  rfl

theorem cell_one_at (w : World) (x : Value) {n : Nat} (hn : w.heap.size = n) (t : TypeId) (_u : Unit) : ∀ j u, [x][j]? = some u → (w.alloc (.cells #[x] t)).cell? ((⟨n, 0, none⟩ : Addr).add j) = some u := by
  subst hn
  exact cell_one_new w x t

theorem cell_two_new (w : World) (x y : Value) (t : TypeId) : ∀ j u, [x, y][j]? = some u → (w.alloc (.cells #[x, y] t)).cell? ((⟨w.heap.size, 0, none⟩ : Addr).add j) = some u := by
  intro j u hj
  have hadd : (⟨w.heap.size, 0, none⟩ : Addr).add j = ⟨w.heap.size, j, none⟩ := by unfold Addr.add; split <;> simp_all
  have hh : (w.alloc (.cells #[x, y] t)).heap[w.heap.size]? = some (.cells #[x, y] t (0, 0)) := by show (w.heap.push _)[w.heap.size]? = _; simp
  rw [hadd, cell_of_row _ _ j _ _ (0, 0) hh]
  simpa using hj

theorem heap_alloc_old (w : World) (o : Obj) (i : Nat) (hi : i < w.heap.size) : (w.alloc o).heap[i]? = w.heap[i]? := by
  show (w.heap.push o)[i]? = _
  rw [Array.getElem?_push, if_neg (by omega)]

theorem wp_append_fresh {P : Program} {o : Oper} {a : Act} {w : World} {K : Act → World → Prop} {Q : Exit → Act → World → Prop} (s x : Operand) (t : TypeId)
    (ho : o.op = .call { callee := .builtin .append, args := #[s, x], argTypes := #[t, t] })
    (base : Nat) (e : TypeId) (i : TypeInfo) (z : Value) (size bytes : Nat) (ht : P.underlying t = some (.slice e)) (hi : P.info? e = some i) (hz : i.zero = some z)
    (hsize : i.size = size) (hby : i.bytes = bytes) (hzs : z.cells.size = size) (hsz : 0 < size)
    (v : Value) (n : Nat) (xs : List Value) (hs : a.eval s = v) (hown : w.ownsRow base e size v n xs)
    (ad : Addr) (m c : Nat) (news : List Value) (hx : a.eval x = .slice (some ad) m c) (hl : news.length = m * size) (hnews : ∀ j u, news[j]? = some u → w.cell? (ad.add j) = some u) (h1 : ∀ u ∈ news, u.oneCell' = true)
    (h63 : n + m ≤ maxLen) (hbytes : (n + m) * bytes ≤ 140737488355328) (hbase : base ≤ w.heap.size)
    (h : ∀ v' w', w'.ownsRow base e size v' (n + m) (xs ++ news) → w.grownBy w' v.ownBlock → (v'.ownBlock = v.ownBlock ∨ ∀ k, v'.ownBlock = some k → w.heap.size ≤ k) → K (a.put o.dst v') w') : o.wp P a w K Q := by
  obtain ⟨v', w', hr, h2, h3, h4⟩ := run_append_fresh (P := P) w base t o.type e i z size bytes ht hi hz hsize hby hzs hsz v n xs hown ad m c news hl hnews h1 h63 hbytes hbase
  unfold Oper.wp execOp
  simp only [ho, resolve, invoke, builtin, Sem.run_bind, Sem.run_pure, Result.andThen_ok, List.map_toArray, List.map_cons, List.map_nil, hs, hx, hr]
  exact h v' w' h2 h3 h4

/-- A slice that came in holds these numbers. -/
def ArgZ (w : World) (a : Option Addr) (l : List Int) : Prop := ∀ (i : Nat) (x : Int), l[i]? = some x → ∃ b off, a = some ⟨b, off, none⟩ ∧ b < w.heap.size ∧ w.cell? ⟨b, off + i, none⟩ = some (.int .i64 x)

theorem mem_of_get {l : List Int} {j : Nat} {x : Int} (h : l[j]? = some x) : x ∈ l := List.mem_of_getElem? h

theorem ArgZ.below {w w' : World} {a : Option Addr} {l : List Int} (h : ArgZ w a l) (b : Below w.heap.size w w') : ArgZ w' a l := by
  intro i x hx
  obtain ⟨b0, off, h1, h2, h3⟩ := h i x hx
  exact ⟨b0, off, h1, Nat.lt_of_lt_of_le h2 b.size, by rw [b.cell (p := ⟨b0, off + i, none⟩) h2]; exact h3⟩

theorem own_arg {w : World} {B n c : Nat} {a : Option Addr} {l : List Nat} (h : w.ownsRow B 3 1 (.slice a n c) n (natCs l)) (hl : l.length = n) : ArgN w a l := by
  intro i x hx
  have hi : i < l.length := (List.getElem?_eq_some_iff.1 hx).1
  obtain ⟨g, cap, e⟩ := own_slice h (by omega)
  injection e with e1 e2 e3
  subst e1
  subst e3
  subst hl
  exact ⟨g, 0, rfl, (h.lt g rfl).2, by rw [Nat.zero_add]; exact (own_nat h hx).1⟩

theorem wrap_one (z : Nat) (h : z ≤ 1099511627776) : wrap64 ((z : Int) + 1) = (z : Int) + 1 ∧ IntKind.i64.wrap ((z : Int) + 1) = (z : Int) + 1 := by
  constructor
  · unfold wrap64; omega
  · rw [IntKind.wrap_i64]; omega

theorem own_set {w : World} {B g c : Nat} {l : List Nat} {n : Nat} (h : w.ownsRow B 3 1 (.slice (some ⟨g, 0, none⟩) n c) n (natCs l)) (j x : Nat) : (w.setCell ⟨g, j, none⟩ (.int .i64 (x : Int))).ownsRow B 3 1 (.slice (some ⟨g, 0, none⟩) n c) n (natCs (l.set j x)) := by
  have e : (natCs l).set j (.int .i64 (x : Int)) = natCs (l.set j x) := by unfold natCs; rw [List.map_set]
  rw [← e]
  exact (h.stored j (.int .i64 (x : Int))).1

theorem empty_arg {w : World} {l : List Int} (h : ArgZ w none l) : l = [] := by
  cases l with
  | nil => rfl
  | cons x l =>
    obtain ⟨_, _, e, _⟩ := h 0 x rfl
    cases e

theorem getZ (l : List Int) (i : Nat) (h : i < l.length) : l[i]? = some (l.getD i 0) := by
  rw [List.getD_eq_getElem?_getD, List.getElem?_eq_getElem h]
  rfl

theorem below_drewN {B : Nat} {a w : World} (h : Below B a w) (n : Nat) : Below B a (w.drewN n) := ⟨h.os, h.tape, h.output, h.size, h.block⟩

/-- What f says of the first j, 0 of the others. -/
def fillTo (f : Nat → Nat) (n j : Nat) : List Nat := (List.range n).map fun i => if i < j then f i else 0

theorem fillTo_length (f : Nat → Nat) (n j : Nat) : (fillTo f n j).length = n := by simp [fillTo]

theorem fillTo_get (f : Nat → Nat) (n j i : Nat) (h : i < n) : (fillTo f n j)[i]? = some (if i < j then f i else 0) := by
  unfold fillTo
  rw [List.getElem?_map, List.getElem?_range h]
  rfl

theorem fillTo_zero (f : Nat → Nat) (n : Nat) : natCs (fillTo f n 0) = List.replicate n (.int .i64 0) := by
  apply List.eq_replicate_iff.2
  refine ⟨by simp [natCs, fillTo], fun b hb => ?_⟩
  obtain ⟨n, hn, rfl⟩ := List.mem_map.1 hb
  obtain ⟨i, _, rfl⟩ := List.mem_map.1 hn
  simp

theorem fillTo_set (f : Nat → Nat) (n j : Nat) (h : j < n) : (fillTo f n j).set j (f j) = fillTo f n (j + 1) := by
  apply List.ext_getElem?
  intro i
  by_cases hi : i < n
  · rw [List.getElem?_set, fillTo_get f n (j + 1) i hi]
    by_cases e : j = i
    · subst e
      rw [if_pos rfl, if_pos (by rw [fillTo_length]; exact h), if_pos (by omega)]
    · rw [if_neg e, fillTo_get f n j i hi]
      by_cases h2 : i < j
      · rw [if_pos h2, if_pos (by omega)]
      · rw [if_neg h2, if_neg (by omega)]
  · rw [List.getElem?_eq_none (by rw [List.length_set, fillTo_length]; omega), List.getElem?_eq_none (by rw [fillTo_length]; omega)]

theorem own_made (w : World) (f : Nat → Nat) (n : Nat) (hn : n ≤ 1000) : (w.alloc (.cells (madeCells #[.int .i64 0] n) 3)).ownsRow w.heap.size 3 1 (.slice (some ⟨w.heap.size, 0, none⟩) n n) n (natCs (fillTo f n 0)) := by
  have ho := World.ownsRow_lit (e := 3) (size := 1) w (madeCells #[.int .i64 0] n) n (Nat.le_refl _) (by unfold maxLen; omega) (by rw [size_madeCells]; omega)
  rw [toList_madeCells_one, ← fillTo_zero f] at ho
  exact ho

theorem one_int (x : Int) : ∀ u ∈ [Value.int .i64 x], u.oneCell' = true := by
  intro u hu
  rw [List.mem_singleton.1 hu]
  rfl

theorem own_made0 (w : World) (n : Nat) (hn : n ≤ 1024) : (w.alloc (.cells (madeCells #[.int .i64 0] n) 3)).ownsRow w.heap.size 3 1 (.slice (some ⟨w.heap.size, 0, none⟩) n n) n (natCs (List.replicate n 0)) := by
  have ho := World.ownsRow_lit (e := 3) (size := 1) w (madeCells #[.int .i64 0] n) n (Nat.le_refl _) (by unfold maxLen; omega) (by rw [size_madeCells]; omega)
  rw [toList_madeCells_one] at ho
  have e : natCs (List.replicate n 0) = List.replicate n (Value.int .i64 0) := by unfold natCs; rw [List.map_replicate]; rfl
  rw [e]
  exact ho

theorem arg_form {w : World} {B n : Nat} {v : Value} {l : List Nat} (h : w.ownsRow B 3 1 v n (natCs l)) (hl : l.length = n) : ∃ a c, v = .slice a n c ∧ ArgN w a l := by
  rcases len_form h with ⟨e1, e2⟩ | ⟨g, c, e1⟩
  · subst e2
    exact ⟨none, 0, e1, own_arg (c := 0) (by rw [e1] at h; exact h) hl⟩
  · rw [e1] at h
    exact ⟨_, c, e1, own_arg h hl⟩

theorem ArgN.only {w w' : World} {a : Option Addr} {l : List Nat} {L : Nat} (h : ArgN w a l) (o : Only L w w') (hne : ∀ b off, a = some ⟨b, off, none⟩ → b ≠ L) : ArgN w' a l := by
  intro i x hx
  obtain ⟨b, off, h1, h2, h3⟩ := h i x hx
  refine ⟨b, off, h1, by rw [o.size]; exact h2, ?_⟩
  rw [World.cell?_of_block (a := ⟨b, off + i, none⟩) (o.block b (hne b off h1))]
  exact h3

theorem lit_arg (w : World) (l : List Int) : ArgZ (w.alloc (.cells (intCs l).toArray 3)) (some ⟨w.heap.size, 0, none⟩) l := by
  intro i x hx
  refine ⟨w.heap.size, 0, rfl, by show _ < (w.heap.push _).size; simp, ?_⟩
  have hh : (w.alloc (.cells (intCs l).toArray 3)).heap[w.heap.size]? = some (.cells (intCs l).toArray 3 (0, 0)) := by show (w.heap.push _)[w.heap.size]? = _; simp
  rw [Nat.zero_add, cell_of_row _ _ i _ _ (0, 0) hh, List.getElem?_toArray]
  unfold intCs
  rw [List.getElem?_map, hx]
  rfl

theorem own_argZ {w : World} {B n c : Nat} {a : Option Addr} {out : List Nat} (h : w.ownsRow B 3 1 (.slice a n c) n (natCs out)) (hl : out.length = n) : ArgZ w a (out.map fun (x : Nat) => (x : Int)) := by
  intro i x hx
  rw [List.getElem?_map] at hx
  cases hy : out[i]? with
  | none => rw [hy] at hx; cases hx
  | some y =>
    rw [hy] at hx
    injection hx with hx
    subst hx
    exact own_arg h hl i y hy

theorem Tryz.cellsZ : Tryz.prog.cellsOf 3 = 1 := by kernel_rfl

theorem add_noneW (b off j : Nat) : (⟨b, off, none⟩ : Addr).add j = ⟨b, off + j, none⟩ := by
  unfold Addr.add
  split
  · rename_i h; subst h; rfl
  · rfl

set_option maxRecDepth 20000 in
theorem open_argZ {H : Type} {enc : TypeId × Value → H} {w : World} {d : DataW H} {p : List MemPlace} {v : Value} {base : Nat} (hv : Value.okWide Tryz.prog w .any base 63 v) (h : DataW.Trod enc Tryz.prog w 0 (fun _ => true) true 63 v d p) :
    ∃ a cap l, v = .slice a (l : List Int).length cap ∧ ArgZ w a l ∧ (a = none → cap = 0) ∧ (∀ x ∈ l, -9223372036854775808 ≤ x ∧ x ≤ 9223372036854775807) := by
  obtain ⟨a, len, cap, rfl⟩ := WideShapes.okWide_slice Tryz.underlying63 hv
  refine ⟨a, cap, ?_⟩
  obtain ⟨fuel, hf⟩ := h
  rcases open_slice Tryz.underlying63 hf with ⟨hcs, _⟩ | ⟨x, l, c, m, n, D, Pl, hcs, _, hl, hm, hmm, _, hall⟩
  · simp [Value.cells] at hcs
    obtain ⟨rfl, rfl, rfl⟩ := hcs
    exact ⟨[], rfl, (fun i x hx => (by simp at hx)), (fun _ => rfl), (fun x hx => (by cases hx))⟩
  · simp [Value.cells] at hcs
    obtain ⟨rfl, rfl, rfl⟩ := hcs
    have hlm : len ≤ m := by rw [hmm]; simp; exact hl
    have hsp : 0 < len → x.spot = none := by
      intro h0
      obtain ⟨cs, hc, _⟩ := hall 0 (by omega)
      rw [Tryz.cellsZ] at hc
      obtain ⟨_, hcl, hcc⟩ := World.cells?_some hc
      have g := hcc 0 (by omega)
      match cs, hcl with
      | c0 :: _, _ => exact World.cell?_spot (by simpa [Addr.add] using g)
    have one : ∀ i, i < len → ∃ y : Int, ∃ b off, x = ⟨b, off, none⟩ ∧ b < w.heap.size ∧ w.cell? ⟨b, off + i, none⟩ = some (.int .i64 y) ∧ (Lit.int .i64 y).wf = true := by
      intro i hi
      have hsp := hsp (by omega)
      obtain ⟨b, off, spot⟩ := x
      simp only at hsp
      subst hsp
      obtain ⟨cs, hc, ht⟩ := hall i (by omega)
      rw [Tryz.cellsZ] at hc
      obtain ⟨_, hcl, hcc⟩ := World.cells?_some hc
      match cs, hcl with
      | [c0], _ =>
        obtain ⟨k0, e0, _, f0⟩ := DataW.trod_int Tryz.underlying3 ht
        simp only [List.cons.injEq, and_true] at e0
        subst e0
        have g0 := hcc 0 (by omega)
        simp only [add_noneW] at g0
        rw [Nat.mul_one] at g0
        exact ⟨k0, b, off, rfl, World.block_lt_of_cell? w _ (g0.trans rfl), g0, f0⟩
    obtain ⟨f, hf2⟩ := @choose_lt (Int) ⟨0⟩ _ _ one
    refine ⟨(List.range len).map f, by simp, fun i y hy => ?_, (fun e => (by cases e)), fun y hy => ?_⟩
    · rw [List.getElem?_map] at hy
      by_cases hi : i < len
      · rw [List.getElem?_range hi] at hy
        simp at hy
        subst hy
        obtain ⟨b, off, e, r⟩ := hf2 i hi
        exact ⟨b, off, by rw [e], r.1, r.2.1⟩
      · rw [List.getElem?_eq_none (by simpa using hi)] at hy
        simp at hy
    · obtain ⟨i, hi, rfl⟩ := List.mem_map.1 hy
      obtain ⟨b, off, e, r⟩ := hf2 i (List.mem_range.1 hi)
      have := bounds_i64 r.2.2
      omega

end Go.Proofs.YtaalbaiglkadlaaGreat
