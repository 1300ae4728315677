/- Contracts of the document's layer 9: Plain. -/
import Derived.Test.YtpgkmbakohfpkaaBMath
import Derived.BigRegion
namespace Go.Proofs.Ytpgkmbakohfpkaa
open Go.RowKit Go.Lib

theorem ArgN.toZ {w : World} {a : Option Addr} {l : List Nat} (h : ArgN w a l) : ArgZ w a (l.map fun (x : Nat) => (x : Int)) := by
  intro i x hx
  rw [List.getElem?_map] at hx
  cases hy : l[i]? with
  | none => rw [hy] at hx; cases hx
  | some y =>
    rw [hy] at hx
    injection hx with hx
    subst hx
    exact h i y hy

/-- Two rows of numbers come back. -/
def TwoN (W : World) (x y : List Nat) (e : Ending) (w' : World) : Prop := ∃ a c b d, e = .returned (.tuple #[.slice a x.length c, .slice b y.length d]) ∧ ArgN w' a x ∧ ArgN w' b y ∧ (a = none → c = 0) ∧ (b = none → d = 0) ∧ Below W.heap.size W w'

/-- The same, and both are new. -/
def NewA (W : World) (a : Option Addr) : Prop := ∀ b off, a = some ⟨b, off, none⟩ → W.heap.size ≤ b
def TwoNew (W : World) (x y : List Nat) (e : Ending) (w' : World) : Prop := ∃ a c b d, e = .returned (.tuple #[.slice a x.length c, .slice b y.length d]) ∧ ArgN w' a x ∧ ArgN w' b y ∧ (a = none → c = 0) ∧ (b = none → d = 0) ∧ Below W.heap.size W w' ∧ NewA W a ∧ NewA W b
theorem TwoNew.two {W : World} {x y : List Nat} {e : Ending} {w' : World} (h : TwoNew W x y e w') : TwoN W x y e w' := by
  obtain ⟨a, c, b, d, h1, h2, h3, h4, h5, h6, _⟩ := h
  exact ⟨a, c, b, d, h1, h2, h3, h4, h5, h6⟩

/-- The fixed codes' lengths. -/
def plainF (i : Nat) : Nat := if i < 144 then 8 else if i < 256 then 9 else if i < 280 then 7 else 8
def plainL : List Nat := (List.range 288).map plainF
def plainD : List Nat := (List.range 32).map fun _ => 5

theorem make_int (n : Nat) (hn : n ≤ 1000) (w : World) : (Instr.makeSlice 62 (.int .i64 (n : Int)) (.int .i64 (n : Int))).run Try.prog w = .ok (.slice (some ⟨w.heap.size, 0, none⟩) n n) (w.alloc (.cells (madeCells #[.int .i64 0] n) 3)) :=
  run_make_row' (P := Try.prog) 62 3 (.int .i64 0) 8 Try.underlying62 Try.infoInt rfl .i64 .i64 n (by omega) (by omega) w

theorem own_other {w : World} {B p o : Nat} {e : TypeId} {size n : Nat} {v u : Value} {xs : List Value} (h : w.ownsRow B e size v n xs) (hp : v.ownBlock ≠ some p) : (w.setCell ⟨p, o, none⟩ u).ownsRow B e size v n xs := by
  refine ⟨h.1, ?_⟩
  rcases h.2 with h2 | ⟨g, cap, cur, hv, hg, hh, r⟩
  · exact .inl h2
  · refine .inr ⟨g, cap, cur, hv, hg, ?_, r⟩
    rw [Below.heap_setCell _ _ _ _ (fun e => hp (by rw [hv, show g = p from e]; rfl))]
    exact hh

/-- Two new rows of numbers, side by side. -/
structure TwoRows (w W : World) (P1 P2 n m : Nat) (x y : List Nat) : Prop where
  o1 : w.ownsRow W.heap.size 3 1 (.slice (some ⟨P1, 0, none⟩) n n) n (natCs x)
  o2 : w.ownsRow W.heap.size 3 1 (.slice (some ⟨P2, 0, none⟩) m m) m (natCs y)
  ne : P1 ≠ P2
  bel : Below W.heap.size W w

section
variable {w w' W : World} {P1 P2 n m : Nat} {x y : List Nat}
theorem TwoRows.lo1 (h : TwoRows w W P1 P2 n m x y) : W.heap.size ≤ P1 := (h.o1.lt P1 rfl).1
theorem TwoRows.lo2 (h : TwoRows w W P1 P2 n m x y) : W.heap.size ≤ P2 := (h.o2.lt P2 rfl).1
theorem TwoRows.set1 (h : TwoRows w W P1 P2 n m x y) (j z : Nat) : TwoRows (w.setCell ⟨P1, j, none⟩ (.int .i64 (z : Int))) W P1 P2 n m (x.set j z) y :=
  ⟨own_set h.o1 j z, own_other h.o2 (fun e => h.ne (by injection e with e; exact e.symm)), h.ne, h.bel.setCell (p := ⟨P1, j, none⟩) h.lo1 _⟩
theorem TwoRows.set2 (h : TwoRows w W P1 P2 n m x y) (j z : Nat) : TwoRows (w.setCell ⟨P2, j, none⟩ (.int .i64 (z : Int))) W P1 P2 n m x (y.set j z) :=
  ⟨own_other h.o1 (fun e => h.ne (by injection e with e)), own_set h.o2 j z, h.ne, h.bel.setCell (p := ⟨P2, j, none⟩) h.lo2 _⟩
theorem TwoRows.below (h : TwoRows w W P1 P2 n m x y) (b : Below w.heap.size w w') : TwoRows w' W P1 P2 n m x y :=
  ⟨own_below h.o1 b (Nat.le_refl _), own_below h.o2 b (Nat.le_refl _), h.ne, h.bel.trans (b.mono h.bel.size)⟩
theorem TwoRows.c1 (h : TwoRows w W P1 P2 n m x y) (hx : x.length = n) {j z : Nat} (hj : x[j]? = some z) : w.cell? ⟨P1, j, none⟩ = some (.int .i64 (z : Int)) ∧ w.frozen? ⟨P1, j, none⟩ = false := by
  subst hx
  exact own_nat h.o1 hj
theorem TwoRows.c2 (h : TwoRows w W P1 P2 n m x y) (hy : y.length = m) {j z : Nat} (hj : y[j]? = some z) : w.cell? ⟨P2, j, none⟩ = some (.int .i64 (z : Int)) ∧ w.frozen? ⟨P2, j, none⟩ = false := by
  subst hy
  exact own_nat h.o2 hj
theorem TwoRows.done (h : TwoRows w W P1 P2 n m x y) (hx : x.length = n) (hy : y.length = m) : TwoNew W x y (.returned (.tuple #[.slice (some ⟨P1, 0, none⟩) n n, .slice (some ⟨P2, 0, none⟩) m m])) w :=
  ⟨_, n, _, m, by rw [hx, hy], own_arg h.o1 hx, own_arg h.o2 hy, (fun e => by cases e), (fun e => by cases e), h.bel, (fun b off e => by injection e with e; injection e with e; have := h.lo1; omega), (fun b off e => by injection e with e; injection e with e; have := h.lo2; omega)⟩
theorem TwoRows.made (W : World) (n m : Nat) (hn : n ≤ 1000) (hm : m ≤ 1000) : TwoRows (((W.alloc (.cells (madeCells #[.int .i64 0] n) 3)).alloc (.cells (madeCells #[.int .i64 0] m) 3)).drew) W W.heap.size (W.heap.size + 1) n m (List.replicate n 0) (List.replicate m 0) := by
  have h1 := own_made0 W n (by omega)
  have h2 := own_made0 (W.alloc (.cells (madeCells #[.int .i64 0] n) 3)) m (by omega)
  have hs : (W.alloc (.cells (madeCells #[.int .i64 0] n) 3)).heap.size = W.heap.size + 1 := by simp
  rw [hs] at h2
  exact ⟨h1.alloc _, ownsRow_base h2 (by omega), by omega, (((Below.refl _ _).alloc (Nat.le_refl _) _).alloc (size_alloc_le (Nat.le_refl _)) _).drew⟩
theorem TwoRows.made' (W : World) (n m : Nat) (hn : n ≤ 1000) (hm : m ≤ 1000) : TwoRows (((W.alloc (.cells (madeCells #[.int .i64 0] m) 3)).alloc (.cells (madeCells #[.int .i64 0] n) 3)).drew) W (W.heap.size + 1) W.heap.size n m (List.replicate n 0) (List.replicate m 0) := by
  have h := TwoRows.made W m n hm hn
  exact ⟨h.o2, h.o1, h.ne.symm, h.bel⟩
end

theorem fill_end (f : Nat → Nat) (n : Nat) : fillTo f n n = (List.range n).map f := by
  unfold fillTo
  apply List.map_congr_left
  intro i hi
  rw [if_pos (List.mem_range.1 hi)]
theorem fill_begin (f : Nat → Nat) (n : Nat) : fillTo f n 0 = List.replicate n 0 := by
  apply List.eq_replicate_iff.2
  refine ⟨by simp [fillTo], fun b hb => ?_⟩
  obtain ⟨i, _, rfl⟩ := List.mem_map.1 hb
  rfl

end Go.Proofs.Ytpgkmbakohfpkaa
