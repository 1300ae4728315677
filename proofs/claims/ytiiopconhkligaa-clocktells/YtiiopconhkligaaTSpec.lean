/- Layer 13 (clock): what the code's four functions answer. -/
import Derived.Test.YtiiopconhkligaaTMath
import Derived.Test.YtiiopconhkligaaRows
import Derived.BigQuiet
import Derived.Test.YtiiopconhkligaaQBelow
namespace Go.Proofs.Ytiiopconhkligaa
open Go.RowKit

/-- A moment as a value. -/
def tmV (t : Tm) : Value := .agg #[.int .i64 t.y, .int .i64 t.mo, .int .i64 t.d, .int .i64 t.h, .int .i64 t.mi, .int .i64 t.s]
def I64 (x : Int) : Prop := -9223372036854775808 ≤ x ∧ x ≤ 9223372036854775807
def TIn (t : Tm) : Prop := I64 t.y ∧ I64 t.mo ∧ I64 t.d ∧ I64 t.h ∧ I64 t.mi ∧ I64 t.s

structure TSpec : Prop where
  days : ∀ (y m : Int) (W : World), I64 y → I64 m → Calls Try.prog 15 #[.int .i64 y, .int .i64 m] W fun e w' => e = .returned (.int .i64 (daysI y m)) ∧ Below W.heap.size W w'
  right : ∀ (t : Tm) (W : World), TIn t → Calls Try.prog 13 #[tmV t] W fun e w' => e = .returned (.bool (rightT t)) ∧ Below W.heap.size W w'
  pack : ∀ (t : Tm) (W : World), TIn t → Calls Try.prog 8 #[tmV t] W fun e w' => e = .returned (.tuple #[.int .i64 (if rightT t = true then dateT t else 0), .int .i64 (if rightT t = true then clockT t else 0), .bool (rightT t)]) ∧ Below W.heap.size W w'
  opens : ∀ (d c : Int) (W : World), I64 d → I64 c → Calls Try.prog 10 #[.int .i64 d, .int .i64 c] W fun e w' => e = .returned (.tuple #[tmV (if okO d c = true then openT d c else zeroT), .bool (okO d c)]) ∧ Below W.heap.size W w'

/-- A box of a moment is never frozen, and reads as it was laid. -/
theorem frozen_box13 {w : World} {b : Nat} {cs : Array Value} {t : TypeId} (h : w.heap[b]? = some (.cells cs t (0, 0))) (o : Nat) : w.frozen? ⟨b, o, none⟩ = false := by simp [World.frozen?, h]
theorem box_cells {w1 : World} {k : Nat} {a0 a1 a2 a3 a4 a5 : Value} {B : Nat} (h0 : w1.heap[k]? = some (.cells #[a0, a1, a2, a3, a4, a5] B (0, 0))) :
    w1.cell? ⟨k, 0, none⟩ = some a0 ∧ w1.cell? ⟨k, 1, none⟩ = some a1 ∧ w1.cell? ⟨k, 2, none⟩ = some a2 ∧ w1.cell? ⟨k, 3, none⟩ = some a3 ∧ w1.cell? ⟨k, 4, none⟩ = some a4 ∧ w1.cell? ⟨k, 5, none⟩ = some a5 := by
  refine ⟨?_, ?_, ?_, ?_, ?_, ?_⟩
  · rw [cell_of_row _ _ 0 _ _ (0, 0) h0]; rfl
  · rw [cell_of_row _ _ 1 _ _ (0, 0) h0]; rfl
  · rw [cell_of_row _ _ 2 _ _ (0, 0) h0]; rfl
  · rw [cell_of_row _ _ 3 _ _ (0, 0) h0]; rfl
  · rw [cell_of_row _ _ 4 _ _ (0, 0) h0]; rfl
  · rw [cell_of_row _ _ 5 _ _ (0, 0) h0]; rfl
theorem set_six (w : World) (p : Nat) (a b c d e f x y z t u v : Value) (T : TypeId) (h : w.heap[p]? = some (.cells #[a, b, c, d, e, f] T (0, 0))) : ((((((w.setCell ⟨p, 0, none⟩ x).setCell ⟨p, 1, none⟩ y).setCell ⟨p, 2, none⟩ z).setCell ⟨p, 3, none⟩ t).setCell ⟨p, 4, none⟩ u).setCell ⟨p, 5, none⟩ v).heap[p]? = some (.cells #[x, y, z, t, u, v] T (0, 0)) := by
  simp [World.setCell, Array.getElem?_modify, h]
/-- A moment's box is read at the function's end. -/
theorem results_box13 {fn : Func} {T : TypeId} {i j : Tmp} (h : fn.results = #[.cell i T, .tmp j]) (tmps : Array Value) (P : Program) (w : World) (g : Nat) (cs : Array Value) {fs}
    (ht : tmps.getD i undef = .pointer (some ⟨g, 0, none⟩)) (hg : w.heap[g]? = some (.cells cs T (0, 0))) (hu : P.underlying T = some (.struct fs)) (hi : (P.info? T).map (·.size) = some cs.size) :
    (results fn tmps).run P w = .ok (.tuple #[.agg cs, tmps.getD j undef]) w := by
  have hl := run_loadVar_row (P := P) w g T T cs (0, 0) _ hg hu rfl hi
  have ha : (asAddr (tmps.getD i undef)).run P w = .ok ⟨g, 0, none⟩ w := by rw [ht]; rfl
  rw [Array.getD_eq_getD_getElem?] at ha
  simp [results, h, ha, hl]

theorem since_box {w0 : World} {k : Nat} {a0 a1 a2 a3 a4 a5 : Value} {B : Nat} (h : w0.heap[k]? = some (.cells #[a0, a1, a2, a3, a4, a5] B (0, 0))) (u : Since0 w0) :
    u.1.cell? ⟨k, 0, none⟩ = some a0 ∧ u.1.cell? ⟨k, 1, none⟩ = some a1 ∧ u.1.cell? ⟨k, 2, none⟩ = some a2 ∧ u.1.cell? ⟨k, 3, none⟩ = some a3 ∧ u.1.cell? ⟨k, 4, none⟩ = some a4 ∧ u.1.cell? ⟨k, 5, none⟩ = some a5 :=
  box_cells (by rw [u.2.block _ (Array.getElem?_eq_some_iff.1 h).1]; exact h)
theorem box_new (w : World) (a : Array Value) (B : Nat) : (w.alloc (.cells a B)).heap[w.heap.size]? = some (.cells a B (0, 0)) := by
  show (w.heap.push _)[w.heap.size]? = _
  simp
theorem box_kept {w0 w1 : World} {k : Nat} {o : Obj} (h : w0.heap[k]? = some o) (b : Below w0.heap.size w0 w1) : w1.heap[k]? = some o := by
  rw [b.block _ (Array.getElem?_eq_some_iff.1 h).1]
  exact h
theorem box_alloc {w0 : World} {k : Nat} {o : Obj} (h : w0.heap[k]? = some o) (x : Obj) : (w0.alloc x).heap[k]? = some o :=
  box_kept h ((Below.refl _ w0).alloc (Nat.le_refl _) x)
theorem box_lt {w0 : World} {k : Nat} {o : Obj} (h : w0.heap[k]? = some o) : k < w0.heap.size := (Array.getElem?_eq_some_iff.1 h).1

set_option maxRecDepth 20000 in
set_option maxHeartbeats 16000000 in
theorem awake13 (S : TSpec) (W : World) : Calls Try.prog 12 #[] W fun e w' => e = .returned (.bool true) ∧ Below W.heap.size W w' := by
  have HP := hide (fun w => show Calls Try.prog 8 #[.agg #[.int .i64 1980, .int .i64 1, .int .i64 1, .int .i64 1, .int .i64 2, .int .i64 4]] w fun e w' => e = .returned (.tuple #[.int .i64 33, .int .i64 2114, .bool true]) ∧ Below w.heap.size w w' from S.pack ⟨1980, 1, 1, 1, 2, 4⟩ w (by unfold TIn I64; decide))
  have HO1 := hide (fun w => show Calls Try.prog 10 #[.int .i64 33, .int .i64 0] w fun e w' => e = .returned (.tuple #[.agg #[.int .i64 1980, .int .i64 1, .int .i64 1, .int .i64 0, .int .i64 0, .int .i64 0], .bool true]) ∧ Below w.heap.size w w' from S.opens 33 0 w (by unfold I64; decide) (by unfold I64; decide))
  have HO2 := hide (fun w => show Calls Try.prog 10 #[.int .i64 0, .int .i64 0] w fun e w' => e = .returned (.tuple #[.agg #[.int .i64 0, .int .i64 0, .int .i64 0, .int .i64 0, .int .i64 0, .int .i64 0], .bool false]) ∧ Below w.heap.size w w' from S.opens 0 0 w (by unfold I64; decide) (by unfold I64; decide))
  have HD1 := hide (fun w => show Calls Try.prog 15 #[.int .i64 2000, .int .i64 2] w fun e w' => e = .returned (.int .i64 29) ∧ Below w.heap.size w w' from S.days 2000 2 w (by unfold I64; decide) (by unfold I64; decide))
  have HD2 := hide (fun w => show Calls Try.prog 15 #[.int .i64 2100, .int .i64 2] w fun e w' => e = .returned (.int .i64 28) ∧ Below w.heap.size w w' from S.days 2100 2 w (by unfold I64; decide) (by unfold I64; decide))
  have HR := hide (fun w => show Calls Try.prog 13 #[.agg #[.int .i64 1980, .int .i64 1, .int .i64 1, .int .i64 0, .int .i64 0, .int .i64 3]] w fun e w' => e = .returned (.bool false) ∧ Below w.heap.size w w' from S.right ⟨1980, 1, 1, 0, 0, 3⟩ w (by unfold TIn I64; decide))
  clear S
  go_enter Try.func12, Try.ntmps12
  go_wp2_with fail
  refine (HP.out _).mono ?_
  rintro e w1 ⟨rfl, b1⟩
  have B1 := hide b1
  clear b1
  go_wp2_with fail
  refine (HO1.out _).mono ?_
  rintro e w2 ⟨rfl, b2⟩
  have B2 := hide b2
  clear b2
  go_wp2_with fail
  refine (HO2.out _).mono ?_
  rintro e w3 ⟨rfl, b3⟩
  have h3 : w3.heap[w2.heap.size]? = some (.cells #[.int .i64 1980, .int .i64 1, .int .i64 1, .int .i64 0, .int .i64 0, .int .i64 0] 23 (0, 0)) := by
    rw [b3.block _ (by show w2.heap.size < (w2.heap.push _).size; simp)]
    show (w2.heap.push _)[w2.heap.size]? = _
    simp
  have hc := box_cells h3
  have hl : w2.heap.size < w3.heap.size := (Array.getElem?_eq_some_iff.1 h3).1
  obtain ⟨z0, z1, z2, z3, z4, z5⟩ := hc
  have B2' := hide ((Below.refl _ w2).alloc (Nat.le_refl _) (.cells #[.int .i64 1980, .int .i64 1, .int .i64 1, .int .i64 0, .int .i64 0, .int .i64 0] 23))
  have B3 := hide b3
  clear b3 h3
  have B3' := hide ((Below.refl _ w3).alloc (Nat.le_refl _) (.cells #[.int .i64 0, .int .i64 0, .int .i64 0, .int .i64 0, .int .i64 0, .int .i64 0] 23))
  go_wp2_with fail
  refine (HD1.out _).mono ?_
  rintro e w4 ⟨rfl, b4⟩
  have B4 := hide b4
  clear b4
  go_wp2_with fail
  refine (HD2.out _).mono ?_
  rintro e w5 ⟨rfl, b5⟩
  have B5 := hide b5
  clear b5
  go_wp2_with fail
  refine (HR.out _).mono ?_
  rintro e w6 ⟨rfl, b6⟩
  have B6 := hide b6
  clear b6
  go_wp2
  go_ret
  refine ⟨rfl, ?_⟩
  have b2 := B1.out.trans (B2.out.mono B1.out.size)
  have b2' := b2.trans (B2'.out.mono b2.size)
  have b3 := b2'.trans (B3.out.mono b2'.size)
  have b3' := b3.trans (B3'.out.mono b3.size)
  have b4 := b3'.trans (B4.out.mono b3'.size)
  have b5 := b4.trans (B5.out.mono b4.size)
  exact b5.trans (B6.out.mono b5.size)

end Go.Proofs.Ytiiopconhkligaa
