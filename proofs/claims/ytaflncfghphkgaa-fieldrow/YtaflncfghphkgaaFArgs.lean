/- Lists that came in, opened: of pairs of numbers, of numbers, of texts. -/
import Derived.Test.YtaflncfghphkgaaFAwake
import Derived.ProofKit
import Derived.OpenShut
import Derived.Deep.Slices
import Derived.Lib.SmallJoins
namespace Go.Proofs.Ytaflncfghphkgaa
open Go.RowKit Go.Lib Go.Deep

theorem Try.cellsI : Try.prog.cellsOf 3 = 1 := by kernel_rfl
theorem Try.cellsS : Try.prog.cellsOf 9 = 1 := by kernel_rfl
theorem Try.cellsP : Try.prog.cellsOf 31 = 2 := by kernel_rfl

theorem add_none (b off j : Nat) : (⟨b, off, none⟩ : Addr).add j = ⟨b, off + j, none⟩ := by
  unfold Addr.add
  split
  · rename_i h; subst h; rfl
  · rfl

/-- A slice that came in holds the elements l; each has what C says of its first cell's place. -/
structure RowAt {α : Type} (w : World) (C : World → Nat → Nat → α → Prop) (n : Nat) (a : Option Addr) (len : Nat) (l : List α) : Prop where
  lenEq : l.length = len
  lenMax : len ≤ maxLen
  cells : ∀ i x, l[i]? = some x → ∃ b off, a = some ⟨b, off, none⟩ ∧ b < w.heap.size ∧ C w b (off + i * n) x

def IntC (w : World) (b o : Nat) (x : Int) : Prop := w.cell? ⟨b, o, none⟩ = some (.int .i64 x) ∧ (Lit.int .i64 x).wf = true
def StrC (w : World) (b o : Nat) (x : ByteArray) : Prop := w.cell? ⟨b, o, none⟩ = some (.string x) ∧ x.size ≤ maxLen
def PairC (w : World) (b o : Nat) (x : Int × Int) : Prop := w.cell? ⟨b, o, none⟩ = some (.int .i64 x.1) ∧ w.cell? ⟨b, o + 1, none⟩ = some (.int .i64 x.2) ∧ (Lit.int .i64 x.1).wf = true ∧ (Lit.int .i64 x.2).wf = true

theorem open_pairs {H : Type} {enc : TypeId × Value → H} {w : World} {d : DataW H} {p : List MemPlace} {v : Value} {base : Nat} (hv : Value.okWide Try.prog w .any base 25 v) (h : DataW.Trod enc Try.prog w 0 (fun _ => true) true 25 v d p) :
    ∃ a len cap l, v = .slice a len cap ∧ RowAt w PairC 2 a len l := by
  obtain ⟨a, len, cap, rfl⟩ := WideShapes.okWide_slice Try.underlying25 hv
  refine ⟨a, len, cap, ?_⟩
  obtain ⟨fuel, hf⟩ := h
  rcases open_slice Try.underlying25 hf with ⟨hcs, _⟩ | ⟨x, l, c, m, n, D, Pl, hcs, _, hl, hm, hmm, _, hall⟩
  · simp [Value.cells] at hcs
    obtain ⟨rfl, rfl, rfl⟩ := hcs
    exact ⟨[], rfl, rfl, by decide, by simp⟩
  · simp [Value.cells] at hcs
    obtain ⟨rfl, rfl, rfl⟩ := hcs
    have hlm : len ≤ m := by rw [hmm]; simp; exact hl
    have hsp : 0 < len → x.spot = none := by
      intro h0
      obtain ⟨cs, hc, _⟩ := hall 0 (by omega)
      rw [Try.cellsP] at hc
      obtain ⟨_, hcl, hcc⟩ := World.cells?_some hc
      have g := hcc 0 (by omega)
      match cs, hcl with
      | c0 :: _, _ => exact World.cell?_spot (by simpa [Addr.add] using g)
    have one : ∀ i, i < len → ∃ y : Int × Int, ∃ b off, x = ⟨b, off, none⟩ ∧ b < w.heap.size ∧ PairC w b (off + i * 2) y := by
      intro i hi
      have hsp := hsp (by omega)
      obtain ⟨b, off, spot⟩ := x
      simp only at hsp
      subst hsp
      obtain ⟨cs, hc, ht⟩ := hall i (by omega)
      rw [Try.cellsP] at hc
      obtain ⟨_, hcl, hcc⟩ := World.cells?_some hc
      obtain ⟨xs, m2, _, _, _, hxl, hel⟩ := DataW.trod_array Try.underlying31 ht
      match cs, hcl, xs, hxl with
      | [c0, c1], _, [x0, x1], _ =>
        have h0 := hel 0 (by decide)
        have h1 := hel 1 (by decide)
        simp only [Try.cellsI, Nat.mul_one, List.drop_zero, List.drop_succ_cons, List.take_succ_cons, List.take_zero, List.getElem?_cons_zero, List.getElem?_cons_succ] at h0 h1
        obtain ⟨k0, e0, _, f0⟩ := DataW.trod_int Try.underlying3 h0
        obtain ⟨k1, e1, _, f1⟩ := DataW.trod_int Try.underlying3 h1
        simp only [List.cons.injEq, and_true] at e0 e1
        subst e0 e1
        have g0 := hcc 0 (by omega)
        have g1 := hcc 1 (by omega)
        simp only [add_none] at g0 g1
        exact ⟨(k0, k1), b, off, rfl, World.block_lt_of_cell? w _ (g0.trans rfl), g0, g1, f0, f1⟩
    obtain ⟨f, hf2⟩ := @choose_lt (Int × Int) ⟨(0, 0)⟩ _ _ one
    refine ⟨(List.range len).map f, rfl, by simp, by omega, fun i y hy => ?_⟩
    rw [List.getElem?_map] at hy
    by_cases hi : i < len
    · rw [List.getElem?_range hi] at hy
      simp at hy
      subst hy
      obtain ⟨b, off, e, r⟩ := hf2 i hi
      exact ⟨b, off, by rw [e], r⟩
    · rw [List.getElem?_eq_none (by simpa using hi)] at hy
      simp at hy

theorem open_ints {H : Type} {enc : TypeId × Value → H} {w : World} {d : DataW H} {p : List MemPlace} {v : Value} {base : Nat} (hv : Value.okWide Try.prog w .any base 34 v) (h : DataW.Trod enc Try.prog w 0 (fun _ => true) true 34 v d p) :
    ∃ a len cap l, v = .slice a len cap ∧ RowAt w IntC 1 a len l := by
  obtain ⟨a, len, cap, rfl⟩ := WideShapes.okWide_slice Try.underlying34 hv
  refine ⟨a, len, cap, ?_⟩
  obtain ⟨fuel, hf⟩ := h
  rcases open_slice Try.underlying34 hf with ⟨hcs, _⟩ | ⟨x, l, c, m, n, D, Pl, hcs, _, hl, hm, hmm, _, hall⟩
  · simp [Value.cells] at hcs
    obtain ⟨rfl, rfl, rfl⟩ := hcs
    exact ⟨[], rfl, rfl, by decide, by simp⟩
  · simp [Value.cells] at hcs
    obtain ⟨rfl, rfl, rfl⟩ := hcs
    have hlm : len ≤ m := by rw [hmm]; simp; exact hl
    have hsp : 0 < len → x.spot = none := by
      intro h0
      obtain ⟨cs, hc, _⟩ := hall 0 (by omega)
      rw [Try.cellsI] at hc
      obtain ⟨_, hcl, hcc⟩ := World.cells?_some hc
      have g := hcc 0 (by omega)
      match cs, hcl with
      | c0 :: _, _ => exact World.cell?_spot (by simpa [Addr.add] using g)
    have one : ∀ i, i < len → ∃ y : Int, ∃ b off, x = ⟨b, off, none⟩ ∧ b < w.heap.size ∧ IntC w b (off + i * 1) y := by
      intro i hi
      have hsp := hsp (by omega)
      obtain ⟨b, off, spot⟩ := x
      simp only at hsp
      subst hsp
      obtain ⟨cs, hc, ht⟩ := hall i (by omega)
      rw [Try.cellsI] at hc
      obtain ⟨_, hcl, hcc⟩ := World.cells?_some hc
      match cs, hcl with
      | [c0], _ =>
        obtain ⟨k0, e0, _, f0⟩ := DataW.trod_int Try.underlying3 ht
        simp only [List.cons.injEq, and_true] at e0
        subst e0
        have g0 := hcc 0 (by omega)
        simp only [add_none] at g0
        exact ⟨k0, b, off, rfl, World.block_lt_of_cell? w _ (g0.trans rfl), g0, f0⟩
    obtain ⟨f, hf2⟩ := @choose_lt (Int) ⟨0⟩ _ _ one
    refine ⟨(List.range len).map f, rfl, by simp, by omega, fun i y hy => ?_⟩
    rw [List.getElem?_map] at hy
    by_cases hi : i < len
    · rw [List.getElem?_range hi] at hy
      simp at hy
      subst hy
      obtain ⟨b, off, e, r⟩ := hf2 i hi
      exact ⟨b, off, by rw [e], r⟩
    · rw [List.getElem?_eq_none (by simpa using hi)] at hy
      simp at hy

theorem open_strs {H : Type} {enc : TypeId × Value → H} {w : World} {d : DataW H} {p : List MemPlace} {v : Value} {base : Nat} (hv : Value.okWide Try.prog w .any base 37 v) (h : DataW.Trod enc Try.prog w 0 (fun _ => true) true 37 v d p) :
    ∃ a len cap l, v = .slice a len cap ∧ RowAt w StrC 1 a len l := by
  obtain ⟨a, len, cap, rfl⟩ := WideShapes.okWide_slice Try.underlying37 hv
  refine ⟨a, len, cap, ?_⟩
  obtain ⟨fuel, hf⟩ := h
  rcases open_slice Try.underlying37 hf with ⟨hcs, _⟩ | ⟨x, l, c, m, n, D, Pl, hcs, _, hl, hm, hmm, _, hall⟩
  · simp [Value.cells] at hcs
    obtain ⟨rfl, rfl, rfl⟩ := hcs
    exact ⟨[], rfl, rfl, by decide, by simp⟩
  · simp [Value.cells] at hcs
    obtain ⟨rfl, rfl, rfl⟩ := hcs
    have hlm : len ≤ m := by rw [hmm]; simp; exact hl
    have hsp : 0 < len → x.spot = none := by
      intro h0
      obtain ⟨cs, hc, _⟩ := hall 0 (by omega)
      rw [Try.cellsS] at hc
      obtain ⟨_, hcl, hcc⟩ := World.cells?_some hc
      have g := hcc 0 (by omega)
      match cs, hcl with
      | c0 :: _, _ => exact World.cell?_spot (by simpa [Addr.add] using g)
    have one : ∀ i, i < len → ∃ y : ByteArray, ∃ b off, x = ⟨b, off, none⟩ ∧ b < w.heap.size ∧ StrC w b (off + i * 1) y := by
      intro i hi
      have hsp := hsp (by omega)
      obtain ⟨b, off, spot⟩ := x
      simp only at hsp
      subst hsp
      obtain ⟨cs, hc, ht⟩ := hall i (by omega)
      rw [Try.cellsS] at hc
      obtain ⟨_, hcl, hcc⟩ := World.cells?_some hc
      match cs, hcl with
      | [c0], _ =>
        obtain ⟨k0, e0, _, f0⟩ := DataW.trod_string Try.underlying9 ht
        simp only [List.cons.injEq, and_true] at e0
        subst e0
        have g0 := hcc 0 (by omega)
        simp only [add_none] at g0
        exact ⟨k0, b, off, rfl, World.block_lt_of_cell? w _ (g0.trans rfl), g0, f0⟩
    obtain ⟨f, hf2⟩ := @choose_lt (ByteArray) ⟨ByteArray.empty⟩ _ _ one
    refine ⟨(List.range len).map f, rfl, by simp, by omega, fun i y hy => ?_⟩
    rw [List.getElem?_map] at hy
    by_cases hi : i < len
    · rw [List.getElem?_range hi] at hy
      simp at hy
      subst hy
      obtain ⟨b, off, e, r⟩ := hf2 i hi
      exact ⟨b, off, by rw [e], r⟩
    · rw [List.getElem?_eq_none (by simpa using hi)] at hy
      simp at hy

theorem bounds_i64 {n : Int} (h : (Lit.int .i64 n).wf = true) : -9223372036854775808 ≤ n ∧ n ≤ 9223372036854775807 := by
  simp only [Lit.wf, IntKind.min, IntKind.max, IntKind.signed, IntKind.bits, Bool.and_eq_true] at h; simpa using h

end Go.Proofs.Ytaflncfghphkgaa
