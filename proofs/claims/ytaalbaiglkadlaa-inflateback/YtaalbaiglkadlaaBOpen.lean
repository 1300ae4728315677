/- A slice of tokens that came in, opened; two bytes. -/
import Derived.Test.YtaalbaiglkadlaaBS
import Derived.ProofKit
import Derived.OpenShut
namespace Go.Proofs.Ytaalbaiglkadlaa
open Go.RowKit Go.Lib Go.Deep

theorem Try.cellsT : Try.prog.cellsOf 30 = 3 := by kernel_rfl
theorem Try.cellsI8 : Try.prog.cellsOf 3 = 1 := by kernel_rfl
theorem Try.cellsU8 : Try.prog.cellsOf 5 = 1 := by kernel_rfl
theorem trod_struct3' {H : Type} {enc : TypeId × Value → H} {P : Program} {w : World} {base : Nat} {spare : Nat → Bool} {held : Bool} {t : TypeId} {f0 f1 f2 : Field} {fuel : Nat} {cs : List Value} {x : DataW H × List MemPlace} (ht : P.underlying t = some (.struct #[f0, f1, f2])) (h : DataW.trod enc P w base spare held fuel t cs = some x) :
    ∃ y0 y1 y2 n, DataW.trod enc P w base spare held n f0.type ((cs.drop f0.offset).take (P.cellsOf f0.type)) = some y0 ∧
      DataW.trod enc P w base spare held n f1.type ((cs.drop f1.offset).take (P.cellsOf f1.type)) = some y1 ∧
      DataW.trod enc P w base spare held n f2.type ((cs.drop f2.offset).take (P.cellsOf f2.type)) = some y2 := by
  obtain ⟨xs, n, _, rfl, hl, hlen, hf⟩ := DataW.trod_struct ht h
  match xs, hlen with
  | [y0, y1, y2], _ => exact ⟨y0, y1, y2, n, by simpa using hf 0 f0 rfl, by simpa using hf 1 f1 rfl, by simpa using hf 2 f2 rfl⟩

set_option maxRecDepth 20000 in
theorem open_argT9 {H : Type} {enc : TypeId × Value → H} {w : World} {d : DataW H} {p : List MemPlace} {v : Value} {base : Nat} (hv : Value.okWide Try.prog w .any base 27 v) (h : DataW.Trod enc Try.prog w 0 (fun _ => true) true 27 v d p) :
    ∃ a cap l, v = .slice a (l : List (Nat × Int × Int)).length cap ∧ ArgT w a l ∧ l.length ≤ 9223372036854775807 ∧ (a = none → cap = 0) ∧ (∀ t ∈ l, t.1 < 256) := by
  obtain ⟨a, len, cap, rfl⟩ := WideShapes.okWide_slice Try.underlying27 hv
  refine ⟨a, cap, ?_⟩
  obtain ⟨fuel, hf⟩ := h
  rcases open_slice Try.underlying27 hf with ⟨hcs, _⟩ | ⟨x, l, c, m, n, D, Pl, hcs, hlc, hl, hm, hmm, _, hall⟩
  · simp [Value.cells] at hcs
    obtain ⟨rfl, rfl, rfl⟩ := hcs
    exact ⟨[], rfl, (fun i t hx => (by simp at hx)), by decide, fun _ => rfl, fun t ht => by cases ht⟩
  · simp [Value.cells] at hcs
    obtain ⟨rfl, rfl, rfl⟩ := hcs
    have hlm : len ≤ m := by rw [hmm]; simp; exact hl
    have hsp : 0 < len → x.spot = none := by
      intro h0
      obtain ⟨cs, hc, _⟩ := hall 0 (by omega)
      rw [Try.cellsT] at hc
      obtain ⟨_, hcl, hcc⟩ := World.cells?_some hc
      have g := hcc 0 (by omega)
      match cs, hcl with
      | c0 :: _, _ => exact World.cell?_spot (by simpa [Addr.add] using g)
    have one : ∀ i, i < len → ∃ y : Nat × Int × Int, y.1 < 256 ∧ ∃ b off, x = ⟨b, off, none⟩ ∧ b < w.heap.size ∧ w.cell? ⟨b, off + i * 3, none⟩ = some (.int .i64 y.2.1) ∧ w.cell? ⟨b, off + i * 3 + 1, none⟩ = some (.int .i64 y.2.2) ∧ w.cell? ⟨b, off + i * 3 + 2, none⟩ = some (.int .u8 (y.1 : Nat)) := by
      intro i hi
      have hsp := hsp (by omega)
      obtain ⟨b, off, spot⟩ := x
      simp only at hsp
      subst hsp
      obtain ⟨cs, hc, ht⟩ := hall i (by omega)
      rw [Try.cellsT] at hc
      obtain ⟨_, hcl, hcc⟩ := World.cells?_some hc
      obtain ⟨y0, y1, y2, k, h0, h1, h2⟩ := trod_struct3' Try.underlying30 ht
      match cs, hcl with
      | [c0, c1, c2], _ =>
        simp only [Try.cellsI8, Try.cellsU8, List.drop_zero, List.drop_succ_cons, List.take_succ_cons, List.take_zero] at h0 h1 h2
        obtain ⟨k0, e0, _, f0⟩ := DataW.trod_int Try.underlying3 h0
        obtain ⟨k1, e1, _, f1⟩ := DataW.trod_int Try.underlying3 h1
        obtain ⟨k2, e2, _, f2⟩ := DataW.trod_int Try.underlying5 h2
        simp only [List.cons.injEq, and_true] at e0 e1 e2
        subst e0 e1 e2
        have g0 := hcc 0 (by omega)
        have g1 := hcc 1 (by omega)
        have g2 := hcc 2 (by omega)
        simp only [add_noneW] at g0 g1 g2
        have hb := bounds_u8 f2
        have hk2 : ((k2.toNat : Nat) : Int) = k2 := by omega
        refine ⟨(k2.toNat, k0, k1), by show k2.toNat < 256; omega, b, off, rfl, World.block_lt_of_cell? w _ (g0.trans rfl), g0, g1, ?_⟩
        show w.cell? _ = some (Value.int .u8 ((k2.toNat : Nat) : Int))
        rw [hk2]
        exact g2
    obtain ⟨f, hf2⟩ := @choose_lt (Nat × Int × Int) ⟨(0, 0, 0)⟩ _ _ one
    refine ⟨(List.range len).map f, by simp, fun i t hy => ?_, by simp; unfold maxLen at hm; omega, (fun e => by cases e), fun t ht => by
      obtain ⟨i, hi, rfl⟩ := List.mem_map.1 ht
      exact (hf2 i (List.mem_range.1 hi)).1⟩
    rw [List.getElem?_map] at hy
    by_cases hi : i < len
    · rw [List.getElem?_range hi] at hy
      simp at hy
      obtain ⟨_, b, off, e1, r1, r2, r3, r4⟩ := hf2 i hi
      rw [hy] at r2 r3 r4
      exact ⟨b, off, by rw [e1], r1, r2, r3, r4⟩
    · rw [List.getElem?_eq_none (by simpa using hi)] at hy
      simp at hy

theorem Try.u8Cells8 : Try.prog.cellsOf 5 = 1 := by kernel_rfl
end Go.Proofs.Ytaalbaiglkadlaa
