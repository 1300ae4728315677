/- Slices of numbers that came in, opened. -/
import Derived.Test.YtihgdlnnfhpdcaaWAwake
import Derived.ProofKit
import Derived.OpenShut
import Derived.Deep.Slices
import Derived.Lib.SmallJoins
namespace Go.Proofs.Ytihgdlnnfhpdcaa
open Go.RowKit Go.Lib Go.Deep

theorem Try.cellsZ : Try.prog.cellsOf 3 = 1 := by kernel_rfl

theorem add_noneW (b off j : Nat) : (⟨b, off, none⟩ : Addr).add j = ⟨b, off + j, none⟩ := by
  unfold Addr.add
  split
  · rename_i h; subst h; rfl
  · rfl

theorem open_argZ {H : Type} {enc : TypeId × Value → H} {w : World} {d : DataW H} {p : List MemPlace} {v : Value} {base : Nat} (hv : Value.okWide Try.prog w .any base 22 v) (h : DataW.Trod enc Try.prog w 0 (fun _ => true) true 22 v d p) :
    ∃ a cap l, v = .slice a (l : List Int).length cap ∧ ArgZ w a l ∧ (a = none → cap = 0) ∧ (∀ x ∈ l, -9223372036854775808 ≤ x ∧ x ≤ 9223372036854775807) := by
  obtain ⟨a, len, cap, rfl⟩ := WideShapes.okWide_slice Try.underlying22 hv
  refine ⟨a, cap, ?_⟩
  obtain ⟨fuel, hf⟩ := h
  rcases open_slice Try.underlying22 hf with ⟨hcs, _⟩ | ⟨x, l, c, m, n, D, Pl, hcs, _, hl, hm, hmm, _, hall⟩
  · simp [Value.cells] at hcs
    obtain ⟨rfl, rfl, rfl⟩ := hcs
    exact ⟨[], rfl, (fun i x hx => (by simp at hx)), (fun _ => rfl), (fun x hx => (by cases hx))⟩
  · simp [Value.cells] at hcs
    obtain ⟨rfl, rfl, rfl⟩ := hcs
    have hlm : len ≤ m := by rw [hmm]; simp; exact hl
    have hsp : 0 < len → x.spot = none := by
      intro h0
      obtain ⟨cs, hc, _⟩ := hall 0 (by omega)
      rw [Try.cellsZ] at hc
      obtain ⟨_, hcl, hcc⟩ := World.cells?_some hc
      have g := hcc 0 (by omega)
      match cs, hcl with
      | c0 :: _, _ => exact World.cell?_spot (by simpa [Addr.add] using g)
    have one : ∀ i, i < len → ∃ y : Int, ∃ b off, x = ⟨b, off, none⟩ ∧ b < w.heap.size ∧ w.cell? ⟨b, off + i, none⟩ = some (.int .i64 y) ∧ (Lit.int .i64 y).wf = true := by
      intro i hi
      have hsp := hsp (by omega)
      obtain ⟨b, off, spot⟩ := x
      simp only at hsp
      subst hsp
      obtain ⟨cs, hc, ht⟩ := hall i (by omega)
      rw [Try.cellsZ] at hc
      obtain ⟨_, hcl, hcc⟩ := World.cells?_some hc
      match cs, hcl with
      | [c0], _ =>
        obtain ⟨k0, e0, _, f0⟩ := DataW.trod_int Try.underlying3 ht
        simp only [List.cons.injEq, and_true] at e0
        subst e0
        have g0 := hcc 0 (by omega)
        simp only [add_noneW] at g0
        rw [Nat.mul_one] at g0
        exact ⟨k0, b, off, rfl, World.block_lt_of_cell? w _ (g0.trans rfl), g0, f0⟩
    obtain ⟨f, hf2⟩ := @choose_lt (Int) ⟨0⟩ _ _ one
    refine ⟨(List.range len).map f, by simp, fun i y hy => ?_, (fun e => (by cases e)), fun y hy => ?_⟩
    · rw [List.getElem?_map] at hy
      by_cases hi : i < len
      · rw [List.getElem?_range hi] at hy
        simp at hy
        subst hy
        obtain ⟨b, off, e, r⟩ := hf2 i hi
        exact ⟨b, off, by rw [e], r.1, r.2.1⟩
      · rw [List.getElem?_eq_none (by simpa using hi)] at hy
        simp at hy
    · obtain ⟨i, hi, rfl⟩ := List.mem_map.1 hy
      obtain ⟨b, off, e, r⟩ := hf2 i (List.mem_range.1 hi)
      have := bounds_i64 r.2.2
      omega

end Go.Proofs.Ytihgdlnnfhpdcaa
