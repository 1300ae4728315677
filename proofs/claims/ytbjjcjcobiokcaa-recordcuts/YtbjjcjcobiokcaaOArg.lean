/- A record that came in, of layer 14. -/
import Derived.Test.YtbjjcjcobiokcaaOSpec
import Derived.ProofKit
import Derived.OpenShut
import Derived.Deep.Fields
namespace Go.Proofs.Ytbjjcjcobiokcaa
open Go.RowKit Go.WideShapes Go.ChangeShapes Go.Deep

/-- A struct of cells that came in: its cells, each with its reading. -/
theorem agg_openO {H : Type} {enc : TypeId × Value → H} {w : World} {r : Go.Reach} {b0 base : Nat} {sp : Nat → Bool} {held : Bool} {T : TypeId} {fs : Array Field} {v : Value} {d : DataW H} {p : List MemPlace} (hs : Try.prog.underlying T = some (.struct fs)) (hone : oneCellFields Try.prog fs = true)
    (hv : Value.okWide Try.prog w r b0 T v) (h : DataW.Trod enc Try.prog w base sp held T v d p) :
    ∃ cs : Array Value, v = .agg cs ∧ cs.size = Try.prog.cellsOf T ∧ ∀ (i : Nat) (f : Field), fs[i]? = some f → ∃ y n, DataW.trod enc Try.prog w base sp held n f.type ((cs.toList.drop i).take 1) = some y := by
  obtain ⟨cs, rfl, hsz⟩ := okWide_struct hs hv
  obtain ⟨fuel, hf⟩ := h
  obtain ⟨xs, n, _, _, _, hlen, hfs⟩ := DataW.trod_struct hs hf
  refine ⟨cs, rfl, hsz, fun i f hi => ?_⟩
  obtain ⟨o, k⟩ := hone_of hone i f hi
  have hx := hfs i f hi
  have hi2 : i < xs.length := by rw [hlen]; exact (Array.getElem?_eq_some_iff.1 hi).1
  rw [o, k, List.getElem?_eq_getElem hi2] at hx
  exact ⟨_, n, by simpa [Value.cells] using hx⟩
theorem array11 {α : Type} {cs : Array α} (h : cs.size = 11) : ∃ c0 c1 c2 c3 c4 c5 c6 c7 c8 c9 c10, cs = #[c0, c1, c2, c3, c4, c5, c6, c7, c8, c9, c10] := by
  obtain ⟨l⟩ := cs
  match l, h with
  | [c0, c1, c2, c3, c4, c5, c6, c7, c8, c9, c10], _ => exact ⟨c0, c1, c2, c3, c4, c5, c6, c7, c8, c9, c10, rfl⟩
theorem wf_IntIn {n : Int} (h : (Lit.int .i64 n).wf = true) : IntIn n := by
  have e : (Lit.int .i64 n).wf = (decide (-9223372036854775808 ≤ n) && decide (n ≤ 9223372036854775807)) := by
    first | rfl | (simp [Lit.wf, IntKind.inRange])
  rw [e, Bool.and_eq_true, decide_eq_true_eq, decide_eq_true_eq] at h
  exact h
theorem Try.recCells : Try.prog.cellsOf 23 = 11 := by kernel_rfl
set_option maxRecDepth 20000 in
/-- A record that came in. -/
theorem open_record {H : Type} {enc : TypeId × Value → H} {w : World} {r : Go.Reach} {b0 base : Nat} {sp : Nat → Bool} {held : Bool} {v : Value} {d : DataW H} {p : List MemPlace}
    (hv : Value.okWide Try.prog w r b0 23 v) (h : DataW.Trod enc Try.prog w base sp held 23 v d p) : ∃ t : Rec, v = recV t ∧ RecIn t ∧ t.name.size ≤ maxLen ∧ t.note.size ≤ maxLen := by
  obtain ⟨cs, rfl, hsz, hall⟩ := agg_openO Try.underlying23 (by kernel_rfl) hv h
  obtain ⟨c0, c1, c2, c3, c4, c5, c6, c7, c8, c9, c10, rfl⟩ := array11 (hsz.trans Try.recCells)
  obtain ⟨y0, n0, h0⟩ := hall 0 _ rfl
  obtain ⟨y1, n1, h1⟩ := hall 1 _ rfl
  obtain ⟨y2, n2, h2⟩ := hall 2 _ rfl
  obtain ⟨y3, n3, h3⟩ := hall 3 _ rfl
  obtain ⟨y4, n4, h4⟩ := hall 4 _ rfl
  obtain ⟨y5, n5, h5⟩ := hall 5 _ rfl
  obtain ⟨y6, n6, h6⟩ := hall 6 _ rfl
  obtain ⟨y7, n7, h7⟩ := hall 7 _ rfl
  obtain ⟨y8, n8, h8⟩ := hall 8 _ rfl
  obtain ⟨y9, n9, h9⟩ := hall 9 _ rfl
  obtain ⟨y10, n10, h10⟩ := hall 10 _ rfl
  obtain ⟨a0, e0, _, w0⟩ := DataW.trod_string Try.underlying9 h0
  obtain rfl : c0 = .string a0 := by simpa using e0
  obtain ⟨a1, e1, _, w1⟩ := DataW.trod_string Try.underlying9 h1
  obtain rfl : c1 = .string a1 := by simpa using e1
  obtain ⟨a2, e2, _, w2⟩ := DataW.trod_int Try.underlying3 h2
  obtain rfl : c2 = .int .i64 a2 := by simpa using e2
  obtain ⟨a3, e3, _, w3⟩ := DataW.trod_int Try.underlying3 h3
  obtain rfl : c3 = .int .i64 a3 := by simpa using e3
  obtain ⟨a4, e4, _, w4⟩ := DataW.trod_int Try.underlying3 h4
  obtain rfl : c4 = .int .i64 a4 := by simpa using e4
  obtain ⟨a5, e5, _, w5⟩ := DataW.trod_int Try.underlying3 h5
  obtain rfl : c5 = .int .i64 a5 := by simpa using e5
  obtain ⟨a6, e6, _, w6⟩ := DataW.trod_int Try.underlying3 h6
  obtain rfl : c6 = .int .i64 a6 := by simpa using e6
  obtain ⟨a7, e7, _, w7⟩ := DataW.trod_int Try.underlying3 h7
  obtain rfl : c7 = .int .i64 a7 := by simpa using e7
  obtain ⟨a8, e8, _, w8⟩ := DataW.trod_int Try.underlying3 h8
  obtain rfl : c8 = .int .i64 a8 := by simpa using e8
  obtain ⟨a9, e9, _, w9⟩ := DataW.trod_int Try.underlying3 h9
  obtain rfl : c9 = .int .i64 a9 := by simpa using e9
  obtain ⟨a10, e10, _⟩ := DataW.trod_bool Try.underlying4 h10
  obtain rfl : c10 = .bool a10 := by simpa using e10
  exact ⟨⟨a0, a1, a2, a3, a4, a5, a6, a7, a8, a9, a10⟩, rfl, ⟨wf_IntIn w2, wf_IntIn w3, wf_IntIn w4, wf_IntIn w5, wf_IntIn w6, wf_IntIn w7, wf_IntIn w8, wf_IntIn w9⟩, w0, w1⟩

end Go.Proofs.Ytbjjcjcobiokcaa
