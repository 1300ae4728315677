/- What came in, of layer 13: a moment, two small numbers; the walks as the frames want them. -/
import Derived.Test.YtiiopconhkligaaTEndsL
import Derived.Test.YtiiopconhkligaaTTellsL
import Derived.Test.YtiiopconhkligaaTYearsL
import Derived.Test.YtiiopconhkligaaTBackW
import Derived.Test.YtiiopconhkligaaTOrderL
import Derived.ProofKit
import Derived.OpenShut
import Derived.Deep.Fields
namespace Go.Proofs.Ytiiopconhkligaa
open Go.RowKit Go.WideShapes Go.ChangeShapes Go.Deep

theorem Try.u16Cells : Try.prog.cellsOf 32 = 1 := by kernel_rfl
theorem Try.twoCells16 : Try.prog.cellsOf 34 = 2 := by kernel_rfl
set_option maxRecDepth 20000 in
/-- Two numbers that came in. -/
theorem open_two16 {H : Type} {enc : TypeId × Value → H} {w : World} {r : Go.Reach} {b0 base : Nat} {sp : Nat → Bool} {held : Bool} {v : Value} {d : DataW H} {ps : List MemPlace}
    (ho : Value.okWide Try.prog w r b0 34 v) (hk : DataW.Trod enc Try.prog w base sp held 34 v d ps) :
    ∃ x y : Nat, x < 65536 ∧ y < 65536 ∧ v = .agg #[.int .u16 (x : Int), .int .u16 (y : Int)] := by
  unfold Value.okWide at ho
  rw [Try.underlying34] at ho
  obtain ⟨cs, rfl, hsz, _⟩ := ho
  rw [Try.twoCells16] at hsz
  obtain ⟨fuel, hf⟩ := hk
  obtain ⟨xs, m, rfl, hx, hl, hxl, hel⟩ := DataW.trod_array Try.underlying34 hf
  have key : ∀ i, i < 2 → ∃ z : Nat, z < 65536 ∧ cs[i]? = some (.int .u16 (z : Int)) := by
    intro i hi
    have h := hel i hi
    rw [Try.u16Cells, Nat.mul_one, List.getElem?_eq_getElem (by omega)] at h
    obtain ⟨z, hz, _, hwf⟩ := DataW.trod_int Try.underlying32 h
    have hb := bounds_u16 hwf
    refine ⟨z.toNat, by omega, ?_⟩
    have h0 : ((cs.toList.drop i).take 1)[0]? = some (.int .u16 z) := by
      have : (Value.agg cs).cells = cs := rfl
      rw [this] at hz
      rw [hz]
      rfl
    rw [List.getElem?_take, if_pos (by decide), List.getElem?_drop, Nat.add_zero, Array.getElem?_toList] at h0
    rw [h0, Int.toNat_of_nonneg hb.1]
  obtain ⟨x, hx1, hx2⟩ := key 0 (by decide)
  obtain ⟨y, hy1, hy2⟩ := key 1 (by decide)
  refine ⟨x, y, hx1, hy1, ?_⟩
  congr 1
  apply Array.ext_getElem?
  intro i
  by_cases h0 : i = 0
  · subst h0; rw [hx2]; rfl
  · by_cases h1 : i = 1
    · subst h1; rw [hy2]; rfl
    · rw [Array.getElem?_eq_none (by omega), Array.getElem?_eq_none (by show 2 ≤ i; omega)]

/-- A struct of cells that came in: its cells, each with its reading. -/
theorem agg_open {H : Type} {enc : TypeId × Value → H} {w : World} {r : Go.Reach} {b0 base : Nat} {sp : Nat → Bool} {held : Bool} {T : TypeId} {fs : Array Field} {v : Value} {d : DataW H} {p : List MemPlace} (hs : Try.prog.underlying T = some (.struct fs)) (hone : oneCellFields Try.prog fs = true)
    (hv : Value.okWide Try.prog w r b0 T v) (h : DataW.Trod enc Try.prog w base sp held T v d p) :
    ∃ cs : Array Value, v = .agg cs ∧ cs.size = Try.prog.cellsOf T ∧ ∀ (i : Nat) (f : Field), fs[i]? = some f → ∃ y n, DataW.trod enc Try.prog w base sp held n f.type ((cs.toList.drop i).take 1) = some y := by
  obtain ⟨cs, rfl, hsz⟩ := okWide_struct hs hv
  obtain ⟨fuel, hf⟩ := h
  obtain ⟨xs, n, _, _, _, hlen, hfs⟩ := DataW.trod_struct hs hf
  refine ⟨cs, rfl, hsz, fun i f hi => ?_⟩
  obtain ⟨o, k⟩ := hone_of hone i f hi
  have hx := hfs i f hi
  have hi2 : i < xs.length := by rw [hlen]; exact (Array.getElem?_eq_some_iff.1 hi).1
  rw [o, k, List.getElem?_eq_getElem hi2] at hx
  exact ⟨_, n, by simpa [Value.cells] using hx⟩
theorem array6 {α : Type} {cs : Array α} (h : cs.size = 6) : ∃ c0 c1 c2 c3 c4 c5, cs = #[c0, c1, c2, c3, c4, c5] := by
  obtain ⟨l⟩ := cs
  match l, h with
  | [c0, c1, c2, c3, c4, c5], _ => exact ⟨c0, c1, c2, c3, c4, c5, rfl⟩
theorem wf_I64 {n : Int} (h : (Lit.int .i64 n).wf = true) : I64 n := by
  have e : (Lit.int .i64 n).wf = (decide (-9223372036854775808 ≤ n) && decide (n ≤ 9223372036854775807)) := by
    first | rfl | (simp [Lit.wf, IntKind.inRange])
  rw [e, Bool.and_eq_true, decide_eq_true_eq, decide_eq_true_eq] at h
  exact h
theorem Try.timeCells : Try.prog.cellsOf 23 = 6 := by kernel_rfl
/-- A moment that came in. -/
theorem open_time {H : Type} {enc : TypeId × Value → H} {w : World} {r : Go.Reach} {b0 base : Nat} {sp : Nat → Bool} {held : Bool} {v : Value} {d : DataW H} {p : List MemPlace}
    (hv : Value.okWide Try.prog w r b0 23 v) (h : DataW.Trod enc Try.prog w base sp held 23 v d p) : ∃ t : Tm, v = tmV t ∧ TIn t := by
  obtain ⟨cs, rfl, hsz, hall⟩ := agg_open Try.underlying23 (by kernel_rfl) hv h
  obtain ⟨c0, c1, c2, c3, c4, c5, rfl⟩ := array6 (hsz.trans Try.timeCells)
  obtain ⟨y0, n0, h0⟩ := hall 0 _ rfl
  obtain ⟨y1, n1, h1⟩ := hall 1 _ rfl
  obtain ⟨y2, n2, h2⟩ := hall 2 _ rfl
  obtain ⟨y3, n3, h3⟩ := hall 3 _ rfl
  obtain ⟨y4, n4, h4⟩ := hall 4 _ rfl
  obtain ⟨y5, n5, h5⟩ := hall 5 _ rfl
  obtain ⟨a0, e0, _, w0⟩ := DataW.trod_int Try.underlying3 h0
  obtain ⟨a1, e1, _, w1⟩ := DataW.trod_int Try.underlying3 h1
  obtain ⟨a2, e2, _, w2⟩ := DataW.trod_int Try.underlying3 h2
  obtain ⟨a3, e3, _, w3⟩ := DataW.trod_int Try.underlying3 h3
  obtain ⟨a4, e4, _, w4⟩ := DataW.trod_int Try.underlying3 h4
  obtain ⟨a5, e5, _, w5⟩ := DataW.trod_int Try.underlying3 h5
  obtain rfl : c0 = .int .i64 a0 := by simpa using e0
  obtain rfl : c1 = .int .i64 a1 := by simpa using e1
  obtain rfl : c2 = .int .i64 a2 := by simpa using e2
  obtain rfl : c3 = .int .i64 a3 := by simpa using e3
  obtain rfl : c4 = .int .i64 a4 := by simpa using e4
  obtain rfl : c5 = .int .i64 a5 := by simpa using e5
  exact ⟨⟨a0, a1, a2, a3, a4, a5⟩, rfl, wf_I64 w0, wf_I64 w1, wf_I64 w2, wf_I64 w3, wf_I64 w4, wf_I64 w5⟩

theorem clockTells_law (S : TSpec) (w : World) {H : Type} {enc : TypeId × Value → H} {d : DataW H} {p : List MemPlace} (v : Value) {b0 : Nat} (hv : Value.okWide Try.prog w .any b0 23 v) (hd : DataW.Trod enc Try.prog w 0 (fun _ => true) true 23 v d p) (x : Int) (wx : (Lit.int .i64 x).wf = true) (y : Int) (wy : (Lit.int .i64 y).wf = true) :
    Calls Try.prog 3 #[v, .int .i64 x, .int .i64 y] w fun e w' => e = .returned (.bool true) ∧ Below w.heap.size w w' := by
  obtain ⟨t, rfl, ht⟩ := open_time hv hd
  exact clockTells_walk S t x y ht (wf_I64 wx) (wf_I64 wy) w
theorem clockBack_law (S : TSpec) (w : World) {H : Type} {enc : TypeId × Value → H} {d : DataW H} {p : List MemPlace} (v : Value) {b0 : Nat} (hv : Value.okWide Try.prog w .any b0 23 v) (hd : DataW.Trod enc Try.prog w 0 (fun _ => true) true 23 v d p) (x : Int) (wx : (Lit.int .u16 x).wf = true) (y : Int) (wy : (Lit.int .u16 y).wf = true) :
    Calls Try.prog 4 #[v, .int .u16 x, .int .u16 y] w fun e w' => e = .returned (.bool true) ∧ Below w.heap.size w w' := by
  obtain ⟨t, rfl, ht⟩ := open_time hv hd
  have hx := bounds_u16 wx
  have hy := bounds_u16 wy
  obtain ⟨m, rfl⟩ := Int.eq_ofNat_of_zero_le hx.1
  obtain ⟨n, rfl⟩ := Int.eq_ofNat_of_zero_le hy.1
  exact clockBack_walk S t ht m n (by omega) (by omega) w
theorem clockOrder_law (S : TSpec) (w : World) {H : Type} {enc : TypeId × Value → H} {d e2 : DataW H} {p q : List MemPlace} (v : Value) {b0 : Nat} (hv : Value.okWide Try.prog w .any b0 34 v) (hd : DataW.Trod enc Try.prog w 0 (fun _ => true) true 34 v d p)
    (u : Value) {b1 : Nat} (hu : Value.okWide Try.prog w .any b1 34 u) (he : DataW.Trod enc Try.prog w 0 (fun _ => true) true 34 u e2 q) :
    Calls Try.prog 5 #[v, u] w fun e w' => e = .returned (.bool true) ∧ Below w.heap.size w w' := by
  obtain ⟨a0, a1, ha0, ha1, rfl⟩ := open_two16 hv hd
  obtain ⟨c0, c1, hc0, hc1, rfl⟩ := open_two16 hu he
  exact clockOrder_walk S a0 a1 c0 c1 ha0 ha1 hc0 hc1 w
theorem clockYears_law (S : TSpec) (w : World) (x : Int) (wx : (Lit.int .u16 x).wf = true) :
    Calls Try.prog 6 #[.int .u16 x] w fun e w' => e = .returned (.bool true) ∧ Below w.heap.size w w' := by
  have hx := bounds_u16 wx
  obtain ⟨m, rfl⟩ := Int.eq_ofNat_of_zero_le hx.1
  exact clockYears_walk S m (by omega) w
theorem clockEnds_law (S : TSpec) (w : World) (x : Int) (wx : (Lit.int .u8 x).wf = true) (y : Int) (wy : (Lit.int .u8 y).wf = true) :
    Calls Try.prog 7 #[.int .u8 x, .int .u8 y] w fun e w' => e = .returned (.bool true) ∧ Below w.heap.size w w' := by
  have hx := bounds_u8 wx
  have hy := bounds_u8 wy
  obtain ⟨m, rfl⟩ := Int.eq_ofNat_of_zero_le hx.1
  obtain ⟨n, rfl⟩ := Int.eq_ofNat_of_zero_le hy.1
  exact clockEnds_walk S m n (by omega) (by omega) w

end Go.Proofs.Ytiiopconhkligaa
