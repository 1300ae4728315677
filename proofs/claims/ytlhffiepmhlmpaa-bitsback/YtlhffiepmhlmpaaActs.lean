/- A list of steps that came in, opened; and 'few': it tells whether they are few. -/
import Derived.Test.YtlhffiepmhlmpaaAwake
import Derived.ProofKit
import Derived.Deep.Slices
import Derived.Lib.SmallJoins
namespace Go.Proofs.Ytlhffiepmhlmpaa
open Go.RowKit Go.Lib Go.Deep

/-- A step as it lies in memory. -/
structure ActV where
  kind : Int
  v : Int
  n : Int
  s : ByteArray

/-- The cells of the step number i of a row of steps. -/
structure ActCells (w : World) (b o : Nat) (x : ActV) : Prop where
  kind : w.cell? ⟨b, o, none⟩ = some (.int .i64 x.kind)
  v : w.cell? ⟨b, o + 1, none⟩ = some (.int .i64 x.v)
  n : w.cell? ⟨b, o + 2, none⟩ = some (.int .i64 x.n)
  s : w.cell? ⟨b, o + 3, none⟩ = some (.string x.s)

/-- A slice that came in holds the steps l. -/
structure ActsAt (w : World) (a : Option Addr) (len cap : Nat) (l : List ActV) : Prop where
  lenEq : l.length = len
  lenMax : len ≤ maxLen
  cells : ∀ i x, l[i]? = some x → ∃ b off, a = some ⟨b, off, none⟩ ∧ b < w.heap.size ∧ ActCells w b (off + i * 4) x ∧ x.s.size ≤ maxLen ∧ (Lit.int .i64 x.kind).wf = true ∧ (Lit.int .i64 x.v).wf = true ∧ (Lit.int .i64 x.n).wf = true

theorem Try.cellsAct : Try.prog.cellsOf 30 = 4 := by kernel_rfl
theorem Try.cellsI : Try.prog.cellsOf 3 = 1 := by kernel_rfl
theorem Try.cellsS : Try.prog.cellsOf 9 = 1 := by kernel_rfl

theorem add_none (b off j : Nat) : (⟨b, off, none⟩ : Addr).add j = ⟨b, off + j, none⟩ := by
  unfold Addr.add
  split
  · rename_i h; subst h; rfl
  · rfl

theorem open_acts {H : Type} {enc : TypeId × Value → H} {w : World} {d : DataW H} {p : List MemPlace} {v : Value} {base : Nat} (hv : Value.okWide Try.prog w .any base 22 v) (h : DataW.Trod enc Try.prog w 0 (fun _ => true) true 22 v d p) :
    ∃ a len cap l, v = .slice a len cap ∧ ActsAt w a len cap l := by
  obtain ⟨a, len, cap, rfl⟩ := WideShapes.okWide_slice Try.underlying22 hv
  refine ⟨a, len, cap, ?_⟩
  obtain ⟨fuel, hf⟩ := h
  rcases open_slice Try.underlying22 hf with ⟨hcs, _⟩ | ⟨x, l, c, m, n, D, Pl, hcs, _, hl, hm, hmm, _, hall⟩
  · simp [Value.cells] at hcs
    obtain ⟨rfl, rfl, rfl⟩ := hcs
    exact ⟨[], rfl, rfl, by decide, by simp⟩
  · simp [Value.cells] at hcs
    obtain ⟨rfl, rfl, rfl⟩ := hcs
    have hlm : len ≤ m := by rw [hmm]; simp; exact hl
    have hsp : 0 < len → x.spot = none := by
      intro h0
      obtain ⟨cs, hc, _⟩ := hall 0 (by omega)
      rw [Try.cellsAct] at hc
      obtain ⟨_, hcl, hcc⟩ := World.cells?_some hc
      have g := hcc 0 (by omega)
      match cs, hcl with
      | c0 :: _, _ => exact World.cell?_spot (by simpa [Addr.add] using g)
    have one : ∀ i, i < len → ∃ y : ActV, ∃ b off, x = ⟨b, off, none⟩ ∧ b < w.heap.size ∧ ActCells w b (off + i * 4) y ∧ y.s.size ≤ maxLen ∧ (Lit.int .i64 y.kind).wf = true ∧ (Lit.int .i64 y.v).wf = true ∧ (Lit.int .i64 y.n).wf = true := by
      intro i hi
      have hsp := hsp (by omega)
      obtain ⟨b, off, spot⟩ := x
      simp only at hsp
      subst hsp
      obtain ⟨cs, hc, ht⟩ := hall i (by omega)
      rw [Try.cellsAct] at hc
      obtain ⟨_, hcl, hcc⟩ := World.cells?_some hc
      obtain ⟨y0, y1, y2, y3, k, _, _, h0, h1, h2, h3⟩ := Joins.trod_struct4 Try.underlying30 ht
      match cs, hcl with
      | [c0, c1, c2, c3], _ =>
        simp only [Try.cellsI, Try.cellsS, List.drop_zero, List.drop_succ_cons, List.take_succ_cons, List.take_zero] at h0 h1 h2 h3
        obtain ⟨k0, e0, _, f0⟩ := DataW.trod_int Try.underlying3 h0
        obtain ⟨k1, e1, _, f1⟩ := DataW.trod_int Try.underlying3 h1
        obtain ⟨k2, e2, _, f2⟩ := DataW.trod_int Try.underlying3 h2
        obtain ⟨s, e3, _, f3⟩ := DataW.trod_string Try.underlying9 h3
        simp only [List.cons.injEq, and_true] at e0 e1 e2 e3
        subst e0 e1 e2 e3
        have g0 := hcc 0 (by omega)
        have g1 := hcc 1 (by omega)
        have g2 := hcc 2 (by omega)
        have g3 := hcc 3 (by omega)
        simp only [add_none] at g0 g1 g2 g3
        exact ⟨⟨k0, k1, k2, s⟩, b, off, rfl, World.block_lt_of_cell? w _ (g0.trans rfl), ⟨g0, g1, g2, g3⟩, f3, f0, f1, f2⟩
    obtain ⟨f, hf2⟩ := @choose_lt ActV ⟨⟨0, 0, 0, ByteArray.empty⟩⟩ _ _ one
    refine ⟨(List.range len).map f, rfl, by simp, by omega, fun i y hy => ?_⟩
    rw [List.getElem?_map] at hy
    by_cases hi : i < len
    · rw [List.getElem?_range hi] at hy
      simp at hy
      subst hy
      obtain ⟨b, off, e, r⟩ := hf2 i hi
      exact ⟨b, off, by rw [e], r⟩
    · rw [List.getElem?_eq_none (by simpa using hi)] at hy
      simp at hy

def totS : List ActV → Nat
  | [] => 0
  | x :: l => x.s.size + totS l

theorem totS_snoc (l : List ActV) (x : ActV) : totS (l ++ [x]) = totS l + x.s.size := by
  induction l with
  | nil => simp [totS]
  | cons y l ih => simp [totS, ih]; omega

theorem totS_take (l : List ActV) (i : Nat) (x : ActV) (h : l[i]? = some x) : totS (l.take (i + 1)) = totS (l.take i) + x.s.size := by
  have hi : i < l.length := (List.getElem?_eq_some_iff.1 h).1
  rw [List.take_succ_eq_append_getElem hi, totS_snoc]
  rw [List.getElem?_eq_getElem hi] at h
  injection h with e
  rw [e]

/-- What 'few' answers. -/
def FewOk (len : Nat) (l : List ActV) (e : Ending) : Prop := ∃ r : Bool, e = .returned (.bool r) ∧ (r = true → len ≤ 100 ∧ totS l ≤ 1000)

set_option maxHeartbeats 1000000 in
theorem few_any (a : Option Addr) (len cap : Nat) (l : List ActV) (w : World) (h : ActsAt w a len cap l) :
    Calls Try.prog 18 #[.slice a len cap] w fun e w' => FewOk len l e ∧ w = w' := by
  have hm := h.lenMax
  unfold maxLen at hm
  have H := hide h
  clear h
  go_enter Try.func18, Try.ntmps18
  go_wp2
  go_loop [3, 4] (fun n i => ∃ k : Nat, k ≤ len ∧ i = .int .i64 k ∧ ∃ t : Nat, t ≤ 1000 ∧ Hid (t = totS (l.take k)) ∧ n = .int .i64 t) (fun _ i => len - (intOf i).toNat)
  case atStart => exact ⟨0, Nat.zero_le _, rfl, 0, Nat.zero_le _, rfl, rfl⟩
  case round =>
    obtain ⟨k, hk, rfl, t, ht, HT, rfl⟩ := hrel
    by_cases hlt : k < len
    · have hl := H.out.lenEq
      obtain ⟨x, hx⟩ : ∃ x, l[k]? = some x := ⟨l[k]'(by omega), List.getElem?_eq_getElem (by omega)⟩
      obtain ⟨b, off, rfl, _, hc, hsm, _⟩ := H.out.cells k x hx
      have _cs := hc.s
      unfold maxLen at hsm
      have HX := hide (totS_take l k x hx)
      clear hx hc hl
      by_cases hbig : (1000 : Int) - t < x.s.size
      · go_wp2
        go_ret
        exact ⟨⟨false, rfl, by simp⟩, rfl⟩
      · go_wp2
        go_round
        case rel => exact ⟨k + 1, by omega, by go_num, t + x.s.size, by omega, by rw [HX.out, ← HT.out]; exact hide rfl, by go_num⟩
        case measure => simp [intOf]; omega
    · go_wp2
      go_ret
      refine ⟨⟨_, rfl, ?_⟩, rfl⟩
      intro hr
      have : (len : Int) ≤ 100 := by simpa using hr
      have hl := H.out.lenEq
      have e : totS (l.take k) = totS l := by rw [List.take_of_length_le (by omega)]
      have := HT.out
      omega

end Go.Proofs.Ytlhffiepmhlmpaa
