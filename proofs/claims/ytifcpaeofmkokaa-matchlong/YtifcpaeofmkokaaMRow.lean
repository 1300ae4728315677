/- Rows of tokens: slices that came in, rows that a call owns. Nothing of the program is named here, but its types. -/
import Derived.Test.YtifcpaeofmkokaaMRef
namespace Go.Proofs.Ytifcpaeofmkokaa
open Go.RowKit Go.Lib Go.Deep

theorem Try.infoTok : (Try.prog.info? 32).map (fun i => (i.zero, i.size, i.bytes)) = some (some (.agg #[.int .i64 0, .int .i64 0, .int .u8 0]), 3, 24) := by kernel_rfl

/-- A token's cells: its length, how far back, its byte. -/
def tokCs (l : List (Nat × Int × Int)) : List Value := l.flatMap fun p => [Value.int .i64 p.2.1, Value.int .i64 p.2.2, Value.int .u8 (p.1 : Nat)]
theorem tokCs_cons (p : Nat × Int × Int) (l : List (Nat × Int × Int)) : tokCs (p :: l) = Value.int .i64 p.2.1 :: Value.int .i64 p.2.2 :: Value.int .u8 (p.1 : Nat) :: tokCs l := rfl
theorem tokCs_length (l : List (Nat × Int × Int)) : (tokCs l).length = l.length * 3 := by
  induction l with
  | nil => rfl
  | cons p l ih => rw [tokCs_cons, List.length_cons, List.length_cons, List.length_cons, ih, List.length_cons]; omega
theorem tokCs_append (a b : List (Nat × Int × Int)) : tokCs (a ++ b) = tokCs a ++ tokCs b := by simp [tokCs]
theorem tokCs_get (l : List (Nat × Int × Int)) : ∀ (i : Nat) (t : Nat × Int × Int), l[i]? = some t → (tokCs l)[i * 3]? = some (.int .i64 t.2.1) ∧ (tokCs l)[i * 3 + 1]? = some (.int .i64 t.2.2) ∧ (tokCs l)[i * 3 + 2]? = some (.int .u8 (t.1 : Nat)) := by
  induction l with
  | nil => intro i t h; simp at h
  | cons p l ih =>
    intro i t h
    rw [tokCs_cons]
    cases i with
    | zero =>
      simp at h
      subst h
      exact ⟨rfl, rfl, rfl⟩
    | succ i =>
      rw [List.getElem?_cons_succ] at h
      rw [show (i + 1) * 3 = i * 3 + 1 + 1 + 1 by omega]
      simp only [List.getElem?_cons_succ, show i * 3 + 1 + 1 + 1 + 1 = (i * 3 + 1) + 1 + 1 + 1 by omega, show i * 3 + 1 + 1 + 1 + 2 = (i * 3 + 2) + 1 + 1 + 1 by omega]
      exact ih i t h
theorem three_one (x y : Int) (z : Int) : ∀ u ∈ [Value.int .i64 x, Value.int .i64 y, Value.int .u8 z], u.oneCell' = true := by
  intro u hu
  simp only [List.mem_cons, List.not_mem_nil, or_false] at hu
  rcases hu with rfl | rfl | rfl <;> rfl
theorem cell_three_new (w : World) (x y z : Value) (t : TypeId) : ∀ j u, [x, y, z][j]? = some u → (w.alloc (.cells #[x, y, z] t)).cell? ((⟨w.heap.size, 0, none⟩ : Addr).add j) = some u := by
  intro j u hj
  have hadd : (⟨w.heap.size, 0, none⟩ : Addr).add j = ⟨w.heap.size, j, none⟩ := by unfold Addr.add; split <;> simp_all
  have hh : (w.alloc (.cells #[x, y, z] t)).heap[w.heap.size]? = some (.cells #[x, y, z] t (0, 0)) := by show (w.heap.push _)[w.heap.size]? = _; simp
  rw [hadd, cell_of_row _ _ j _ _ (0, 0) hh]
  simpa using hj

/-- A slice holds these tokens. -/
def ArgT (w : World) (a : Option Addr) (l : List (Nat × Int × Int)) : Prop := ∀ (i : Nat) (t : Nat × Int × Int), l[i]? = some t → ∃ b off, a = some ⟨b, off, none⟩ ∧ b < w.heap.size ∧ w.cell? ⟨b, off + i * 3, none⟩ = some (.int .i64 t.2.1) ∧ w.cell? ⟨b, off + i * 3 + 1, none⟩ = some (.int .i64 t.2.2) ∧ w.cell? ⟨b, off + i * 3 + 2, none⟩ = some (.int .u8 (t.1 : Nat))
theorem ArgT.below {w w' : World} {a : Option Addr} {l : List (Nat × Int × Int)} (h : ArgT w a l) {B : Nat} (b : Below B w w') (hB : w.heap.size ≤ B) : ArgT w' a l := by
  intro i t hx
  obtain ⟨b0, off, h1, h2, h3, h4, h5⟩ := h i t hx
  have hlt := Nat.lt_of_lt_of_le h2 hB
  refine ⟨b0, off, h1, Nat.lt_of_lt_of_le h2 b.size, ?_, ?_, ?_⟩
  · rw [b.cell (p := ⟨b0, off + i * 3, none⟩) hlt]; exact h3
  · rw [b.cell (p := ⟨b0, off + i * 3 + 1, none⟩) hlt]; exact h4
  · rw [b.cell (p := ⟨b0, off + i * 3 + 2, none⟩) hlt]; exact h5
theorem own_argT {w : World} {B n : Nat} {v : Value} {l : List (Nat × Int × Int)} (h : w.ownsRow B 32 3 v n (tokCs l)) (hl : l.length = n) : ∃ a c, v = .slice a n c ∧ ArgT w a l ∧ (a = none → n = 0 ∧ c = 0) := by
  rcases len_form h with ⟨e1, e2⟩ | ⟨g, c, e1⟩
  · subst e2
    refine ⟨none, 0, e1, fun i t hx => ?_, fun _ => ⟨rfl, rfl⟩⟩
    rw [List.length_eq_zero_iff.1 hl] at hx
    simp at hx
  · subst e1
    refine ⟨_, c, rfl, fun i t hx => ?_, fun e => by cases e⟩
    have hi : i < l.length := (List.getElem?_eq_some_iff.1 hx).1
    have hg := tokCs_get l i t hx
    refine ⟨g, 0, rfl, (h.lt g rfl).2, ?_, ?_, ?_⟩
    · rw [Nat.zero_add, h.cellAt (i * 3) (by omega)]; exact hg.1
    · rw [Nat.zero_add, h.cellAt (i * 3 + 1) (by omega)]; exact hg.2.1
    · rw [Nat.zero_add, h.cellAt (i * 3 + 2) (by omega)]; exact hg.2.2

/-- What Tokens gives. -/
def TokPost (W : World) (s : ByteArray) (level : Int) (e : Ending) (w' : World) : Prop := ∃ a c ts, e = .returned (.slice a (ts : List (Nat × Nat × Nat)).length c) ∧ Toks (bAt s) s.size level 0 ts ∧ ArgT w' a (ts.map castT) ∧ (a = none → c = 0) ∧ Below W.heap.size W w'

/-- The same, and there is room for as many. -/
def TokCap (W : World) (s : ByteArray) (level : Int) (e : Ending) (w' : World) : Prop := ∃ a c ts, e = .returned (.slice a (ts : List (Nat × Nat × Nat)).length c) ∧ Toks (bAt s) s.size level 0 ts ∧ ArgT w' a (ts.map castT) ∧ (a = none → c = 0) ∧ Below W.heap.size W w' ∧ ts.length ≤ c
theorem TokCap.post {W : World} {s : ByteArray} {level : Int} {e : Ending} {w' : World} (h : TokCap W s level e w') : TokPost W s level e w' := by
  obtain ⟨a, c, ts, h1, h2, h3, h4, h5, _⟩ := h
  exact ⟨a, c, ts, h1, h2, h3, h4, h5⟩

/-- The tokens under way. -/
structure TokW (w W : World) (s : ByteArray) (level : Int) (i : Nat) (out : List (Nat × Nat × Nat)) (v : Value) : Prop where
  own : w.ownsRow W.heap.size 32 3 v out.length (tokCs (out.map castT))
  bel : Below W.heap.size W w
  tok : ∀ rs, Toks (bAt s) s.size level i rs → Toks (bAt s) s.size level 0 (out ++ rs)
  len : out.length ≤ i
theorem TokW.below {w w' W : World} {s : ByteArray} {level : Int} {i : Nat} {out : List (Nat × Nat × Nat)} {v : Value} (h : TokW w W s level i out v) (b : Below w.heap.size w w') : TokW w' W s level i out v :=
  ⟨own_below h.own b (Nat.le_refl _), h.bel.trans (b.mono h.bel.size), h.tok, h.len⟩
theorem TokW.app {w w' W : World} {s : ByteArray} {level : Int} {i : Nat} {out : List (Nat × Nat × Nat)} {v v' : Value} (h : TokW w W s level i out v) (hi : i < s.size) (t : Nat × Nat × Nat) (ht : tokM (bAt s) s.size i level = t) (k : Nat) (hk : takes t = k) (o : Obj)
    (ho : w'.ownsRow W.heap.size 32 3 v' (out.length + 1) (tokCs (out.map castT) ++ [.int .i64 (t.2.1 : Int), .int .i64 (t.2.2 : Int), .int .u8 (t.1 : Int)])) (hg : (w.alloc o).grownBy w' v.ownBlock) : TokW w' W s level (i + k) (out ++ [t]) v' := by
  refine ⟨?_, Below.grownB (h.bel.alloc h.bel.size _) hg (h.own.alloc o) (size_alloc_le h.bel.size), ?_, ?_⟩
  · rw [List.length_append, List.map_append, tokCs_append]
    exact ho
  · intro rs hr
    rw [List.append_assoc]
    refine h.tok _ ⟨hi, ht.symm, ?_⟩
    rw [hk]
    exact hr
  · rw [List.length_append]
    have := h.len
    have := takes_pos t
    show out.length + 1 ≤ i + k
    omega
theorem TokW.done {w W : World} {s : ByteArray} {level : Int} {out : List (Nat × Nat × Nat)} {v : Value} (h : TokW w W s level s.size out v) : TokCap W s level (.returned v) w := by
  obtain ⟨a, c, e, h1, h2⟩ := own_argT h.own (by rw [List.length_map])
  have h3 := h.tok [] rfl
  rw [List.append_nil] at h3
  refine ⟨a, c, out, by rw [e], h3, h1, fun e => (h2 e).2, h.bel, ?_⟩
  rcases len_form h.own with ⟨e1, e2⟩ | ⟨g, c2, e1⟩
  · omega
  · have h4 := h.own
    rw [e1] at h4
    have h5 := own_cap h4
    rw [e1] at e
    injection e with _ _ e
    omega

end Go.Proofs.Ytifcpaeofmkokaa
