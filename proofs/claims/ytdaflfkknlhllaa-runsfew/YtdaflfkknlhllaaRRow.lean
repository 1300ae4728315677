/- Rows of runs: slices that came in, rows that a call owns. Nothing of the program is named here, but its types. -/
import Derived.Test.YtdaflfkknlhllaaIRow
import Derived.Test.YtdaflfkknlhllaaRMath
namespace Go.Proofs.Ytdaflfkknlhllaa
open Go.RowKit Go.Lib Go.Deep

theorem Try.infoRun : (Try.prog.info? 39).map (fun i => (i.zero, i.size, i.bytes)) = some (some (.agg #[.int .i64 0, .int .i64 0]), 2, 16) := by kernel_rfl

def runCs (l : List (Int × Int)) : List Value := l.flatMap fun p => [Value.int .i64 p.1, Value.int .i64 p.2]
theorem runCs_length (l : List (Int × Int)) : (runCs l).length = l.length * 2 := by
  induction l with
  | nil => rfl
  | cons p l ih => simp only [runCs, List.flatMap_cons, List.length_append, List.length_cons] at ih ⊢; simp only [List.length_nil]; omega
theorem runCs_cons (p : Int × Int) (l : List (Int × Int)) : runCs (p :: l) = Value.int .i64 p.1 :: Value.int .i64 p.2 :: runCs l := rfl
theorem runCs_append (a b : List (Int × Int)) : runCs (a ++ b) = runCs a ++ runCs b := by simp [runCs]
theorem runCs_get (l : List (Int × Int)) : ∀ (i : Nat) (s e : Int), l[i]? = some (s, e) → (runCs l)[i * 2]? = some (.int .i64 s) ∧ (runCs l)[i * 2 + 1]? = some (.int .i64 e) := by
  induction l with
  | nil => intro i s e h; simp at h
  | cons p l ih =>
    intro i s e h
    rw [runCs_cons]
    cases i with
    | zero =>
      simp at h
      subst h
      exact ⟨rfl, rfl⟩
    | succ i =>
      rw [List.getElem?_cons_succ] at h
      rw [show (i + 1) * 2 = i * 2 + 1 + 1 by omega, List.getElem?_cons_succ, List.getElem?_cons_succ, List.getElem?_cons_succ, List.getElem?_cons_succ]
      exact ih i s e h
theorem runCs_one (l : List (Int × Int)) : ∀ u ∈ runCs l, u.oneCell' = true := by
  intro u hu
  obtain ⟨p, _, hp⟩ := List.mem_flatMap.1 hu
  simp only [List.mem_cons, List.not_mem_nil, or_false] at hp
  rcases hp with rfl | rfl <;> rfl
theorem two_one (x y : Int) : ∀ u ∈ [Value.int .i64 x, Value.int .i64 y], u.oneCell' = true := by
  intro u hu
  simp only [List.mem_cons, List.not_mem_nil, or_false] at hu
  rcases hu with rfl | rfl <;> rfl

/-- A slice holds these runs. -/
def ArgR (w : World) (a : Option Addr) (l : List (Int × Int)) : Prop := ∀ (i : Nat) (s e : Int), l[i]? = some (s, e) → ∃ b off, a = some ⟨b, off, none⟩ ∧ b < w.heap.size ∧ w.cell? ⟨b, off + i * 2, none⟩ = some (.int .i64 s) ∧ w.cell? ⟨b, off + i * 2 + 1, none⟩ = some (.int .i64 e)

theorem ArgR.below {w w' : World} {a : Option Addr} {l : List (Int × Int)} (h : ArgR w a l) {B : Nat} (b : Below B w w') (hB : w.heap.size ≤ B) : ArgR w' a l := by
  intro i s e hx
  obtain ⟨b0, off, h1, h2, h3, h4⟩ := h i s e hx
  refine ⟨b0, off, h1, Nat.lt_of_lt_of_le h2 b.size, ?_, ?_⟩
  · rw [b.cell (p := ⟨b0, off + i * 2, none⟩) (Nat.lt_of_lt_of_le h2 hB)]; exact h3
  · rw [b.cell (p := ⟨b0, off + i * 2 + 1, none⟩) (Nat.lt_of_lt_of_le h2 hB)]; exact h4
theorem ArgZ.belowB {w w' : World} {a : Option Addr} {l : List Int} (h : ArgZ w a l) {B : Nat} (b : Below B w w') (hB : w.heap.size ≤ B) : ArgZ w' a l := h.below (b.mono hB)

theorem own_argR {w : World} {B n : Nat} {v : Value} {l : List (Int × Int)} (h : w.ownsRow B 39 2 v n (runCs l)) (hl : l.length = n) : ∃ a c, v = .slice a n c ∧ ArgR w a l ∧ (a = none → n = 0 ∧ c = 0) := by
  rcases len_form h with ⟨e1, e2⟩ | ⟨g, c, e1⟩
  · subst e2
    refine ⟨none, 0, e1, fun i s e hx => ?_, fun _ => ⟨rfl, rfl⟩⟩
    rw [List.length_eq_zero_iff.1 hl] at hx
    simp at hx
  · subst e1
    refine ⟨_, c, rfl, fun i s e hx => ?_, fun e => by cases e⟩
    have hi : i < l.length := (List.getElem?_eq_some_iff.1 hx).1
    have hg := runCs_get l i s e hx
    refine ⟨g, 0, rfl, (h.lt g rfl).2, ?_, ?_⟩
    · rw [Nat.zero_add, h.cellAt (i * 2) (by omega)]; exact hg.1
    · rw [Nat.zero_add, h.cellAt (i * 2 + 1) (by omega)]; exact hg.2
theorem own_argI {w : World} {B n : Nat} {v : Value} {l : List Int} (h : w.ownsRow B 3 1 v n (intCs l)) (hl : l.length = n) : ∃ a c, v = .slice a n c ∧ ArgZ w a l ∧ (a = none → n = 0 ∧ c = 0) := by
  rcases len_form h with ⟨e1, e2⟩ | ⟨g, c, e1⟩
  · subst e2
    refine ⟨none, 0, e1, fun i x hx => ?_, fun _ => ⟨rfl, rfl⟩⟩
    rw [List.length_eq_zero_iff.1 hl] at hx
    simp at hx
  · subst e1
    refine ⟨_, c, rfl, fun i x hx => ?_, fun e => by cases e⟩
    have hi : i < l.length := (List.getElem?_eq_some_iff.1 hx).1
    subst hl
    exact ⟨g, 0, rfl, (h.lt g rfl).2, by rw [Nat.zero_add]; exact (own_int h hx).1⟩
theorem getZ? (l : List Int) (i : Nat) (h : i < l.length) : ∃ x, l[i]? = some x := ⟨_, List.getElem?_eq_getElem h⟩
theorem intCs_append (a b : List Int) : intCs a ++ intCs b = intCs (a ++ b) := by simp [intCs]

end Go.Proofs.Ytdaflfkknlhllaa
