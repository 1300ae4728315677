/- Rows of numbers and of nodes that a call owns, side by side. -/
import Derived.Test.YtaalbaiglkadlaaGreatRows
import Derived.Test.YtaalbaiglkadlaaGreatAppend
import Derived.Test.YtaalbaiglkadlaaGreatWorld
import Derived.Test.YtaalbaiglkadlaaGreatWA
import Derived.WalkKit
import Derived.WalkSpells
import Derived.WalkLawsBesides
import Derived.Deep.OwnRows
import Derived.Laws.OwnMore
import Derived.Maps.AppendAt
import Derived.OneCell
import Derived.Test.YtaalbaiglkadlaaGreatIRow
namespace Go.Proofs.YtaalbaiglkadlaaGreat
open Go.RowKit Go.Lib

def nodeCs (l : List (Nat × Int)) : List Value := l.flatMap fun p => [Value.int .i64 (p.1 : Int), Value.int .i64 p.2]

theorem nodeCs_length (l : List (Nat × Int)) : (nodeCs l).length = l.length * 2 := by
  induction l with
  | nil => rfl
  | cons p l ih => simp only [nodeCs, List.flatMap_cons, List.length_append, List.length_cons] at ih ⊢; simp only [List.length_nil]; omega

theorem nodeCs_cons (p : Nat × Int) (l : List (Nat × Int)) : nodeCs (p :: l) = Value.int .i64 (p.1 : Int) :: Value.int .i64 p.2 :: nodeCs l := rfl

theorem nodeCs_get (l : List (Nat × Int)) : ∀ (i w : Nat) (u : Int), l[i]? = some (w, u) → (nodeCs l)[i * 2]? = some (.int .i64 (w : Int)) ∧ (nodeCs l)[i * 2 + 1]? = some (.int .i64 u) := by
  induction l with
  | nil => intro i w u h; simp at h
  | cons p l ih =>
    intro i w u h
    rw [nodeCs_cons]
    cases i with
    | zero =>
      simp only [List.getElem?_cons_zero, Option.some.injEq] at h
      subst h
      exact ⟨rfl, rfl⟩
    | succ i =>
      rw [List.getElem?_cons_succ] at h
      have := ih i w u h
      rw [show (i + 1) * 2 = i * 2 + 1 + 1 by omega]
      simpa using this

theorem nodeCs_set (l : List (Nat × Int)) : ∀ (i w : Nat) (u v : Int), l[i]? = some (w, u) → (nodeCs l).set (i * 2 + 1) (.int .i64 v) = nodeCs (l.set i (w, v)) := by
  induction l with
  | nil => intro i w u v h; simp at h
  | cons p l ih =>
    intro i w u v h
    cases i with
    | zero =>
      simp only [List.getElem?_cons_zero, Option.some.injEq] at h
      subst h
      rfl
    | succ i =>
      rw [List.getElem?_cons_succ] at h
      rw [show (i + 1) * 2 + 1 = (i * 2 + 1) + 1 + 1 by omega, nodeCs_cons, List.set_cons_succ, List.set_cons_succ, ih i w u v h]
      rfl

theorem nodeCs_append (a b : List (Nat × Int)) : nodeCs (a ++ b) = nodeCs a ++ nodeCs b := by simp [nodeCs]

end Go.Proofs.YtaalbaiglkadlaaGreat
