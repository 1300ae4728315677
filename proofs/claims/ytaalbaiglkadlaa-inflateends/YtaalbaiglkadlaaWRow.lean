/- Rows of numbers and of nodes that a call owns, side by side. -/
import Derived.Test.YtaalbaiglkadlaaRows
import Derived.Test.YtaalbaiglkadlaaAppend
import Derived.Test.YtaalbaiglkadlaaWorld
import Derived.Test.YtaalbaiglkadlaaWA
import Derived.WalkKit
import Derived.WalkSpells
import Derived.WalkLawsBesides
import Derived.Deep.OwnRows
import Derived.Laws.OwnMore
import Derived.Maps.AppendAt
import Derived.OneCell
import Derived.Test.YtaalbaiglkadlaaIRow
namespace Go.Proofs.Ytaalbaiglkadlaa
open Go.RowKit Go.Lib

def nodeCs (l : List (Nat × Int)) : List Value := l.flatMap fun p => [Value.int .i64 (p.1 : Int), Value.int .i64 p.2]

theorem nodeCs_length (l : List (Nat × Int)) : (nodeCs l).length = l.length * 2 := by
  induction l with
  | nil => rfl
  | cons p l ih => simp only [nodeCs, List.flatMap_cons, List.length_append, List.length_cons] at ih ⊢; simp only [List.length_nil]; omega

theorem nodeCs_cons (p : Nat × Int) (l : List (Nat × Int)) : nodeCs (p :: l) = Value.int .i64 (p.1 : Int) :: Value.int .i64 p.2 :: nodeCs l := rfl

theorem nodeCs_get (l : List (Nat × Int)) : ∀ (i w : Nat) (u : Int), l[i]? = some (w, u) → (nodeCs l)[i * 2]? = some (.int .i64 (w : Int)) ∧ (nodeCs l)[i * 2 + 1]? = some (.int .i64 u) := by
  induction l with
  | nil => intro i w u h; simp at h
  | cons p l ih =>
    intro i w u h
    rw [nodeCs_cons]
    cases i with
    | zero =>
      simp only [List.getElem?_cons_zero, Option.some.injEq] at h
      subst h
      exact ⟨rfl, rfl⟩
    | succ i =>
      rw [List.getElem?_cons_succ] at h
      have := ih i w u h
      rw [show (i + 1) * 2 = i * 2 + 1 + 1 by omega]
      simpa using this

theorem nodeCs_set (l : List (Nat × Int)) : ∀ (i w : Nat) (u v : Int), l[i]? = some (w, u) → (nodeCs l).set (i * 2 + 1) (.int .i64 v) = nodeCs (l.set i (w, v)) := by
  induction l with
  | nil => intro i w u v h; simp at h
  | cons p l ih =>
    intro i w u v h
    cases i with
    | zero =>
      simp only [List.getElem?_cons_zero, Option.some.injEq] at h
      subst h
      rfl
    | succ i =>
      rw [List.getElem?_cons_succ] at h
      rw [show (i + 1) * 2 + 1 = (i * 2 + 1) + 1 + 1 by omega, nodeCs_cons, List.set_cons_succ, List.set_cons_succ, ih i w u v h]
      rfl

theorem nodeCs_append (a b : List (Nat × Int)) : nodeCs (a ++ b) = nodeCs a ++ nodeCs b := by simp [nodeCs]

/-- The document's three rows. -/
structure Three (w : World) (B : Nat) (va vl vf : Value) (leaf : List Int) (left : List Nat) (all : List (Nat × Int)) : Prop where
  oa : w.ownsRow B 121 2 va all.length (nodeCs all)
  ol : w.ownsRow B 3 1 vl left.length (natCs left)
  of : w.ownsRow B 3 1 vf leaf.length (intCs leaf)
  al : Apart va vl
  af : Apart va vf
  lf : Apart vl vf

theorem Three.alloc {w : World} {B : Nat} {va vl vf : Value} {leaf : List Int} {left : List Nat} {all : List (Nat × Int)} (h : Three w B va vl vf leaf left all) (o : Obj) : Three (w.alloc o) B va vl vf leaf left all :=
  ⟨h.oa.alloc o, h.ol.alloc o, h.of.alloc o, h.al, h.af, h.lf⟩
theorem Three.drew {w : World} {B : Nat} {va vl vf : Value} {leaf : List Int} {left : List Nat} {all : List (Nat × Int)} (h : Three w B va vl vf leaf left all) : Three w.drew B va vl vf leaf left all :=
  ⟨h.oa, h.ol, h.of, h.al, h.af, h.lf⟩

theorem Three.appLeaf {w w' : World} {B : Nat} {va vl vf v' : Value} {leaf : List Int} {left : List Nat} {all : List (Nat × Int)} (h : Three w B va vl vf leaf left all) (x : Int)
    (ho : w'.ownsRow B 3 1 v' (leaf.length + 1) (intCs leaf ++ [.int .i64 x])) (hg : w.grownBy w' vf.ownBlock) (hf : v'.ownBlock = vf.ownBlock ∨ ∀ k, v'.ownBlock = some k → w.heap.size ≤ k) :
    Three w' B va vl v' (leaf ++ [x]) left all := by
  refine ⟨own_kept h.oa hg h.af.symm, own_kept h.ol hg h.lf.symm, ?_, h.al, (h.af.symm.fresh h.oa hf).symm, (h.lf.symm.fresh h.ol hf).symm⟩
  rw [List.length_append]
  simpa [intCs] using ho

theorem Three.appLeft {w w' : World} {B : Nat} {va vl vf v' : Value} {leaf : List Int} {left : List Nat} {all : List (Nat × Int)} (h : Three w B va vl vf leaf left all) (x : Nat)
    (ho : w'.ownsRow B 3 1 v' (left.length + 1) (natCs left ++ [.int .i64 (x : Int)])) (hg : w.grownBy w' vl.ownBlock) (hf : v'.ownBlock = vl.ownBlock ∨ ∀ k, v'.ownBlock = some k → w.heap.size ≤ k) :
    Three w' B va v' vf leaf (left ++ [x]) all := by
  refine ⟨own_kept h.oa hg h.al.symm, ?_, own_kept h.of hg h.lf, (h.al.symm.fresh h.oa hf).symm, h.af, h.lf.fresh h.of hf⟩
  rw [List.length_append]
  simpa [natCs] using ho

theorem Three.appAll {w w' : World} {B : Nat} {va vl vf v' : Value} {leaf : List Int} {left : List Nat} {all : List (Nat × Int)} (h : Three w B va vl vf leaf left all) (x : Nat) (u : Int)
    (ho : w'.ownsRow B 121 2 v' (all.length + 1) (nodeCs all ++ [.int .i64 (x : Int), .int .i64 u])) (hg : w.grownBy w' va.ownBlock) (hf : v'.ownBlock = va.ownBlock ∨ ∀ k, v'.ownBlock = some k → w.heap.size ≤ k) :
    Three w' B v' vl vf leaf left (all ++ [(x, u)]) := by
  refine ⟨?_, own_kept h.ol hg h.al, own_kept h.of hg h.af, h.al.fresh h.ol hf, h.af.fresh h.of hf, h.lf⟩
  rw [List.length_append, nodeCs_append]
  exact ho

/-- A number of leaf is turned. -/
theorem Three.setLeaf {w : World} {B : Nat} {va vl : Value} {g n cap : Nat} {leaf : List Int} {left : List Nat} {all : List (Nat × Int)} (h : Three w B va vl (.slice (some ⟨g, 0, none⟩) n cap) leaf left all) (hn : leaf.length = n) (j : Nat) (x : Int) :
    Three (w.setCell ⟨g, j, none⟩ (.int .i64 x)) B va vl (.slice (some ⟨g, 0, none⟩) n cap) (leaf.set j x) left all := by
  subst hn
  have hs := h.of.stored j (.int .i64 x)
  refine ⟨own_kept (v := .slice (some ⟨g, 0, none⟩) leaf.length cap) h.oa hs.2 h.af.symm, own_kept (v := .slice (some ⟨g, 0, none⟩) leaf.length cap) h.ol hs.2 h.lf.symm, ?_, h.al, h.af, h.lf⟩
  rw [List.length_set]
  have e : (intCs leaf).set j (.int .i64 x) = intCs (leaf.set j x) := by unfold intCs; rw [List.map_set]
  rw [← e]
  exact hs.1

/-- A node's parent is told. -/
theorem Three.setUp {w : World} {B : Nat} {vl vf : Value} {g n cap : Nat} {leaf : List Int} {left : List Nat} {all : List (Nat × Int)} (h : Three w B (.slice (some ⟨g, 0, none⟩) n cap) vl vf leaf left all) (hn : all.length = n) (j x : Nat) (u v : Int) (hj : all[j]? = some (x, u)) :
    Three (w.setCell ⟨g, j * 2 + 1, none⟩ (.int .i64 v)) B (.slice (some ⟨g, 0, none⟩) n cap) vl vf leaf left (all.set j (x, v)) := by
  subst hn
  have hs := h.oa.stored (j * 2 + 1) (.int .i64 v)
  refine ⟨?_, own_kept (v := .slice (some ⟨g, 0, none⟩) all.length cap) h.ol hs.2 h.al, own_kept (v := .slice (some ⟨g, 0, none⟩) all.length cap) h.of hs.2 h.af, h.al, h.af, h.lf⟩
  rw [List.length_set, ← nodeCs_set all j x u v hj]
  exact hs.1

theorem own_node {w : World} {B g cap : Nat} {l : List (Nat × Int)} {j x : Nat} {u : Int} (h : w.ownsRow B 121 2 (.slice (some ⟨g, 0, none⟩) l.length cap) l.length (nodeCs l)) (hj : l[j]? = some (x, u)) :
    w.cell? ⟨g, j * 2, none⟩ = some (.int .i64 (x : Int)) ∧ w.cell? ⟨g, j * 2 + 1, none⟩ = some (.int .i64 u) ∧ w.frozen? ⟨g, j * 2 + 1, none⟩ = false := by
  have hl : j < l.length := (List.getElem?_eq_some_iff.1 hj).1
  have hg := nodeCs_get l j x u hj
  refine ⟨?_, ?_, h.frozenAt _⟩
  · rw [h.cellAt (j * 2) (by omega)]; exact hg.1
  · rw [h.cellAt (j * 2 + 1) (by omega)]; exact hg.2

end Go.Proofs.Ytaalbaiglkadlaa
