/- Contract of the document's 'Open' of layer 11. -/
import Derived.Test.YtaalbaiglkadlaaGreatIOpen0
import Derived.Test.YtaalbaiglkadlaaGreatIC
import Derived.Test.YtaalbaiglkadlaaGreatISpec
namespace Go.Proofs.YtaalbaiglkadlaaGreat
open Go.RowKit Go.Lib

theorem OutSt.below {T : TypeId} {w w' W : World} {p i : Nat} {s : ByteArray} {out : List Nat} {v : Value} (h : OutSt T w W p s i out v) (b : Below w.heap.size w w') : OutSt T w' W p s i out v := by
  have hp : p < w.heap.size := (Array.getElem?_eq_some_iff.1 h.rd).1
  refine h.read ⟨b.os, b.tape, b.output, b.size, fun k hk _ => b.block k hk⟩ ?_
  unfold RdAt
  rw [b.block p hp]
  exact h.rd
/-- What Build gives, in one form. -/
theorem built_out {W w' : World} {l : List Int} {r : Value} (h : BuildRes W l r w') : ∃ (f : Nat → Nat) (a : Option Addr) (m c : Nat) (er : Int), r = .tuple #[codeV f (.slice a m c), .int .i64 er] ∧
    ((goodB l = false ∧ er = 4) ∨ (goodB l = true ∧ er = 0 ∧ f = cn (l.map Int.toNat) ∧ (symTo (l.map Int.toNat) 16).length = m ∧ ArgN w' a (symTo (l.map Int.toNat) 16) ∧ ∀ b off, a = some ⟨b, off, none⟩ → W.heap.size ≤ b ∧ b < w'.heap.size)) := by
  rcases h with ⟨hg, rfl⟩ | ⟨hg, v, rfl, ho⟩
  · exact ⟨_, _, _, _, _, rfl, .inl ⟨hg, rfl⟩⟩
  · rcases len_form ho with ⟨e1, e2⟩ | ⟨g, c, e1⟩
    · subst e1
      exact ⟨_, _, _, _, _, rfl, .inr ⟨hg, rfl, rfl, e2, (by rw [List.length_eq_zero_iff.1 e2]; exact fun i x hx => by simp at hx), fun b off e => by cases e⟩⟩
    · subst e1
      have hlt := ho.lt g rfl
      refine ⟨_, _, _, _, _, rfl, .inr ⟨hg, rfl, rfl, rfl, own_arg ho rfl, fun b off e => ?_⟩⟩
      injection e with e
      injection e with e _
      subst e
      exact hlt
theorem built_kn {p : Nat} {v : Value} {w w' w2 : World} {a : Option Addr} {S : List Nat} (ha : ArgN w' a S) (hn : ∀ b off, a = some ⟨b, off, none⟩ → w.heap.size ≤ b ∧ b < w'.heap.size) (hp : p < w.heap.size) (hv : ∀ k, v.ownBlock = some k → k < w.heap.size) (b : Below w'.heap.size w' w2) : KN p v w2 a S :=
  ⟨ha.below b (Nat.le_refl _), fun g off e => free_new hp hv (hn g off e).1 (Nat.lt_of_lt_of_le (hn g off e).2 b.size)⟩

end Go.Proofs.YtaalbaiglkadlaaGreat
