/- Bytes and matches, plainly: the first tokens, errors, texts whose bytes all go alone. Nothing of the program is named here. -/
import Derived.Test.YtifcpaeofmkokaaMMath
namespace Go.Proofs.Ytifcpaeofmkokaa

theorem copyN_pre (d : Nat) : ∀ k out, ∃ r, copyN d k out = out ++ r
  | 0, out => ⟨[], by rw [List.append_nil]; rfl⟩
  | k + 1, out => by
    obtain ⟨r, hr⟩ := copyN_pre d k (out ++ [out.getD (out.length - d) 0])
    exact ⟨[out.getD (out.length - d) 0] ++ r, by unfold copyN; rw [hr, List.append_assoc]⟩
/-- What tokens come to begins with what stood. -/
theorem exF_pre (eFar eLim : Nat) (hF : eFar ≠ 0) (hL : eLim ≠ 0) (limit : Int) : ∀ (ts : List (Nat × Int × Int)) (out s : List Nat), exF eFar eLim limit out ts = (s, 0) → ∃ r, s = out ++ r
  | [], out, s, h => by
    unfold exF at h
    injection h with h _
    exact ⟨[], by rw [List.append_nil, h]⟩
  | t :: ts, out, s, h => by
    unfold exF at h
    split at h
    · split at h
      · injection h with _ h2; exact absurd h2 hL
      · obtain ⟨r, hr⟩ := exF_pre eFar eLim hF hL limit ts _ s h
        exact ⟨[t.1] ++ r, by rw [hr, List.append_assoc]⟩
    · split at h
      · injection h with _ h2; exact absurd h2 hF
      · split at h
        · injection h with _ h2; exact absurd h2 hL
        · obtain ⟨r, hr⟩ := exF_pre eFar eLim hF hL limit ts _ s h
          obtain ⟨q, hq⟩ := copyN_pre t.2.2.toNat t.2.1.toNat out
          exact ⟨q ++ r, by rw [hr, hq, List.append_assoc]⟩
/-- The first tokens come to the beginning. -/
theorem ex_begins (eFar eLim : Nat) (hF : eFar ≠ 0) (hL : eLim ≠ 0) (limit : Int) : ∀ (a b : List (Nat × Int × Int)) (out s : List Nat), exF eFar eLim limit out (a ++ b) = (s, 0) → ∃ t r, exF eFar eLim limit out a = (t, 0) ∧ s = t ++ r
  | [], b, out, s, h => by
    rw [List.nil_append] at h
    obtain ⟨r, hr⟩ := exF_pre eFar eLim hF hL limit b out s h
    exact ⟨out, r, rfl, hr⟩
  | t :: a, b, out, s, h => by
    rw [List.cons_append] at h
    unfold exF at h ⊢
    split at h
    · rename_i c1
      rw [if_pos c1]
      split at h
      · injection h with _ h2; exact absurd h2 hL
      · rename_i c2
        rw [if_neg c2]
        exact ex_begins eFar eLim hF hL limit a b _ s h
    · rename_i c1
      rw [if_neg c1]
      split at h
      · injection h with _ h2; exact absurd h2 hF
      · rename_i c2
        rw [if_neg c2]
        split at h
        · injection h with _ h2; exact absurd h2 hL
        · rename_i c3
          rw [if_neg c3]
          exact ex_begins eFar eLim hF hL limit a b _ s h
/-- An error has no text. -/
theorem ex_err (eFar eLim : Nat) (limit : Int) : ∀ (ts : List (Nat × Int × Int)) (out : List Nat), (exF eFar eLim limit out ts).2 ≠ 0 → (exF eFar eLim limit out ts).1 = []
  | [], out, h => absurd rfl h
  | t :: ts, out, h => by
    unfold exF at h ⊢
    split at h
    · rename_i c1
      rw [if_pos c1]
      split at h
      · rename_i c2; rw [if_pos c2]
      · rename_i c2; rw [if_neg c2]; exact ex_err eFar eLim limit ts _ h
    · rename_i c1
      rw [if_neg c1]
      split at h
      · rename_i c2; rw [if_pos c2]
      · rename_i c2
        rw [if_neg c2]
        split at h
        · rename_i c3; rw [if_pos c3]
        · rename_i c3; rw [if_neg c3]; exact ex_err eFar eLim limit ts _ h

/-- Bytes that all go alone. -/
theorem toks_plain (c : Nat → Nat) (n : Nat) (level : Int) (hb : ∀ i, i < n → bestM c n i (chainL level) = (0, 0)) : ∀ (ts : List (Nat × Nat × Nat)) (i : Nat), Toks c n level i ts → ts.length + i = n ∧ ∀ j, j < ts.length → ts[j]? = some (c (i + j), 0, 0)
  | [], i, h => by
    have h : i = n := h
    exact ⟨by simp; exact h, fun j hj => by simp at hj⟩
  | t :: ts, i, h => by
    obtain ⟨hi, ht, h2⟩ := h
    have e : t = (c i, 0, 0) := by rw [ht]; unfold tokM; rw [if_pos (.inl (by rw [hb i hi]))]
    subst e
    have e1 : takes (c i, 0, 0) = 1 := rfl
    rw [e1] at h2
    obtain ⟨g1, g2⟩ := toks_plain c n level hb ts _ h2
    refine ⟨by rw [List.length_cons]; omega, fun j hj => ?_⟩
    cases j with
    | zero => rfl
    | succ j =>
      rw [List.getElem?_cons_succ, g2 j (by rw [List.length_cons] at hj; omega), show i + 1 + j = i + (j + 1) by omega]
theorem best_level0 (c : Nat → Nat) (n i : Nat) (level : Int) (h : level < 1) : bestM c n i (chainL level) = (0, 0) := by
  unfold bestM chainL
  rw [if_pos h]
  exact bestR_zero c n i i (0, 0)
theorem best_alone (c : Nat → Nat) (n i most : Nat) (hs : ∀ k, k < i → same3 c n k i = false) : bestM c n i most = (0, 0) := bestR_none c n i hs i most (0, 0) (Nat.le_refl _)

end Go.Proofs.Ytifcpaeofmkokaa
