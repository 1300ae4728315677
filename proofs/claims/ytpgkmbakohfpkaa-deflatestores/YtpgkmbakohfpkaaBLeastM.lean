/- The kind that is chosen has no more bits than any other one; a text's tokens are right ones. -/
import Derived.Test.YtpgkmbakohfpkaaBSize
import Derived.Test.YtpgkmbakohfpkaaMA
namespace Go.Proofs.Ytpgkmbakohfpkaa
open Go.RowKit Go.Lib

theorem choose_least {l : List (Nat × Int × Int)} {raw k c z : Int} (h0 : 0 ≤ raw) (h1 : raw ≤ 65535) (h : ChooseRel l raw k c) (hz : SizeRel l raw c k z) :
    0 ≤ z ∧ z ≤ 8 * raw + 3 + 7 + 32 ∧ ∀ kind m, 0 ≤ kind → kind ≤ 2 → SizeRel l raw kind k m → z ≤ m := by
  obtain ⟨f, r, d, hf, hr, hd, rfl⟩ := h
  have er : r = 3 + (8 - (k + 3) % 8) % 8 + 32 + 8 * raw := by
    rcases hr with ⟨_, rfl⟩ | ⟨e, _⟩
    · unfold rawSize; rw [if_neg (by omega)]
    · exact absurd rfl e
  have gf : 0 ≤ f := by
    rcases hf with ⟨e, _⟩ | ⟨_, ob, _, _, rfl⟩
    · exact absurd e (by decide)
    · omega
  have gd : 0 ≤ d := by
    rcases hd with ⟨e, _⟩ | ⟨_, ob, _, _, rfl⟩
    · exact absurd e (by decide)
    · omega
  have hall : ∀ kind m, 0 ≤ kind → kind ≤ 2 → SizeRel l raw kind k m → (kind = 0 ∧ m = r) ∨ (kind = 1 ∧ m = f) ∨ (kind = 2 ∧ m = d) := by
    intro kind m g1 g2 g3
    have : kind = 0 ∨ kind = 1 ∨ kind = 2 := by omega
    rcases this with rfl | rfl | rfl
    · exact .inl ⟨rfl, g3.uniq hr⟩
    · exact .inr (.inl ⟨rfl, g3.uniq hf⟩)
    · exact .inr (.inr ⟨rfl, g3.uniq hd⟩)
  have key : (chooseI f r d = 2 ∧ d ≤ r ∧ d ≤ f) ∨ (chooseI f r d = 0 ∧ r ≤ d ∧ r ≤ f) ∨ (chooseI f r d = 1 ∧ f ≤ d ∧ f ≤ r) := by
    by_cases g : 0 ≤ r ∧ r ≤ f
    · by_cases g2 : d < r
      · exact .inl ⟨(choose_raw2 g g2).symm, by omega, by omega⟩
      · exact .inr (.inl ⟨(choose_raw0 g g2).symm, by omega, g.2⟩)
    · by_cases g2 : d < f
      · exact .inl ⟨(choose_fix2 g g2).symm, by omega, by omega⟩
      · exact .inr (.inr ⟨(choose_fix1 g g2).symm, by omega, by omega⟩)
  have hzz : (chooseI f r d = 0 ∧ z = r) ∨ (chooseI f r d = 1 ∧ z = f) ∨ (chooseI f r d = 2 ∧ z = d) := hall _ z (by omega) (by omega) hz
  refine ⟨by omega, by omega, fun kind m g1 g2 g3 => ?_⟩
  have := hall kind m g1 g2 g3
  omega
theorem choose_range {l : List (Nat × Int × Int)} {raw k c : Int} (h : ChooseRel l raw k c) : 0 ≤ c ∧ c ≤ 2 := by
  obtain ⟨f, r, d, _, _, _, rfl⟩ := h
  unfold chooseI
  split
  · omega
  · split <;> omega
theorem toks_right (s : ByteArray) (level : Int) : ∀ (ts : List (Nat × Nat × Nat)) (i : Nat), Toks (bAt s) s.size level i ts → ∀ t ∈ ts.map castT, RightT t
  | [], _, _, t, ht => by cases ht
  | x :: ts, i, h, t, ht => by
    obtain ⟨h1, h2, h3⟩ := h
    rcases List.mem_cons.1 ht with e | e
    · rw [e, h2]
      unfold tokM
      split
      · exact ⟨(s.data.toList.getD i 0).toNat_lt, fun g => absurd g (by show ¬ (0 : Int) < ((0 : Nat) : Int); omega)⟩
      · next hn =>
        have hg := best_good (bAt s) s.size i (chainL level)
        refine ⟨by show 0 < 256; omega, fun _ => ?_⟩
        rcases hg with e0 | hg
        · exact absurd (.inl (by rw [e0])) hn
        · show (3 ≤ (((bestM (bAt s) s.size i (chainL level)).1 : Nat) : Int) ∧ (((bestM (bAt s) s.size i (chainL level)).1 : Nat) : Int) ≤ 258) ∧ (1 ≤ (((bestM (bAt s) s.size i (chainL level)).2 : Nat) : Int) ∧ (((bestM (bAt s) s.size i (chainL level)).2 : Nat) : Int) ≤ 32768)
          obtain ⟨a1, a2, a3, a4, _⟩ := hg
          omega
    · exact toks_right s level ts _ h3 t e

end Go.Proofs.Ytpgkmbakohfpkaa
