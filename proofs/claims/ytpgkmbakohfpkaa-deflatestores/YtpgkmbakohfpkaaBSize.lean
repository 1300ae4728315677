/- Contracts of the document's layer 9: Store, Size, Choose. -/
import Derived.Test.YtpgkmbakohfpkaaBWrite
namespace Go.Proofs.Ytpgkmbakohfpkaa
open Go.RowKit Go.Lib

/-- The bits of a writer that held bs, behind a stored block. -/
def storeAll (bs : List Bool) (s : ByteArray) (last : Bool) : List Bool :=
  alignBits (alignBits (bs ++ [last] ++ lowBits 0 2) ++ lowBits (s.size : Int) 16 ++ lowBits (65535 - (s.size : Int)) 16) ++ bytesBits s.data.toList

theorem storeAll_length (bs : List Bool) (s : ByteArray) (last : Bool) : (storeAll bs s last).length = (bs.length + 3 + 7) / 8 * 8 + 32 + 8 * s.size := by
  unfold storeAll
  have : s.data.size = s.size := rfl
  simp only [List.length_append, alignBits_length, lowBits_length, bytesBits_length, Array.length_toList, List.length_singleton]
  omega

/-- How many bits a stored block has. -/
def rawSize (raw k : Int) : Int := if raw < 0 ∨ 65535 < raw then -1 else 3 + (8 - (k + 3) % 8) % 8 + 32 + 8 * raw
def SizeRel (l : List (Nat × Int × Int)) (raw kind k z : Int) : Prop := (kind = 0 ∧ z = rawSize raw k) ∨ (kind ≠ 0 ∧ ∃ ob, BlockRel l kind false ob ∧ ob.length ≤ 200000 ∧ z = (ob.length : Int))
theorem SizeRel.uniq {l : List (Nat × Int × Int)} {raw kind k z z' : Int} (h : SizeRel l raw kind k z) (g : SizeRel l raw kind k z') : z = z' := by
  rcases h with ⟨h1, rfl⟩ | ⟨h1, ob, h2, _, rfl⟩
  · rcases g with ⟨_, rfl⟩ | ⟨g1, _⟩
    · rfl
    · exact absurd h1 g1
  · rcases g with ⟨g1, _⟩ | ⟨_, ob', g2, _, rfl⟩
    · exact absurd g1 h1
    · rw [h2.uniq g2]
theorem SizeRel.range {l : List (Nat × Int × Int)} {raw kind k z : Int} (h : SizeRel l raw kind k z) : -1 ≤ z ∧ z ≤ 1000000 := by
  rcases h with ⟨_, rfl⟩ | ⟨_, ob, _, h3, rfl⟩
  · unfold rawSize
    split <;> omega
  · omega

/-- Which kind is chosen. -/
def chooseI (f r d : Int) : Int := if d < (if 0 ≤ r ∧ r ≤ f then r else f) then 2 else if 0 ≤ r ∧ r ≤ f then 0 else 1
theorem choose_raw2 {f r d : Int} (h : 0 ≤ r ∧ r ≤ f) (h3 : d < r) : 2 = chooseI f r d := by unfold chooseI; simp only [if_pos h]; rw [if_pos h3]
theorem choose_raw0 {f r d : Int} (h : 0 ≤ r ∧ r ≤ f) (h3 : ¬ d < r) : 0 = chooseI f r d := by unfold chooseI; simp only [if_pos h]; rw [if_neg h3]
theorem choose_fix2 {f r d : Int} (h : ¬ (0 ≤ r ∧ r ≤ f)) (h3 : d < f) : 2 = chooseI f r d := by unfold chooseI; simp only [if_neg h]; rw [if_pos h3]
theorem choose_fix1 {f r d : Int} (h : ¬ (0 ≤ r ∧ r ≤ f)) (h3 : ¬ d < f) : 1 = chooseI f r d := by unfold chooseI; simp only [if_neg h]; rw [if_neg h3]
def ChooseRel (l : List (Nat × Int × Int)) (raw k c : Int) : Prop := ∃ f r d, SizeRel l raw 1 k f ∧ SizeRel l raw 0 k r ∧ SizeRel l raw 2 k d ∧ c = chooseI f r d
theorem ChooseRel.uniq {l : List (Nat × Int × Int)} {raw k c c' : Int} (h : ChooseRel l raw k c) (g : ChooseRel l raw k c') : c = c' := by
  obtain ⟨f, r, d, h1, h2, h3, rfl⟩ := h
  obtain ⟨f', r', d', g1, g2, g3, rfl⟩ := g
  rw [h1.uniq g1, h2.uniq g2, h3.uniq g3]

end Go.Proofs.Ytpgkmbakohfpkaa
