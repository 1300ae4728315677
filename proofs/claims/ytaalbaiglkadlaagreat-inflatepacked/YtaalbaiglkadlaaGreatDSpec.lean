/- What the program's layer 10 must be; the document's examples; the statements' 'awake'. -/
import Derived.Test.YtaalbaiglkadlaaGreatDM
namespace Go.Proofs.YtaalbaiglkadlaaGreat
open Go.RowKit Go.Lib

/-- The contract of the program's call. -/
structure DSpec : Prop where
  pack : ∀ (s : ByteArray) (level : Int) (W : World), s.size ≤ 3000 → Calls Tryz.prog 7 #[.string s, .int .i64 level] W fun e w' => PackPost W s level e w'

def txtA : ByteArray := ⟨#[97]⟩
theorem txtA_tok : tokM (bAt txtA) txtA.size 0 6 = (97, 0, 0) := by decide +kernel
theorem toksA {ts : List (Nat × Nat × Nat)} (h : Toks (bAt txtA) txtA.size 6 0 ts) : ts.map castT = ex9 := by
  cases ts with
  | nil =>
    have h : 0 = txtA.size := h
    exact absurd h (by decide)
  | cons t ts =>
    obtain ⟨_, h2, h3⟩ := h
    rw [txtA_tok] at h2
    subst h2
    cases ts with
    | nil => rfl
    | cons t2 ts =>
      have h4 : 0 + takes (97, 0, 0) < txtA.size := h3.1
      exact absurd h4 (by decide)
theorem packA {t : List UInt8} {er : Int} (h : PackRel txtA 6 t er) : t = [75, 4, 0] ∧ er = 0 := by
  rcases h with ⟨h1, _⟩ | ⟨h1, _⟩ | ⟨_, _, h3, ts, bits, k, h4, h5, h6⟩
  · omega
  · omega
  · refine ⟨?_, h3⟩
    rw [toksA h4] at h5
    cases k with
    | zero => exact h5.elim
    | succ k =>
      obtain ⟨c, b1, g1, g2, g3⟩ := h5
      have e1 : c = 1 := ex9_choose g1
      subst e1
      rcases g3 with ⟨_, rfl⟩ | ⟨g4, _⟩
      · rcases g2 with ⟨e, _⟩ | ⟨_, ob, g5, rfl⟩
        · omega
        · exact h6.uniq (ex9_block g5)
      · exact absurd g4 (by decide)
theorem ex0_store : storeAll [] ⟨#[]⟩ true = bytesBits [1, 0, 0, 255, 255] := by decide +kernel
theorem pack0 {t : List UInt8} {er : Int} (h : PackRel ⟨#[]⟩ 0 t er) : t = [1, 0, 0, 255, 255] ∧ er = 0 := by
  rcases h with ⟨h1, _⟩ | ⟨_, h2, h3⟩ | ⟨h1, _⟩
  · omega
  · exact ⟨h2.uniq (Packs.of 0 (by rw [List.replicate_zero, List.append_nil]; exact ex0_store) (by rw [ex0_store, bytesBits_length]; rfl)), h3⟩
  · omega
theorem ex0_bits : [true] ++ (lowBits 1 2 ++ bodyBits plainL plainD []) ++ List.replicate 6 false = bytesBits [3, 0] := by decide +kernel
theorem ex0_len : ([true] ++ (lowBits 1 2 ++ bodyBits plainL plainD [])).length = 10 := by decide +kernel
theorem ex0_block {ob : List Bool} (h : BlockRel [] 1 true ob) : Packs ob [3, 0] := by
  rcases h with ⟨h1, _⟩ | ⟨_, rfl⟩
  · exact absurd h1 (by decide)
  · exact Packs.of 6 ex0_bits (by rw [ex0_len]; rfl)
theorem ex0_choose {c : Int} (h : ChooseRel [] 0 0 c) : c = 1 := by
  obtain ⟨f, r, d, h1, h2, h3, rfl⟩ := h
  have hf : f = 10 := by
    rcases h1 with ⟨e, _⟩ | ⟨_, ob, hb, _, rfl⟩
    · exact absurd e (by decide)
    · rcases hb with ⟨e, _⟩ | ⟨_, rfl⟩
      · exact absurd e (by decide)
      · have := ex0_len
        simp only [List.length_append, List.length_singleton] at this ⊢
        omega
  have hr : r = 40 := by
    rcases h2 with ⟨_, rfl⟩ | ⟨e, _⟩
    · decide
    · exact absurd rfl e
  have hd : 29 ≤ d := by
    rcases h3 with ⟨e, _⟩ | ⟨_, ob, hb, _, rfl⟩
    · exact absurd e (by decide)
    · rcases hb with ⟨_, hb, hh, rfl⟩ | ⟨e, _⟩
      · have := headRel_ge hh
        simp only [List.length_append, List.length_singleton, lowBits_length]
        omega
      · exact absurd rfl e
  subst hf hr
  exact (choose_fix1 (by omega) (by omega)).symm
theorem pack9 {t : List UInt8} {er : Int} (h : PackRel ⟨#[]⟩ 9 t er) : t = [3, 0] ∧ er = 0 := by
  rcases h with ⟨h1, _⟩ | ⟨h1, _⟩ | ⟨_, _, h3, ts, bits, k, h4, h5, h6⟩
  · omega
  · omega
  · refine ⟨?_, h3⟩
    have e0 : ts = [] := by
      cases ts with
      | nil => rfl
      | cons t ts => exact absurd h4.1 (by decide)
    subst e0
    cases k with
    | zero => exact h5.elim
    | succ k =>
      obtain ⟨c, b1, g1, g2, g3⟩ := h5
      have e1 : c = 1 := ex0_choose g1
      subst e1
      rcases g3 with ⟨_, rfl⟩ | ⟨g4, _⟩
      · rcases g2 with ⟨e, _⟩ | ⟨_, ob, g5, rfl⟩
        · omega
        · exact h6.uniq (ex0_block g5)
      · exact absurd g4 (by decide)
theorem pack10 {t : List UInt8} {er : Int} (h : PackRel txtA 10 t er) : er = 1 := by
  rcases h with ⟨_, _, h3⟩ | ⟨h1, _⟩ | ⟨_, h1, _⟩
  · exact h3
  · omega
  · omega

end Go.Proofs.YtaalbaiglkadlaaGreat
