/- Streams, plainly: blocks one behind the other; how long a stream is; stored ones. Nothing of the program is named here, but by what is imported. -/
import Derived.Test.YtpgkmbakohfpkaaBLeastM
import Derived.Test.YtpgkmbakohfpkaaBAwake
import Derived.Test.YtpgkmbakohfpkaaDSlice
namespace Go.Proofs.Ytpgkmbakohfpkaa
open Go.RowKit Go.Lib

/-- How many bytes tokens stand for. -/
def covT (t : Nat × Int × Int) : Nat := if t.2.1 ≤ 1 then 1 else t.2.1.toNat
def covL (l : List (Nat × Int × Int)) : Nat := (l.map covT).sum
theorem covL_nil : covL [] = 0 := rfl
theorem covL_append (a b : List (Nat × Int × Int)) : covL (a ++ b) = covL a + covL b := by unfold covL; rw [List.map_append, List.sum_append]
theorem covL_snoc (a : List (Nat × Int × Int)) (t : Nat × Int × Int) : covL (a ++ [t]) = covL a + covT t := by rw [covL_append]; show _ + (covT t + 0) = _; omega
/-- One more block. -/
def StepRel (s : ByteArray) (bs : List Bool) (i : Nat) (part : List (Nat × Int × Int)) (c : Int) (last : Bool) (bs' : List Bool) : Prop :=
  (c = 0 ∧ bs' = storeAll bs (subB s i (covL part)) last) ∨ (c ≠ 0 ∧ ∃ ob, BlockRel part c last ob ∧ bs' = bs ++ ob)
theorem StepRel.uniq {s : ByteArray} {bs : List Bool} {i : Nat} {part : List (Nat × Int × Int)} {c : Int} {last : Bool} {x y : List Bool} (h : StepRel s bs i part c last x) (k : StepRel s bs i part c last y) : x = y := by
  rcases h with ⟨h1, rfl⟩ | ⟨h1, ob, h2, rfl⟩
  · rcases k with ⟨_, rfl⟩ | ⟨k1, _⟩
    · rfl
    · exact absurd h1 k1
  · rcases k with ⟨k1, _⟩ | ⟨_, ob', k2, rfl⟩
    · exact absurd k1 h1
    · rw [h2.uniq k2]
/-- Blocks of 512 tokens, k at most. -/
def Blocks (s : ByteArray) : Nat → List Bool → Nat → List (Nat × Int × Int) → List Bool → Prop
  | 0, _, _, _, _ => False
  | k + 1, bs, i, l, out => ∃ c bs', ChooseRel (l.take 512) (covL (l.take 512) : Int) (bs.length : Int) c ∧ StepRel s bs i (l.take 512) c (decide (l.length ≤ 512)) bs' ∧
      ((l.length ≤ 512 ∧ out = bs') ∨ (512 < l.length ∧ Blocks s k bs' (i + covL (l.take 512)) (l.drop 512) out))
theorem Blocks.uniq {s : ByteArray} : ∀ (k m : Nat) (bs : List Bool) (i : Nat) (l : List (Nat × Int × Int)) (x y : List Bool), Blocks s k bs i l x → Blocks s m bs i l y → x = y
  | 0, _, _, _, _, _, _, h, _ => h.elim
  | _ + 1, 0, _, _, _, _, _, _, h => h.elim
  | k + 1, m + 1, bs, i, l, x, y, h, g => by
    obtain ⟨c, b1, h1, h2, h3⟩ := h
    obtain ⟨c', b2, g1, g2, g3⟩ := g
    have e := h1.uniq g1
    subst e
    have e := h2.uniq g2
    subst e
    rcases h3 with ⟨h4, rfl⟩ | ⟨h4, h5⟩
    · rcases g3 with ⟨_, rfl⟩ | ⟨g4, _⟩
      · rfl
      · omega
    · rcases g3 with ⟨g4, _⟩ | ⟨_, g5⟩
      · omega
      · exact Blocks.uniq k m _ _ _ _ _ h5 g5

theorem subB_size (s : ByteArray) (i n : Nat) (h : i + n ≤ s.size) : (subB s i n).size = n := by
  show (((s.data.toList.drop i).take n).toArray).size = n
  have : s.data.toList.length = s.size := by rw [Array.length_toList]; rfl
  rw [List.size_toArray, List.length_take, List.length_drop]
  omega
/-- A block is no longer than a stored one. -/
theorem StepRel.le {s : ByteArray} {bs : List Bool} {i : Nat} {part : List (Nat × Int × Int)} {c : Int} {last : Bool} {x : List Bool} (h : StepRel s bs i part c last x) (hc : ChooseRel part (covL part : Int) (bs.length : Int) c) (hi : i + covL part ≤ s.size) (hs : s.size ≤ 65535) :
    x.length ≤ bs.length + 8 * covL part + 42 ∧ bs.length + 10 ≤ x.length := by
  rcases h with ⟨h1, rfl⟩ | ⟨h1, ob, h2, rfl⟩
  · rw [storeAll_length, subB_size s i _ hi]
    omega
  · have hz : ∃ z, SizeRel part (covL part : Int) c (bs.length : Int) z ∧ z ≤ (ob.length : Int) ∧ (ob.length : Int) ≤ z := by
      obtain ⟨f, r, d, hf, hr, hd, hch⟩ := hc
      have hcr := choose_range ⟨f, r, d, hf, hr, hd, hch⟩
      have h12 : c = 1 ∨ c = 2 := by omega
      rcases h12 with e | e
      · rcases hf with ⟨e0, _⟩ | ⟨_, ob2, g2, g3, rfl⟩
        · exact absurd e0 (by decide)
        · rw [e] at h2
          have := g2.len h2
          exact ⟨_, .inr ⟨h1, ob2, by rw [e]; exact g2, g3, rfl⟩, by omega, by omega⟩
      · rcases hd with ⟨e0, _⟩ | ⟨_, ob2, g2, g3, rfl⟩
        · exact absurd e0 (by decide)
        · rw [e] at h2
          have := g2.len h2
          exact ⟨_, .inr ⟨h1, ob2, by rw [e]; exact g2, g3, rfl⟩, by omega, by omega⟩
    obtain ⟨z, hz1, hz2, hz3⟩ := hz
    have hl := choose_least (by omega) (by omega) hc hz1
    rw [List.length_append]
    have hge : 10 ≤ ob.length := by
      rcases h2 with ⟨_, hb, hh, rfl⟩ | ⟨_, rfl⟩
      · have := headRel_ge hh
        simp only [List.length_append, List.length_singleton, lowBits_length]
        omega
      · unfold bodyBits highBits
        have e256 : plainL.getD 256 0 = 7 := by decide +kernel
        simp only [List.length_append, List.length_singleton, lowBits_length, List.length_reverse, e256]
        omega
    omega
/-- A stream is never much longer than its text. -/
theorem Blocks.le {s : ByteArray} (hs : s.size ≤ 65535) : ∀ (k : Nat) (bs : List Bool) (i : Nat) (l : List (Nat × Int × Int)) (x : List Bool), Blocks s k bs i l x → i + covL l ≤ s.size → x.length ≤ bs.length + 8 * covL l + 42 * (l.length / 512 + 1) ∧ bs.length + 10 ≤ x.length
  | 0, _, _, _, _, h, _ => h.elim
  | k + 1, bs, i, l, x, h, hi => by
    obtain ⟨c, b1, h1, h2, h3⟩ := h
    have hsum : covL l = covL (l.take 512) + covL (l.drop 512) := by rw [← covL_append, List.take_append_drop]
    have h4 := h2.le h1 (by omega) hs
    rcases h3 with ⟨h5, rfl⟩ | ⟨h5, h6⟩
    · have : l.length / 512 ≤ 1 := by omega
      omega
    · have ih := Blocks.le hs k b1 _ _ x h6 (by omega)
      rw [List.length_drop] at ih
      have : (l.length - 512) / 512 + 1 ≤ l.length / 512 := by omega
      omega

theorem low16 (n : Nat) (h : n ≤ 65535) : lowBits (n : Int) 16 = bytesBits [UInt8.ofNat (n % 256), UInt8.ofNat (n / 256)] := by
  have e1 : (UInt8.ofNat (n % 256)).toNat = n % 256 := by simp
  have e2 : (UInt8.ofNat (n / 256)).toNat = n / 256 := by simp; omega
  apply List.ext_getElem?
  intro i
  have hb := bytesBits_getD [UInt8.ofNat (n % 256), UInt8.ofNat (n / 256)] i
  by_cases hi : i < 16
  · rw [lowBits_get _ _ _ hi]
    have hl : i < (bytesBits [UInt8.ofNat (n % 256), UInt8.ofNat (n / 256)]).length := by rw [bytesBits_length]; exact hi
    rw [List.getD_eq_getElem?_getD, List.getElem?_eq_getElem hl] at hb
    rw [List.getElem?_eq_getElem hl]
    congr 1
    rw [show (bytesBits [UInt8.ofNat (n % 256), UInt8.ofNat (n / 256)])[i] = _ from hb]
    have e3 : ((n : Int) / 2 ^ i % 2 = 1) ↔ (n / 2 ^ i % 2 = 1) := by
      have e : ((n : Int) / 2 ^ i % 2) = ((n / 2 ^ i % 2 : Nat) : Int) := by
        rw [Int.natCast_emod, Int.natCast_ediv, Int.natCast_pow]
        rfl
      rw [e]
      omega
    rw [decide_eq_decide.2 e3, ← Nat.testBit_eq_decide_div_mod_eq]
    by_cases h8 : i < 8
    · rw [show i / 8 = 0 by omega, show i % 8 = i by omega]
      show _ = (UInt8.ofNat (n % 256)).toNat.testBit i
      rw [e1, show (256 : Nat) = 2 ^ 8 from rfl, Nat.testBit_mod_two_pow, decide_eq_true h8, Bool.true_and]
    · rw [show i / 8 = 1 by omega, show i % 8 = i - 8 by omega]
      show _ = (UInt8.ofNat (n / 256)).toNat.testBit (i - 8)
      rw [e2, show (256 : Nat) = 2 ^ 8 from rfl, Nat.testBit_div_two_pow]
      congr 1
      omega
  · rw [List.getElem?_eq_none (by rw [lowBits_length]; omega), List.getElem?_eq_none (by rw [bytesBits_length]; show 8 * 2 ≤ i; omega)]
theorem bytesBits_append (a b : List UInt8) : bytesBits (a ++ b) = bytesBits a ++ bytesBits b := by
  induction a with
  | nil => rfl
  | cons x a ih => rw [List.cons_append, bytesBits, ih, bytesBits, List.append_assoc]
/-- One stored block alone. -/
theorem store_alone (s : ByteArray) (h : s.size ≤ 65535) : storeAll [] s true = bytesBits ([1, UInt8.ofNat (s.size % 256), UInt8.ofNat (s.size / 256), UInt8.ofNat ((65535 - s.size) % 256), UInt8.ofNat ((65535 - s.size) / 256)] ++ s.data.toList) := by
  unfold storeAll
  have e1 : alignBits ([] ++ [true] ++ lowBits 0 2) = bytesBits [1] := by decide +kernel
  rw [e1, low16 s.size h, show (65535 : Int) - (s.size : Int) = ((65535 - s.size : Nat) : Int) by omega, low16 (65535 - s.size) (by omega)]
  rw [align_done _ (by simp only [List.length_append, bytesBits_length]; show (8 * 1 + 8 * 2 + 8 * 2) % 8 = 0; rfl)]
  rw [← bytesBits_append, ← bytesBits_append, ← bytesBits_append]
  rfl

end Go.Proofs.Ytpgkmbakohfpkaa
