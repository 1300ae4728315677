/- Symbols written by their numbers, the highest bit first, one behind the other: what is read there. -/
import Derived.Test.YteillcfdmjmaeaaKReads
import Derived.Test.YteillcfdmjmaeaaKBitsW2
namespace Go.Proofs.Yteillcfdmjmaeaa
open Go.RowKit Go.Lib

/-- The bits of symbols. -/
def bitsOf (ls : List Nat) : List Nat → List Bool
  | [] => []
  | n :: r => highBits (codeN ls n : Int) (ls.getD n 0) ++ bitsOf ls r

theorem highBits_length (v : Int) (k : Nat) : (highBits v k).length = k := by unfold highBits; rw [List.length_reverse, lowBits_length]
theorem bitsOf_append (ls a b : List Nat) : bitsOf ls (a ++ b) = bitsOf ls a ++ bitsOf ls b := by
  induction a with
  | nil => rfl
  | cons n a ih => show highBits _ _ ++ bitsOf ls (a ++ b) = _; rw [ih, ← List.append_assoc]; rfl
theorem bitsOf_snoc (ls a : List Nat) (n : Nat) : bitsOf ls (a ++ [n]) = bitsOf ls a ++ highBits (codeN ls n : Int) (ls.getD n 0) := by
  rw [bitsOf_append]
  show _ ++ (highBits _ _ ++ []) = _
  rw [List.append_nil]
theorem bitsOf_len (ls : List Nat) (h : ∀ x ∈ ls, x ≤ 15) : ∀ a : List Nat, (∀ n ∈ a, n < ls.length) → (bitsOf ls a).length ≤ 15 * a.length
  | [], _ => Nat.zero_le _
  | n :: a, ha => by
    have ih := bitsOf_len ls h a (fun x hx => ha x (List.mem_cons_of_mem _ hx))
    have hn := ha n List.mem_cons_self
    have h1 : ls.getD n 0 ≤ 15 := h _ (by rw [List.getD_eq_getElem?_getD, List.getElem?_eq_getElem hn]; exact List.getElem_mem _)
    show (highBits _ _ ++ bitsOf ls a).length ≤ _
    rw [List.length_append, highBits_length, List.length_cons]
    omega

theorem high_get (c m t : Nat) (h : t < m) : ((highBits (c : Int) m).getD t false).toNat = c / 2 ^ (m - (t + 1)) % 2 := by
  have hl : t < (highBits (c : Int) m).length := by rw [highBits_length]; exact h
  have h1 : (highBits (c : Int) m)[t]? = some (decide ((c : Int) / 2 ^ (m - (t + 1)) % 2 = 1)) := by
    unfold highBits
    rw [List.getElem?_reverse (by rw [lowBits_length]; exact h), lowBits_length, show m - 1 - t = m - (t + 1) by omega, lowBits_get _ _ _ (by omega)]
  rw [List.getD_eq_getElem?_getD, h1]
  have e : (c : Int) / 2 ^ (m - (t + 1)) % 2 = ((c / 2 ^ (m - (t + 1)) % 2 : Nat) : Int) := by rw [Int.natCast_emod, Int.natCast_ediv, Int.natCast_pow]; rfl
  show (decide _).toNat = _
  rw [e]
  generalize c / 2 ^ (m - (t + 1)) = q
  by_cases hq : q % 2 = 1
  · rw [hq]; rfl
  · have : q % 2 = 0 := by omega
    rw [this]; rfl

theorem high_num (c m : Nat) (hc : c < 2 ^ m) (b : Nat → Nat) (hb : ∀ t, t < m → b t = c / 2 ^ (m - (t + 1)) % 2) : ∀ k, k ≤ m → numH b k = c / 2 ^ (m - k)
  | 0, _ => by show 0 = _; rw [Nat.sub_zero, Nat.div_eq_of_lt hc]
  | k + 1, hk => by
    show 2 * numH b k + b k = _
    rw [high_num c m hc b hb k (by omega), hb k (by omega), show m - k = (m - (k + 1)) + 1 by omega, Nat.pow_succ, ← Nat.div_div_eq_div_mul]
    omega

theorem packs_bit {bs : List Bool} {out : List UInt8} (h : Packs bs out) (i : Nat) : (bitI ⟨out.toArray⟩ i).toNat = (bs.getD i false).toNat := by
  rw [← h.bit i]
  unfold bitI
  rw [Int.toNat_natCast, Nat.testBit_eq_decide_div_mod_eq]
  show (out.getD (i / 8) 0).toNat / 2 ^ (i % 8) % 2 = _
  generalize (out.getD (i / 8) 0).toNat / 2 ^ (i % 8) = q
  by_cases hq : q % 2 = 1
  · rw [hq]; rfl
  · have : q % 2 = 0 := by omega
    rw [this]; rfl

/-- What is read where a symbol was written. -/
theorem read_back {ls wrote : List Nat} {out : List UInt8} (hM : MakesC ls) (hp : Packs (bitsOf ls wrote) out) (j n : Nat) (hj : wrote[j]? = some n) (hn : n < ls.length) (hz : ls.getD n 0 ≠ 0)
    {x : Int} {u : Nat} {bad : Bool} (h : ReadRes ls (bitsF ⟨out.toArray⟩ (bitsOf ls (wrote.take j)).length) (8 * (ByteArray.mk out.toArray).size - (bitsOf ls (wrote.take j)).length) x u bad) :
    x = (n : Int) ∧ u = ls.getD n 0 ∧ bad = false ∧ (bitsOf ls (wrote.take j)).length + u = (bitsOf ls (wrote.take (j + 1))).length := by
  have hsz : (ByteArray.mk out.toArray).size = out.length := by show out.toArray.size = _; simp
  have htk : wrote.take (j + 1) = wrote.take j ++ [n] := by rw [List.take_add_one, hj]; rfl
  have hlen : (bitsOf ls (wrote.take (j + 1))).length = (bitsOf ls (wrote.take j)).length + ls.getD n 0 := by rw [htk, bitsOf_snoc, List.length_append, highBits_length]
  have hsplit : bitsOf ls wrote = bitsOf ls (wrote.take j) ++ (highBits (codeN ls n : Int) (ls.getD n 0) ++ bitsOf ls (wrote.drop (j + 1))) := by
    have e : wrote = wrote.take (j + 1) ++ wrote.drop (j + 1) := (List.take_append_drop _ _).symm
    have e2 := congrArg (bitsOf ls) e
    rw [bitsOf_append, htk, bitsOf_snoc, List.append_assoc] at e2
    exact e2
  obtain ⟨c1, c2, c3⟩ := code_lt hM n hn hz
  have hb : ∀ t, t < ls.getD n 0 → bitsF ⟨out.toArray⟩ (bitsOf ls (wrote.take j)).length t = codeN ls n / 2 ^ (ls.getD n 0 - (t + 1)) % 2 := by
    intro t ht
    unfold bitsF
    rw [packs_bit hp, hsplit, List.getD_eq_getElem?_getD, List.getElem?_append_right (by omega), Nat.add_sub_cancel_left, List.getElem?_append_left (by rw [highBits_length]; exact ht), ← List.getD_eq_getElem?_getD]
    exact high_get _ _ _ ht
  obtain ⟨s1, s2⟩ := code_stops hM n hn hz (bitsF ⟨out.toArray⟩ (bitsOf ls (wrote.take j)).length) (high_num _ _ c2 _ hb)
  have hav : ls.getD n 0 ≤ 8 * (ByteArray.mk out.toArray).size - (bitsOf ls (wrote.take j)).length := by
    have h1 := hp.len
    have h2 := congrArg List.length hsplit
    rw [List.length_append, List.length_append, highBits_length] at h2
    rw [hsz]
    omega
  obtain ⟨e1, e2, e3⟩ := h.uniq (.inl ⟨ls.getD n 0, s1, hav, rfl, rfl, rfl⟩)
  exact ⟨by rw [e1, s2], e2, e3, by rw [hlen, e2]⟩

/-- Those that have a length, among the first j. -/
def someL (ls : List Nat) (j : Nat) : List Nat := (List.range j).filter (fun i => ls.getD i 0 != 0)
theorem someL_succ (ls : List Nat) (j : Nat) : someL ls (j + 1) = someL ls j ++ if ls.getD j 0 = 0 then [] else [j] := by
  unfold someL
  rw [List.range_succ, List.filter_append]
  by_cases h : ls.getD j 0 = 0
  · have hb : (ls.getD j 0 != 0) = false := by rw [h]; rfl
    rw [if_pos h, List.filter_cons, hb]
    rfl
  · have hb : (ls.getD j 0 != 0) = true := bne_iff_ne.2 h
    rw [if_neg h, List.filter_cons, hb]
    rfl
theorem someL_mem (ls : List Nat) (j i : Nat) : i ∈ someL ls j ↔ i < j ∧ ls.getD i 0 ≠ 0 := by
  unfold someL
  rw [List.mem_filter, List.mem_range]
  constructor
  · intro h; exact ⟨h.1, bne_iff_ne.1 h.2⟩
  · intro h; exact ⟨h.1, bne_iff_ne.2 h.2⟩
theorem someL_len (ls : List Nat) (j : Nat) : (someL ls j).length ≤ j := by
  unfold someL
  have := List.length_filter_le (fun i => ls.getD i 0 != 0) (List.range j)
  rw [List.length_range] at this
  exact this

end Go.Proofs.Yteillcfdmjmaeaa
