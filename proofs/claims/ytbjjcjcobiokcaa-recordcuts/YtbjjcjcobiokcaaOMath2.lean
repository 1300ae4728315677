/- A central record that comes, field by field; it is the only one. Nothing of the program is named here. -/
import Derived.Test.YtbjjcjcobiokcaaOMath
namespace Go.Proofs.Ytbjjcjcobiokcaa

theorem cenS_list (r : Rec) : (cenS r).data.toList = (lowB 33639248 4 ++ (lowB (verR r) 2 ++ lowB (verR r) 2)) ++ (lowB r.flags 2 ++ (lowB r.method 2 ++ (lowB r.clock 2 ++ (lowB r.date 2 ++ (lowB r.sum 4 ++ (lowB (ownF r r.packed) 4 ++ (lowB (ownF r r.size) 4 ++ (lowB r.name.size 2 ++ (lowB (extraC r).size 2 ++ (lowB r.note.size 2 ++ ((lowB 0 2 ++ (lowB 0 2 ++ lowB 0 4)) ++ (lowB (ownF r r.at_) 4 ++ (r.name.data.toList ++ ((extraC r).data.toList ++ r.note.data.toList)))))))))))))) := by
  unfold cenS
  simp only [ba_append_list, lowS_list, List.append_assoc]
theorem own_range {r : Rec} {x : Int} (h : 0 ≤ x ∧ x ≤ mostR r) : 0 ≤ ownF r x ∧ ownF r x ≤ 4294967295 := by
  unfold ownF
  unfold mostR at h
  split
  · omega
  · rename_i hw
    rw [if_neg hw] at h
    omega
/-- A central record that comes, field by field. -/
structure CenSt (s : ByteArray) (i : Nat) (r : Rec) : Prop where
  s0 : textI s (i : Nat) 8 false = ((i + 8 : Nat) : Int) ∧ canT s (i : Nat) 8 false = true
  s1 : numV (textV s ((i + 8 : Nat) : Int) 2 false) = r.flags ∧ textI s ((i + 8 : Nat) : Int) 2 false = ((i + 10 : Nat) : Int) ∧ numW s ((i + 8 : Nat) : Int) 2 false = false
  s2 : numV (textV s ((i + 10 : Nat) : Int) 2 false) = r.method ∧ textI s ((i + 10 : Nat) : Int) 2 false = ((i + 12 : Nat) : Int) ∧ numW s ((i + 10 : Nat) : Int) 2 false = false
  s3 : numV (textV s ((i + 12 : Nat) : Int) 2 false) = r.clock ∧ textI s ((i + 12 : Nat) : Int) 2 false = ((i + 14 : Nat) : Int) ∧ numW s ((i + 12 : Nat) : Int) 2 false = false
  s4 : numV (textV s ((i + 14 : Nat) : Int) 2 false) = r.date ∧ textI s ((i + 14 : Nat) : Int) 2 false = ((i + 16 : Nat) : Int) ∧ numW s ((i + 14 : Nat) : Int) 2 false = false
  s5 : numV (textV s ((i + 16 : Nat) : Int) 4 false) = r.sum ∧ textI s ((i + 16 : Nat) : Int) 4 false = ((i + 20 : Nat) : Int) ∧ numW s ((i + 16 : Nat) : Int) 4 false = false
  s6 : numV (textV s ((i + 20 : Nat) : Int) 4 false) = ownF r r.packed ∧ textI s ((i + 20 : Nat) : Int) 4 false = ((i + 24 : Nat) : Int) ∧ numW s ((i + 20 : Nat) : Int) 4 false = false
  s7 : numV (textV s ((i + 24 : Nat) : Int) 4 false) = ownF r r.size ∧ textI s ((i + 24 : Nat) : Int) 4 false = ((i + 28 : Nat) : Int) ∧ numW s ((i + 24 : Nat) : Int) 4 false = false
  s8 : numV (textV s ((i + 28 : Nat) : Int) 2 false) = (r.name.size : Int) ∧ textI s ((i + 28 : Nat) : Int) 2 false = ((i + 30 : Nat) : Int) ∧ numW s ((i + 28 : Nat) : Int) 2 false = false
  s9 : numV (textV s ((i + 30 : Nat) : Int) 2 false) = ((extraC r).size : Int) ∧ textI s ((i + 30 : Nat) : Int) 2 false = ((i + 32 : Nat) : Int) ∧ numW s ((i + 30 : Nat) : Int) 2 false = false
  s10 : numV (textV s ((i + 32 : Nat) : Int) 2 false) = (r.note.size : Int) ∧ textI s ((i + 32 : Nat) : Int) 2 false = ((i + 34 : Nat) : Int) ∧ numW s ((i + 32 : Nat) : Int) 2 false = false
  s11 : textI s ((i + 34 : Nat) : Int) 8 false = ((i + 42 : Nat) : Int) ∧ canT s ((i + 34 : Nat) : Int) 8 false = true
  s12 : numV (textV s ((i + 42 : Nat) : Int) 4 false) = ownF r r.at_ ∧ textI s ((i + 42 : Nat) : Int) 4 false = ((i + 46 : Nat) : Int) ∧ numW s ((i + 42 : Nat) : Int) 4 false = false
  s13 : textV s ((i + 46 : Nat) : Int) (r.name.size : Int) false = r.name ∧ textI s ((i + 46 : Nat) : Int) (r.name.size : Int) false = ((i + 46 + r.name.size : Nat) : Int) ∧ canT s ((i + 46 : Nat) : Int) (r.name.size : Int) false = true
  s14 : textV s ((i + 46 + r.name.size : Nat) : Int) ((extraC r).size : Int) false = extraC r ∧ textI s ((i + 46 + r.name.size : Nat) : Int) ((extraC r).size : Int) false = ((i + 46 + r.name.size + (extraC r).size : Nat) : Int) ∧ canT s ((i + 46 + r.name.size : Nat) : Int) ((extraC r).size : Int) false = true
  s15 : textV s ((i + 46 + r.name.size + (extraC r).size : Nat) : Int) (r.note.size : Int) false = r.note ∧ textI s ((i + 46 + r.name.size + (extraC r).size : Nat) : Int) (r.note.size : Int) false = ((i + (cenS r).size : Nat) : Int) ∧ canT s ((i + 46 + r.name.size + (extraC r).size : Nat) : Int) (r.note.size : Int) false = true
  fit : i + (cenS r).size ≤ s.size
  ext : s.extract i (i + (cenS r).size) = cenS r
theorem prefix_extract {s : ByteArray} {i n : Nat} {B C : List UInt8} (h : s.data.toList.drop i = B ++ C) (hB : B.length = n) : (s.extract i (i + n)).data.toList = B := by
  rw [extract_list, h, show i + n - i = n by omega, ← hB, List.take_left]
theorem ba_eta (b : ByteArray) : (⟨b.data.toList.toArray⟩ : ByteArray) = b := ba_ext rfl
theorem CenAt.st {s : ByteArray} {i : Nat} {r : Rec} (h : CenAt s i r) (hi : i ≤ s.size) : CenSt s i r := by
  obtain ⟨hr, C, hc⟩ := h
  have hc0 := hc
  rw [cenS_list] at hc
  obtain ⟨_, a2, a3, d, hi⟩ := text_next (n := 8) (B := lowB 33639248 4 ++ (lowB (verR r) 2 ++ lowB (verR r) 2)) (by rw [hc]; simp only [List.append_assoc]; rfl) (by simp only [List.length_append, lowB_length]) hi
  have s0 := And.intro a2 a3
  clear hc
  have hm := own_range hr.packed
  have hsz := own_range hr.size
  have hat := own_range hr.at_
  have hx := extraC_size r
  obtain ⟨b1, b2, b3, d, hi⟩ := num_next d hi hr.flags.1 (by have := hr.flags.2; omega) (by have := hr.flags.2; omega)
  have s1 := And.intro b1 (And.intro b2 b3)
  obtain ⟨b1, b2, b3, d, hi⟩ := num_next d hi hr.method.1 (by have := hr.method.2; omega) (by have := hr.method.2; omega)
  have s2 := And.intro b1 (And.intro b2 b3)
  obtain ⟨b1, b2, b3, d, hi⟩ := num_next d hi hr.clock.1 (by have := hr.clock.2; omega) (by have := hr.clock.2; omega)
  have s3 := And.intro b1 (And.intro b2 b3)
  obtain ⟨b1, b2, b3, d, hi⟩ := num_next d hi hr.date.1 (by have := hr.date.2; omega) (by have := hr.date.2; omega)
  have s4 := And.intro b1 (And.intro b2 b3)
  obtain ⟨b1, b2, b3, d, hi⟩ := num_next d hi hr.sum.1 (by have := hr.sum.2; omega) (by have := hr.sum.2; omega)
  have s5 := And.intro b1 (And.intro b2 b3)
  obtain ⟨b1, b2, b3, d, hi⟩ := num_next d hi hm.1 (by have := hm.2; omega) (by have := hm.2; omega)
  have s6 := And.intro b1 (And.intro b2 b3)
  obtain ⟨b1, b2, b3, d, hi⟩ := num_next d hi hsz.1 (by have := hsz.2; omega) (by have := hsz.2; omega)
  have s7 := And.intro b1 (And.intro b2 b3)
  obtain ⟨b1, b2, b3, d, hi⟩ := num_next d hi (Int.natCast_nonneg _) (by have := hr.name; omega) (by have := hr.name; omega)
  have s8 := And.intro b1 (And.intro b2 b3)
  have hx28 : (extraC r).size ≤ 28 := by rw [hx]; split <;> omega
  obtain ⟨b1, b2, b3, d, hi⟩ := num_next d hi (Int.natCast_nonneg _) (by omega) (by omega)
  have s9 := And.intro b1 (And.intro b2 b3)
  obtain ⟨b1, b2, b3, d, hi⟩ := num_next d hi (Int.natCast_nonneg _) (by have := hr.note; omega) (by have := hr.note; omega)
  have s10 := And.intro b1 (And.intro b2 b3)
  obtain ⟨_, a2, a3, d, hi⟩ := text_next (n := 8) (B := lowB 0 2 ++ (lowB 0 2 ++ lowB 0 4)) (by rw [d]; simp only [List.append_assoc]; rfl) (by simp only [List.length_append, lowB_length]) hi
  have s11 := And.intro a2 a3
  obtain ⟨b1, b2, b3, d, hi⟩ := num_next d hi hat.1 (by have := hat.2; omega) (by have := hat.2; omega)
  have s12 := And.intro b1 (And.intro b2 b3)
  obtain ⟨a1, a2, a3, d, hi⟩ := text_next d (ba_size r.name) hi
  rw [ba_eta] at a1
  have s13 := And.intro a1 (And.intro a2 a3)
  obtain ⟨a1, a2, a3, d, hi⟩ := text_next d (ba_size (extraC r)) hi
  rw [ba_eta] at a1
  have s14 := And.intro a1 (And.intro a2 a3)
  obtain ⟨a1, a2, a3, d, hi⟩ := text_next d (ba_size r.note) hi
  rw [ba_eta] at a1
  have hn : i + 46 + r.name.size + (extraC r).size + r.note.size = i + (cenS r).size := by rw [cenS_size, extraC_size]; omega
  have s15 := And.intro a1 (And.intro a2 a3)
  refine ⟨s0, s1, s2, s3, s4, s5, s6, s7, s8, s9, s10, s11, s12, s13, s14, ?_, ?_, ?_⟩
  · rw [← hn]
    exact s15
  · rw [← hn]
    exact hi
  · exact ba_ext (prefix_extract hc0 (ba_size _))
/-- What stands elsewhere, field by field. -/
theorem extra_st {r : Rec} (hr : RightR r) (hw : r.wide = true) : (textI (extraC r) 0 4 false = 4 ∧ canT (extraC r) 0 4 false = true) ∧
    (numV (textV (extraC r) 4 8 false) = r.size ∧ textI (extraC r) 4 8 false = 12 ∧ numW (extraC r) 4 8 false = false) ∧
    (numV (textV (extraC r) 12 8 false) = r.packed ∧ textI (extraC r) 12 8 false = 20 ∧ numW (extraC r) 12 8 false = false) ∧
    (numV (textV (extraC r) 20 8 false) = r.at_ ∧ textI (extraC r) 20 8 false = 28 ∧ numW (extraC r) 20 8 false = false) := by
  have hm : mostR r = 4611686018427387903 := by unfold mostR; rw [if_pos hw]
  have h1 := hr.size
  have h2 := hr.packed
  have h3 := hr.at_
  rw [hm] at h1 h2 h3
  have hc : (extraC r).data.toList.drop 0 = (lowB 1 2 ++ lowB 24 2) ++ (lowB r.size 8 ++ (lowB r.packed 8 ++ (lowB r.at_ 8 ++ []))) := by
    unfold extraC
    rw [if_pos hw, List.drop_zero]
    simp only [ba_append_list, lowS_list, List.append_assoc, List.append_nil]
  obtain ⟨_, a2, a3, d, hi⟩ := text_next (n := 4) hc (by simp only [List.length_append, lowB_length]) (Nat.zero_le _)
  have s0 := And.intro a2 a3
  obtain ⟨b1, b2, b3, d, hi⟩ := num_next d hi h1.1 (by have := h1.2; omega) (by have := h1.2; omega)
  have s1 := And.intro b1 (And.intro b2 b3)
  obtain ⟨b1, b2, b3, d, hi⟩ := num_next d hi h2.1 (by have := h2.2; omega) (by have := h2.2; omega)
  have s2 := And.intro b1 (And.intro b2 b3)
  obtain ⟨b1, b2, b3, d, hi⟩ := num_next d hi h3.1 (by have := h3.2; omega) (by have := h3.2; omega)
  exact ⟨s0, s1, s2, b1, b2, b3⟩
/-- What is read just so is the central record that comes. -/
theorem cen_of {s : ByteArray} {i j : Nat} {r : Rec} (hr : RightR r) (hij : i ≤ j) (hj : j ≤ s.size) (h : s.extract i j = cenS r) : CenAt s i r ∧ j = i + (cenS r).size := by
  have e : (s.extract i j).data.toList = (cenS r).data.toList := by rw [h]
  rw [extract_list] at e
  refine ⟨⟨hr, (s.data.toList.drop i).drop (j - i), by rw [← e, List.take_append_drop]⟩, ?_⟩
  have el := congrArg List.length e
  rw [List.length_take, List.length_drop, ba_size, ba_size] at el
  omega
theorem CenAt.uniq {s : ByteArray} {i : Nat} {r q : Rec} (h : CenAt s i r) (k : CenAt s i q) (hi : i ≤ s.size) : r = q := by
  have a := h.st hi
  have b := k.st hi
  have e1 := a.s1.1.symm.trans b.s1.1
  have e2 := a.s2.1.symm.trans b.s2.1
  have e3 := a.s3.1.symm.trans b.s3.1
  have e4 := a.s4.1.symm.trans b.s4.1
  have e5 := a.s5.1.symm.trans b.s5.1
  have e6 := a.s6.1.symm.trans b.s6.1
  have e7 := a.s7.1.symm.trans b.s7.1
  have e8 := a.s8.1.symm.trans b.s8.1
  have e9 := a.s9.1.symm.trans b.s9.1
  have e10 := a.s10.1.symm.trans b.s10.1
  have e12 := a.s12.1.symm.trans b.s12.1
  have n8 : r.name.size = q.name.size := by omega
  have n9 : (extraC r).size = (extraC q).size := by omega
  have n10 : r.note.size = q.note.size := by omega
  have m13 := a.s13.1
  have m14 := a.s14.1
  have m15 := a.s15.1
  rw [n8] at m13 m14 m15
  rw [n9] at m14 m15
  rw [n10] at m15
  have f13 := m13.symm.trans b.s13.1
  have f14 := m14.symm.trans b.s14.1
  have f15 := m15.symm.trans b.s15.1
  have hw : r.wide = q.wide := by
    rw [extraC_size, extraC_size] at n9
    cases hr : r.wide <;> cases hq : q.wide <;> simp [hr, hq] at n9 <;> rfl
  have hx : r.size = q.size ∧ r.packed = q.packed ∧ r.at_ = q.at_ := by
    cases hr : r.wide with
    | true =>
      have hq := hw.symm.trans hr
      have x := extra_st h.1 hr
      have y := extra_st k.1 hq
      rw [f14] at x
      exact ⟨x.2.1.1.symm.trans y.2.1.1, x.2.2.1.1.symm.trans y.2.2.1.1, x.2.2.2.1.symm.trans y.2.2.2.1⟩
    | false =>
      have hq := hw.symm.trans hr
      unfold ownF at e6 e7 e12
      rw [hr, hq] at e6 e7 e12
      exact ⟨e7, e6, e12⟩
  obtain ⟨x1, x2, x3⟩ := hx
  obtain ⟨a1, a2, a3, a4, a5, a6, a7, a8, a9, a10, a11⟩ := r
  obtain ⟨b1, b2, b3, b4, b5, b6, b7, b8, b9, b10, b11⟩ := q
  simp only at e1 e2 e3 e4 e5 f13 f15 hw x1 x2 x3
  subst e1 e2 e3 e4 e5 f13 f15 hw x1 x2 x3
  rfl

end Go.Proofs.Ytbjjcjcobiokcaa
