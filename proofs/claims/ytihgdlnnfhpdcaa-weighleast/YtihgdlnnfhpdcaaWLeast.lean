/- Huffman's theorem, plainly: putting the two least together again and again makes a code that costs least. Nothing of the program is named here. -/
import Derived.WalkKit
namespace Go.Proofs.Ytihgdlnnfhpdcaa

/-- What weights cost by lengths. -/
def costP : List (Nat × Nat) → Nat
  | [] => 0
  | p :: ps => p.1 * p.2 + costP ps

/-- Kraft's sum, in parts of 2^D. -/
def kraft (D : Nat) : List Nat → Nat
  | [] => 0
  | l :: ls => 2 ^ (D - l) + kraft D ls

theorem costP_perm {a b : List (Nat × Nat)} (h : a.Perm b) : costP a = costP b := by
  induction h with
  | nil => rfl
  | cons x _ ih => simp only [costP, ih]
  | swap x y l => simp only [costP]; omega
  | trans _ _ ih1 ih2 => exact ih1.trans ih2

theorem kraft_perm (D : Nat) {a b : List Nat} (h : a.Perm b) : kraft D a = kraft D b := by
  induction h with
  | nil => rfl
  | cons x _ ih => simp only [kraft, ih]
  | swap x y l => simp only [kraft]; omega
  | trans _ _ ih1 ih2 => exact ih1.trans ih2

theorem max_snd (ps : List (Nat × Nat)) (h : ps ≠ []) : ∃ p ∈ ps, ∀ q ∈ ps, q.2 ≤ p.2 := by
  induction ps with
  | nil => exact absurd rfl h
  | cons x ps ih =>
    by_cases hp : ps = []
    · subst hp
      exact ⟨x, List.mem_cons_self, fun q hq => by rw [List.mem_singleton.1 hq]; exact Nat.le_refl _⟩
    · obtain ⟨p, hp1, hp2⟩ := ih hp
      by_cases hx : p.2 ≤ x.2
      · refine ⟨x, List.mem_cons_self, fun q hq => ?_⟩
        rcases List.mem_cons.1 hq with e | e
        · rw [e]; exact Nat.le_refl _
        · exact Nat.le_trans (hp2 q e) hx
      · refine ⟨p, List.mem_cons_of_mem _ hp1, fun q hq => ?_⟩
        rcases List.mem_cons.1 hq with e | e
        · rw [e]; omega
        · exact hp2 q e

/-- The exchange: the least weight may be given the greatest length, at no more cost. -/
theorem front (ps : List (Nat × Nat)) (a : Nat) (ha : a ∈ ps.map (·.1)) (hmin : ∀ p ∈ ps, a ≤ p.1) :
    ∃ m r, (a :: r.map (·.1)).Perm (ps.map (·.1)) ∧ (m :: r.map (·.2)).Perm (ps.map (·.2)) ∧ (∀ p ∈ r, p.2 ≤ m) ∧ a * m + costP r ≤ costP ps := by
  obtain ⟨p0, hp0, rfl⟩ := List.mem_map.1 ha
  obtain ⟨a, l0⟩ := p0
  have hperm := List.perm_cons_erase hp0
  generalize ps.erase (a, l0) = r0 at hperm
  by_cases hall : ∀ p ∈ r0, p.2 ≤ l0
  · exact ⟨l0, r0, (hperm.map Prod.fst).symm, (hperm.map Prod.snd).symm, hall, by rw [costP_perm hperm]; exact Nat.le_refl _⟩
  · have hne : r0 ≠ [] := fun e => hall (by rw [e]; intro p hp; cases hp)
    obtain ⟨p1, hp1, hmax⟩ := max_snd r0 hne
    obtain ⟨w0, m⟩ := p1
    have hlm : l0 ≤ m := by
      refine Classical.byContradiction fun hn => hall fun p hp => ?_
      have := hmax p hp
      simp only at this
      omega
    have hperm1 := List.perm_cons_erase hp1
    generalize r0.erase (w0, m) = r1 at hperm1
    have hp : ps.Perm ((a, l0) :: (w0, m) :: r1) := hperm.trans (hperm1.cons _)
    have haw : a ≤ w0 := hmin (w0, m) (hp.mem_iff.2 (List.mem_cons_of_mem _ List.mem_cons_self))
    refine ⟨m, (w0, l0) :: r1, (hp.map Prod.fst).symm, (List.Perm.swap l0 m _).trans (hp.map Prod.snd).symm, ?_, ?_⟩
    · intro p hpm
      rcases List.mem_cons.1 hpm with e | e
      · rw [e]; exact hlm
      · exact hmax p (hperm1.mem_iff.2 (List.mem_cons_of_mem _ e))
    · rw [costP_perm hp]
      simp only [costP]
      obtain ⟨x, rfl⟩ := Nat.exists_eq_add_of_le haw
      obtain ⟨y, rfl⟩ := Nat.exists_eq_add_of_le hlm
      have e1 : a * (l0 + y) = a * l0 + a * y := Nat.mul_add _ _ _
      have e2 : (a + x) * (l0 + y) = (a + x) * l0 + (a * y + x * y) := by rw [Nat.mul_add, Nat.add_mul a x y]
      omega

/-- All these are as many times q. -/
theorem kraft_mul (D m : Nat) (hm : m ≤ D) (ls : List Nat) (h : ∀ l ∈ ls, l ≤ m) : kraft D ls = 2 ^ (D - m) * kraft m ls := by
  induction ls with
  | nil => rfl
  | cons l ls ih =>
    have hl := h l List.mem_cons_self
    simp only [kraft]
    rw [ih fun x hx => h x (List.mem_cons_of_mem _ hx), Nat.mul_add, ← Nat.pow_add, show D - m + (m - l) = D - l by omega]

/-- What it comes to where k times the two least weights are put together. -/
def HC : Nat → List Nat → Nat → Prop
  | 0, ws, c => (∃ w, ws = [w]) ∧ c = 0
  | k + 1, ws, c => ∃ a b rest c', ws.Perm (a :: b :: rest) ∧ a ≤ b ∧ (∀ x ∈ rest, b ≤ x) ∧ HC k ((a + b) :: rest) c' ∧ c = a + b + c'

/-- HUFFMAN's THEOREM: no code, whatever its lengths are, costs less. -/
theorem HC_least : ∀ (k : Nat) (ws : List Nat) (c : Nat), HC k ws c → ∀ (ps : List (Nat × Nat)) (D : Nat), (ps.map (·.1)).Perm ws → (∀ p ∈ ps, p.2 ≤ D) → kraft D (ps.map (·.2)) ≤ 2 ^ D → c ≤ costP ps
  | 0, ws, c, h, ps, D, _, _, _ => by rw [h.2]; exact Nat.zero_le _
  | k + 1, ws, c, h, ps, D, hw, hD, hK => by
    obtain ⟨a, b, rest, c', hp, hab, hr, hc, rfl⟩ := h
    have hw1 := hw.trans hp
    have hmem : ∀ p ∈ ps, p.1 = a ∨ p.1 = b ∨ p.1 ∈ rest := by
      intro p hpm
      have := hw1.mem_iff.1 (List.mem_map.2 ⟨p, hpm, rfl⟩)
      simpa using this
    obtain ⟨m1, r1, hw2, hl2, hm1, hc1⟩ := front ps a (hw1.mem_iff.2 List.mem_cons_self) (fun p hpm => by
      rcases hmem p hpm with e | e | e
      · omega
      · omega
      · have := hr _ e; omega)
    have hw3 : (r1.map (·.1)).Perm (b :: rest) := (hw2.trans hw1).cons_inv
    obtain ⟨m2, r2, hw4, hl4, hm2, hc2⟩ := front r1 b (hw3.mem_iff.2 List.mem_cons_self) (fun p hpm => by
      have := hw3.mem_iff.1 (List.mem_map.2 ⟨p, hpm, rfl⟩)
      rcases List.mem_cons.1 this with e | e
      · omega
      · exact hr _ e)
    have hw5 : (r2.map (·.1)).Perm rest := (hw4.trans hw3).cons_inv
    have hl5 : (m1 :: m2 :: r2.map (·.2)).Perm (ps.map (·.2)) := (hl4.cons m1).trans hl2
    have hall : ∀ l ∈ m1 :: m2 :: r2.map (·.2), l ≤ D := by
      intro l hl
      obtain ⟨p, hpm, rfl⟩ := List.mem_map.1 (hl5.mem_iff.1 hl)
      exact hD p hpm
    have hm1D := hall m1 List.mem_cons_self
    have hm2D := hall m2 (List.mem_cons_of_mem _ List.mem_cons_self)
    have hm12 : m2 ≤ m1 := by
      have : m2 ∈ r1.map (·.2) := hl4.mem_iff.1 List.mem_cons_self
      obtain ⟨p, hpm, rfl⟩ := List.mem_map.1 this
      exact hm1 p hpm
    have hr2 : ∀ l ∈ r2.map (·.2), l ≤ m2 := by
      intro l hl
      obtain ⟨p, hpm, rfl⟩ := List.mem_map.1 hl
      exact hm2 p hpm
    rw [← kraft_perm D hl5] at hK
    simp only [kraft] at hK
    have hk2 := kraft_mul D m2 hm2D (r2.map (·.2)) hr2
    have hq : 0 < 2 ^ (D - m2) := Nat.pow_pos (by decide)
    have hq1 : 0 < 2 ^ (D - m1) := Nat.pow_pos (by decide)
    have hT : 2 ^ D = 2 ^ (D - m2) * 2 ^ m2 := by rw [← Nat.pow_add, show D - m2 + m2 = D by omega]
    rw [hk2, hT] at hK
    have hlt : 2 ^ (D - m2) * (1 + kraft m2 (r2.map (·.2))) < 2 ^ (D - m2) * 2 ^ m2 := by rw [Nat.mul_add, Nat.mul_one]; omega
    have hlt2 : 1 + kraft m2 (r2.map (·.2)) < 2 ^ m2 := Nat.lt_of_mul_lt_mul_left hlt
    have hm2pos : 1 ≤ m2 := by
      refine Classical.byContradiction fun hn => ?_
      have : m2 = 0 := by omega
      rw [this] at hlt2
      simp at hlt2
    have hnew : kraft D (((a + b, m2 - 1) :: r2).map (·.2)) ≤ 2 ^ D := by
      show 2 ^ (D - (m2 - 1)) + kraft D (r2.map (·.2)) ≤ 2 ^ D
      rw [hk2, hT, show D - (m2 - 1) = (D - m2) + 1 by omega, Nat.pow_succ, ← Nat.mul_add]
      exact Nat.mul_le_mul_left _ (by omega)
    have ih := HC_least k _ c' hc ((a + b, m2 - 1) :: r2) D (hw5.cons _) (by
      intro p hpm
      rcases List.mem_cons.1 hpm with e | e
      · rw [e]; show m2 - 1 ≤ D; omega
      · exact hall _ (List.mem_cons_of_mem _ (List.mem_cons_of_mem _ (List.mem_map.2 ⟨p, e, rfl⟩)))) hnew
    simp only [costP] at ih
    obtain ⟨m, rfl⟩ : ∃ m, m2 = m + 1 := ⟨m2 - 1, by omega⟩
    obtain ⟨y, rfl⟩ := Nat.exists_eq_add_of_le hm12
    simp only [Nat.add_sub_cancel] at ih
    have e1 : a * (m + 1 + y) = a * m + a + a * y := by rw [Nat.mul_add, Nat.mul_add, Nat.mul_one]
    have e2 : b * (m + 1) = b * m + b := by rw [Nat.mul_add, Nat.mul_one]
    have e3 : (a + b) * m = a * m + b * m := Nat.add_mul _ _ _
    omega

end Go.Proofs.Ytihgdlnnfhpdcaa
