import Derived.WalkKit
/- Huffman's theorem, plainly: putting the two least together again and again makes a code that costs least. Nothing of the program is named here. -/
namespace Go.Proofs.YtaalbaiglkadlaaGreat

/-- What weights cost by lengths. -/
def costP : List (Nat × Nat) → Nat
  | [] => 0
  | p :: ps => p.1 * p.2 + costP ps

/-- Kraft's sum, in parts of 2^D. -/
def kraft (D : Nat) : List Nat → Nat
  | [] => 0
  | l :: ls => 2 ^ (D - l) + kraft D ls

theorem costP_perm {a b : List (Nat × Nat)} (h : a.Perm b) : costP a = costP b := by
  induction h with
  | nil => rfl
  | cons x _ ih => simp only [costP, ih]
  | swap x y l => simp only [costP]; omega
  | trans _ _ ih1 ih2 => exact ih1.trans ih2

theorem kraft_perm (D : Nat) {a b : List Nat} (h : a.Perm b) : kraft D a = kraft D b := by
  induction h with
  | nil => rfl
  | cons x _ ih => simp only [kraft, ih]
  | swap x y l => simp only [kraft]; omega
  | trans _ _ ih1 ih2 => exact ih1.trans ih2

theorem max_snd (ps : List (Nat × Nat)) (h : ps ≠ []) : ∃ p ∈ ps, ∀ q ∈ ps, q.2 ≤ p.2 := by
  induction ps with
  | nil => exact absurd rfl h
  | cons x ps ih =>
    by_cases hp : ps = []
    · subst hp
      exact ⟨x, List.mem_cons_self, fun q hq => by rw [List.mem_singleton.1 hq]; exact Nat.le_refl _⟩
    · obtain ⟨p, hp1, hp2⟩ := ih hp
      by_cases hx : p.2 ≤ x.2
      · refine ⟨x, List.mem_cons_self, fun q hq => ?_⟩
        rcases List.mem_cons.1 hq with e | e
        · rw [e]; exact Nat.le_refl _
        · exact Nat.le_trans (hp2 q e) hx
      · refine ⟨p, List.mem_cons_of_mem _ hp1, fun q hq => ?_⟩
        rcases List.mem_cons.1 hq with e | e
        · rw [e]; omega
        · exact hp2 q e

/-- The exchange: the least weight may be given the greatest length, at no more cost. -/
theorem front (ps : List (Nat × Nat)) (a : Nat) (ha : a ∈ ps.map (·.1)) (hmin : ∀ p ∈ ps, a ≤ p.1) :
    ∃ m r, (a :: r.map (·.1)).Perm (ps.map (·.1)) ∧ (m :: r.map (·.2)).Perm (ps.map (·.2)) ∧ (∀ p ∈ r, p.2 ≤ m) ∧ a * m + costP r ≤ costP ps := by
  obtain ⟨p0, hp0, rfl⟩ := List.mem_map.1 ha
  obtain ⟨a, l0⟩ := p0
  have hperm := List.perm_cons_erase hp0
  generalize ps.erase (a, l0) = r0 at hperm
  by_cases hall : ∀ p ∈ r0, p.2 ≤ l0
  · exact ⟨l0, r0, (hperm.map Prod.fst).symm, (hperm.map Prod.snd).symm, hall, by rw [costP_perm hperm]; exact Nat.le_refl _⟩
  · have hne : r0 ≠ [] := fun e => hall (by rw [e]; intro p hp; cases hp)
    obtain ⟨p1, hp1, hmax⟩ := max_snd r0 hne
    obtain ⟨w0, m⟩ := p1
    have hlm : l0 ≤ m := by
      refine Classical.byContradiction fun hn => hall fun p hp => ?_
      have := hmax p hp
      simp only at this
      omega
    have hperm1 := List.perm_cons_erase hp1
    generalize r0.erase (w0, m) = r1 at hperm1
    have hp : ps.Perm ((a, l0) :: (w0, m) :: r1) := hperm.trans (hperm1.cons _)
    have haw : a ≤ w0 := hmin (w0, m) (hp.mem_iff.2 (List.mem_cons_of_mem _ List.mem_cons_self))
    refine ⟨m, (w0, l0) :: r1, (hp.map Prod.fst).symm, (List.Perm.swap l0 m _).trans (hp.map Prod.snd).symm, ?_, ?_⟩
    · intro p hpm
      rcases List.mem_cons.1 hpm with e | e
      · rw [e]; exact hlm
      · exact hmax p (hperm1.mem_iff.2 (List.mem_cons_of_mem _ e))
    · rw [costP_perm hp]
      simp only [costP]
      obtain ⟨x, rfl⟩ := Nat.exists_eq_add_of_le haw
      obtain ⟨y, rfl⟩ := Nat.exists_eq_add_of_le hlm
      have e1 : a * (l0 + y) = a * l0 + a * y := Nat.mul_add _ _ _
      have e2 : (a + x) * (l0 + y) = (a + x) * l0 + (a * y + x * y) := by rw [Nat.mul_add, Nat.add_mul a x y]
      omega

/-- All these are as many times q. -/
theorem kraft_mul (D m : Nat) (hm : m ≤ D) (ls : List Nat) (h : ∀ l ∈ ls, l ≤ m) : kraft D ls = 2 ^ (D - m) * kraft m ls := by
  induction ls with
  | nil => rfl
  | cons l ls ih =>
    have hl := h l List.mem_cons_self
    simp only [kraft]
    rw [ih fun x hx => h x (List.mem_cons_of_mem _ hx), Nat.mul_add, ← Nat.pow_add, show D - m + (m - l) = D - l by omega]

/-- What it comes to where k times the two least weights are put together. -/
def HC : Nat → List Nat → Nat → Prop
  | 0, ws, c => (∃ w, ws = [w]) ∧ c = 0
  | k + 1, ws, c => ∃ a b rest c', ws.Perm (a :: b :: rest) ∧ a ≤ b ∧ (∀ x ∈ rest, b ≤ x) ∧ HC k ((a + b) :: rest) c' ∧ c = a + b + c'

/-- HUFFMAN's THEOREM: no code, whatever its lengths are, costs less. -/
theorem HC_least : ∀ (k : Nat) (ws : List Nat) (c : Nat), HC k ws c → ∀ (ps : List (Nat × Nat)) (D : Nat), (ps.map (·.1)).Perm ws → (∀ p ∈ ps, p.2 ≤ D) → kraft D (ps.map (·.2)) ≤ 2 ^ D → c ≤ costP ps
  | 0, ws, c, h, ps, D, _, _, _ => by rw [h.2]; exact Nat.zero_le _
  | k + 1, ws, c, h, ps, D, hw, hD, hK => by
    obtain ⟨a, b, rest, c', hp, hab, hr, hc, rfl⟩ := h
    have hw1 := hw.trans hp
    have hmem : ∀ p ∈ ps, p.1 = a ∨ p.1 = b ∨ p.1 ∈ rest := by
      intro p hpm
      have := hw1.mem_iff.1 (List.mem_map.2 ⟨p, hpm, rfl⟩)
      simpa using this
    obtain ⟨m1, r1, hw2, hl2, hm1, hc1⟩ := front ps a (hw1.mem_iff.2 List.mem_cons_self) (fun p hpm => by
      rcases hmem p hpm with e | e | e
      · omega
      · omega
      · have := hr _ e; omega)
    have hw3 : (r1.map (·.1)).Perm (b :: rest) := (hw2.trans hw1).cons_inv
    obtain ⟨m2, r2, hw4, hl4, hm2, hc2⟩ := front r1 b (hw3.mem_iff.2 List.mem_cons_self) (fun p hpm => by
      have := hw3.mem_iff.1 (List.mem_map.2 ⟨p, hpm, rfl⟩)
      rcases List.mem_cons.1 this with e | e
      · omega
      · exact hr _ e)
    have hw5 : (r2.map (·.1)).Perm rest := (hw4.trans hw3).cons_inv
    have hl5 : (m1 :: m2 :: r2.map (·.2)).Perm (ps.map (·.2)) := (hl4.cons m1).trans hl2
    have hall : ∀ l ∈ m1 :: m2 :: r2.map (·.2), l ≤ D := by
      intro l hl
      obtain ⟨p, hpm, rfl⟩ := List.mem_map.1 (hl5.mem_iff.1 hl)
      exact hD p hpm
    have hm1D := hall m1 List.mem_cons_self
    have hm2D := hall m2 (List.mem_cons_of_mem _ List.mem_cons_self)
    have hm12 : m2 ≤ m1 := by
      have : m2 ∈ r1.map (·.2) := hl4.mem_iff.1 List.mem_cons_self
      obtain ⟨p, hpm, rfl⟩ := List.mem_map.1 this
      exact hm1 p hpm
    have hr2 : ∀ l ∈ r2.map (·.2), l ≤ m2 := by
      intro l hl
      obtain ⟨p, hpm, rfl⟩ := List.mem_map.1 hl
      exact hm2 p hpm
    rw [← kraft_perm D hl5] at hK
    simp only [kraft] at hK
    have hk2 := kraft_mul D m2 hm2D (r2.map (·.2)) hr2
    have hq : 0 < 2 ^ (D - m2) := Nat.pow_pos (by decide)
    have hq1 : 0 < 2 ^ (D - m1) := Nat.pow_pos (by decide)
    have hT : 2 ^ D = 2 ^ (D - m2) * 2 ^ m2 := by rw [← Nat.pow_add, show D - m2 + m2 = D by omega]
    rw [hk2, hT] at hK
    have hlt : 2 ^ (D - m2) * (1 + kraft m2 (r2.map (·.2))) < 2 ^ (D - m2) * 2 ^ m2 := by rw [Nat.mul_add, Nat.mul_one]; omega
    have hlt2 : 1 + kraft m2 (r2.map (·.2)) < 2 ^ m2 := Nat.lt_of_mul_lt_mul_left hlt
    have hm2pos : 1 ≤ m2 := by
      refine Classical.byContradiction fun hn => ?_
      have : m2 = 0 := by omega
      rw [this] at hlt2
      simp at hlt2
    have hnew : kraft D (((a + b, m2 - 1) :: r2).map (·.2)) ≤ 2 ^ D := by
      show 2 ^ (D - (m2 - 1)) + kraft D (r2.map (·.2)) ≤ 2 ^ D
      rw [hk2, hT, show D - (m2 - 1) = (D - m2) + 1 by omega, Nat.pow_succ, ← Nat.mul_add]
      exact Nat.mul_le_mul_left _ (by omega)
    have ih := HC_least k _ c' hc ((a + b, m2 - 1) :: r2) D (hw5.cons _) (by
      intro p hpm
      rcases List.mem_cons.1 hpm with e | e
      · rw [e]; show m2 - 1 ≤ D; omega
      · exact hall _ (List.mem_cons_of_mem _ (List.mem_cons_of_mem _ (List.mem_map.2 ⟨p, e, rfl⟩)))) hnew
    simp only [costP] at ih
    obtain ⟨m, rfl⟩ : ∃ m, m2 = m + 1 := ⟨m2 - 1, by omega⟩
    obtain ⟨y, rfl⟩ := Nat.exists_eq_add_of_le hm12
    simp only [Nat.add_sub_cancel] at ih
    have e1 : a * (m + 1 + y) = a * m + a + a * y := by rw [Nat.mul_add, Nat.mul_add, Nat.mul_one]
    have e2 : b * (m + 1) = b * m + b := by rw [Nat.mul_add, Nat.mul_one]
    have e3 : (a + b) * m = a * m + b * m := Nat.add_mul _ _ _
    omega

end Go.Proofs.YtaalbaiglkadlaaGreat

/- The plain process of layer 4: nodes in order of weight (of equals those that were made first); the two least are put together. Nothing of the program is named here. -/
namespace Go.Proofs.YtaalbaiglkadlaaGreat

/-- A node that is left: its weight, when it was made, and the symbols below it. -/
structure Gr where
  w : Nat
  id : Nat
  ss : List Nat

/-- Ahead: of less weight, or of the same and made before. -/
def ahead (x y : Gr) : Prop := x.w < y.w ∨ (x.w = y.w ∧ x.id < y.id)
def aheadB (x y : Gr) : Bool := decide (x.w < y.w) || (decide (x.w = y.w) && decide (x.id < y.id))

theorem aheadB_iff (x y : Gr) : aheadB x y = true ↔ ahead x y := by simp [aheadB, ahead]
theorem ahead_le {x y : Gr} (h : ahead x y) : x.w ≤ y.w := by rcases h with h | h <;> omega
theorem ahead_trans {x y z : Gr} (h : ahead x y) (k : ahead y z) : ahead x z := by
  unfold ahead at *
  omega

/-- A node into its place. -/
def ins (x : Gr) : List Gr → List Gr
  | [] => [x]
  | y :: r => if aheadB x y then x :: y :: r else y :: ins x r

theorem ins_perm (x : Gr) (l : List Gr) : (ins x l).Perm (x :: l) := by
  induction l with
  | nil => exact List.Perm.refl _
  | cons y r ih =>
    unfold ins
    split
    · exact List.Perm.refl _
    · exact (ih.cons y).trans (List.Perm.swap x y r)

theorem ins_length (x : Gr) (l : List Gr) : (ins x l).length = l.length + 1 := (ins_perm x l).length_eq

/-- In order. -/
def Ord (l : List Gr) : Prop := l.Pairwise ahead

theorem ins_ord (x : Gr) (l : List Gr) (h : Ord l) (hid : ∀ y ∈ l, y.id ≠ x.id) : Ord (ins x l) := by
  induction l with
  | nil => exact List.pairwise_singleton _ _
  | cons y r ih =>
    obtain ⟨h1, h2⟩ := List.pairwise_cons.1 h
    unfold ins
    split
    · rename_i hxy
      rw [aheadB_iff] at hxy
      refine List.pairwise_cons.2 ⟨fun z hz => ?_, h⟩
      rcases List.mem_cons.1 hz with e | e
      · rw [e]; exact hxy
      · exact ahead_trans hxy (h1 z e)
    · rename_i hxy
      rw [aheadB_iff] at hxy
      have hyx : ahead y x := by
        have := hid y List.mem_cons_self
        unfold ahead at *
        omega
      refine List.pairwise_cons.2 ⟨fun z hz => ?_, ih h2 fun z hz => hid z (List.mem_cons_of_mem _ hz)⟩
      rcases List.mem_cons.1 ((ins_perm x r).mem_iff.1 hz) with e | e
      · rw [e]; exact hyx
      · exact h1 z e

/-- One deeper, of these symbols. -/
def bump (ss : List Nat) (d : Nat → Nat) : Nat → Nat := fun s => if s ∈ ss then d s + 1 else d s

/-- The two least put together, k times at most. -/
def huff : Nat → List Gr → Nat → (Nat → Nat) → (Nat → Nat)
  | k + 1, a :: b :: r, n, d => huff k (ins ⟨a.w + b.w, n, a.ss ++ b.ss⟩ r) (n + 1) (bump (a.ss ++ b.ss) d)
  | _, _, _, d => d

/-- What stands in order, below n made. -/
structure St (l : List Gr) (n : Nat) : Prop where
  ord : Ord l
  lt : ∀ g ∈ l, g.id < n

theorem St.next {a b : Gr} {r : List Gr} {n : Nat} (h : St (a :: b :: r) n) (ss : List Nat) : St (ins ⟨a.w + b.w, n, ss⟩ r) (n + 1) := by
  refine ⟨ins_ord _ _ (List.pairwise_cons.1 (List.pairwise_cons.1 h.ord).2).2 fun y hy => ?_, fun g hg => ?_⟩
  · have := h.lt y (List.mem_cons_of_mem _ (List.mem_cons_of_mem _ hy))
    show y.id ≠ n
    omega
  · rcases List.mem_cons.1 ((ins_perm _ r).mem_iff.1 hg) with e | e
    · rw [e]; show n < n + 1; omega
    · have := h.lt g (List.mem_cons_of_mem _ (List.mem_cons_of_mem _ e)); omega

theorem St.two {a b : Gr} {r : List Gr} {n : Nat} (h : St (a :: b :: r) n) : a.w ≤ b.w ∧ ∀ x ∈ r, b.w ≤ x.w :=
  ⟨ahead_le ((List.pairwise_cons.1 h.ord).1 b List.mem_cons_self), fun x hx => ahead_le ((List.pairwise_cons.1 (List.pairwise_cons.1 h.ord).2).1 x hx)⟩

/-- What holds at the beginning, and behind each step, holds at the end. -/
theorem huff_ind (P : List Gr → (Nat → Nat) → Prop) (hperm : ∀ a b d, List.Perm a b → P a d → P b d)
    (hstep : ∀ a b r n d, P (a :: b :: r) d → a.w ≤ b.w → (∀ x ∈ r, b.w ≤ x.w) → P (⟨a.w + b.w, n, a.ss ++ b.ss⟩ :: r) (bump (a.ss ++ b.ss) d)) :
    ∀ (k : Nat) (l : List Gr) (n : Nat) (d : Nat → Nat), St l n → l.length = k + 1 → P l d → ∃ g, P [g] (huff k l n d)
  | 0, l, n, d, hs, hl, hP => by
    obtain ⟨g, rfl⟩ := List.length_eq_one_iff.1 hl
    exact ⟨g, hP⟩
  | k + 1, [], _, _, _, hl, _ => by simp at hl
  | k + 1, [_], _, _, _, hl, _ => by simp at hl
  | k + 1, a :: b :: r, n, d, hs, hl, hP => by
    have h2 := hs.two
    exact huff_ind P hperm hstep k _ (n + 1) _ (hs.next _) (by rw [ins_length]; simpa using hl) (hperm _ _ _ (ins_perm _ r).symm (hstep a b r n d hP h2.1 h2.2))

/-! ### The symbols -/
def symsOf (l : List Gr) : List Nat := l.flatMap (·.ss)

theorem symsOf_perm {a b : List Gr} (h : a.Perm b) : (symsOf a).Perm (symsOf b) := h.flatMap_right _

theorem syms_step (a b : Gr) (r : List Gr) (n : Nat) : symsOf (⟨a.w + b.w, n, a.ss ++ b.ss⟩ :: r) = symsOf (a :: b :: r) := by
  simp [symsOf]

theorem huff_syms (k : Nat) (l : List Gr) (n : Nat) (d : Nat → Nat) (hs : St l n) (hl : l.length = k + 1) (Q : Gr → (Nat → Nat) → Prop)
    (P : List Gr → (Nat → Nat) → Prop) (hperm : ∀ a b d, List.Perm a b → P a d → P b d)
    (hstep : ∀ a b r n d, P (a :: b :: r) d → (symsOf (a :: b :: r)).Perm (symsOf l) → a.w ≤ b.w → (∀ x ∈ r, b.w ≤ x.w) → P (⟨a.w + b.w, n, a.ss ++ b.ss⟩ :: r) (bump (a.ss ++ b.ss) d))
    (h0 : P l d) (hQ : ∀ g d, P [g] d → g.ss.Perm (symsOf l) → Q g d) : ∃ g, Q g (huff k l n d) := by
  obtain ⟨g, h1, h2⟩ := huff_ind (fun x d => P x d ∧ (symsOf x).Perm (symsOf l)) (fun a b d hp h => ⟨hperm a b d hp h.1, (symsOf_perm hp).symm.trans h.2⟩)
    (fun a b r n d h h1 h2 => ⟨hstep a b r n d h.1 h.2 h1 h2, by rw [syms_step]; exact h.2⟩) k l n d hs hl ⟨h0, List.Perm.refl _⟩
  exact ⟨g, hQ g _ h1 (by simpa [symsOf] using h2)⟩

theorem bump_out (ss : List Nat) (d : Nat → Nat) (s : Nat) (h : s ∉ ss) : bump ss d s = d s := by unfold bump; rw [if_neg h]
theorem bump_in (ss : List Nat) (d : Nat → Nat) (s : Nat) (h : s ∈ ss) : bump ss d s = d s + 1 := by unfold bump; rw [if_pos h]

/-! ### The depths, bounded: Fibonacci -/
def fib : Nat → Nat
  | 0 => 0
  | 1 => 1
  | n + 2 => fib (n + 1) + fib n

theorem fib_le_succ (n : Nat) : fib n ≤ fib (n + 1) := by
  cases n with
  | zero => decide
  | succ n => show fib (n + 1) ≤ fib (n + 1) + fib n; omega

theorem fib_mono {m n : Nat} (h : m ≤ n) : fib m ≤ fib n := by
  induction n with
  | zero => rw [show m = 0 by omega]; exact Nat.le_refl _
  | succ n ih =>
    by_cases e : m = n + 1
    · rw [e]; exact Nat.le_refl _
    · exact Nat.le_trans (ih (by omega)) (fib_le_succ n)

/-- Its symbols lie no deeper than h. -/
def Deep (g : Gr) (d : Nat → Nat) (h : Nat) : Prop := ∀ s ∈ g.ss, d s ≤ h

theorem Deep.step {a b : Gr} {d : Nat → Nat} {p q n : Nat} (ha : Deep a d p) (hb : Deep b d q) (h : Nat) (hp : p < h) (hq : q < h) : Deep ⟨a.w + b.w, n, a.ss ++ b.ss⟩ (bump (a.ss ++ b.ss) d) h := by
  intro s hs
  have hs' : s ∈ a.ss ++ b.ss := hs
  rw [bump_in _ _ _ hs']
  rcases List.mem_append.1 hs' with e | e
  · have := ha s e; omega
  · have := hb s e; omega

theorem Deep.other {g : Gr} {d : Nat → Nat} {h : Nat} {ss : List Nat} (hg : Deep g d h) (hd : ∀ s ∈ g.ss, s ∉ ss) : Deep g (bump ss d) h := by
  intro s hs
  rw [bump_out _ _ _ (hd s hs)]
  exact hg s hs

/-- Of symbols that are all unlike, those of two nodes are none of another's. -/
theorem apart {a b : Gr} {r : List Gr} {S : List Nat} (h : (symsOf (a :: b :: r)).Perm S) (hS : S.Nodup) : (∀ g ∈ r, ∀ s ∈ g.ss, s ∉ a.ss ++ b.ss) ∧ (a.ss ++ b.ss).Nodup := by
  have hn : (symsOf (a :: b :: r)).Nodup := h.nodup_iff.2 hS
  have e : symsOf (a :: b :: r) = (a.ss ++ b.ss) ++ symsOf r := by simp [symsOf]
  rw [e, List.nodup_append] at hn
  refine ⟨fun g hg s hs hin => hn.2.2 s hin s (List.mem_flatMap.2 ⟨g, hg, hs⟩) rfl, hn.1⟩

theorem huff_fib (k : Nat) (l : List Gr) (n : Nat) (d : Nat → Nat) (hs : St l n) (hl : l.length = k + 1) (hS : (symsOf l).Nodup) (h0 : ∀ g ∈ l, 1 ≤ g.w ∧ Deep g d 0) :
    ∃ g : Gr, ∃ h, g.ss.Perm (symsOf l) ∧ Deep g (huff k l n d) h ∧ fib (h + 2) ≤ g.w ∧ g.w = (l.map (·.w)).sum := by
  refine huff_syms k l n d hs hl (fun g d => ∃ h, g.ss.Perm (symsOf l) ∧ Deep g d h ∧ fib (h + 2) ≤ g.w ∧ g.w = (l.map (·.w)).sum)
    (fun x d => (x.map (·.w)).sum = (l.map (·.w)).sum ∧ ∃ M, ∀ g ∈ x, 1 ≤ g.w ∧ M ≤ g.w ∧ ∃ h, Deep g d h ∧ fib (h + 2) ≤ g.w ∧ (1 ≤ h → fib (h + 1) ≤ M)) ?_ ?_ ?_ ?_
  · rintro a b d hp ⟨h1, M, h2⟩
    exact ⟨by rw [← h1]; exact ((hp.map _).sum_nat).symm, M, fun g hg => h2 g (hp.mem_iff.2 hg)⟩
  · rintro a b r n d ⟨h1, M, h2⟩ hp hab hr
    have hap := apart hp hS
    obtain ⟨a1, aM, p, pd, pf, pm⟩ := h2 a List.mem_cons_self
    obtain ⟨b1, bM, q, qd, qf, qm⟩ := h2 b (List.mem_cons_of_mem _ List.mem_cons_self)
    refine ⟨by rw [← h1]; simp only [List.map_cons, List.sum_cons]; omega, b.w, fun g hg => ?_⟩
    rcases List.mem_cons.1 hg with e | e
    · subst e
      refine ⟨by show 1 ≤ a.w + b.w; omega, by show b.w ≤ a.w + b.w; omega, ?_⟩
      have key : ∀ (x y : Gr) (h : Nat), 1 ≤ x.w → 1 ≤ y.w → M ≤ y.w → fib (h + 2) ≤ x.w → (1 ≤ h → fib (h + 1) ≤ M) → fib (h + 3) ≤ x.w + y.w := by
        intro x y h hx hy hM hf hm
        show fib (h + 2) + fib (h + 1) ≤ _
        by_cases hh : 1 ≤ h
        · have := hm hh; omega
        · have : h = 0 := by omega
          subst this
          have e1 : fib (0 + 2) = 1 := rfl
          have e2 : fib (0 + 1) = 1 := rfl
          omega
      by_cases hpq : q ≤ p
      · refine ⟨p + 1, pd.step qd _ (by omega) (by omega), key a b p a1 b1 bM pf pm, fun _ => ?_⟩
        show fib (p + 2) ≤ b.w
        omega
      · refine ⟨q + 1, pd.step qd _ (by omega) (by omega), ?_, fun _ => ?_⟩
        · have := key b a q b1 a1 aM qf qm
          show fib (q + 3) ≤ a.w + b.w
          omega
        · show fib (q + 2) ≤ b.w
          exact qf
    · obtain ⟨g1, gM, h, gd, gf, gm⟩ := h2 g (List.mem_cons_of_mem _ (List.mem_cons_of_mem _ e))
      refine ⟨g1, hr g e, h, gd.other (hap.1 g e), gf, fun hh => ?_⟩
      have := gm hh
      omega
  · exact ⟨rfl, 0, fun g hg => ⟨(h0 g hg).1, Nat.zero_le _, 0, (h0 g hg).2, (h0 g hg).1, fun hh => absurd hh (by decide)⟩⟩
  · rintro g d ⟨h1, M, h2⟩ hp
    obtain ⟨_, _, h, gd, gf, _⟩ := h2 g List.mem_cons_self
    exact ⟨h, hp, gd, gf, by simpa using h1⟩

end Go.Proofs.YtaalbaiglkadlaaGreat

/- The plain process of layer 4, more: the code is full; it costs least; of like weights it is as flat as can be; the weights so many times make the same. -/
namespace Go.Proofs.YtaalbaiglkadlaaGreat

/-! ### The code is full -/
theorem kraft_append (D : Nat) (a b : List Nat) : kraft D (a ++ b) = kraft D a + kraft D b := by
  induction a with
  | nil => simp [kraft]
  | cons x a ih => simp only [List.cons_append, kraft, ih]; omega

theorem kraft_up (D : Nat) (ls : List Nat) : kraft (D + 1) (ls.map (· + 1)) = kraft D ls := by
  induction ls with
  | nil => rfl
  | cons x ls ih => simp only [List.map_cons, kraft, ih, Nat.add_sub_add_right]

/-- A node's symbols fill it. -/
def Full (g : Gr) (d : Nat → Nat) : Prop := ∀ D, (∀ s ∈ g.ss, d s ≤ D) → kraft D (g.ss.map d) = 2 ^ D

theorem map_bump (ss : List Nat) (d : Nat → Nat) : ss.map (bump ss d) = (ss.map d).map (· + 1) := by
  rw [List.map_map]
  exact List.map_congr_left fun s hs => bump_in ss d s hs

theorem map_other (g ss : List Nat) (d : Nat → Nat) (h : ∀ s ∈ g, s ∉ ss) : g.map (bump ss d) = g.map d :=
  List.map_congr_left fun s hs => bump_out ss d s (h s hs)

theorem huff_full (k : Nat) (l : List Gr) (n : Nat) (d : Nat → Nat) (hs : St l n) (hl : l.length = k + 1) (hS : (symsOf l).Nodup) (h0 : ∀ g ∈ l, g.ss ≠ [] ∧ Full g d) :
    ∃ g : Gr, g.ss.Perm (symsOf l) ∧ Full g (huff k l n d) := by
  refine huff_syms k l n d hs hl (fun g d => g.ss.Perm (symsOf l) ∧ Full g d) (fun x d => ∀ g ∈ x, g.ss ≠ [] ∧ Full g d) ?_ ?_ h0 ?_
  · intro a b d hp h g hg
    exact h g (hp.mem_iff.2 hg)
  · intro a b r n d h hp _ _ g hg
    have hap := apart hp hS
    obtain ⟨an, af⟩ := h a List.mem_cons_self
    obtain ⟨bn, bf⟩ := h b (List.mem_cons_of_mem _ List.mem_cons_self)
    rcases List.mem_cons.1 hg with e | e
    · subst e
      refine ⟨fun e => an (List.append_eq_nil_iff.1 e).1, fun D hD => ?_⟩
      show kraft D ((a.ss ++ b.ss).map (bump (a.ss ++ b.ss) d)) = 2 ^ D
      have hD' : ∀ s ∈ a.ss ++ b.ss, d s + 1 ≤ D := fun s hs => by have := hD s hs; rw [bump_in _ _ _ hs] at this; exact this
      obtain ⟨s0, hs0⟩ := List.exists_mem_of_ne_nil _ an
      have hD0 := hD' s0 (List.mem_append_left _ hs0)
      obtain ⟨E, rfl⟩ : ∃ E, D = E + 1 := ⟨D - 1, by omega⟩
      rw [map_bump, kraft_up, List.map_append, kraft_append, af E (fun s hs => by have := hD' s (List.mem_append_left _ hs); omega), bf E (fun s hs => by have := hD' s (List.mem_append_right _ hs); omega), Nat.pow_succ]
      omega
    · obtain ⟨gn, gf⟩ := h g (List.mem_cons_of_mem _ (List.mem_cons_of_mem _ e))
      refine ⟨gn, fun D hD => ?_⟩
      rw [map_other _ _ _ (hap.1 g e)]
      exact gf D fun s hs => by have := hD s hs; rw [bump_out _ _ _ (hap.1 g e s hs)] at this; exact this
  · intro g d h hp
    exact ⟨hp, (h g List.mem_cons_self).2⟩

/-! ### It costs least -/
/-- What weights and depths come to. -/
def costD (w d : Nat → Nat) : List Nat → Nat
  | [] => 0
  | s :: ss => w s * d s + costD w d ss
def sumW (w : Nat → Nat) : List Nat → Nat
  | [] => 0
  | s :: ss => w s + sumW w ss

theorem costD_append (w d : Nat → Nat) (a b : List Nat) : costD w d (a ++ b) = costD w d a + costD w d b := by
  induction a with
  | nil => simp [costD]
  | cons x a ih => simp only [List.cons_append, costD, ih]; omega
theorem sumW_append (w : Nat → Nat) (a b : List Nat) : sumW w (a ++ b) = sumW w a + sumW w b := by
  induction a with
  | nil => simp [sumW]
  | cons x a ih => simp only [List.cons_append, sumW, ih]; omega
theorem costD_perm (w d : Nat → Nat) {a b : List Nat} (h : a.Perm b) : costD w d a = costD w d b := by
  induction h with
  | nil => rfl
  | cons x _ ih => simp only [costD, ih]
  | swap x y l => simp only [costD]; omega
  | trans _ _ ih1 ih2 => exact ih1.trans ih2
theorem costD_bump (w d : Nat → Nat) (ss x : List Nat) (h : ∀ s ∈ x, s ∈ ss) : costD w (bump ss d) x = costD w d x + sumW w x := by
  induction x with
  | nil => rfl
  | cons s x ih =>
    simp only [costD, sumW, ih fun s hs => h s (List.mem_cons_of_mem _ hs)]
    rw [bump_in ss d s (h s List.mem_cons_self), Nat.mul_add, Nat.mul_one]
    omega
theorem costD_other (w d : Nat → Nat) (ss x : List Nat) (h : ∀ s ∈ x, s ∉ ss) : costD w (bump ss d) x = costD w d x := by
  induction x with
  | nil => rfl
  | cons s x ih =>
    simp only [costD, ih fun s hs => h s (List.mem_cons_of_mem _ hs)]
    rw [bump_out ss d s (h s List.mem_cons_self)]

theorem huff_cost (w0 : Nat → Nat) : ∀ (k : Nat) (l : List Gr) (n : Nat) (d : Nat → Nat), St l n → l.length = k + 1 → (symsOf l).Nodup → (∀ g ∈ l, g.w = sumW w0 g.ss) →
    ∃ c, HC k (l.map (·.w)) c ∧ costD w0 (huff k l n d) (symsOf l) = costD w0 d (symsOf l) + c
  | 0, l, n, d, hs, hl, hS, hw => by
    obtain ⟨g, rfl⟩ := List.length_eq_one_iff.1 hl
    exact ⟨0, ⟨⟨g.w, rfl⟩, rfl⟩, rfl⟩
  | k + 1, [], _, _, _, hl, _, _ => by simp at hl
  | k + 1, [_], _, _, _, hl, _, _ => by simp at hl
  | k + 1, a :: b :: r, n, d, hs, hl, hS, hw => by
    have h2 := hs.two
    have hap := apart (List.Perm.refl (symsOf (a :: b :: r))) hS
    have hpm := ins_perm ⟨a.w + b.w, n, a.ss ++ b.ss⟩ r
    have hsy : (symsOf (ins ⟨a.w + b.w, n, a.ss ++ b.ss⟩ r)).Perm (symsOf (a :: b :: r)) := by
      rw [← syms_step a b r n]
      exact symsOf_perm hpm
    obtain ⟨c, hc, he⟩ := huff_cost w0 k (ins ⟨a.w + b.w, n, a.ss ++ b.ss⟩ r) (n + 1) (bump (a.ss ++ b.ss) d) (hs.next _) (by rw [ins_length]; simpa using hl) (hsy.nodup_iff.2 hS) (by
      intro g hg
      rcases List.mem_cons.1 (hpm.mem_iff.1 hg) with e | e
      · subst e
        show a.w + b.w = sumW w0 (a.ss ++ b.ss)
        rw [sumW_append, hw a List.mem_cons_self, hw b (List.mem_cons_of_mem _ List.mem_cons_self)]
      · exact hw g (List.mem_cons_of_mem _ (List.mem_cons_of_mem _ e)))
    rw [costD_perm _ _ hsy, costD_perm _ _ hsy] at he
    refine ⟨a.w + b.w + c, ?_, ?_⟩
    · have hq : ((ins ⟨a.w + b.w, n, a.ss ++ b.ss⟩ r).map (·.w)).Perm ((a.w + b.w) :: r.map (·.w)) := by
        have := hpm.map Gr.w
        simpa using this
      cases k with
      | zero =>
        obtain ⟨⟨x, hx⟩, rfl⟩ := hc
        rw [hx] at hq
        have hr := List.perm_singleton.1 hq.symm
        exact ⟨a.w, b.w, r.map (·.w), 0, List.Perm.refl _, h2.1, fun x hx => by obtain ⟨g, hg, rfl⟩ := List.mem_map.1 hx; exact h2.2 g hg, ⟨⟨x, hr⟩, rfl⟩, rfl⟩
      | succ k =>
        obtain ⟨a', b', rest, c', hp', h1', h2', h3', rfl⟩ := hc
        exact ⟨a.w, b.w, r.map (·.w), _, List.Perm.refl _, h2.1, fun x hx => by obtain ⟨g, hg, rfl⟩ := List.mem_map.1 hx; exact h2.2 g hg, ⟨a', b', rest, c', hq.symm.trans hp', h1', h2', h3', rfl⟩, rfl⟩
    · show costD w0 (huff k _ (n + 1) _) (symsOf (a :: b :: r)) = _
      rw [he]
      have e : symsOf (a :: b :: r) = (a.ss ++ b.ss) ++ symsOf r := by simp [symsOf]
      rw [e, costD_append, costD_append w0 d, costD_bump w0 d (a.ss ++ b.ss) (a.ss ++ b.ss) (fun _ h => h), costD_other w0 d (a.ss ++ b.ss) (symsOf r) (fun s hs => by
        obtain ⟨g, hg, hgs⟩ := List.mem_flatMap.1 hs
        exact hap.1 g hg s hgs), sumW_append, ← hw a List.mem_cons_self, ← hw b (List.mem_cons_of_mem _ List.mem_cons_self)]
      omega

/-! ### Of like weights it is flat -/
/-- Weight and depth, at stage k: just 2^k or 2^(k+1), or the one between. -/
def Flat (k : Nat) (d : Nat → Nat) (g : Gr) : Prop := (g.w = 2 ^ k ∧ Deep g d k) ∨ (g.w = 2 ^ (k + 1) ∧ Deep g d (k + 1))
def Odd (k : Nat) (d : Nat → Nat) (g : Gr) : Prop := 2 ^ k < g.w ∧ g.w < 2 ^ (k + 1) ∧ Deep g d (k + 1)

/-- All flat, or all but one. -/
def AllFlat (l : List Gr) (d : Nat → Nat) : Prop := ∃ k, (∀ g ∈ l, Flat k d g) ∨ ∃ o r, l.Perm (o :: r) ∧ Odd k d o ∧ ∀ g ∈ r, Flat k d g

theorem two_succ (k : Nat) : 2 ^ (k + 1) = 2 * 2 ^ k := by rw [Nat.pow_succ]; omega

theorem Flat.other {k : Nat} {d : Nat → Nat} {g : Gr} {ss : List Nat} (h : Flat k d g) (hd : ∀ s ∈ g.ss, s ∉ ss) : Flat k (bump ss d) g := by
  rcases h with ⟨h1, h2⟩ | ⟨h1, h2⟩
  · exact .inl ⟨h1, h2.other hd⟩
  · exact .inr ⟨h1, h2.other hd⟩
theorem Odd.other {k : Nat} {d : Nat → Nat} {g : Gr} {ss : List Nat} (h : Odd k d g) (hd : ∀ s ∈ g.ss, s ∉ ss) : Odd k (bump ss d) g := ⟨h.1, h.2.1, h.2.2.other hd⟩

/-- Where all weigh 2^(k+1) at least, the stage is the next one. -/
theorem Flat.up {k : Nat} {d : Nat → Nat} {g : Gr} (h : Flat k d g) (hw : 2 ^ k < g.w) : Flat (k + 1) d g := by
  rcases h with ⟨h1, _⟩ | h1
  · omega
  · exact .inl h1

theorem huff_flat (k : Nat) (l : List Gr) (n : Nat) (d : Nat → Nat) (hs : St l n) (hl : l.length = k + 1) (hS : (symsOf l).Nodup) (h0 : ∀ g ∈ l, g.w = 1 ∧ Deep g d 0) :
    ∃ g : Gr, g.ss.Perm (symsOf l) ∧ g.w = l.length ∧ AllFlat [g] (huff k l n d) := by
  refine huff_syms k l n d hs hl (fun g d => g.ss.Perm (symsOf l) ∧ g.w = l.length ∧ AllFlat [g] d) (fun x d => (x.map (·.w)).sum = l.length ∧ AllFlat x d) ?_ ?_ ?_ ?_
  · rintro a b d hp ⟨h1, j, h⟩
    refine ⟨by rw [← h1]; exact ((hp.map _).sum_nat).symm, j, ?_⟩
    rcases h with h | ⟨o, r, hpo, ho, hr⟩
    · exact .inl fun g hg => h g (hp.mem_iff.2 hg)
    · exact .inr ⟨o, r, hp.symm.trans hpo, ho, hr⟩
  · rintro a b r n d ⟨h1, j, h⟩ hp hab hr
    have hap := apart hp hS
    refine ⟨by rw [← h1]; simp only [List.map_cons, List.sum_cons]; omega, ?_⟩
    have hpos : 0 < 2 ^ j := Nat.pow_pos (by decide)
    have e1 := two_succ j
    have e2 := two_succ (j + 1)
    -- what a new node is, where both weigh so and so, and all others are flat
    rcases h with h | ⟨o, q, hpo, ho, hq⟩
    · have ha := h a List.mem_cons_self
      have hb := h b (List.mem_cons_of_mem _ List.mem_cons_self)
      have hrr : ∀ g ∈ r, Flat j d g := fun g hg => h g (List.mem_cons_of_mem _ (List.mem_cons_of_mem _ hg))
      rcases ha with ⟨aw, ad⟩ | ⟨aw, ad⟩
      · rcases hb with ⟨bw, bd⟩ | ⟨bw, bd⟩
        · refine ⟨j, .inl fun g hg => ?_⟩
          rcases List.mem_cons.1 hg with e | e
          · subst e
            exact .inr ⟨by show a.w + b.w = _; omega, ad.step bd _ (by omega) (by omega)⟩
          · exact (hrr g e).other (hap.1 g e)
        · refine ⟨j + 1, .inr ⟨_, r, List.Perm.refl _, ⟨by show _ < a.w + b.w; omega, by show a.w + b.w < _; omega, ad.step bd _ (by omega) (by omega)⟩, fun g hg => ?_⟩⟩
          exact ((hrr g hg).up (by have := hr g hg; omega)).other (hap.1 g hg)
      · rcases hb with ⟨bw, bd⟩ | ⟨bw, bd⟩
        · omega
        · refine ⟨j + 1, .inl fun g hg => ?_⟩
          rcases List.mem_cons.1 hg with e | e
          · subst e
            exact .inr ⟨by show a.w + b.w = _; omega, ad.step bd _ (by omega) (by omega)⟩
          · exact ((hrr g e).up (by have := hr g e; omega)).other (hap.1 g e)
    · obtain ⟨o1, o2, od⟩ := ho
      have hmem : ∀ g, g ∈ a :: b :: r → g = o ∨ g ∈ q := fun g hg => List.mem_cons.1 (hpo.mem_iff.1 hg)
      -- the odd one: a, b, or one of the rest
      by_cases hao : a.w = 2 ^ j
      · have haq : Deep a d j := by
          rcases hmem a List.mem_cons_self with e | e
          · subst e; omega
          · rcases hq a e with ⟨_, h⟩ | ⟨h, _⟩
            · exact h
            · omega
        by_cases hbo : b.w = 2 ^ j
        · have hbq : Deep b d j := by
            rcases hmem b (List.mem_cons_of_mem _ List.mem_cons_self) with e | e
            · subst e; omega
            · rcases hq b e with ⟨_, h⟩ | ⟨h, _⟩
              · exact h
              · omega
          -- both are just 2^j: the odd one is among the rest
          have ho_r : o ∈ r := by
            have : o ∈ a :: b :: r := hpo.mem_iff.2 List.mem_cons_self
            rcases List.mem_cons.1 this with e | e
            · subst e; omega
            · rcases List.mem_cons.1 e with e | e
              · subst e; omega
              · exact e
          obtain ⟨r1, r2, hrs⟩ := List.append_of_mem ho_r
          have hro : r.Perm (o :: (r1 ++ r2)) := by rw [hrs]; exact List.perm_middle
          have hq2 : (a :: b :: (r1 ++ r2)).Perm q := by
            have h3 : (o :: (a :: b :: (r1 ++ r2))).Perm (o :: q) := by
              refine List.Perm.trans ?_ hpo
              refine List.Perm.trans ?_ ((hro.symm.cons b).cons a)
              exact (List.Perm.swap a o _).trans ((List.Perm.swap b o _).cons a)
            exact h3.cons_inv
          refine ⟨j, .inr ⟨o, ⟨a.w + b.w, n, a.ss ++ b.ss⟩ :: (r1 ++ r2), (hro.cons _).trans (List.Perm.swap _ _ _), ?_, fun g hg => ?_⟩⟩
          · exact (show Odd j d o from ⟨o1, o2, od⟩).other (hap.1 o ho_r)
          · rcases List.mem_cons.1 hg with e | e
            · subst e
              exact .inr ⟨by show a.w + b.w = _; omega, haq.step hbq _ (by omega) (by omega)⟩
            · have : g ∈ r := hro.mem_iff.2 (List.mem_cons_of_mem _ e)
              exact (hq g (hq2.mem_iff.1 (List.mem_cons_of_mem _ (List.mem_cons_of_mem _ e)))).other (hap.1 g this)
        · -- b is the odd one
          have hbw : 2 ^ j < b.w := by omega
          have hob : b.w = o.w ∨ 2 ^ (j + 1) ≤ b.w := by
            rcases hmem b (List.mem_cons_of_mem _ List.mem_cons_self) with e | e
            · exact .inl (by rw [e])
            · rcases hq b e with ⟨h, _⟩ | ⟨h, _⟩ <;> omega
          -- were b no less than 2^(j+1), so were all the rest, and none could be odd
          have hbe : o = b ∨ o ∈ r := by
            have : o ∈ a :: b :: r := hpo.mem_iff.2 List.mem_cons_self
            rcases List.mem_cons.1 this with e | e
            · subst e; omega
            · exact List.mem_cons.1 e
          have hb' : o = b := by
            rcases hbe with e | e
            · exact e
            · exfalso
              have hbr := hr o e
              rcases hob with h | h
              · -- b weighs what o weighs: b is odd, too, and flat
                obtain ⟨r1, r2, hrs⟩ := List.append_of_mem e
                have hro : r.Perm (o :: (r1 ++ r2)) := by rw [hrs]; exact List.perm_middle
                have hq2 : (a :: b :: (r1 ++ r2)).Perm q := by
                  have h3 : (o :: (a :: b :: (r1 ++ r2))).Perm (o :: q) := by
                    refine List.Perm.trans ?_ hpo
                    refine List.Perm.trans ?_ ((hro.symm.cons b).cons a)
                    exact (List.Perm.swap a o _).trans ((List.Perm.swap b o _).cons a)
                  exact h3.cons_inv
                rcases hq b (hq2.mem_iff.1 (List.mem_cons_of_mem _ List.mem_cons_self)) with ⟨h5, _⟩ | ⟨h5, _⟩ <;> omega
              · omega
          subst hb'
          have hq2 : (a :: r).Perm q := ((List.Perm.swap a o r).trans hpo).cons_inv
          refine ⟨j + 1, .inr ⟨_, r, List.Perm.refl _, ⟨by show _ < a.w + o.w; omega, by show a.w + o.w < _; omega, haq.step od _ (by omega) (by omega)⟩, fun g hg => ?_⟩⟩
          exact ((hq g (hq2.mem_iff.1 (List.mem_cons_of_mem _ hg))).up (by have := hr g hg; omega)).other (hap.1 g hg)
      · -- none is just 2^j: a is the odd one
        have hae : o = a ∨ (o = b ∨ o ∈ r) := by
          have : o ∈ a :: b :: r := hpo.mem_iff.2 List.mem_cons_self
          rcases List.mem_cons.1 this with e | e
          · exact .inl e
          · exact .inr (List.mem_cons.1 e)
        have haw : a.w ≤ o.w := by
          rcases hae with e | e | e
          · rw [e]; exact Nat.le_refl _
          · rw [e]; exact hab
          · have := hr o e; omega
        have ho' : o = a := by
          rcases hae with e | e
          · exact e
          · exfalso
            -- a is flat then, and weighs 2^(j+1)
            have haq : a ∈ q := by
              rcases e with e | e
              · subst e
                have : (o :: a :: r).Perm (o :: q) := (List.Perm.swap a o r).trans hpo
                exact this.cons_inv.mem_iff.1 List.mem_cons_self
              · obtain ⟨r1, r2, hrs⟩ := List.append_of_mem e
                have hro : r.Perm (o :: (r1 ++ r2)) := by rw [hrs]; exact List.perm_middle
                have h3 : (o :: (a :: b :: (r1 ++ r2))).Perm (o :: q) := by
                  refine List.Perm.trans ?_ hpo
                  refine List.Perm.trans ?_ ((hro.symm.cons b).cons a)
                  exact (List.Perm.swap a o _).trans ((List.Perm.swap b o _).cons a)
                exact h3.cons_inv.mem_iff.1 List.mem_cons_self
            rcases hq a haq with ⟨h5, _⟩ | ⟨h5, _⟩ <;> omega
        subst ho'
        have hq2 : (b :: r).Perm q := hpo.cons_inv
        have hb2 : Flat j d b := hq b (hq2.mem_iff.1 List.mem_cons_self)
        rcases hb2 with ⟨bw, bd⟩ | ⟨bw, bd⟩
        · omega
        · refine ⟨j + 1, .inr ⟨_, r, List.Perm.refl _, ⟨by show _ < o.w + b.w; omega, by show o.w + b.w < _; omega, od.step bd _ (by omega) (by omega)⟩, fun g hg => ?_⟩⟩
          exact ((hq g (hq2.mem_iff.1 (List.mem_cons_of_mem _ hg))).up (by have := hr g hg; omega)).other (hap.1 g hg)
  · refine ⟨?_, 0, .inl fun g hg => .inl (h0 g hg)⟩
    have : l.map (·.w) = List.replicate l.length 1 := by
      apply List.eq_replicate_iff.2
      exact ⟨by simp, fun b hb => by obtain ⟨g, hg, rfl⟩ := List.mem_map.1 hb; exact (h0 g hg).1⟩
    rw [this]
    simp
  · rintro g d ⟨h1, h⟩ hp
    exact ⟨hp, by simpa using h1, h⟩

/-- As flat as can be. -/
theorem flat_depth {g : Gr} {d : Nat → Nat} {m : Nat} (h : AllFlat [g] d) (hm : g.w ≤ 2 ^ m) : Deep g d m := by
  obtain ⟨k, h⟩ := h
  have key : ∀ i, 2 ^ i ≤ 2 ^ m → i ≤ m := fun i hi => by
    refine Classical.byContradiction fun hn => ?_
    have : 2 ^ m < 2 ^ i := Nat.pow_lt_pow_right (by decide) (by omega)
    omega
  rcases h with h | ⟨o, r, hp, ho, _⟩
  · rcases h g List.mem_cons_self with ⟨h1, h2⟩ | ⟨h1, h2⟩
    · intro s hs
      have := key k (by omega)
      have := h2 s hs
      omega
    · intro s hs
      have := key (k + 1) (by omega)
      have := h2 s hs
      omega
  · have ho2 : o = g := by
      have := hp.mem_iff.2 (List.mem_cons_self (a := o) (l := r))
      simpa using this
    subst ho2
    intro s hs
    have h1 := ho.1
    have h3 : k < m := by
      refine Classical.byContradiction fun hn => ?_
      have : 2 ^ m ≤ 2 ^ k := Nat.pow_le_pow_right (by decide) (by omega)
      omega
    have := ho.2.2 s hs
    omega

/-! ### So many times -/
def Gr.times (c : Nat) (g : Gr) : Gr := ⟨g.w * c, g.id, g.ss⟩

theorem ahead_times (c : Nat) (hc : 0 < c) (x y : Gr) : aheadB (x.times c) (y.times c) = aheadB x y := by
  have h1 : (x.w * c < y.w * c) ↔ x.w < y.w := Nat.mul_lt_mul_right hc
  have h2 : (x.w * c = y.w * c) ↔ x.w = y.w := Nat.mul_left_inj (by omega)
  unfold aheadB Gr.times
  simp only [h1, h2]

theorem ins_times (c : Nat) (hc : 0 < c) (x : Gr) (l : List Gr) : ins (x.times c) (l.map (Gr.times c)) = (ins x l).map (Gr.times c) := by
  induction l with
  | nil => rfl
  | cons y r ih =>
    simp only [List.map_cons, ins, ahead_times c hc]
    split
    · rfl
    · simp only [List.map_cons, ih]

theorem huff_times (c : Nat) (hc : 0 < c) : ∀ (k : Nat) (l : List Gr) (n : Nat) (d : Nat → Nat), huff k (l.map (Gr.times c)) n d = huff k l n d
  | 0, l, n, d => by cases l <;> rfl
  | k + 1, [], _, _ => rfl
  | k + 1, [_], _, _ => rfl
  | k + 1, a :: b :: r, n, d => by
    show huff k (ins ⟨a.w * c + b.w * c, n, a.ss ++ b.ss⟩ (r.map (Gr.times c))) (n + 1) (bump (a.ss ++ b.ss) d) = huff k (ins ⟨a.w + b.w, n, a.ss ++ b.ss⟩ r) (n + 1) (bump (a.ss ++ b.ss) d)
    rw [← Nat.add_mul]
    have e : (⟨(a.w + b.w) * c, n, a.ss ++ b.ss⟩ : Gr) = Gr.times c ⟨a.w + b.w, n, a.ss ++ b.ss⟩ := rfl
    rw [e, ins_times c hc]
    exact huff_times c hc k _ _ _

end Go.Proofs.YtaalbaiglkadlaaGreat

/- The lengths of a list of weights, by the plain process; what holds of them; and with a limit: the weights are halved until none is longer. -/
namespace Go.Proofs.YtaalbaiglkadlaaGreat

/-- The symbols that stand, as nodes, in order; i the first one's number, n that of its node. -/
def leaves : List Nat → Nat → Nat → List Gr
  | [], _, _ => []
  | w :: ws, i, n => if w = 0 then leaves ws (i + 1) n else ⟨w, n, [i]⟩ :: leaves ws (i + 1) (n + 1)

/-- Those that stand, by number. -/
def stand : List Nat → Nat → List Nat
  | [], _ => []
  | w :: ws, i => if w = 0 then stand ws (i + 1) else i :: stand ws (i + 1)

theorem leaves_syms (ws : List Nat) : ∀ i n, symsOf (leaves ws i n) = stand ws i := by
  induction ws with
  | nil => intro i n; rfl
  | cons w ws ih =>
    intro i n
    unfold leaves stand
    split
    · exact ih _ _
    · have := ih (i + 1) (n + 1)
      simp only [symsOf] at this ⊢
      simp [this]

theorem leaves_length (ws : List Nat) : ∀ i n, (leaves ws i n).length = (stand ws i).length := by
  induction ws with
  | nil => intro i n; rfl
  | cons w ws ih =>
    intro i n
    unfold leaves stand
    split
    · exact ih _ _
    · simp only [List.length_cons, ih]

theorem stand_mem (ws : List Nat) : ∀ i s, s ∈ stand ws i ↔ i ≤ s ∧ s < i + ws.length ∧ ws.getD (s - i) 0 ≠ 0 := by
  induction ws with
  | nil => intro i s; simp [stand]
  | cons w ws ih =>
    intro i s
    have hg : ∀ s, i + 1 ≤ s → (w :: ws).getD (s - i) 0 = ws.getD (s - (i + 1)) 0 := by
      intro s hs
      obtain ⟨t, rfl⟩ : ∃ t, s = i + 1 + t := ⟨s - (i + 1), by omega⟩
      rw [show i + 1 + t - i = t + 1 by omega, show i + 1 + t - (i + 1) = t by omega, List.getD_cons_succ]
    unfold stand
    split
    · rename_i hw
      rw [ih, List.length_cons]
      constructor
      · rintro ⟨h1, h2, h3⟩
        exact ⟨by omega, by omega, by rw [hg s h1]; exact h3⟩
      · rintro ⟨h1, h2, h3⟩
        have hne : s ≠ i := by
          intro e
          subst e
          rw [Nat.sub_self, List.getD_cons_zero] at h3
          exact h3 hw
        exact ⟨by omega, by omega, by rw [← hg s (by omega)]; exact h3⟩
    · rename_i hw
      rw [List.mem_cons, ih, List.length_cons]
      constructor
      · rintro (e | ⟨h1, h2, h3⟩)
        · subst e
          exact ⟨by omega, by omega, by rw [Nat.sub_self, List.getD_cons_zero]; exact hw⟩
        · exact ⟨by omega, by omega, by rw [hg s h1]; exact h3⟩
      · rintro ⟨h1, h2, h3⟩
        by_cases e : s = i
        · exact .inl e
        · exact .inr ⟨by omega, by omega, by rw [← hg s (by omega)]; exact h3⟩

theorem stand_nodup (ws : List Nat) : ∀ i, (stand ws i).Nodup := by
  induction ws with
  | nil => intro i; exact List.nodup_nil
  | cons w ws ih =>
    intro i
    unfold stand
    split
    · exact ih _
    · refine List.nodup_cons.2 ⟨fun h => ?_, ih _⟩
      have := (stand_mem ws (i + 1) i).1 h
      omega

theorem leaves_mem (ws : List Nat) : ∀ i n g, g ∈ leaves ws i n → n ≤ g.id ∧ g.id < n + (stand ws i).length ∧ 1 ≤ g.w ∧ ∃ s, g.ss = [s] ∧ i ≤ s ∧ g.w = ws.getD (s - i) 0 := by
  induction ws with
  | nil => intro i n g hg; cases hg
  | cons w ws ih =>
    intro i n g hg
    have hgd : ∀ s, i + 1 ≤ s → (w :: ws).getD (s - i) 0 = ws.getD (s - (i + 1)) 0 := by
      intro s hs
      obtain ⟨t, rfl⟩ : ∃ t, s = i + 1 + t := ⟨s - (i + 1), by omega⟩
      rw [show i + 1 + t - i = t + 1 by omega, show i + 1 + t - (i + 1) = t by omega, List.getD_cons_succ]
    unfold leaves at hg
    unfold stand
    split at hg
    · rename_i hw
      rw [if_pos hw]
      obtain ⟨h1, h2, h3, s, h4, h5, h6⟩ := ih _ _ g hg
      exact ⟨h1, h2, h3, s, h4, by omega, by rw [hgd s h5]; exact h6⟩
    · rename_i hw
      rw [if_neg hw, List.length_cons]
      rcases List.mem_cons.1 hg with e | e
      · subst e
        exact ⟨Nat.le_refl _, by show n < _; omega, by show 1 ≤ w; omega, i, rfl, Nat.le_refl _, by rw [Nat.sub_self, List.getD_cons_zero]⟩
      · obtain ⟨h1, h2, h3, s, h4, h5, h6⟩ := ih _ _ g e
        exact ⟨by omega, by omega, h3, s, h4, by omega, by rw [hgd s h5]; exact h6⟩

/-- Sorted. -/
def sorted (l : List Gr) : List Gr := l.foldr ins []

theorem sorted_perm (l : List Gr) : (sorted l).Perm l := by
  induction l with
  | nil => exact List.Perm.refl _
  | cons x l ih => exact (ins_perm x _).trans (ih.cons x)

theorem sorted_ord (l : List Gr) (h : l.Pairwise fun x y => x.id ≠ y.id) : Ord (sorted l) := by
  induction l with
  | nil => exact List.Pairwise.nil
  | cons x l ih =>
    obtain ⟨h1, h2⟩ := List.pairwise_cons.1 h
    exact ins_ord x _ (ih h2) fun y hy => (h1 y ((sorted_perm l).mem_iff.1 hy)).symm

theorem leaves_ids (ws : List Nat) : ∀ i n, (leaves ws i n).Pairwise fun x y => x.id ≠ y.id := by
  induction ws with
  | nil => intro i n; exact List.Pairwise.nil
  | cons w ws ih =>
    intro i n
    unfold leaves
    split
    · exact ih _ _
    · refine List.pairwise_cons.2 ⟨fun y hy => ?_, ih _ _⟩
      have := (leaves_mem ws _ _ y hy).1
      show n ≠ y.id
      omega

/-- What is left at the beginning. -/
def live0 (ws : List Nat) : List Gr := sorted (leaves ws 0 0)
def cnt (ws : List Nat) : Nat := (stand ws 0).length

theorem live0_perm (ws : List Nat) : (live0 ws).Perm (leaves ws 0 0) := sorted_perm _
theorem live0_length (ws : List Nat) : (live0 ws).length = cnt ws := by rw [(live0_perm ws).length_eq, leaves_length]; rfl
theorem live0_st (ws : List Nat) : St (live0 ws) (cnt ws) := by
  refine ⟨sorted_ord _ (leaves_ids ws 0 0), fun g hg => ?_⟩
  have := (leaves_mem ws 0 0 g ((live0_perm ws).mem_iff.1 hg)).2.1
  unfold cnt
  omega
theorem live0_syms (ws : List Nat) : (symsOf (live0 ws)).Perm (stand ws 0) := by rw [← leaves_syms ws 0 0]; exact symsOf_perm (live0_perm ws)
theorem live0_nodup (ws : List Nat) : (symsOf (live0 ws)).Nodup := (live0_syms ws).nodup_iff.2 (stand_nodup ws 0)
theorem live0_mem (ws : List Nat) (g : Gr) (hg : g ∈ live0 ws) : 1 ≤ g.w ∧ ∃ s, g.ss = [s] ∧ g.w = ws.getD s 0 := by
  obtain ⟨_, _, h3, s, h4, _, h6⟩ := leaves_mem ws 0 0 g ((live0_perm ws).mem_iff.1 hg)
  exact ⟨h3, s, h4, by simpa using h6⟩

/-- How deep each lies. -/
def dep (ws : List Nat) : Nat → Nat := huff (cnt ws - 1) (live0 ws) (cnt ws) fun _ => 0

/-- The lengths. -/
def lenF (ws : List Nat) (i : Nat) : Nat := if ws.getD i 0 = 0 then 0 else if cnt ws = 1 then 1 else dep ws i
def lens (ws : List Nat) : List Nat := (List.range ws.length).map (lenF ws)

theorem lens_length (ws : List Nat) : (lens ws).length = ws.length := by simp [lens]

theorem stand0 (ws : List Nat) (s : Nat) : s ∈ stand ws 0 ↔ s < ws.length ∧ ws.getD s 0 ≠ 0 := by
  rw [stand_mem]
  simp

theorem lenF_stand (ws : List Nat) (h : 2 ≤ cnt ws) (s : Nat) (hs : s ∈ stand ws 0) : lenF ws s = dep ws s := by
  unfold lenF
  rw [if_neg ((stand0 ws s).1 hs).2, if_neg (by omega)]

theorem map_lenF (ws : List Nat) (h : 2 ≤ cnt ws) : (stand ws 0).map (lenF ws) = (stand ws 0).map (dep ws) := List.map_congr_left fun s hs => lenF_stand ws h s hs

/-- THE CODE IS FULL. -/
theorem lens_full (ws : List Nat) (h : 2 ≤ cnt ws) (D : Nat) (hD : ∀ s ∈ stand ws 0, lenF ws s ≤ D) : kraft D ((stand ws 0).map (lenF ws)) = 2 ^ D := by
  obtain ⟨g, hp, hf⟩ := huff_full (cnt ws - 1) (live0 ws) (cnt ws) (fun _ => 0) (live0_st ws) (by rw [live0_length]; omega) (live0_nodup ws) (by
    intro g hg
    obtain ⟨_, s, hs, _⟩ := live0_mem ws g hg
    refine ⟨by rw [hs]; simp, fun D _ => ?_⟩
    rw [hs]
    simp [kraft])
  have hp2 := hp.trans (live0_syms ws)
  rw [map_lenF ws h, ← kraft_perm D (hp2.map (dep ws))]
  refine hf D fun s hs => ?_
  have hm := hp2.mem_iff.1 hs
  have h2 := hD s hm
  rw [lenF_stand ws h s hm] at h2
  exact h2

theorem mem_le_sum (l : List Nat) (x : Nat) (h : x ∈ l) : x ≤ l.sum := by
  induction l with
  | nil => cases h
  | cons y l ih =>
    rw [List.sum_cons]
    rcases List.mem_cons.1 h with e | e
    · omega
    · have := ih e; omega

theorem kraft_pos (D : Nat) (l : List Nat) (h : l ≠ []) : 0 < kraft D l := by
  cases l with
  | nil => exact absurd rfl h
  | cons x l =>
    have : 0 < 2 ^ (D - x) := Nat.pow_pos (by decide)
    show 0 < 2 ^ (D - x) + _
    omega

/-- None that stands has length 0. -/
theorem lens_pos (ws : List Nat) (h : 2 ≤ cnt ws) (s : Nat) (hs : s ∈ stand ws 0) : 1 ≤ lenF ws s := by
  refine Classical.byContradiction fun hn => ?_
  have h0 : lenF ws s = 0 := by omega
  have hf := lens_full ws h ((stand ws 0).map (lenF ws)).sum fun t ht => mem_le_sum _ _ (List.mem_map.2 ⟨t, ht, rfl⟩)
  generalize ((stand ws 0).map (lenF ws)).sum = D at hf
  have hp := List.perm_cons_erase hs
  have hl : ((stand ws 0).erase s).length + 1 = cnt ws := by
    have := hp.length_eq
    rw [List.length_cons] at this
    exact this.symm
  generalize (stand ws 0).erase s = r at hp hl
  rw [kraft_perm D (hp.map (lenF ws)), List.map_cons, h0] at hf
  have hne : r.map (lenF ws) ≠ [] := by
    intro e
    have : r = [] := List.map_eq_nil_iff.1 e
    rw [this] at hl
    simp at hl
    omega
  have := kraft_pos D _ hne
  simp only [kraft, Nat.sub_zero] at hf
  omega

theorem leaves_sum (ws : List Nat) : ∀ i n, ((leaves ws i n).map (·.w)).sum = ws.sum := by
  induction ws with
  | nil => intro i n; rfl
  | cons w ws ih =>
    intro i n
    unfold leaves
    split
    · rename_i hw
      rw [ih, List.sum_cons, hw, Nat.zero_add]
    · rw [List.map_cons, List.sum_cons, List.sum_cons, ih]

theorem lenF_le (ws : List Nat) (m : Nat) (hm : 1 ≤ m) (h : 2 ≤ cnt ws → ∀ s ∈ stand ws 0, dep ws s ≤ m) (s : Nat) : lenF ws s ≤ m := by
  unfold lenF
  split
  · omega
  · rename_i hw
    split
    · omega
    · rename_i hc
      have hs : s ∈ stand ws 0 := by
        rw [stand0]
        refine ⟨?_, hw⟩
        refine Classical.byContradiction fun hn => hw ?_
        rw [List.getD_eq_getElem?_getD, List.getElem?_eq_none (by omega)]
        rfl
      have : 0 < cnt ws := List.length_pos_of_mem hs
      exact h (by omega) s hs

/-- SO LITTLE WEIGHT MAKES NO LONG CODE. -/
theorem lens_fib (ws : List Nat) (h : ws.sum < 2584) (s : Nat) : lenF ws s ≤ 15 := by
  refine lenF_le ws 15 (by decide) (fun hc t ht => ?_) s
  obtain ⟨g, hh, hp, hd, hf, hw⟩ := huff_fib (cnt ws - 1) (live0 ws) (cnt ws) (fun _ => 0) (live0_st ws) (by rw [live0_length]; omega) (live0_nodup ws) (fun g hg => ⟨(live0_mem ws g hg).1, fun _ _ => Nat.le_refl _⟩)
  have h1 : g.w = ws.sum := by
    rw [hw, ← leaves_sum ws 0 0]
    exact ((live0_perm ws).map _).sum_nat
  have h2 : hh ≤ 15 := by
    refine Classical.byContradiction fun hn => ?_
    have h3 : fib 18 ≤ fib (hh + 2) := fib_mono (by omega)
    have h4 : fib 18 = 2584 := by decide
    omega
  have := hd t ((hp.trans (live0_syms ws)).mem_iff.2 ht)
  exact Nat.le_trans this h2

/-- WEIGHTS OF 1 MAKE A FLAT CODE. -/
theorem lens_flat (ws : List Nat) (m : Nat) (hm : 1 ≤ m) (h1 : ∀ w ∈ ws, w ≤ 1) (hc : cnt ws ≤ 2 ^ m) (s : Nat) : lenF ws s ≤ m := by
  refine lenF_le ws m hm (fun h2 t ht => ?_) s
  obtain ⟨g, hp, hw, hf⟩ := huff_flat (cnt ws - 1) (live0 ws) (cnt ws) (fun _ => 0) (live0_st ws) (by rw [live0_length]; omega) (live0_nodup ws) (fun g hg => by
    obtain ⟨h3, u, _, h4⟩ := live0_mem ws g hg
    refine ⟨?_, fun _ _ => Nat.le_refl _⟩
    have h5 : ws.getD u 0 ≤ 1 := by
      rw [List.getD_eq_getElem?_getD]
      cases he : ws[u]? with
      | none => decide
      | some x => exact h1 x (List.mem_of_getElem? he)
    omega)
  have hd := flat_depth hf (m := m) (by rw [hw, live0_length]; exact hc)
  exact hd t ((hp.trans (live0_syms ws)).mem_iff.2 ht)

/-- NO OTHER CODE COSTS LESS. -/
theorem lens_least (ws : List Nat) (h : 2 ≤ cnt ws) (m : Nat → Nat) (D : Nat) (hD : ∀ s ∈ stand ws 0, m s ≤ D) (hK : kraft D ((stand ws 0).map m) ≤ 2 ^ D) :
    costD (fun s => ws.getD s 0) (lenF ws) (stand ws 0) ≤ costD (fun s => ws.getD s 0) m (stand ws 0) := by
  have hcong : ∀ (d e : Nat → Nat) (l : List Nat), (∀ s ∈ l, d s = e s) → costD (fun s => ws.getD s 0) d l = costD (fun s => ws.getD s 0) e l := by
    intro d e l
    induction l with
    | nil => intro _; rfl
    | cons x l ih =>
      intro hx
      simp only [costD]
      rw [hx x List.mem_cons_self, ih fun s hs => hx s (List.mem_cons_of_mem _ hs)]
  obtain ⟨c, hc, he⟩ := huff_cost (fun s => ws.getD s 0) (cnt ws - 1) (live0 ws) (cnt ws) (fun _ => 0) (live0_st ws) (by rw [live0_length]; omega) (live0_nodup ws) (by
    intro g hg
    obtain ⟨_, s, h1, h2⟩ := live0_mem ws g hg
    rw [h1, h2]
    simp [sumW])
  have hz : ∀ l : List Nat, costD (fun s => ws.getD s 0) (fun _ => 0) l = 0 := by
    intro l
    induction l with
    | nil => rfl
    | cons x l ih => simp only [costD, ih]; omega
  rw [hz, Nat.zero_add, costD_perm _ _ (live0_syms ws)] at he
  rw [hcong (lenF ws) (dep ws) _ (fun s hs => lenF_stand ws h s hs)]
  show costD _ (huff _ _ _ _) _ ≤ _
  rw [he]
  have hw : ((live0 ws).map (·.w)).Perm ((stand ws 0).map fun s => ws.getD s 0) := by
    have h1 : (leaves ws 0 0).map (·.w) = (symsOf (leaves ws 0 0)).map fun s => ws.getD s 0 := by
      have key : ∀ l : List Gr, (∀ g ∈ l, ∃ s, g.ss = [s] ∧ g.w = ws.getD s 0) → l.map (·.w) = (symsOf l).map fun s => ws.getD s 0 := by
        intro l
        induction l with
        | nil => intro _; rfl
        | cons g l ih =>
          intro hg
          obtain ⟨s, hs1, hs2⟩ := hg g List.mem_cons_self
          have := ih fun x hx => hg x (List.mem_cons_of_mem _ hx)
          simp only [symsOf, List.flatMap_cons, List.map_append, List.map_cons] at this ⊢
          rw [this, hs1, hs2]
          rfl
      refine key _ fun g hg => ?_
      obtain ⟨_, s, h1, h2⟩ := live0_mem ws g ((live0_perm ws).mem_iff.2 hg)
      exact ⟨s, h1, h2⟩
    rw [leaves_syms] at h1
    rw [← h1]
    exact (live0_perm ws).map _
  have hcost : costP ((stand ws 0).map fun s => (ws.getD s 0, m s)) = costD (fun s => ws.getD s 0) m (stand ws 0) := by
    generalize stand ws 0 = l
    induction l with
    | nil => rfl
    | cons x l ih => simp only [List.map_cons, costP, costD, ih]
  rw [← hcost]
  refine HC_least (cnt ws - 1) _ c hc _ D ?_ ?_ ?_
  · rw [List.map_map]
    exact hw.symm
  · intro p hp
    obtain ⟨s, hs, rfl⟩ := List.mem_map.1 hp
    exact hD s hs
  · rw [List.map_map]
    exact hK

/-- A GREATER WEIGHT HAS NO LONGER CODE. -/
theorem lens_mono (ws : List Nat) (h : 2 ≤ cnt ws) (i k : Nat) (hi : i ∈ stand ws 0) (hk : k ∈ stand ws 0) (hw : ws.getD k 0 < ws.getD i 0) : lenF ws i ≤ lenF ws k := by
  refine Classical.byContradiction fun hn => ?_
  have hne : i ≠ k := fun e => by rw [e] at hn; omega
  have hp1 := List.perm_cons_erase hi
  have hk1 : k ∈ (stand ws 0).erase i := (List.mem_erase_of_ne fun e => hne e.symm).2 hk
  have hp2 := List.perm_cons_erase hk1
  have hp : (stand ws 0).Perm (i :: k :: ((stand ws 0).erase i).erase k) := hp1.trans (hp2.cons i)
  have hnd := hp.nodup_iff.1 (stand_nodup ws 0)
  generalize ((stand ws 0).erase i).erase k = r at hp hnd
  rw [List.nodup_cons, List.nodup_cons] at hnd
  have hir : i ∉ r := fun e => hnd.1 (List.mem_cons_of_mem _ e)
  have hkr : k ∉ r := hnd.2.1
  have hD : ∀ s ∈ stand ws 0, lenF ws s ≤ ((stand ws 0).map (lenF ws)).sum := fun t ht => mem_le_sum _ _ (List.mem_map.2 ⟨t, ht, rfl⟩)
  have hfull := lens_full ws h _ hD
  generalize ((stand ws 0).map (lenF ws)).sum = D at hD hfull
  -- the two exchanged
  have hmi : (fun s => if s = i then lenF ws k else if s = k then lenF ws i else lenF ws s) i = lenF ws k := if_pos rfl
  have hmk : (fun s => if s = i then lenF ws k else if s = k then lenF ws i else lenF ws s) k = lenF ws i := by
    show (if k = i then _ else _) = _
    rw [if_neg (fun e => hne e.symm), if_pos rfl]
  have hmr : ∀ s ∈ r, (fun s => if s = i then lenF ws k else if s = k then lenF ws i else lenF ws s) s = lenF ws s := by
    intro s hs
    show (if s = i then _ else _) = _
    have h1 : s ≠ i := fun e => hir (by rw [← e]; exact hs)
    have h2 : s ≠ k := fun e => hkr (by rw [← e]; exact hs)
    rw [if_neg h1, if_neg h2]
  generalize (fun s => if s = i then lenF ws k else if s = k then lenF ws i else lenF ws s) = m at hmi hmk hmr
  have hmap : r.map m = r.map (lenF ws) := List.map_congr_left hmr
  have hcr : ∀ l : List Nat, (∀ s ∈ l, m s = lenF ws s) → costD (fun s => ws.getD s 0) m l = costD (fun s => ws.getD s 0) (lenF ws) l := by
    intro l
    induction l with
    | nil => intro _; rfl
    | cons x l ih =>
      intro hx
      simp only [costD]
      rw [hx x List.mem_cons_self, ih fun s hs => hx s (List.mem_cons_of_mem _ hs)]
  have hless := lens_least ws h m D (by
    intro s hs
    rcases List.mem_cons.1 (hp.mem_iff.1 hs) with e | e
    · rw [e, hmi]; exact hD k hk
    · rcases List.mem_cons.1 e with e | e
      · rw [e, hmk]; exact hD i hi
      · rw [hmr s e]; exact hD s hs) (by
    rw [kraft_perm D (hp.map m), ← hfull, kraft_perm D (hp.map (lenF ws))]
    simp only [List.map_cons, kraft, hmi, hmk, hmap]
    omega)
  rw [costD_perm _ _ hp, costD_perm _ m hp] at hless
  simp only [costD, hmi, hmk, hcr r hmr] at hless
  obtain ⟨x, hx⟩ := Nat.exists_eq_add_of_lt hw
  obtain ⟨y, hy⟩ := Nat.exists_eq_add_of_lt (show lenF ws k < lenF ws i by omega)
  rw [hx, hy] at hless
  generalize ws.getD k 0 = A at hless
  generalize lenF ws k = B at hless
  have e1 : (A + x + 1) * (B + y + 1) = (A + x + 1) * B + (A * (y + 1) + (x + 1) * (y + 1)) := by
    rw [Nat.add_assoc B y 1, Nat.mul_add, Nat.add_assoc A x 1, Nat.add_mul A (x + 1) (y + 1)]
  have e2 : A * (B + y + 1) = A * B + A * (y + 1) := by rw [Nat.add_assoc B y 1, Nat.mul_add]
  have e3 : 0 < (x + 1) * (y + 1) := Nat.mul_pos (by omega) (by omega)
  omega

/-- SO MANY TIMES THE WEIGHTS MAKE THE SAME. -/
theorem leaves_times (c : Nat) (hc : 0 < c) (ws : List Nat) : ∀ i n, leaves (ws.map (· * c)) i n = (leaves ws i n).map (Gr.times c) := by
  induction ws with
  | nil => intro i n; rfl
  | cons w ws ih =>
    intro i n
    rw [List.map_cons]
    unfold leaves
    by_cases hw : w = 0
    · rw [if_pos (by rw [hw, Nat.zero_mul]), if_pos hw]
      exact ih _ _
    · rw [if_neg (fun e => by rcases Nat.mul_eq_zero.1 e with e | e <;> omega), if_neg hw, List.map_cons, ih]
      rfl

theorem stand_times (c : Nat) (hc : 0 < c) (ws : List Nat) : ∀ i, stand (ws.map (· * c)) i = stand ws i := by
  induction ws with
  | nil => intro i; rfl
  | cons w ws ih =>
    intro i
    rw [List.map_cons]
    unfold stand
    by_cases hw : w = 0
    · rw [if_pos (by rw [hw, Nat.zero_mul]), if_pos hw]
      exact ih _
    · rw [if_neg (fun e => by rcases Nat.mul_eq_zero.1 e with e | e <;> omega), if_neg hw, ih]

theorem sorted_times (c : Nat) (hc : 0 < c) (l : List Gr) : sorted (l.map (Gr.times c)) = (sorted l).map (Gr.times c) := by
  induction l with
  | nil => rfl
  | cons x l ih =>
    show ins (x.times c) (sorted (l.map (Gr.times c))) = (ins x (sorted l)).map (Gr.times c)
    rw [ih, ins_times c hc]

theorem lens_times (c : Nat) (hc : 0 < c) (ws : List Nat) : lens (ws.map (· * c)) = lens ws := by
  have h1 : cnt (ws.map (· * c)) = cnt ws := by unfold cnt; rw [stand_times c hc]
  have h2 : dep (ws.map (· * c)) = dep ws := by
    unfold dep live0
    rw [h1, leaves_times c hc, sorted_times c hc, huff_times c hc]
  unfold lens
  rw [List.length_map]
  refine List.map_congr_left fun i hi => ?_
  have h3 : (ws.map (· * c)).getD i 0 = ws.getD i 0 * c := by
    rw [List.getD_eq_getElem?_getD, List.getD_eq_getElem?_getD, List.getElem?_map]
    cases ws[i]? with
    | none => simp
    | some x => rfl
  unfold lenF
  rw [h1, h2, h3]
  by_cases hz : ws.getD i 0 = 0
  · rw [if_pos (by rw [hz, Nat.zero_mul]), if_pos hz]
  · rw [if_neg (fun e => by rcases Nat.mul_eq_zero.1 e with e | e <;> omega), if_neg hz]

/-! ### With a limit -/
def halves (ws : List Nat) : List Nat := ws.map fun w => (w + 1) / 2
def short (ws : List Nat) (m : Nat) : Prop := ∀ s, lenF ws s ≤ m

theorem halves_stand (ws : List Nat) : ∀ i, stand (halves ws) i = stand ws i := by
  induction ws with
  | nil => intro i; rfl
  | cons w ws ih =>
    intro i
    show stand ((w + 1) / 2 :: halves ws) i = _
    unfold stand
    by_cases hw : w = 0
    · rw [if_pos (by omega), if_pos hw]
      exact ih _
    · rw [if_neg (by omega), if_neg hw, ih]

theorem halves_cnt (ws : List Nat) : cnt (halves ws) = cnt ws := by unfold cnt; rw [halves_stand]

/-- Where some code is too long, the halves weigh less. -/
theorem halves_less (ws : List Nat) (m : Nat) (hm : 1 ≤ m) (hc : cnt ws ≤ 2 ^ m) (h : ¬ short ws m) : (halves ws).sum < ws.sum := by
  have hx : ∃ w ∈ ws, 2 ≤ w := by
    refine Classical.byContradiction fun hn => h fun s => lens_flat ws m hm (fun w hw => ?_) hc s
    refine Classical.byContradiction fun hn2 => hn ⟨w, hw, by omega⟩
  have hle : ∀ l : List Nat, (halves l).sum ≤ l.sum := by
    intro l
    induction l with
    | nil => exact Nat.le_refl _
    | cons x l ih =>
      show ((x + 1) / 2 :: halves l).sum ≤ _
      rw [List.sum_cons, List.sum_cons]
      omega
  have key : ∀ l : List Nat, (∃ w ∈ l, 2 ≤ w) → (halves l).sum < l.sum := by
    intro l
    induction l with
    | nil => rintro ⟨w, hw, _⟩; cases hw
    | cons x l ih =>
      rintro ⟨w, hw, h2⟩
      show ((x + 1) / 2 :: halves l).sum < _
      rw [List.sum_cons, List.sum_cons]
      rcases List.mem_cons.1 hw with e | e
      · have := hle l
        omega
      · have := ih ⟨w, e, h2⟩
        omega
  exact key ws hx

end Go.Proofs.YtaalbaiglkadlaaGreat

/- The document's process of layer 4, with nodes that know their parents, held against the plain one. Nothing of the program is named here. -/
namespace Go.Proofs.YtaalbaiglkadlaaGreat

/-- In so many hops from i to r, by the parents. -/
def Reach (all : List (Nat × Int)) : Nat → Nat → Nat → Prop
  | 0, i, r => i = r
  | k + 1, i, r => ∃ (w j : Nat), all[i]? = some (w, (j : Int)) ∧ Reach all k j r

theorem Reach.mono {a b : List (Nat × Int)} (h : ∀ (i w j : Nat), a[i]? = some (w, (j : Int)) → b[i]? = some (w, (j : Int))) : ∀ {k i r : Nat}, Reach a k i r → Reach b k i r
  | 0, _, _, hr => hr
  | _ + 1, _, _, hr => by
    obtain ⟨w, j, h1, h2⟩ := hr
    exact ⟨w, j, h _ _ _ h1, Reach.mono h h2⟩

theorem Reach.snoc {a : List (Nat × Int)} {w r' : Nat} : ∀ {k i r : Nat}, Reach a k i r → a[r]? = some (w, (r' : Int)) → Reach a (k + 1) i r'
  | 0, i, r, hr, h => by
    have e : i = r := hr
    subst e
    exact ⟨w, r', h, rfl⟩
  | _ + 1, _, _, hr, h => by
    obtain ⟨w0, j, h1, h2⟩ := hr
    exact ⟨w0, j, h1, Reach.snoc h2 h⟩

/-- A node's weight. -/
def wtOf (all : List (Nat × Int)) (i : Nat) : Nat := (all.getD i (0, 0)).1

/-- Of less weight, or of the same and made before. -/
def LtN (all : List (Nat × Int)) (x y : Nat) : Prop := wtOf all x < wtOf all y ∨ (wtOf all x = wtOf all y ∧ x < y)

structure Sim (ws : List Nat) (leaf : List Int) (left : List Nat) (all : List (Nat × Int)) (live : List Gr) (n : Nat) (d : Nat → Nat) : Prop where
  st : St live n
  len : all.length = n
  perm : left.Perm (live.map (·.id))
  node : ∀ g ∈ live, all[g.id]? = some (g.w, -1)
  leafLen : leaf.length = ws.length
  reach : ∀ g ∈ live, ∀ s ∈ g.ss, ∃ li : Nat, leaf[s]? = some (li : Int) ∧ Reach all (d s) li g.id
  sum : (live.map (·.w)).sum = ws.sum
  nd : (symsOf live).Nodup

theorem wt_of_node {all : List (Nat × Int)} {i w : Nat} {u : Int} (h : all[i]? = some (w, u)) : wtOf all i = w := by
  unfold wtOf
  rw [List.getD_eq_getElem?_getD, h]
  rfl

theorem node_inj {all : List (Nat × Int)} {i j x y : Nat} {u v : Int} (h : all[i]? = some (x, u)) (k : all[j]? = some (y, v)) (e : i = j) : x = y := by
  subst e
  rw [h] at k
  injection k with k
  injection k

theorem take_drop_perm (l : List Nat) (b : Nat) (h : b < l.length) : l.Perm (l.getD b 0 :: (l.take b ++ l.drop (b + 1))) := by
  have e : l = l.take b ++ l.getD b 0 :: l.drop (b + 1) := by
    rw [List.getD_eq_getElem?_getD, List.getElem?_eq_getElem h]
    show l = l.take b ++ l[b] :: l.drop (b + 1)
    rw [← List.drop_eq_getElem_cons h, List.take_append_drop]
  refine List.Perm.trans (List.Perm.of_eq e) ?_
  exact List.perm_middle

/-- Who is ahead of all others is the first in order. -/
theorem pick {all : List (Nat × Int)} {left : List Nat} {a : Gr} {rest : List Gr} {best : Nat} (hord : Ord (a :: rest)) (hp : left.Perm ((a :: rest).map (·.id))) (hW : ∀ g ∈ a :: rest, wtOf all g.id = g.w)
    (hb : best < left.length) (hmin : ∀ j, j < left.length → j = best ∨ LtN all (left.getD best 0) (left.getD j 0)) :
    left.getD best 0 = a.id ∧ (left.take best ++ left.drop (best + 1)).Perm (rest.map (·.id)) := by
  have hmem : ∀ j, j < left.length → left.getD j 0 ∈ (a :: rest).map (·.id) := by
    intro j hj
    refine hp.mem_iff.1 ?_
    rw [List.getD_eq_getElem?_getD, List.getElem?_eq_getElem hj]
    exact List.getElem_mem hj
  have h1 : left.getD best 0 = a.id := by
    have ha : a.id ∈ left := hp.mem_iff.2 List.mem_cons_self
    obtain ⟨p, hpl, hpe⟩ := List.getElem_of_mem ha
    have hpd : left.getD p 0 = a.id := by rw [List.getD_eq_getElem?_getD, List.getElem?_eq_getElem hpl]; exact hpe
    rcases hmin p hpl with e | e
    · rw [← e]; exact hpd
    · exfalso
      rw [hpd] at e
      obtain ⟨g, hg, hge⟩ := List.mem_map.1 (hmem best hb)
      rw [← hge] at e
      have hwg := hW g hg
      have hwa := hW a List.mem_cons_self
      unfold LtN at e
      rw [hwg, hwa] at e
      rcases List.mem_cons.1 hg with e2 | e2
      · subst e2; omega
      · have := (List.pairwise_cons.1 hord).1 g e2
        unfold ahead at this
        omega
  refine ⟨h1, ?_⟩
  have h2 := (take_drop_perm left best hb).symm.trans hp
  rw [h1] at h2
  exact h2.cons_inv

/-- The nodes behind a step. -/
def stepAll (all : List (Nat × Int)) (x y : Nat) : List (Nat × Int) :=
  ((all ++ [(wtOf all x + wtOf all y, -1)]).set x (wtOf all x, (all.length : Int))).set y (wtOf all y, (all.length : Int))

theorem Sim.step {ws : List Nat} {leaf : List Int} {left l2 : List Nat} {all : List (Nat × Int)} {a b : Gr} {r : List Gr} {n : Nat} {d : Nat → Nat} (h : Sim ws leaf left all (a :: b :: r) n d) (hl : l2.Perm (r.map (·.id))) :
    Sim ws leaf (l2 ++ [n]) (stepAll all a.id b.id) (ins ⟨a.w + b.w, n, a.ss ++ b.ss⟩ r) (n + 1) (bump (a.ss ++ b.ss) d) ∧ stepAll all a.id b.id = ((all ++ [(a.w + b.w, -1)]).set a.id (a.w, (n : Int))).set b.id (b.w, (n : Int)) := by
  have hna := h.node a List.mem_cons_self
  have hnb := h.node b (List.mem_cons_of_mem _ List.mem_cons_self)
  have hla := h.st.lt a List.mem_cons_self
  have hlb := h.st.lt b (List.mem_cons_of_mem _ List.mem_cons_self)
  have hab : a.id ≠ b.id := by
    have := (List.pairwise_cons.1 h.st.ord).1 b List.mem_cons_self
    unfold ahead at this
    intro e
    have h2 := node_inj hna hnb e
    omega
  have hid : ∀ g ∈ r, g.id ≠ a.id ∧ g.id ≠ b.id := by
    intro g hg
    have h1 := (List.pairwise_cons.1 h.st.ord).1 g (List.mem_cons_of_mem _ hg)
    have h2 := (List.pairwise_cons.1 (List.pairwise_cons.1 h.st.ord).2).1 g hg
    have hng := h.node g (List.mem_cons_of_mem _ (List.mem_cons_of_mem _ hg))
    unfold ahead at h1 h2
    constructor
    · intro e
      have h3 := node_inj hng hna e
      omega
    · intro e
      have h3 := node_inj hng hnb e
      omega
  have heq : stepAll all a.id b.id = ((all ++ [(a.w + b.w, -1)]).set a.id (a.w, (n : Int))).set b.id (b.w, (n : Int)) := by
    unfold stepAll
    rw [wt_of_node hna, wt_of_node hnb, h.len]
  refine ⟨?_, heq⟩
  rw [heq]
  have hlen : (((all ++ [(a.w + b.w, (-1 : Int))]).set a.id (a.w, (n : Int))).set b.id (b.w, (n : Int))).length = n + 1 := by simp [h.len]
  -- the new nodes, each by its place
  have g1 : ∀ i, i < n → i ≠ a.id → i ≠ b.id → (((all ++ [(a.w + b.w, -1)]).set a.id (a.w, (n : Int))).set b.id (b.w, (n : Int)))[i]? = all[i]? := by
    intro i hi h1 h2
    rw [List.getElem?_set_ne (fun e => h2 e.symm), List.getElem?_set_ne (fun e => h1 e.symm), List.getElem?_append_left (by rw [h.len]; exact hi)]
  have gn : (((all ++ [(a.w + b.w, -1)]).set a.id (a.w, (n : Int))).set b.id (b.w, (n : Int)))[n]? = some (a.w + b.w, -1) := by
    rw [List.getElem?_set_ne (by omega), List.getElem?_set_ne (by omega), List.getElem?_append_right (by rw [h.len]; exact Nat.le_refl _), h.len, Nat.sub_self]
    rfl
  have ga : (((all ++ [(a.w + b.w, -1)]).set a.id (a.w, (n : Int))).set b.id (b.w, (n : Int)))[a.id]? = some (a.w, (n : Int)) := by
    rw [List.getElem?_set_ne (fun e => hab e.symm), List.getElem?_set_self (by simp [h.len]; omega)]
  have gb : (((all ++ [(a.w + b.w, -1)]).set a.id (a.w, (n : Int))).set b.id (b.w, (n : Int)))[b.id]? = some (b.w, (n : Int)) := by
    rw [List.getElem?_set_self (by simp [h.len]; omega)]
  generalize (((all ++ [(a.w + b.w, -1)]).set a.id (a.w, (n : Int))).set b.id (b.w, (n : Int))) = all' at *
  have hmono : ∀ (i w j : Nat), all[i]? = some (w, (j : Int)) → all'[i]? = some (w, (j : Int)) := by
    intro i w j hi
    have hin : i < n := by rw [← h.len]; exact (List.getElem?_eq_some_iff.1 hi).1
    rw [g1 i hin, hi]
    · intro e
      rw [e, hna] at hi
      injection hi with hi
      injection hi with _ hi
      omega
    · intro e
      rw [e, hnb] at hi
      injection hi with hi
      injection hi with _ hi
      omega
  have hpi := ins_perm ⟨a.w + b.w, n, a.ss ++ b.ss⟩ r
  have hap := apart (List.Perm.refl (symsOf (a :: b :: r))) h.nd
  refine ⟨h.st.next _, ?_, ?_, ?_, h.leafLen, ?_, ?_, ?_⟩
  · exact hlen
  · refine List.Perm.trans ?_ (hpi.map (·.id)).symm
    exact (List.perm_append_singleton n l2).trans (hl.cons n)
  · intro g hg
    rcases List.mem_cons.1 (hpi.mem_iff.1 hg) with e | e
    · subst e; exact gn
    · rw [g1 g.id (h.st.lt g (List.mem_cons_of_mem _ (List.mem_cons_of_mem _ e))) (hid g e).1 (hid g e).2]
      exact h.node g (List.mem_cons_of_mem _ (List.mem_cons_of_mem _ e))
  · intro g hg s hs
    rcases List.mem_cons.1 (hpi.mem_iff.1 hg) with e | e
    · subst e
      have hs' : s ∈ a.ss ++ b.ss := hs
      rw [bump_in _ _ _ hs']
      rcases List.mem_append.1 hs' with e | e
      · obtain ⟨li, h1, h2⟩ := h.reach a List.mem_cons_self s e
        exact ⟨li, h1, (h2.mono hmono).snoc ga⟩
      · obtain ⟨li, h1, h2⟩ := h.reach b (List.mem_cons_of_mem _ List.mem_cons_self) s e
        exact ⟨li, h1, (h2.mono hmono).snoc gb⟩
    · obtain ⟨li, h1, h2⟩ := h.reach g (List.mem_cons_of_mem _ (List.mem_cons_of_mem _ e)) s hs
      rw [bump_out _ _ _ (hap.1 g e s hs)]
      exact ⟨li, h1, h2.mono hmono⟩
  · rw [← h.sum, (hpi.map (·.w)).sum_nat]
    simp only [List.map_cons, List.sum_cons]
    omega
  · refine (symsOf_perm hpi).nodup_iff.2 ?_
    rw [syms_step]
    exact h.nd

/-! ### The beginning -/
def leafL : List Nat → Nat → List Int
  | [], _ => []
  | w :: ws, n => if w = 0 then -1 :: leafL ws n else (n : Int) :: leafL ws (n + 1)
def allL (ws : List Nat) : List (Nat × Int) := (ws.filter (· ≠ 0)).map fun w => (w, -1)
def cntL (ws : List Nat) : Nat := (ws.filter (· ≠ 0)).length

theorem cntL_snoc (l : List Nat) (w : Nat) : cntL (l ++ [w]) = cntL l + if w = 0 then 0 else 1 := by
  unfold cntL
  rw [List.filter_append, List.length_append]
  by_cases h : w = 0 <;> simp [h]
theorem allL_snoc (l : List Nat) (w : Nat) : allL (l ++ [w]) = allL l ++ if w = 0 then [] else [(w, -1)] := by
  unfold allL
  rw [List.filter_append, List.map_append]
  by_cases h : w = 0 <;> simp [h]
theorem allL_length (l : List Nat) : (allL l).length = cntL l := by simp [allL, cntL]
theorem leafL_snoc (l : List Nat) (w : Nat) : ∀ n, leafL (l ++ [w]) n = leafL l n ++ [if w = 0 then -1 else ((n + cntL l : Nat) : Int)] := by
  induction l with
  | nil =>
    intro n
    by_cases h : w = 0 <;> simp [leafL, cntL, h]
  | cons x l ih =>
    intro n
    rw [List.cons_append]
    unfold leafL
    by_cases hx : x = 0
    · rw [if_pos hx, if_pos hx, ih]
      simp [cntL, hx]
    · rw [if_neg hx, if_neg hx, ih]
      by_cases h : w = 0
      · simp [h]
      · simp [cntL, hx, h]
        omega
theorem leafL_length (l : List Nat) : ∀ n, (leafL l n).length = l.length := by
  induction l with
  | nil => intro n; rfl
  | cons x l ih => intro n; unfold leafL; split <;> simp [ih]

theorem cntL_cnt (ws : List Nat) : ∀ i, (stand ws i).length = cntL ws := by
  induction ws with
  | nil => intro i; rfl
  | cons w ws ih =>
    intro i
    unfold stand
    by_cases h : w = 0
    · rw [if_pos h, ih]; simp [cntL, h]
    · rw [if_neg h, List.length_cons, ih]; simp [cntL, h]

theorem leaves_all (ws : List Nat) : ∀ (i n : Nat) (g : Gr), g ∈ leaves ws i n → ∃ s q, g.ss = [i + s] ∧ g.id = n + q ∧ (allL ws)[q]? = some (g.w, -1) ∧ (leafL ws n)[s]? = some (g.id : Int) := by
  induction ws with
  | nil => intro i n g hg; cases hg
  | cons w ws ih =>
    intro i n g hg
    unfold leaves at hg
    unfold leafL
    split at hg
    · rename_i hw
      obtain ⟨s, q, h1, h2, h3, h4⟩ := ih _ _ g hg
      refine ⟨s + 1, q, by rw [h1]; congr 1; omega, h2, ?_, ?_⟩
      · rw [← h3]; simp [allL, hw]
      · rw [if_pos hw]; simpa using h4
    · rename_i hw
      rcases List.mem_cons.1 hg with e | e
      · subst e
        exact ⟨0, 0, rfl, rfl, by simp [allL, hw], by rw [if_neg hw]; rfl⟩
      · obtain ⟨s, q, h1, h2, h3, h4⟩ := ih _ _ g e
        refine ⟨s + 1, q + 1, by rw [h1]; congr 1; omega, by omega, ?_, ?_⟩
        · rw [← h3]; simp [allL, hw]
        · rw [if_neg hw]; simpa using h4

theorem leaves_idlist (ws : List Nat) : ∀ i n, (leaves ws i n).map (·.id) = (List.range (cntL ws)).map (n + ·) := by
  induction ws with
  | nil => intro i n; rfl
  | cons w ws ih =>
    intro i n
    unfold leaves
    by_cases h : w = 0
    · rw [if_pos h, ih]; simp [cntL, h]
    · rw [if_neg h, List.map_cons, ih]
      have e : cntL (w :: ws) = cntL ws + 1 := by simp [cntL, h]
      rw [e, List.range_succ_eq_map, List.map_cons, List.map_map]
      refine congrArg (_ :: ·) (List.map_congr_left fun a _ => ?_)
      show n + 1 + a = n + (a + 1)
      omega

theorem Sim.begin (ws : List Nat) : Sim ws (leafL ws 0) (List.range (cntL ws)) (allL ws) (live0 ws) (cntL ws) fun _ => 0 := by
  have hc : cnt ws = cntL ws := cntL_cnt ws 0
  have hmem : ∀ g ∈ live0 ws, ∃ s q, g.ss = [0 + s] ∧ g.id = 0 + q ∧ (allL ws)[q]? = some (g.w, -1) ∧ (leafL ws 0)[s]? = some (g.id : Int) := fun g hg => leaves_all ws 0 0 g ((live0_perm ws).mem_iff.1 hg)
  refine ⟨by rw [← hc]; exact live0_st ws, allL_length ws, ?_, ?_, leafL_length ws 0, ?_, ?_, live0_nodup ws⟩
  · refine List.Perm.trans ?_ ((live0_perm ws).map (·.id)).symm
    rw [leaves_idlist ws 0 0]
    refine List.Perm.of_eq ?_
    simp
  · intro g hg
    obtain ⟨s, q, _, h2, h3, _⟩ := hmem g hg
    rw [h2, Nat.zero_add]
    exact h3
  · intro g hg s hs
    obtain ⟨s', q, h1, h2, h3, h4⟩ := hmem g hg
    rw [h1] at hs
    have e : s = s' := by simpa using hs
    subst e
    exact ⟨g.id, h4, rfl⟩
  · rw [← leaves_sum ws 0 0]
    exact ((live0_perm ws).map _).sum_nat

end Go.Proofs.YtaalbaiglkadlaaGreat
