/- The plain process of layer 4: nodes in order of weight (of equals those that were made first); the two least are put together. Nothing of the program is named here. -/
import Derived.Test.YtihgdlnnfhpdcaaWLeast
namespace Go.Proofs.Ytihgdlnnfhpdcaa

/-- A node that is left: its weight, when it was made, and the symbols below it. -/
structure Gr where
  w : Nat
  id : Nat
  ss : List Nat

/-- Ahead: of less weight, or of the same and made before. -/
def ahead (x y : Gr) : Prop := x.w < y.w ∨ (x.w = y.w ∧ x.id < y.id)
def aheadB (x y : Gr) : Bool := decide (x.w < y.w) || (decide (x.w = y.w) && decide (x.id < y.id))

theorem aheadB_iff (x y : Gr) : aheadB x y = true ↔ ahead x y := by simp [aheadB, ahead]
theorem ahead_le {x y : Gr} (h : ahead x y) : x.w ≤ y.w := by rcases h with h | h <;> omega
theorem ahead_trans {x y z : Gr} (h : ahead x y) (k : ahead y z) : ahead x z := by
  unfold ahead at *
  omega

/-- A node into its place. -/
def ins (x : Gr) : List Gr → List Gr
  | [] => [x]
  | y :: r => if aheadB x y then x :: y :: r else y :: ins x r

theorem ins_perm (x : Gr) (l : List Gr) : (ins x l).Perm (x :: l) := by
  induction l with
  | nil => exact List.Perm.refl _
  | cons y r ih =>
    unfold ins
    split
    · exact List.Perm.refl _
    · exact (ih.cons y).trans (List.Perm.swap x y r)

theorem ins_length (x : Gr) (l : List Gr) : (ins x l).length = l.length + 1 := (ins_perm x l).length_eq

/-- In order. -/
def Ord (l : List Gr) : Prop := l.Pairwise ahead

theorem ins_ord (x : Gr) (l : List Gr) (h : Ord l) (hid : ∀ y ∈ l, y.id ≠ x.id) : Ord (ins x l) := by
  induction l with
  | nil => exact List.pairwise_singleton _ _
  | cons y r ih =>
    obtain ⟨h1, h2⟩ := List.pairwise_cons.1 h
    unfold ins
    split
    · rename_i hxy
      rw [aheadB_iff] at hxy
      refine List.pairwise_cons.2 ⟨fun z hz => ?_, h⟩
      rcases List.mem_cons.1 hz with e | e
      · rw [e]; exact hxy
      · exact ahead_trans hxy (h1 z e)
    · rename_i hxy
      rw [aheadB_iff] at hxy
      have hyx : ahead y x := by
        have := hid y List.mem_cons_self
        unfold ahead at *
        omega
      refine List.pairwise_cons.2 ⟨fun z hz => ?_, ih h2 fun z hz => hid z (List.mem_cons_of_mem _ hz)⟩
      rcases List.mem_cons.1 ((ins_perm x r).mem_iff.1 hz) with e | e
      · rw [e]; exact hyx
      · exact h1 z e

/-- One deeper, of these symbols. -/
def bump (ss : List Nat) (d : Nat → Nat) : Nat → Nat := fun s => if s ∈ ss then d s + 1 else d s

/-- The two least put together, k times at most. -/
def huff : Nat → List Gr → Nat → (Nat → Nat) → (Nat → Nat)
  | k + 1, a :: b :: r, n, d => huff k (ins ⟨a.w + b.w, n, a.ss ++ b.ss⟩ r) (n + 1) (bump (a.ss ++ b.ss) d)
  | _, _, _, d => d

/-- What stands in order, below n made. -/
structure St (l : List Gr) (n : Nat) : Prop where
  ord : Ord l
  lt : ∀ g ∈ l, g.id < n

theorem St.next {a b : Gr} {r : List Gr} {n : Nat} (h : St (a :: b :: r) n) (ss : List Nat) : St (ins ⟨a.w + b.w, n, ss⟩ r) (n + 1) := by
  refine ⟨ins_ord _ _ (List.pairwise_cons.1 (List.pairwise_cons.1 h.ord).2).2 fun y hy => ?_, fun g hg => ?_⟩
  · have := h.lt y (List.mem_cons_of_mem _ (List.mem_cons_of_mem _ hy))
    show y.id ≠ n
    omega
  · rcases List.mem_cons.1 ((ins_perm _ r).mem_iff.1 hg) with e | e
    · rw [e]; show n < n + 1; omega
    · have := h.lt g (List.mem_cons_of_mem _ (List.mem_cons_of_mem _ e)); omega

theorem St.two {a b : Gr} {r : List Gr} {n : Nat} (h : St (a :: b :: r) n) : a.w ≤ b.w ∧ ∀ x ∈ r, b.w ≤ x.w :=
  ⟨ahead_le ((List.pairwise_cons.1 h.ord).1 b List.mem_cons_self), fun x hx => ahead_le ((List.pairwise_cons.1 (List.pairwise_cons.1 h.ord).2).1 x hx)⟩

/-- What holds at the beginning, and behind each step, holds at the end. -/
theorem huff_ind (P : List Gr → (Nat → Nat) → Prop) (hperm : ∀ a b d, List.Perm a b → P a d → P b d)
    (hstep : ∀ a b r n d, P (a :: b :: r) d → a.w ≤ b.w → (∀ x ∈ r, b.w ≤ x.w) → P (⟨a.w + b.w, n, a.ss ++ b.ss⟩ :: r) (bump (a.ss ++ b.ss) d)) :
    ∀ (k : Nat) (l : List Gr) (n : Nat) (d : Nat → Nat), St l n → l.length = k + 1 → P l d → ∃ g, P [g] (huff k l n d)
  | 0, l, n, d, hs, hl, hP => by
    obtain ⟨g, rfl⟩ := List.length_eq_one_iff.1 hl
    exact ⟨g, hP⟩
  | k + 1, [], _, _, _, hl, _ => by simp at hl
  | k + 1, [_], _, _, _, hl, _ => by simp at hl
  | k + 1, a :: b :: r, n, d, hs, hl, hP => by
    have h2 := hs.two
    exact huff_ind P hperm hstep k _ (n + 1) _ (hs.next _) (by rw [ins_length]; simpa using hl) (hperm _ _ _ (ins_perm _ r).symm (hstep a b r n d hP h2.1 h2.2))

/-! ### The symbols -/
def symsOf (l : List Gr) : List Nat := l.flatMap (·.ss)

theorem symsOf_perm {a b : List Gr} (h : a.Perm b) : (symsOf a).Perm (symsOf b) := h.flatMap_right _

theorem syms_step (a b : Gr) (r : List Gr) (n : Nat) : symsOf (⟨a.w + b.w, n, a.ss ++ b.ss⟩ :: r) = symsOf (a :: b :: r) := by
  simp [symsOf]

theorem huff_syms (k : Nat) (l : List Gr) (n : Nat) (d : Nat → Nat) (hs : St l n) (hl : l.length = k + 1) (Q : Gr → (Nat → Nat) → Prop)
    (P : List Gr → (Nat → Nat) → Prop) (hperm : ∀ a b d, List.Perm a b → P a d → P b d)
    (hstep : ∀ a b r n d, P (a :: b :: r) d → (symsOf (a :: b :: r)).Perm (symsOf l) → a.w ≤ b.w → (∀ x ∈ r, b.w ≤ x.w) → P (⟨a.w + b.w, n, a.ss ++ b.ss⟩ :: r) (bump (a.ss ++ b.ss) d))
    (h0 : P l d) (hQ : ∀ g d, P [g] d → g.ss.Perm (symsOf l) → Q g d) : ∃ g, Q g (huff k l n d) := by
  obtain ⟨g, h1, h2⟩ := huff_ind (fun x d => P x d ∧ (symsOf x).Perm (symsOf l)) (fun a b d hp h => ⟨hperm a b d hp h.1, (symsOf_perm hp).symm.trans h.2⟩)
    (fun a b r n d h h1 h2 => ⟨hstep a b r n d h.1 h.2 h1 h2, by rw [syms_step]; exact h.2⟩) k l n d hs hl ⟨h0, List.Perm.refl _⟩
  exact ⟨g, hQ g _ h1 (by simpa [symsOf] using h2)⟩

theorem bump_out (ss : List Nat) (d : Nat → Nat) (s : Nat) (h : s ∉ ss) : bump ss d s = d s := by unfold bump; rw [if_neg h]
theorem bump_in (ss : List Nat) (d : Nat → Nat) (s : Nat) (h : s ∈ ss) : bump ss d s = d s + 1 := by unfold bump; rw [if_pos h]

/-! ### The depths, bounded: Fibonacci -/
def fib : Nat → Nat
  | 0 => 0
  | 1 => 1
  | n + 2 => fib (n + 1) + fib n

theorem fib_le_succ (n : Nat) : fib n ≤ fib (n + 1) := by
  cases n with
  | zero => decide
  | succ n => show fib (n + 1) ≤ fib (n + 1) + fib n; omega

theorem fib_mono {m n : Nat} (h : m ≤ n) : fib m ≤ fib n := by
  induction n with
  | zero => rw [show m = 0 by omega]; exact Nat.le_refl _
  | succ n ih =>
    by_cases e : m = n + 1
    · rw [e]; exact Nat.le_refl _
    · exact Nat.le_trans (ih (by omega)) (fib_le_succ n)

/-- Its symbols lie no deeper than h. -/
def Deep (g : Gr) (d : Nat → Nat) (h : Nat) : Prop := ∀ s ∈ g.ss, d s ≤ h

theorem Deep.step {a b : Gr} {d : Nat → Nat} {p q n : Nat} (ha : Deep a d p) (hb : Deep b d q) (h : Nat) (hp : p < h) (hq : q < h) : Deep ⟨a.w + b.w, n, a.ss ++ b.ss⟩ (bump (a.ss ++ b.ss) d) h := by
  intro s hs
  have hs' : s ∈ a.ss ++ b.ss := hs
  rw [bump_in _ _ _ hs']
  rcases List.mem_append.1 hs' with e | e
  · have := ha s e; omega
  · have := hb s e; omega

theorem Deep.other {g : Gr} {d : Nat → Nat} {h : Nat} {ss : List Nat} (hg : Deep g d h) (hd : ∀ s ∈ g.ss, s ∉ ss) : Deep g (bump ss d) h := by
  intro s hs
  rw [bump_out _ _ _ (hd s hs)]
  exact hg s hs

/-- Of symbols that are all unlike, those of two nodes are none of another's. -/
theorem apart {a b : Gr} {r : List Gr} {S : List Nat} (h : (symsOf (a :: b :: r)).Perm S) (hS : S.Nodup) : (∀ g ∈ r, ∀ s ∈ g.ss, s ∉ a.ss ++ b.ss) ∧ (a.ss ++ b.ss).Nodup := by
  have hn : (symsOf (a :: b :: r)).Nodup := h.nodup_iff.2 hS
  have e : symsOf (a :: b :: r) = (a.ss ++ b.ss) ++ symsOf r := by simp [symsOf]
  rw [e, List.nodup_append] at hn
  refine ⟨fun g hg s hs hin => hn.2.2 s hin s (List.mem_flatMap.2 ⟨g, hg, hs⟩) rfl, hn.1⟩

theorem huff_fib (k : Nat) (l : List Gr) (n : Nat) (d : Nat → Nat) (hs : St l n) (hl : l.length = k + 1) (hS : (symsOf l).Nodup) (h0 : ∀ g ∈ l, 1 ≤ g.w ∧ Deep g d 0) :
    ∃ g : Gr, ∃ h, g.ss.Perm (symsOf l) ∧ Deep g (huff k l n d) h ∧ fib (h + 2) ≤ g.w ∧ g.w = (l.map (·.w)).sum := by
  refine huff_syms k l n d hs hl (fun g d => ∃ h, g.ss.Perm (symsOf l) ∧ Deep g d h ∧ fib (h + 2) ≤ g.w ∧ g.w = (l.map (·.w)).sum)
    (fun x d => (x.map (·.w)).sum = (l.map (·.w)).sum ∧ ∃ M, ∀ g ∈ x, 1 ≤ g.w ∧ M ≤ g.w ∧ ∃ h, Deep g d h ∧ fib (h + 2) ≤ g.w ∧ (1 ≤ h → fib (h + 1) ≤ M)) ?_ ?_ ?_ ?_
  · rintro a b d hp ⟨h1, M, h2⟩
    exact ⟨by rw [← h1]; exact ((hp.map _).sum_nat).symm, M, fun g hg => h2 g (hp.mem_iff.2 hg)⟩
  · rintro a b r n d ⟨h1, M, h2⟩ hp hab hr
    have hap := apart hp hS
    obtain ⟨a1, aM, p, pd, pf, pm⟩ := h2 a List.mem_cons_self
    obtain ⟨b1, bM, q, qd, qf, qm⟩ := h2 b (List.mem_cons_of_mem _ List.mem_cons_self)
    refine ⟨by rw [← h1]; simp only [List.map_cons, List.sum_cons]; omega, b.w, fun g hg => ?_⟩
    rcases List.mem_cons.1 hg with e | e
    · subst e
      refine ⟨by show 1 ≤ a.w + b.w; omega, by show b.w ≤ a.w + b.w; omega, ?_⟩
      have key : ∀ (x y : Gr) (h : Nat), 1 ≤ x.w → 1 ≤ y.w → M ≤ y.w → fib (h + 2) ≤ x.w → (1 ≤ h → fib (h + 1) ≤ M) → fib (h + 3) ≤ x.w + y.w := by
        intro x y h hx hy hM hf hm
        show fib (h + 2) + fib (h + 1) ≤ _
        by_cases hh : 1 ≤ h
        · have := hm hh; omega
        · have : h = 0 := by omega
          subst this
          have e1 : fib (0 + 2) = 1 := rfl
          have e2 : fib (0 + 1) = 1 := rfl
          omega
      by_cases hpq : q ≤ p
      · refine ⟨p + 1, pd.step qd _ (by omega) (by omega), key a b p a1 b1 bM pf pm, fun _ => ?_⟩
        show fib (p + 2) ≤ b.w
        omega
      · refine ⟨q + 1, pd.step qd _ (by omega) (by omega), ?_, fun _ => ?_⟩
        · have := key b a q b1 a1 aM qf qm
          show fib (q + 3) ≤ a.w + b.w
          omega
        · show fib (q + 2) ≤ b.w
          exact qf
    · obtain ⟨g1, gM, h, gd, gf, gm⟩ := h2 g (List.mem_cons_of_mem _ (List.mem_cons_of_mem _ e))
      refine ⟨g1, hr g e, h, gd.other (hap.1 g e), gf, fun hh => ?_⟩
      have := gm hh
      omega
  · exact ⟨rfl, 0, fun g hg => ⟨(h0 g hg).1, Nat.zero_le _, 0, (h0 g hg).2, (h0 g hg).1, fun hh => absurd hh (by decide)⟩⟩
  · rintro g d ⟨h1, M, h2⟩ hp
    obtain ⟨_, _, h, gd, gf, _⟩ := h2 g List.mem_cons_self
    exact ⟨h, hp, gd, gf, by simpa using h1⟩

end Go.Proofs.Ytihgdlnnfhpdcaa
