/- The plain process of layer 4, more: the code is full; it costs least; of like weights it is as flat as can be; the weights so many times make the same. -/
import Derived.Test.YtihgdlnnfhpdcaaWModel
namespace Go.Proofs.Ytihgdlnnfhpdcaa

/-! ### The code is full -/
theorem kraft_append (D : Nat) (a b : List Nat) : kraft D (a ++ b) = kraft D a + kraft D b := by
  induction a with
  | nil => simp [kraft]
  | cons x a ih => simp only [List.cons_append, kraft, ih]; omega

theorem kraft_up (D : Nat) (ls : List Nat) : kraft (D + 1) (ls.map (· + 1)) = kraft D ls := by
  induction ls with
  | nil => rfl
  | cons x ls ih => simp only [List.map_cons, kraft, ih, Nat.add_sub_add_right]

/-- A node's symbols fill it. -/
def Full (g : Gr) (d : Nat → Nat) : Prop := ∀ D, (∀ s ∈ g.ss, d s ≤ D) → kraft D (g.ss.map d) = 2 ^ D

theorem map_bump (ss : List Nat) (d : Nat → Nat) : ss.map (bump ss d) = (ss.map d).map (· + 1) := by
  rw [List.map_map]
  exact List.map_congr_left fun s hs => bump_in ss d s hs

theorem map_other (g ss : List Nat) (d : Nat → Nat) (h : ∀ s ∈ g, s ∉ ss) : g.map (bump ss d) = g.map d :=
  List.map_congr_left fun s hs => bump_out ss d s (h s hs)

theorem huff_full (k : Nat) (l : List Gr) (n : Nat) (d : Nat → Nat) (hs : St l n) (hl : l.length = k + 1) (hS : (symsOf l).Nodup) (h0 : ∀ g ∈ l, g.ss ≠ [] ∧ Full g d) :
    ∃ g : Gr, g.ss.Perm (symsOf l) ∧ Full g (huff k l n d) := by
  refine huff_syms k l n d hs hl (fun g d => g.ss.Perm (symsOf l) ∧ Full g d) (fun x d => ∀ g ∈ x, g.ss ≠ [] ∧ Full g d) ?_ ?_ h0 ?_
  · intro a b d hp h g hg
    exact h g (hp.mem_iff.2 hg)
  · intro a b r n d h hp _ _ g hg
    have hap := apart hp hS
    obtain ⟨an, af⟩ := h a List.mem_cons_self
    obtain ⟨bn, bf⟩ := h b (List.mem_cons_of_mem _ List.mem_cons_self)
    rcases List.mem_cons.1 hg with e | e
    · subst e
      refine ⟨fun e => an (List.append_eq_nil_iff.1 e).1, fun D hD => ?_⟩
      show kraft D ((a.ss ++ b.ss).map (bump (a.ss ++ b.ss) d)) = 2 ^ D
      have hD' : ∀ s ∈ a.ss ++ b.ss, d s + 1 ≤ D := fun s hs => by have := hD s hs; rw [bump_in _ _ _ hs] at this; exact this
      obtain ⟨s0, hs0⟩ := List.exists_mem_of_ne_nil _ an
      have hD0 := hD' s0 (List.mem_append_left _ hs0)
      obtain ⟨E, rfl⟩ : ∃ E, D = E + 1 := ⟨D - 1, by omega⟩
      rw [map_bump, kraft_up, List.map_append, kraft_append, af E (fun s hs => by have := hD' s (List.mem_append_left _ hs); omega), bf E (fun s hs => by have := hD' s (List.mem_append_right _ hs); omega), Nat.pow_succ]
      omega
    · obtain ⟨gn, gf⟩ := h g (List.mem_cons_of_mem _ (List.mem_cons_of_mem _ e))
      refine ⟨gn, fun D hD => ?_⟩
      rw [map_other _ _ _ (hap.1 g e)]
      exact gf D fun s hs => by have := hD s hs; rw [bump_out _ _ _ (hap.1 g e s hs)] at this; exact this
  · intro g d h hp
    exact ⟨hp, (h g List.mem_cons_self).2⟩

/-! ### It costs least -/
/-- What weights and depths come to. -/
def costD (w d : Nat → Nat) : List Nat → Nat
  | [] => 0
  | s :: ss => w s * d s + costD w d ss
def sumW (w : Nat → Nat) : List Nat → Nat
  | [] => 0
  | s :: ss => w s + sumW w ss

theorem costD_append (w d : Nat → Nat) (a b : List Nat) : costD w d (a ++ b) = costD w d a + costD w d b := by
  induction a with
  | nil => simp [costD]
  | cons x a ih => simp only [List.cons_append, costD, ih]; omega
theorem sumW_append (w : Nat → Nat) (a b : List Nat) : sumW w (a ++ b) = sumW w a + sumW w b := by
  induction a with
  | nil => simp [sumW]
  | cons x a ih => simp only [List.cons_append, sumW, ih]; omega
theorem costD_perm (w d : Nat → Nat) {a b : List Nat} (h : a.Perm b) : costD w d a = costD w d b := by
  induction h with
  | nil => rfl
  | cons x _ ih => simp only [costD, ih]
  | swap x y l => simp only [costD]; omega
  | trans _ _ ih1 ih2 => exact ih1.trans ih2
theorem costD_bump (w d : Nat → Nat) (ss x : List Nat) (h : ∀ s ∈ x, s ∈ ss) : costD w (bump ss d) x = costD w d x + sumW w x := by
  induction x with
  | nil => rfl
  | cons s x ih =>
    simp only [costD, sumW, ih fun s hs => h s (List.mem_cons_of_mem _ hs)]
    rw [bump_in ss d s (h s List.mem_cons_self), Nat.mul_add, Nat.mul_one]
    omega
theorem costD_other (w d : Nat → Nat) (ss x : List Nat) (h : ∀ s ∈ x, s ∉ ss) : costD w (bump ss d) x = costD w d x := by
  induction x with
  | nil => rfl
  | cons s x ih =>
    simp only [costD, ih fun s hs => h s (List.mem_cons_of_mem _ hs)]
    rw [bump_out ss d s (h s List.mem_cons_self)]

theorem huff_cost (w0 : Nat → Nat) : ∀ (k : Nat) (l : List Gr) (n : Nat) (d : Nat → Nat), St l n → l.length = k + 1 → (symsOf l).Nodup → (∀ g ∈ l, g.w = sumW w0 g.ss) →
    ∃ c, HC k (l.map (·.w)) c ∧ costD w0 (huff k l n d) (symsOf l) = costD w0 d (symsOf l) + c
  | 0, l, n, d, hs, hl, hS, hw => by
    obtain ⟨g, rfl⟩ := List.length_eq_one_iff.1 hl
    exact ⟨0, ⟨⟨g.w, rfl⟩, rfl⟩, rfl⟩
  | k + 1, [], _, _, _, hl, _, _ => by simp at hl
  | k + 1, [_], _, _, _, hl, _, _ => by simp at hl
  | k + 1, a :: b :: r, n, d, hs, hl, hS, hw => by
    have h2 := hs.two
    have hap := apart (List.Perm.refl (symsOf (a :: b :: r))) hS
    have hpm := ins_perm ⟨a.w + b.w, n, a.ss ++ b.ss⟩ r
    have hsy : (symsOf (ins ⟨a.w + b.w, n, a.ss ++ b.ss⟩ r)).Perm (symsOf (a :: b :: r)) := by
      rw [← syms_step a b r n]
      exact symsOf_perm hpm
    obtain ⟨c, hc, he⟩ := huff_cost w0 k (ins ⟨a.w + b.w, n, a.ss ++ b.ss⟩ r) (n + 1) (bump (a.ss ++ b.ss) d) (hs.next _) (by rw [ins_length]; simpa using hl) (hsy.nodup_iff.2 hS) (by
      intro g hg
      rcases List.mem_cons.1 (hpm.mem_iff.1 hg) with e | e
      · subst e
        show a.w + b.w = sumW w0 (a.ss ++ b.ss)
        rw [sumW_append, hw a List.mem_cons_self, hw b (List.mem_cons_of_mem _ List.mem_cons_self)]
      · exact hw g (List.mem_cons_of_mem _ (List.mem_cons_of_mem _ e)))
    rw [costD_perm _ _ hsy, costD_perm _ _ hsy] at he
    refine ⟨a.w + b.w + c, ?_, ?_⟩
    · have hq : ((ins ⟨a.w + b.w, n, a.ss ++ b.ss⟩ r).map (·.w)).Perm ((a.w + b.w) :: r.map (·.w)) := by
        have := hpm.map Gr.w
        simpa using this
      cases k with
      | zero =>
        obtain ⟨⟨x, hx⟩, rfl⟩ := hc
        rw [hx] at hq
        have hr := List.perm_singleton.1 hq.symm
        exact ⟨a.w, b.w, r.map (·.w), 0, List.Perm.refl _, h2.1, fun x hx => by obtain ⟨g, hg, rfl⟩ := List.mem_map.1 hx; exact h2.2 g hg, ⟨⟨x, hr⟩, rfl⟩, rfl⟩
      | succ k =>
        obtain ⟨a', b', rest, c', hp', h1', h2', h3', rfl⟩ := hc
        exact ⟨a.w, b.w, r.map (·.w), _, List.Perm.refl _, h2.1, fun x hx => by obtain ⟨g, hg, rfl⟩ := List.mem_map.1 hx; exact h2.2 g hg, ⟨a', b', rest, c', hq.symm.trans hp', h1', h2', h3', rfl⟩, rfl⟩
    · show costD w0 (huff k _ (n + 1) _) (symsOf (a :: b :: r)) = _
      rw [he]
      have e : symsOf (a :: b :: r) = (a.ss ++ b.ss) ++ symsOf r := by simp [symsOf]
      rw [e, costD_append, costD_append w0 d, costD_bump w0 d (a.ss ++ b.ss) (a.ss ++ b.ss) (fun _ h => h), costD_other w0 d (a.ss ++ b.ss) (symsOf r) (fun s hs => by
        obtain ⟨g, hg, hgs⟩ := List.mem_flatMap.1 hs
        exact hap.1 g hg s hgs), sumW_append, ← hw a List.mem_cons_self, ← hw b (List.mem_cons_of_mem _ List.mem_cons_self)]
      omega

/-! ### Of like weights it is flat -/
/-- Weight and depth, at stage k: just 2^k or 2^(k+1), or the one between. -/
def Flat (k : Nat) (d : Nat → Nat) (g : Gr) : Prop := (g.w = 2 ^ k ∧ Deep g d k) ∨ (g.w = 2 ^ (k + 1) ∧ Deep g d (k + 1))
def Odd (k : Nat) (d : Nat → Nat) (g : Gr) : Prop := 2 ^ k < g.w ∧ g.w < 2 ^ (k + 1) ∧ Deep g d (k + 1)

/-- All flat, or all but one. -/
def AllFlat (l : List Gr) (d : Nat → Nat) : Prop := ∃ k, (∀ g ∈ l, Flat k d g) ∨ ∃ o r, l.Perm (o :: r) ∧ Odd k d o ∧ ∀ g ∈ r, Flat k d g

theorem two_succ (k : Nat) : 2 ^ (k + 1) = 2 * 2 ^ k := by rw [Nat.pow_succ]; omega

theorem Flat.other {k : Nat} {d : Nat → Nat} {g : Gr} {ss : List Nat} (h : Flat k d g) (hd : ∀ s ∈ g.ss, s ∉ ss) : Flat k (bump ss d) g := by
  rcases h with ⟨h1, h2⟩ | ⟨h1, h2⟩
  · exact .inl ⟨h1, h2.other hd⟩
  · exact .inr ⟨h1, h2.other hd⟩
theorem Odd.other {k : Nat} {d : Nat → Nat} {g : Gr} {ss : List Nat} (h : Odd k d g) (hd : ∀ s ∈ g.ss, s ∉ ss) : Odd k (bump ss d) g := ⟨h.1, h.2.1, h.2.2.other hd⟩

/-- Where all weigh 2^(k+1) at least, the stage is the next one. -/
theorem Flat.up {k : Nat} {d : Nat → Nat} {g : Gr} (h : Flat k d g) (hw : 2 ^ k < g.w) : Flat (k + 1) d g := by
  rcases h with ⟨h1, _⟩ | h1
  · omega
  · exact .inl h1

theorem huff_flat (k : Nat) (l : List Gr) (n : Nat) (d : Nat → Nat) (hs : St l n) (hl : l.length = k + 1) (hS : (symsOf l).Nodup) (h0 : ∀ g ∈ l, g.w = 1 ∧ Deep g d 0) :
    ∃ g : Gr, g.ss.Perm (symsOf l) ∧ g.w = l.length ∧ AllFlat [g] (huff k l n d) := by
  refine huff_syms k l n d hs hl (fun g d => g.ss.Perm (symsOf l) ∧ g.w = l.length ∧ AllFlat [g] d) (fun x d => (x.map (·.w)).sum = l.length ∧ AllFlat x d) ?_ ?_ ?_ ?_
  · rintro a b d hp ⟨h1, j, h⟩
    refine ⟨by rw [← h1]; exact ((hp.map _).sum_nat).symm, j, ?_⟩
    rcases h with h | ⟨o, r, hpo, ho, hr⟩
    · exact .inl fun g hg => h g (hp.mem_iff.2 hg)
    · exact .inr ⟨o, r, hp.symm.trans hpo, ho, hr⟩
  · rintro a b r n d ⟨h1, j, h⟩ hp hab hr
    have hap := apart hp hS
    refine ⟨by rw [← h1]; simp only [List.map_cons, List.sum_cons]; omega, ?_⟩
    have hpos : 0 < 2 ^ j := Nat.pow_pos (by decide)
    have e1 := two_succ j
    have e2 := two_succ (j + 1)
    -- what a new node is, where both weigh so and so, and all others are flat
    rcases h with h | ⟨o, q, hpo, ho, hq⟩
    · have ha := h a List.mem_cons_self
      have hb := h b (List.mem_cons_of_mem _ List.mem_cons_self)
      have hrr : ∀ g ∈ r, Flat j d g := fun g hg => h g (List.mem_cons_of_mem _ (List.mem_cons_of_mem _ hg))
      rcases ha with ⟨aw, ad⟩ | ⟨aw, ad⟩
      · rcases hb with ⟨bw, bd⟩ | ⟨bw, bd⟩
        · refine ⟨j, .inl fun g hg => ?_⟩
          rcases List.mem_cons.1 hg with e | e
          · subst e
            exact .inr ⟨by show a.w + b.w = _; omega, ad.step bd _ (by omega) (by omega)⟩
          · exact (hrr g e).other (hap.1 g e)
        · refine ⟨j + 1, .inr ⟨_, r, List.Perm.refl _, ⟨by show _ < a.w + b.w; omega, by show a.w + b.w < _; omega, ad.step bd _ (by omega) (by omega)⟩, fun g hg => ?_⟩⟩
          exact ((hrr g hg).up (by have := hr g hg; omega)).other (hap.1 g hg)
      · rcases hb with ⟨bw, bd⟩ | ⟨bw, bd⟩
        · omega
        · refine ⟨j + 1, .inl fun g hg => ?_⟩
          rcases List.mem_cons.1 hg with e | e
          · subst e
            exact .inr ⟨by show a.w + b.w = _; omega, ad.step bd _ (by omega) (by omega)⟩
          · exact ((hrr g e).up (by have := hr g e; omega)).other (hap.1 g e)
    · obtain ⟨o1, o2, od⟩ := ho
      have hmem : ∀ g, g ∈ a :: b :: r → g = o ∨ g ∈ q := fun g hg => List.mem_cons.1 (hpo.mem_iff.1 hg)
      -- the odd one: a, b, or one of the rest
      by_cases hao : a.w = 2 ^ j
      · have haq : Deep a d j := by
          rcases hmem a List.mem_cons_self with e | e
          · subst e; omega
          · rcases hq a e with ⟨_, h⟩ | ⟨h, _⟩
            · exact h
            · omega
        by_cases hbo : b.w = 2 ^ j
        · have hbq : Deep b d j := by
            rcases hmem b (List.mem_cons_of_mem _ List.mem_cons_self) with e | e
            · subst e; omega
            · rcases hq b e with ⟨_, h⟩ | ⟨h, _⟩
              · exact h
              · omega
          -- both are just 2^j: the odd one is among the rest
          have ho_r : o ∈ r := by
            have : o ∈ a :: b :: r := hpo.mem_iff.2 List.mem_cons_self
            rcases List.mem_cons.1 this with e | e
            · subst e; omega
            · rcases List.mem_cons.1 e with e | e
              · subst e; omega
              · exact e
          obtain ⟨r1, r2, hrs⟩ := List.append_of_mem ho_r
          have hro : r.Perm (o :: (r1 ++ r2)) := by rw [hrs]; exact List.perm_middle
          have hq2 : (a :: b :: (r1 ++ r2)).Perm q := by
            have h3 : (o :: (a :: b :: (r1 ++ r2))).Perm (o :: q) := by
              refine List.Perm.trans ?_ hpo
              refine List.Perm.trans ?_ ((hro.symm.cons b).cons a)
              exact (List.Perm.swap a o _).trans ((List.Perm.swap b o _).cons a)
            exact h3.cons_inv
          refine ⟨j, .inr ⟨o, ⟨a.w + b.w, n, a.ss ++ b.ss⟩ :: (r1 ++ r2), (hro.cons _).trans (List.Perm.swap _ _ _), ?_, fun g hg => ?_⟩⟩
          · exact (show Odd j d o from ⟨o1, o2, od⟩).other (hap.1 o ho_r)
          · rcases List.mem_cons.1 hg with e | e
            · subst e
              exact .inr ⟨by show a.w + b.w = _; omega, haq.step hbq _ (by omega) (by omega)⟩
            · have : g ∈ r := hro.mem_iff.2 (List.mem_cons_of_mem _ e)
              exact (hq g (hq2.mem_iff.1 (List.mem_cons_of_mem _ (List.mem_cons_of_mem _ e)))).other (hap.1 g this)
        · -- b is the odd one
          have hbw : 2 ^ j < b.w := by omega
          have hob : b.w = o.w ∨ 2 ^ (j + 1) ≤ b.w := by
            rcases hmem b (List.mem_cons_of_mem _ List.mem_cons_self) with e | e
            · exact .inl (by rw [e])
            · rcases hq b e with ⟨h, _⟩ | ⟨h, _⟩ <;> omega
          -- were b no less than 2^(j+1), so were all the rest, and none could be odd
          have hbe : o = b ∨ o ∈ r := by
            have : o ∈ a :: b :: r := hpo.mem_iff.2 List.mem_cons_self
            rcases List.mem_cons.1 this with e | e
            · subst e; omega
            · exact List.mem_cons.1 e
          have hb' : o = b := by
            rcases hbe with e | e
            · exact e
            · exfalso
              have hbr := hr o e
              rcases hob with h | h
              · -- b weighs what o weighs: b is odd, too, and flat
                obtain ⟨r1, r2, hrs⟩ := List.append_of_mem e
                have hro : r.Perm (o :: (r1 ++ r2)) := by rw [hrs]; exact List.perm_middle
                have hq2 : (a :: b :: (r1 ++ r2)).Perm q := by
                  have h3 : (o :: (a :: b :: (r1 ++ r2))).Perm (o :: q) := by
                    refine List.Perm.trans ?_ hpo
                    refine List.Perm.trans ?_ ((hro.symm.cons b).cons a)
                    exact (List.Perm.swap a o _).trans ((List.Perm.swap b o _).cons a)
                  exact h3.cons_inv
                rcases hq b (hq2.mem_iff.1 (List.mem_cons_of_mem _ List.mem_cons_self)) with ⟨h5, _⟩ | ⟨h5, _⟩ <;> omega
              · omega
          subst hb'
          have hq2 : (a :: r).Perm q := ((List.Perm.swap a o r).trans hpo).cons_inv
          refine ⟨j + 1, .inr ⟨_, r, List.Perm.refl _, ⟨by show _ < a.w + o.w; omega, by show a.w + o.w < _; omega, haq.step od _ (by omega) (by omega)⟩, fun g hg => ?_⟩⟩
          exact ((hq g (hq2.mem_iff.1 (List.mem_cons_of_mem _ hg))).up (by have := hr g hg; omega)).other (hap.1 g hg)
      · -- none is just 2^j: a is the odd one
        have hae : o = a ∨ (o = b ∨ o ∈ r) := by
          have : o ∈ a :: b :: r := hpo.mem_iff.2 List.mem_cons_self
          rcases List.mem_cons.1 this with e | e
          · exact .inl e
          · exact .inr (List.mem_cons.1 e)
        have haw : a.w ≤ o.w := by
          rcases hae with e | e | e
          · rw [e]; exact Nat.le_refl _
          · rw [e]; exact hab
          · have := hr o e; omega
        have ho' : o = a := by
          rcases hae with e | e
          · exact e
          · exfalso
            -- a is flat then, and weighs 2^(j+1)
            have haq : a ∈ q := by
              rcases e with e | e
              · subst e
                have : (o :: a :: r).Perm (o :: q) := (List.Perm.swap a o r).trans hpo
                exact this.cons_inv.mem_iff.1 List.mem_cons_self
              · obtain ⟨r1, r2, hrs⟩ := List.append_of_mem e
                have hro : r.Perm (o :: (r1 ++ r2)) := by rw [hrs]; exact List.perm_middle
                have h3 : (o :: (a :: b :: (r1 ++ r2))).Perm (o :: q) := by
                  refine List.Perm.trans ?_ hpo
                  refine List.Perm.trans ?_ ((hro.symm.cons b).cons a)
                  exact (List.Perm.swap a o _).trans ((List.Perm.swap b o _).cons a)
                exact h3.cons_inv.mem_iff.1 List.mem_cons_self
            rcases hq a haq with ⟨h5, _⟩ | ⟨h5, _⟩ <;> omega
        subst ho'
        have hq2 : (b :: r).Perm q := hpo.cons_inv
        have hb2 : Flat j d b := hq b (hq2.mem_iff.1 List.mem_cons_self)
        rcases hb2 with ⟨bw, bd⟩ | ⟨bw, bd⟩
        · omega
        · refine ⟨j + 1, .inr ⟨_, r, List.Perm.refl _, ⟨by show _ < o.w + b.w; omega, by show o.w + b.w < _; omega, od.step bd _ (by omega) (by omega)⟩, fun g hg => ?_⟩⟩
          exact ((hq g (hq2.mem_iff.1 (List.mem_cons_of_mem _ hg))).up (by have := hr g hg; omega)).other (hap.1 g hg)
  · refine ⟨?_, 0, .inl fun g hg => .inl (h0 g hg)⟩
    have : l.map (·.w) = List.replicate l.length 1 := by
      apply List.eq_replicate_iff.2
      exact ⟨by simp, fun b hb => by obtain ⟨g, hg, rfl⟩ := List.mem_map.1 hb; exact (h0 g hg).1⟩
    rw [this]
    simp
  · rintro g d ⟨h1, h⟩ hp
    exact ⟨hp, by simpa using h1, h⟩

/-- As flat as can be. -/
theorem flat_depth {g : Gr} {d : Nat → Nat} {m : Nat} (h : AllFlat [g] d) (hm : g.w ≤ 2 ^ m) : Deep g d m := by
  obtain ⟨k, h⟩ := h
  have key : ∀ i, 2 ^ i ≤ 2 ^ m → i ≤ m := fun i hi => by
    refine Classical.byContradiction fun hn => ?_
    have : 2 ^ m < 2 ^ i := Nat.pow_lt_pow_right (by decide) (by omega)
    omega
  rcases h with h | ⟨o, r, hp, ho, _⟩
  · rcases h g List.mem_cons_self with ⟨h1, h2⟩ | ⟨h1, h2⟩
    · intro s hs
      have := key k (by omega)
      have := h2 s hs
      omega
    · intro s hs
      have := key (k + 1) (by omega)
      have := h2 s hs
      omega
  · have ho2 : o = g := by
      have := hp.mem_iff.2 (List.mem_cons_self (a := o) (l := r))
      simpa using this
    subst ho2
    intro s hs
    have h1 := ho.1
    have h3 : k < m := by
      refine Classical.byContradiction fun hn => ?_
      have : 2 ^ m ≤ 2 ^ k := Nat.pow_le_pow_right (by decide) (by omega)
      omega
    have := ho.2.2 s hs
    omega

/-! ### So many times -/
def Gr.times (c : Nat) (g : Gr) : Gr := ⟨g.w * c, g.id, g.ss⟩

theorem ahead_times (c : Nat) (hc : 0 < c) (x y : Gr) : aheadB (x.times c) (y.times c) = aheadB x y := by
  have h1 : (x.w * c < y.w * c) ↔ x.w < y.w := Nat.mul_lt_mul_right hc
  have h2 : (x.w * c = y.w * c) ↔ x.w = y.w := Nat.mul_left_inj (by omega)
  unfold aheadB Gr.times
  simp only [h1, h2]

theorem ins_times (c : Nat) (hc : 0 < c) (x : Gr) (l : List Gr) : ins (x.times c) (l.map (Gr.times c)) = (ins x l).map (Gr.times c) := by
  induction l with
  | nil => rfl
  | cons y r ih =>
    simp only [List.map_cons, ins, ahead_times c hc]
    split
    · rfl
    · simp only [List.map_cons, ih]

theorem huff_times (c : Nat) (hc : 0 < c) : ∀ (k : Nat) (l : List Gr) (n : Nat) (d : Nat → Nat), huff k (l.map (Gr.times c)) n d = huff k l n d
  | 0, l, n, d => by cases l <;> rfl
  | k + 1, [], _, _ => rfl
  | k + 1, [_], _, _ => rfl
  | k + 1, a :: b :: r, n, d => by
    show huff k (ins ⟨a.w * c + b.w * c, n, a.ss ++ b.ss⟩ (r.map (Gr.times c))) (n + 1) (bump (a.ss ++ b.ss) d) = huff k (ins ⟨a.w + b.w, n, a.ss ++ b.ss⟩ r) (n + 1) (bump (a.ss ++ b.ss) d)
    rw [← Nat.add_mul]
    have e : (⟨(a.w + b.w) * c, n, a.ss ++ b.ss⟩ : Gr) = Gr.times c ⟨a.w + b.w, n, a.ss ++ b.ss⟩ := rfl
    rw [e, ins_times c hc]
    exact huff_times c hc k _ _ _

end Go.Proofs.Ytihgdlnnfhpdcaa
