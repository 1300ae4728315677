import Derived.Test.YtaalbaiglkadlaaGreatWA
import Derived.Test.YtaalbaiglkadlaaGreatWL
import Derived.Deep.AppendLies
import Derived.Deep.RegionLaw
import Derived.Test.YtaalbaiglkadlaaGreatIRow
/- Piles with the least on top, as plain rows: what one step down, or up, does. Nothing of the program is named here. -/
namespace Go.Proofs.YtaalbaiglkadlaaGreat

/-- Of less weight, or of the same and made before. -/
def ltP (x y : Nat × Int) : Prop := x.1 < y.1 ∨ (x.1 = y.1 ∧ x.2 < y.2)
def ltPB (x y : Nat × Int) : Bool := decide (x.1 < y.1) || (decide (x.1 = y.1) && decide (x.2 < y.2))
theorem ltPB_iff (x y : Nat × Int) : ltPB x y = true ↔ ltP x y := by simp [ltPB, ltP]
theorem ltPB_no (x y : Nat × Int) : ltPB x y = false ↔ ¬ ltP x y := by rw [← ltPB_iff]; simp

theorem nlt_trans {x y z : Nat × Int} (h : ¬ ltP x y) (k : ¬ ltP y z) : ¬ ltP x z := by
  unfold ltP at *
  omega
theorem nlt_of_lt {x y : Nat × Int} (h : ltP x y) : ¬ ltP y x := by
  unfold ltP at *
  omega

/-- The node at a place. -/
def atP (d : List (Nat × Int)) (k : Nat) : Nat × Int := d.getD k (0, 0)

theorem atP_some {d : List (Nat × Int)} {k : Nat} (h : k < d.length) : d[k]? = some (atP d k) := by
  unfold atP
  rw [List.getD_eq_getElem?_getD, List.getElem?_eq_getElem h]
  rfl
theorem atP_of {d : List (Nat × Int)} {k : Nat} {x : Nat × Int} (h : d[k]? = some x) : atP d k = x := by
  unfold atP
  rw [List.getD_eq_getElem?_getD, h]
  rfl

/-- Two change places. -/
def swp (d : List (Nat × Int)) (i j : Nat) : List (Nat × Int) := (d.set i (atP d j)).set j (atP d i)

theorem swp_length (d : List (Nat × Int)) (i j : Nat) : (swp d i j).length = d.length := by simp [swp]

theorem swp_at (d : List (Nat × Int)) (i j k : Nat) (hi : i < d.length) (hj : j < d.length) : atP (swp d i j) k = if k = j then atP d i else if k = i then atP d j else atP d k := by
  have hl := swp_length d i j
  by_cases hk : k < d.length
  · refine atP_of ?_
    unfold swp
    rw [List.getElem?_set]
    by_cases e : j = k
    · rw [if_pos e, if_pos (by simpa using hj), if_pos e.symm]
    · rw [if_neg e, if_neg (fun h => e h.symm), List.getElem?_set]
      by_cases e2 : i = k
      · rw [if_pos e2, if_pos hi, if_pos e2.symm]
      · rw [if_neg e2, if_neg (fun h => e2 h.symm)]
        exact atP_some hk
  · rw [if_neg (by omega), if_neg (by omega)]
    unfold atP
    rw [List.getD_eq_getElem?_getD, List.getD_eq_getElem?_getD, List.getElem?_eq_none (by omega), List.getElem?_eq_none (by omega)]

theorem swp_perm (d : List (Nat × Int)) (i j : Nat) (hi : i < d.length) (hj : j < d.length) : (swp d i j).Perm d := by
  have e1 : atP d i = d[i] := atP_of (List.getElem?_eq_getElem hi)
  have e2 : atP d j = d[j] := atP_of (List.getElem?_eq_getElem hj)
  unfold swp
  rw [e1, e2]
  exact List.set_set_perm hi hj

/-- c lies below k. -/
def Chi (k c : Nat) : Prop := c = 2 * k + 1 ∨ c = 2 * k + 2

/-- From i0 on, none of the first n is less than the one above it. -/
def HpFrom (d : List (Nat × Int)) (i0 n : Nat) : Prop := ∀ k c, i0 ≤ k → Chi k c → c < n → ¬ ltP (atP d c) (atP d k)

/-- So, but for those below i. -/
structure HpBut (d : List (Nat × Int)) (i0 n i : Nat) : Prop where
  but : ∀ k c, i0 ≤ k → k ≠ i → Chi k c → c < n → ¬ ltP (atP d c) (atP d k)
  gr : ∀ k c, i0 ≤ k → Chi k i → Chi i c → c < n → ¬ ltP (atP d c) (atP d k)

theorem HpBut.start {d : List (Nat × Int)} {i0 n : Nat} (h : HpFrom d (i0 + 1) n) : HpBut d i0 n i0 :=
  ⟨fun k c hk hne hc hn => h k c (by omega) hc hn, fun k c hk h1 _ _ => by unfold Chi at h1; omega⟩

theorem HpBut.leaf {d : List (Nat × Int)} {i0 n i : Nat} (h : HpBut d i0 n i) (hi : n ≤ 2 * i + 1) : HpFrom d i0 n := by
  intro k c hk hc hn
  refine h.but k c hk (fun e => ?_) hc hn
  unfold Chi at hc
  omega

/-- The least of those below i. -/
structure LeastChi (d : List (Nat × Int)) (n i j : Nat) : Prop where
  chi : Chi i j
  lt : j < n
  least : ∀ c, Chi i c → c < n → ¬ ltP (atP d c) (atP d j)

theorem LeastChi.one {d : List (Nat × Int)} {n i : Nat} (h : 2 * i + 1 < n) (h2 : n ≤ 2 * i + 2 ∨ ¬ ltP (atP d (2 * i + 2)) (atP d (2 * i + 1))) : LeastChi d n i (2 * i + 1) := by
  refine ⟨.inl rfl, h, fun c hc hn => ?_⟩
  rcases hc with e | e
  · subst e; unfold ltP; omega
  · subst e
    rcases h2 with h2 | h2
    · omega
    · exact h2
theorem LeastChi.two {d : List (Nat × Int)} {n i : Nat} (h : 2 * i + 2 < n) (h2 : ltP (atP d (2 * i + 2)) (atP d (2 * i + 1))) : LeastChi d n i (2 * i + 2) := by
  refine ⟨.inr rfl, h, fun c hc hn => ?_⟩
  rcases hc with e | e
  · subst e; exact nlt_of_lt h2
  · subst e; unfold ltP; omega

theorem HpBut.stop {d : List (Nat × Int)} {i0 n i j : Nat} (h : HpBut d i0 n i) (hj : LeastChi d n i j) (hl : ¬ ltP (atP d j) (atP d i)) : HpFrom d i0 n := by
  intro k c hk hc hn
  by_cases e : k = i
  · subst e
    exact nlt_trans (hj.least c hc hn) hl
  · exact h.but k c hk e hc hn

theorem HpBut.step {d : List (Nat × Int)} {i0 n i j : Nat} (h : HpBut d i0 n i) (hi : i0 ≤ i) (hj : LeastChi d n i j) (hl : ltP (atP d j) (atP d i)) (hn : n ≤ d.length) : HpBut (swp d i j) i0 n j := by
  have hjn := hj.lt
  have hij : i < j := by have := hj.chi; unfold Chi at this; omega
  have A := fun k => swp_at d i j k (by omega) (by omega)
  refine ⟨fun k c hk hne hc hcn => ?_, fun k c hk h1 h2 hcn => ?_⟩
  · rw [A k, A c, if_neg hne]
    by_cases e : k = i
    · rw [if_pos e]
      subst e
      by_cases e2 : c = j
      · rw [if_pos e2]
        exact nlt_of_lt hl
      · rw [if_neg e2, if_neg (by unfold Chi at hc; omega)]
        exact hj.least c hc hcn
    · rw [if_neg e]
      by_cases e2 : c = j
      · exfalso
        have := hj.chi
        unfold Chi at hc this
        omega
      · rw [if_neg e2]
        by_cases e3 : c = i
        · rw [if_pos e3]
          subst e3
          exact h.gr k j hk hc hj.chi hjn
        · rw [if_neg e3]
          exact h.but k c hk e hc hcn
  · have e : k = i := by
      have := hj.chi
      unfold Chi at h1 this
      omega
    subst e
    have h2' := h2
    unfold Chi at h2'
    have ek : atP (swp d k j) k = atP d j := by rw [A k, if_neg (by omega), if_pos rfl]
    have ec : atP (swp d k j) c = atP d c := by rw [A c, if_neg (by omega), if_neg (by omega)]
    rw [ek, ec]
    exact h.but j c (by omega) (by omega) h2 hcn

/-- So, but for j and the one above it. -/
structure HpUp (d : List (Nat × Int)) (n j : Nat) : Prop where
  but : ∀ k c, Chi k c → c < n → c ≠ j → ¬ ltP (atP d c) (atP d k)
  gr : ∀ k c, Chi k j → Chi j c → c < n → ¬ ltP (atP d c) (atP d k)

theorem HpUp.top {d : List (Nat × Int)} {n : Nat} (h : HpUp d n 0) : HpFrom d 0 n := by
  intro k c _ hc hn
  refine h.but k c hc hn (fun e => ?_)
  unfold Chi at hc
  omega
theorem HpUp.stop {d : List (Nat × Int)} {n i j : Nat} (h : HpUp d n j) (hi : Chi i j) (hl : ¬ ltP (atP d j) (atP d i)) : HpFrom d 0 n := by
  intro k c _ hc hn
  by_cases e : c = j
  · subst e
    have e2 : k = i := by unfold Chi at hc hi; omega
    subst e2
    exact hl
  · exact h.but k c hc hn e
theorem HpUp.step {d : List (Nat × Int)} {n i j : Nat} (h : HpUp d n j) (hi : Chi i j) (hj : j < n) (hl : ltP (atP d j) (atP d i)) (hn : n ≤ d.length) : HpUp (swp d i j) n i := by
  have hij : i < j := by unfold Chi at hi; omega
  have A := fun k => swp_at d i j k (by omega) (by omega)
  refine ⟨fun k c hc hcn hne => ?_, fun k c h1 h2 hcn => ?_⟩
  · rw [A k, A c]
    by_cases e : c = j
    · rw [if_pos e]
      subst e
      have e2 : k = i := by unfold Chi at hc hi; omega
      subst e2
      rw [if_neg (by omega), if_pos rfl]
      exact nlt_of_lt hl
    · rw [if_neg e, if_neg hne]
      by_cases e2 : k = j
      · rw [if_pos e2]
        subst e2
        exact h.gr i c hi hc hcn
      · rw [if_neg e2]
        by_cases e3 : k = i
        · rw [if_pos e3]
          subst e3
          exact nlt_trans (h.but k c hc hcn e) (nlt_of_lt hl)
        · rw [if_neg e3]
          exact h.but k c hc hcn e
  · have ek : atP (swp d i j) k = atP d k := by rw [A k, if_neg (by unfold Chi at h1; omega), if_neg (by unfold Chi at h1; omega)]
    rw [ek, A c]
    have hki : ¬ ltP (atP d i) (atP d k) := h.but k i h1 (by omega) (by omega)
    by_cases e : c = j
    · rw [if_pos e]
      exact hki
    · rw [if_neg e, if_neg (by unfold Chi at h2; omega)]
      exact nlt_trans (h.but i c h2 hcn e) hki

theorem HpFrom.least {d : List (Nat × Int)} {n : Nat} (h : HpFrom d 0 n) : ∀ k, k < n → ¬ ltP (atP d k) (atP d 0) := by
  intro k
  induction k using Nat.strongRecOn with
  | ind k ih =>
    intro hk
    by_cases e : k = 0
    · subst e; unfold ltP; omega
    · have hc : Chi ((k - 1) / 2) k := by unfold Chi; omega
      exact nlt_trans (h _ k (Nat.zero_le _) hc hk) (ih _ (by omega) (by omega))

theorem HpFrom.half (d : List (Nat × Int)) (n : Nat) : HpFrom d (n / 2) n := by
  intro k c hk hc hn
  unfold Chi at hc
  omega

/-- Behind a change of the top and the last. -/
theorem HpFrom.popped {d : List (Nat × Int)} {n : Nat} (h : HpFrom d 0 (n + 1)) (hn : n < d.length) : HpFrom (swp d 0 n) 1 n := by
  intro k c hk hc hcn
  rw [swp_at d 0 n k (by omega) hn, swp_at d 0 n c (by omega) hn]
  have hc' := hc
  unfold Chi at hc'
  rw [if_neg (by omega), if_neg (by omega), if_neg (by omega), if_neg (by omega)]
  exact h k c (Nat.zero_le _) hc (by omega)

theorem atP_append_left {d : List (Nat × Int)} {x : Nat × Int} {k : Nat} (h : k < d.length) : atP (d ++ [x]) k = atP d k := by
  refine atP_of ?_
  rw [List.getElem?_append_left h]
  exact atP_some h

/-- One more at the end. -/
theorem HpFrom.pushed {d : List (Nat × Int)} (h : HpFrom d 0 d.length) (x : Nat × Int) : HpUp (d ++ [x]) (d.length + 1) d.length := by
  refine ⟨fun k c hc hn hne => ?_, fun k c h1 h2 hn => ?_⟩
  · have hc' := hc
    unfold Chi at hc'
    rw [atP_append_left (by omega), atP_append_left (by omega)]
    exact h k c (Nat.zero_le _) hc (by omega)
  · unfold Chi at h2
    omega

/-- The first n are one way or the other the same. -/
structure Kept (n : Nat) (d d' : List (Nat × Int)) : Prop where
  perm : d'.Perm d
  rest : ∀ k, n ≤ k → atP d' k = atP d k
theorem Kept.refl (n : Nat) (d : List (Nat × Int)) : Kept n d d := ⟨List.Perm.refl _, fun _ _ => rfl⟩
theorem Kept.trans {n : Nat} {a b c : List (Nat × Int)} (h : Kept n a b) (k : Kept n b c) : Kept n a c := ⟨k.perm.trans h.perm, fun i hi => (k.rest i hi).trans (h.rest i hi)⟩
theorem Kept.swp {n : Nat} {d : List (Nat × Int)} {i j : Nat} (hi : i < n) (hj : j < n) (hn : n ≤ d.length) : Kept n d (swp d i j) :=
  ⟨swp_perm d i j (by omega) (by omega), fun k hk => by rw [swp_at d i j k (by omega) (by omega), if_neg (by omega), if_neg (by omega)]⟩
theorem Kept.len {n : Nat} {a b : List (Nat × Int)} (h : Kept n a b) : b.length = a.length := h.perm.length_eq

end Go.Proofs.YtaalbaiglkadlaaGreat

/- Contracts of the pile's methods of layer 4: Less, Swap. -/
namespace Go.Proofs.YtaalbaiglkadlaaGreat
open Go.RowKit Go.Lib

theorem own_nodeP {w : World} {B g cap : Nat} {e : TypeId} {l : List (Nat × Int)} {j : Nat} (h : w.ownsRow B e 2 (.slice (some ⟨g, 0, none⟩) l.length cap) l.length (nodeCs l)) (hj : j < l.length) :
    w.cell? ⟨g, j * 2, none⟩ = some (.int .i64 ((atP l j).1 : Int)) ∧ w.cell? ⟨g, j * 2 + 1, none⟩ = some (.int .i64 (atP l j).2) ∧ w.frozen? ⟨g, j * 2, none⟩ = false ∧ w.frozen? ⟨g, j * 2 + 1, none⟩ = false := by
  have hg := nodeCs_get l j _ _ (atP_some hj)
  refine ⟨?_, ?_, h.frozenAt _, h.frozenAt _⟩
  · rw [h.cellAt (j * 2) (by omega)]; exact hg.1
  · rw [h.cellAt (j * 2 + 1) (by omega)]; exact hg.2

theorem ltPB_weight (a b : Nat) (x y : Int) (h : a ≠ b) : ltPB (a, x) (b, y) = decide ((a : Int) < b) := by
  unfold ltPB
  by_cases h2 : a < b
  · simp [h2]
  · simp [h2, h]
theorem ltPB_made (a : Nat) (x y : Int) : ltPB (a, x) (a, y) = decide (x < y) := by simp [ltPB]

set_option maxHeartbeats 1000000 in
theorem less_any (g n cap B : Nat) (d : List (Nat × Int)) (i j : Nat) (w : World) (hn : d.length = n) (ho : w.ownsRow B 158 2 (.slice (some ⟨g, 0, none⟩) n cap) n (nodeCs d)) (hi : i < n) (hj : j < n) (r : Bool) (hr : ltPB (atP d i) (atP d j) = r) :
    Calls Tryz.prog 130 #[.slice (some ⟨g, 0, none⟩) n cap, .int .i64 (i : Int), .int .i64 (j : Int)] w fun e w' => e = .returned (.bool r) ∧ ∃ q, w' = w.drewN q := by
  subst hn
  subst hr
  obtain ⟨c1, c2, _, _⟩ := own_nodeP ho hi
  obtain ⟨c3, c4, _, _⟩ := own_nodeP ho hj
  have zi : (i : Int) < d.length := by omega
  have zj : (j : Int) < d.length := by omega
  clear ho
  generalize atP d i = p at *
  generalize atP d j = q at *
  obtain ⟨a, x⟩ := p
  obtain ⟨b, y⟩ := q
  dsimp only at c1 c2 c3 c4
  by_cases h : a = b
  · subst h
    have HL := hide (ltPB_made a x y)
    go_enter Tryz.func130, Tryz.ntmps130
    go_wp2_with fail
    go_quiet (fail)
    go_wp2_with fail
    go_quiet (fail)
    go_wp2
    go_ret
    exact ⟨by rw [HL.out]; rfl, _, World.drewN_drewN ..⟩
  · have HL := hide (ltPB_weight a b x y h)
    have hb : ((a : Int) == (b : Int)) = false := by simp; omega
    go_enter Tryz.func130, Tryz.ntmps130
    go_wp2_with fail
    go_quiet (fail)
    go_wp2_with fail
    go_quiet (fail)
    go_wp2
    go_ret
    exact ⟨by rw [HL.out]; simp, _, World.drewN_drewN ..⟩


theorem nodeCs_put (l : List (Nat × Int)) : ∀ (i w : Nat) (u : Int), ((nodeCs l).set (i * 2) (.int .i64 (w : Int))).set (i * 2 + 1) (.int .i64 u) = nodeCs (l.set i (w, u)) := by
  induction l with
  | nil => intro i w u; rfl
  | cons p l ih =>
    intro i w u
    cases i with
    | zero => rfl
    | succ i =>
      rw [show (i + 1) * 2 = i * 2 + 1 + 1 by omega, nodeCs_cons, List.set_cons_succ, List.set_cons_succ, List.set_cons_succ, List.set_cons_succ, ih i w u]
      rfl

theorem own_put {w : World} {B g cap n : Nat} {e : TypeId} {l : List (Nat × Int)} (h : w.ownsRow B e 2 (.slice (some ⟨g, 0, none⟩) n cap) n (nodeCs l)) (i a : Nat) (u : Int) :
    ((w.setCell ⟨g, i * 2, none⟩ (.int .i64 (a : Int))).setCell ⟨g, i * 2 + 1, none⟩ (.int .i64 u)).ownsRow B e 2 (.slice (some ⟨g, 0, none⟩) n cap) n (nodeCs (l.set i (a, u))) := by
  rw [← nodeCs_put]
  exact ((h.stored _ _).1.stored _ _).1

set_option maxHeartbeats 1000000 in
theorem swap_any (g n cap B : Nat) (d : List (Nat × Int)) (i j : Nat) (w : World) (hn : d.length = n) (ho : w.ownsRow B 158 2 (.slice (some ⟨g, 0, none⟩) n cap) n (nodeCs d)) (hi : i < n) (hj : j < n) :
    Calls Tryz.prog 131 #[.slice (some ⟨g, 0, none⟩) n cap, .int .i64 (i : Int), .int .i64 (j : Int)] w fun e w' => e = .returned (.tuple #[]) ∧ Only g w w' ∧ w'.ownsRow B 158 2 (.slice (some ⟨g, 0, none⟩) n cap) n (nodeCs (swp d i j)) := by
  subst hn
  obtain ⟨c1, c2, f1, f2⟩ := own_nodeP ho hi
  obtain ⟨c3, c4, f3, f4⟩ := own_nodeP ho hj
  have zi : (i : Int) < d.length := by omega
  have zj : (j : Int) < d.length := by omega
  have HO := hide ho
  clear ho
  obtain ⟨⟨a, x⟩, hp⟩ : ∃ p, atP d i = p := ⟨_, rfl⟩
  obtain ⟨⟨b, y⟩, hq⟩ : ∃ q, atP d j = q := ⟨_, rfl⟩
  rw [hp] at c1 c2
  rw [hq] at c3 c4
  have HP := hide hp
  have HQ := hide hq
  dsimp only at c1 c2 c3 c4
  clear hp hq
  have HE : Hid (swp d i j = (d.set i (b, y)).set j (a, x)) := hide (by unfold swp; rw [HP.out, HQ.out])
  by_cases h : i = j
  · subst h
    have hab : a = b := by have := HP.out.symm.trans HQ.out; injection this
    have hxy : x = y := by have := HP.out.symm.trans HQ.out; injection this
    subst hab
    subst hxy
    clear c3 c4 f3 f4 zj
    go_enter Tryz.func131, Tryz.ntmps131
    go_wp2_with fail
    go_region
    go_wp2
    go_end0
    refine ⟨rfl, ((((Only.setCell g _ _ _).trans (Only.setCell g _ _ _)).trans (Only.setCell g _ _ _)).trans (Only.setCell g _ _ _)).trans (Only.drewN g _ 1), ?_⟩
    rw [HE.out]
    exact own_put (own_put HO.out i a x) i a x
  · go_enter Tryz.func131, Tryz.ntmps131
    go_wp2_with fail
    go_region
    go_wp2
    go_end0
    refine ⟨rfl, ((((Only.setCell g _ _ _).trans (Only.setCell g _ _ _)).trans (Only.setCell g _ _ _)).trans (Only.setCell g _ _ _)).trans (Only.drewN g _ 1), ?_⟩
    rw [HE.out]
    exact own_put (own_put HO.out i b y) j a x

set_option maxHeartbeats 1000000 in
theorem len_any (a : Option Addr) (n cap : Nat) (w : World) :
    Calls Tryz.prog 129 #[.slice a n cap] w fun e w' => e = .returned (.int .i64 (n : Int)) ∧ w = w' := by
  go_enter Tryz.func129, Tryz.ntmps129
  go_wp2
  go_ret
  exact ⟨rfl, rfl⟩

theorem load_box (P : Nat) (v : Value) (w : World) (hc : w.cell? ⟨P, 0, none⟩ = some v) : (loadVar 149 ⟨P, 0, none⟩).run Tryz.prog w = .ok v w := by
  have h : (isAgg 149).run Tryz.prog w = .ok false w := by kernel_rfl
  simp [loadVar, Sem.run_bind, h, hc]
theorem wrap_nil (ts : Array TypeId) (t : TypeId) (a : Addr) (s m : String) (w : World) : (Builtin.ssaWrapNilChk_ ts t #[.pointer (some a), strVal s, strVal m]).run Tryz.prog w = .ok (.pointer (some a)) w := rfl
theorem meth_of (name : String) (f k : Nat) (hm : (Tryz.prog.info? 156).bind (fun i => (i.methods.find? (·.name == name)).map fun m => (m.path.size, m.func)) = some (0, some (f, false)))
    (P : Nat) (v : Value) (w : World) (hc : w.cell? ⟨P, 0, none⟩ = some v) : (method (k + 1) 156 (.pointer (some ⟨P, 0, none⟩)) name).run Tryz.prog w = .ok (f, v) w := by
  cases hi : Tryz.prog.info? 156 with
  | none => simp [hi] at hm
  | some i =>
    cases hm2 : i.methods.find? (·.name == name) with
    | none => simp [hi, hm2] at hm
    | some m =>
      have hm3 : m.path.size = 0 ∧ m.func = some (f, false) := by simpa [hi, hm2] using hm
      obtain ⟨hp, hf⟩ := hm3
      have hp2 : m.path = #[] := Array.eq_empty_of_size_eq_zero hp
      have hu : (underlying 156).run Tryz.prog w = .ok (.pointer 149) w := run_underlying Tryz.underlying156 w
      unfold method
      simp [Sem.run_bind, typeInfo, hi, hm2, hp2, hf, follow, receiverAt, hu, Place.get, wrap_nil, asAddr, load_box P v w hc]
theorem meth_len (P : Nat) (v : Value) (w : World) (hc : w.cell? ⟨P, 0, none⟩ = some v) : (method 283 156 (.pointer (some ⟨P, 0, none⟩)) "Len").run Tryz.prog w = .ok (129, v) w :=
  meth_of _ _ _ (by kernel_rfl) P v w hc
theorem meth_less (P : Nat) (v : Value) (w : World) (hc : w.cell? ⟨P, 0, none⟩ = some v) : (method 283 156 (.pointer (some ⟨P, 0, none⟩)) "Less").run Tryz.prog w = .ok (130, v) w :=
  meth_of _ _ _ (by kernel_rfl) P v w hc
theorem meth_swap (P : Nat) (v : Value) (w : World) (hc : w.cell? ⟨P, 0, none⟩ = some v) : (method 283 156 (.pointer (some ⟨P, 0, none⟩)) "Swap").run Tryz.prog w = .ok (131, v) w :=
  meth_of _ _ _ (by kernel_rfl) P v w hc
theorem meth_pop (P : Nat) (w : World) : (method 283 156 (.pointer (some ⟨P, 0, none⟩)) "Pop").run Tryz.prog w = .ok (132, .pointer (some ⟨P, 0, none⟩)) w := by kernel_rfl
theorem meth_push (P : Nat) (w : World) : (method 283 156 (.pointer (some ⟨P, 0, none⟩)) "Push").run Tryz.prog w = .ok (133, .pointer (some ⟨P, 0, none⟩)) w := by kernel_rfl

end Go.Proofs.YtaalbaiglkadlaaGreat

/- Contract of container/heap's 'down' over the pile of layer 4. -/
namespace Go.Proofs.YtaalbaiglkadlaaGreat
open Go.RowKit Go.Lib

/-- A pile: its box P holds the slice v, which has the nodes d. -/
structure PileAt (w : World) (B P : Nat) (v : Value) (d : List (Nat × Int)) : Prop where
  box : w.heap[P]? = some (.cells #[v] 149 (0, 0))
  own : w.ownsRow B 158 2 v d.length (nodeCs d)
  ne : v.ownBlock ≠ some P

theorem PileAt.cell {w : World} {B P : Nat} {v : Value} {d : List (Nat × Int)} (h : PileAt w B P v d) : w.cell? ⟨P, 0, none⟩ = some v := by
  rw [cell_of_row _ _ 0 _ _ (0, 0) h.box]
  rfl
theorem PileAt.frozen {w : World} {B P : Nat} {v : Value} {d : List (Nat × Int)} (h : PileAt w B P v d) : w.frozen? ⟨P, 0, none⟩ = false := by
  simp [World.frozen?, h.box]
theorem PileAt.drewN {w : World} {B P : Nat} {v : Value} {d : List (Nat × Int)} (h : PileAt w B P v d) (q : Nat) : PileAt (w.drewN q) B P v d := ⟨h.box, h.own, h.ne⟩
theorem PileAt.turned {w w' : World} {B P g n cap : Nat} {d d' : List (Nat × Int)} (h : PileAt w B P (.slice (some ⟨g, 0, none⟩) n cap) d) (o : Only g w w') (hd : d'.length = d.length)
    (ho : w'.ownsRow B 158 2 (.slice (some ⟨g, 0, none⟩) n cap) d.length (nodeCs d')) : PileAt w' B P (.slice (some ⟨g, 0, none⟩) n cap) d' :=
  ⟨by rw [o.block P (fun e => h.ne (by rw [e]; rfl))]; exact h.box, by rw [hd]; exact ho, h.ne⟩

/-- The way down, at i. -/
structure Downs (w W : World) (B P g n cap : Nat) (d0 d : List (Nat × Int)) (i0 m i : Nat) : Prop where
  pile : PileAt w B P (.slice (some ⟨g, 0, none⟩) n cap) d
  only : Only g W w
  kept : Kept m d0 d
  but : HpBut d i0 m i
  le : i0 ≤ i

def Downed (w W : World) (B P g n cap : Nat) (d0 : List (Nat × Int)) (i0 m : Nat) : Prop :=
  ∃ d, PileAt w B P (.slice (some ⟨g, 0, none⟩) n cap) d ∧ Only g W w ∧ Kept m d0 d ∧ HpFrom d i0 m

theorem meas_down (i j m : Nat) (h : i < j) (hm : j < m) : m - (intOf (.int .i64 (j : Int))).toNat < m - (intOf (.int .i64 (i : Int))).toNat := by
  show m - ((j : Nat) : Int).toNat < m - ((i : Nat) : Int).toNat
  omega

/-- It returned whether. -/
def IsBool (e : Ending) : Prop := ∃ r, e = .returned (.bool r)

theorem Downs.form {w W : World} {B P g n cap : Nat} {d0 d : List (Nat × Int)} {i0 m i : Nat} (h : Downs w W B P g n cap d0 d i0 m i) (hn : d0.length = n) : d.length = n ∧ w.ownsRow B 158 2 (.slice (some ⟨g, 0, none⟩) n cap) n (nodeCs d) := by
  have hl : d.length = n := by rw [h.kept.len]; exact hn
  refine ⟨hl, ?_⟩
  have := h.pile.own
  rw [hl] at this
  exact this

theorem Downs.done {w W : World} {B P g n cap : Nat} {d0 d : List (Nat × Int)} {i0 m i : Nat} (h : Downs w W B P g n cap d0 d i0 m i) (q : Nat) (hp : HpFrom d i0 m) : Downed (w.drewN q) W B P g n cap d0 i0 m :=
  ⟨d, h.pile.drewN q, h.only.trans (Only.drewN _ _ _), h.kept, hp⟩

theorem Downs.next {w w2 W : World} {B P g n cap : Nat} {d0 d : List (Nat × Int)} {i0 m i j q : Nat} (h : Downs w W B P g n cap d0 d i0 m i) (hj : LeastChi d m i j) (hl : ltP (atP d j) (atP d i)) (hm : m ≤ d.length)
    (o : Only g (w.drewN q) w2) (ho : w2.ownsRow B 158 2 (.slice (some ⟨g, 0, none⟩) n cap) d.length (nodeCs (swp d i j))) : Downs w2 W B P g n cap d0 (swp d i j) i0 m j := by
  have hij : i < j := by have := hj.chi; unfold Chi at this; omega
  have hjm := hj.lt
  exact ⟨(h.pile.drewN q).turned o (swp_length _ _ _) ho, h.only.trans ((Only.drewN _ _ _).trans o), h.kept.trans (Kept.swp (by omega) hjm hm), h.but.step h.le hj hl hm, by have := h.le; omega⟩

theorem least_two {d : List (Nat × Int)} {m i j1 j2 : Nat} (h1 : 2 * i + 1 = j1) (h2 : j1 + 1 = j2) (h : j2 < m) (hl : ltPB (atP d j2) (atP d j1) = true) : LeastChi d m i j2 := by
  subst h1
  subst h2
  exact LeastChi.two h ((ltPB_iff _ _).1 hl)
theorem least_one {d : List (Nat × Int)} {m i j1 j2 : Nat} (h1 : 2 * i + 1 = j1) (h : j1 < m) (hl : m ≤ j2 ∨ ltPB (atP d j2) (atP d j1) = false) (h2 : j1 + 1 = j2) : LeastChi d m i j1 := by
  subst h1
  subst h2
  rcases hl with e | e
  · exact LeastChi.one h (.inl e)
  · exact LeastChi.one h (.inr ((ltPB_no _ _).1 e))
theorem less_drew (g n cap B : Nat) (d : List (Nat × Int)) (i j : Nat) (w : World) (q0 : Nat) (hn : d.length = n) (ho : w.ownsRow B 158 2 (.slice (some ⟨g, 0, none⟩) n cap) n (nodeCs d)) (hi : i < n) (hj : j < n) (r : Bool) (hr : ltPB (atP d i) (atP d j) = r) :
    Calls Tryz.prog 130 #[.slice (some ⟨g, 0, none⟩) n cap, .int .i64 (i : Int), .int .i64 (j : Int)] (w.drewN q0) fun e w' => e = .returned (.bool r) ∧ ∃ q, w' = w.drewN q :=
  (less_any g n cap B d i j (w.drewN q0) hn ho hi hj r hr).mono fun e w' h => ⟨h.1, by obtain ⟨_, q, rfl⟩ := h; exact ⟨_, World.drewN_drewN ..⟩⟩

set_option maxRecDepth 20000 in
set_option maxHeartbeats 4000000 in
theorem down_any (P g n cap B i0 m : Nat) (d0 : List (Nat × Int)) (W : World) (h0 : PileAt W B P (.slice (some ⟨g, 0, none⟩) n cap) d0) (hn : d0.length = n) (hm : m ≤ n) (hn2 : n ≤ 1024) (hi0 : i0 ≤ m) (hp : HpFrom d0 (i0 + 1) m) :
    Calls Tryz.prog 110 #[.iface 156 (.pointer (some ⟨P, 0, none⟩)), .int .i64 (i0 : Int), .int .i64 (m : Int)] W fun e w' => IsBool e ∧ Hid (Downed w' W B P g n cap d0 i0 m) := by
  have HS := hide (show Downs W W B P g n cap d0 d0 i0 m i0 from ⟨h0, Only.refl _ _, Kept.refl _ _, HpBut.start hp, Nat.le_refl _⟩)
  have HN := hide hn
  have HM := hide hm
  clear h0 hp hn
  go_enter Tryz.func110, Tryz.ntmps110
  go_wp2
  go_loopw [7] (fun iv wr => ∃ (i : Nat) (d : List (Nat × Int)), i ≤ m ∧ iv = .int .i64 i ∧ Hid (Downs wr W B P g n cap d0 d i0 m i)) (fun iv _ => m - (intOf iv).toNat)
  case atStart => exact ⟨i0, d0, hi0, rfl, HS⟩
  case round =>
    obtain ⟨i, d, hi, rfl, HD⟩ := hrel
    obtain ⟨j1, hj1⟩ : ∃ j1, 2 * i + 1 = j1 := ⟨_, rfl⟩
    have e1 : 2 * (i : Int) + 1 = (j1 : Int) := by omega
    have HJ1 := hide hj1
    by_cases h1 : j1 < m
    · obtain ⟨hdl, hown⟩ := HD.out.form HN.out
      have hml : ∀ q, (method 283 156 (.pointer (some ⟨P, 0, none⟩)) "Less").run Tryz.prog (wr.drewN q) = .ok (130, .slice (some ⟨g, 0, none⟩) n cap) (wr.drewN q) := fun q => meth_less P _ _ (HD.out.pile.drewN q).cell
      have hms : ∀ q, (method 283 156 (.pointer (some ⟨P, 0, none⟩)) "Swap").run Tryz.prog (wr.drewN q) = .ok (131, .slice (some ⟨g, 0, none⟩) n cap) (wr.drewN q) := fun q => meth_swap P _ _ (HD.out.pile.drewN q).cell
      have hml0 := hml 0
      rw [World.drewN_zero] at hml0
      have HDL := hide hdl
      have HCL := hide (fun (i j q : Nat) (hi : i < n) (hj : j < n) (r : Bool) (hr : ltPB (atP d i) (atP d j) = r) => less_drew g n cap B d i j wr q hdl hown hi hj r hr)
      have HCL0 := hide (fun (i j : Nat) (hi : i < n) (hj : j < n) (r : Bool) (hr : ltPB (atP d i) (atP d j) = r) => less_any g n cap B d i j wr hdl hown hi hj r hr)
      have HCS := hide (fun (i j q : Nat) (hi : i < n) (hj : j < n) => swap_any g n cap B d i j (wr.drewN q) hdl hown hi hj)
      clear hdl hown
      obtain ⟨j2, hj2⟩ : ∃ j2, j1 + 1 = j2 := ⟨_, rfl⟩
      have e2 : (j1 : Int) + 1 = (j2 : Int) := by omega
      have HJ2 := hide hj2
      have z1 : (j1 : Int) < m := by omega
      have z0 : ¬ (m ≤ j1) := by omega
      have y0 : decide ((m : Int) ≤ (j1 : Int)) = false := by simp; omega
      by_cases h2 : j2 < m
      · have z2 : (j2 : Int) < m := by omega
        have y2 : decide ((j2 : Int) < (m : Int)) = true := by simp; omega
        obtain ⟨r1, hr1⟩ : ∃ r, ltPB (atP d j2) (atP d j1) = r := ⟨_, rfl⟩
        have HR1 := hide hr1
        clear hr1 hj1 hj2
        go_wp2_with fail
        refine (HCL0.out j2 j1 (by omega) (by omega) r1 HR1.out).mono ?_
        rintro e w1 ⟨rfl, q1, rfl⟩
        cases r1 with
        | true =>
          have HLC := hide (show LeastChi d m i j2 from least_two HJ1.out HJ2.out h2 HR1.out)
          obtain ⟨r2, hr2⟩ : ∃ r, ltPB (atP d j2) (atP d i) = r := ⟨_, rfl⟩
          have HR2 := hide hr2
          clear hr2
          go_wp2_with fail
          refine (HCL.out j2 i q1 (by omega) (by omega) r2 HR2.out).mono ?_
          rintro e w1 ⟨rfl, q2, rfl⟩
          cases r2 with
          | false =>
            have HF := hide (HD.out.done q2 (HD.out.but.stop HLC.out ((ltPB_no _ _).1 HR2.out)))
            go_wp2
            go_ret
            exact ⟨⟨_, rfl⟩, HF⟩
          | true =>
            go_wp2_with fail
            refine (HCS.out i j2 q2 (by omega) (by omega)).mono ?_
            rintro e w2 ⟨rfl, o2, ho2⟩
            have HNX := hide (HD.out.next HLC.out ((ltPB_iff _ _).1 HR2.out) (by rw [HDL.out]; exact HM.out) o2 (by rw [HDL.out]; exact ho2))
            clear o2 ho2
            go_wp2
            go_roundw
            case rel => exact ⟨j2, _, by omega, rfl, HNX⟩
            case measure => exact meas_down i j2 m (by have := HJ1.out; omega) (by omega)
        | false =>
          have HLC := hide (show LeastChi d m i j1 from least_one HJ1.out h1 (.inr HR1.out) HJ2.out)
          obtain ⟨r2, hr2⟩ : ∃ r, ltPB (atP d j1) (atP d i) = r := ⟨_, rfl⟩
          have HR2 := hide hr2
          clear hr2
          go_wp2_with fail
          refine (HCL.out j1 i q1 (by omega) (by omega) r2 HR2.out).mono ?_
          rintro e w1 ⟨rfl, q2, rfl⟩
          cases r2 with
          | false =>
            have HF := hide (HD.out.done q2 (HD.out.but.stop HLC.out ((ltPB_no _ _).1 HR2.out)))
            go_wp2
            go_ret
            exact ⟨⟨_, rfl⟩, HF⟩
          | true =>
            go_wp2_with fail
            refine (HCS.out i j1 q2 (by omega) (by omega)).mono ?_
            rintro e w2 ⟨rfl, o2, ho2⟩
            have HNX := hide (HD.out.next HLC.out ((ltPB_iff _ _).1 HR2.out) (by rw [HDL.out]; exact HM.out) o2 (by rw [HDL.out]; exact ho2))
            clear o2 ho2
            go_wp2
            go_roundw
            case rel => exact ⟨j1, _, by omega, rfl, HNX⟩
            case measure => exact meas_down i j1 m (by have := HJ1.out; omega) (by omega)
      · have z2 : ¬ (j2 : Int) < m := by omega
        have y2 : decide ((j2 : Int) < (m : Int)) = false := by simp; omega
        clear hj1 hj2
        have HLC := hide (show LeastChi d m i j1 from least_one HJ1.out h1 (.inl (by omega)) HJ2.out)
        obtain ⟨r2, hr2⟩ : ∃ r, ltPB (atP d j1) (atP d i) = r := ⟨_, rfl⟩
        have HR2 := hide hr2
        clear hr2
        go_wp2_with fail
        refine (HCL0.out j1 i (by omega) (by omega) r2 HR2.out).mono ?_
        rintro e w1 ⟨rfl, q2, rfl⟩
        cases r2 with
        | false =>
          have HF := hide (HD.out.done q2 (HD.out.but.stop HLC.out ((ltPB_no _ _).1 HR2.out)))
          go_wp2
          go_ret
          exact ⟨⟨_, rfl⟩, HF⟩
        | true =>
          go_wp2_with fail
          refine (HCS.out i j1 q2 (by omega) (by omega)).mono ?_
          rintro e w2 ⟨rfl, o2, ho2⟩
          have HNX := hide (HD.out.next HLC.out ((ltPB_iff _ _).1 HR2.out) (by rw [HDL.out]; exact HM.out) o2 (by rw [HDL.out]; exact ho2))
          clear o2 ho2
          go_wp2
          go_roundw
          case rel => exact ⟨j1, _, by omega, rfl, HNX⟩
          case measure => exact meas_down i j1 m (by have := HJ1.out; omega) (by omega)
    · have z1 : ¬ (j1 : Int) < m := by omega
      have HF := hide (HD.out.done 0 (HD.out.but.leaf (by omega)))
      clear hj1
      go_wp2
      go_ret
      exact ⟨⟨_, rfl⟩, HF⟩

end Go.Proofs.YtaalbaiglkadlaaGreat

/- Contracts of the pile's own Pop and Push of layer 4. -/
namespace Go.Proofs.YtaalbaiglkadlaaGreat
open Go.RowKit Go.Lib

/-- A node as a value. -/
def nodeV (x : Nat × Int) : Value := .agg #[.int .i64 (x.1 : Int), .int .i64 x.2]

theorem nodeCs_take (d : List (Nat × Int)) (k : Nat) : nodeCs (d.take k) = (nodeCs d).take (k * 2) := by
  induction d generalizing k with
  | nil => simp [nodeCs]
  | cons p d ih =>
    cases k with
    | zero => simp [nodeCs]
    | succ k =>
      rw [List.take_succ_cons, nodeCs_cons, nodeCs_cons, ih, show (k + 1) * 2 = k * 2 + 1 + 1 by omega, List.take_succ_cons, List.take_succ_cons]

theorem own_take {w : World} {B g cap n k : Nat} {e : TypeId} {d : List (Nat × Int)} (h : w.ownsRow B e 2 (.slice (some ⟨g, 0, none⟩) n cap) n (nodeCs d)) (hk : k ≤ n) (hd : d.length = n) : w.ownsRow B e 2 (.slice (some ⟨g, 0, none⟩) k cap) k (nodeCs (d.take k)) := by
  refine ⟨by rw [nodeCs_length, List.length_take]; omega, ?_⟩
  rcases h.2 with ⟨h', _⟩ | ⟨g', cap', cur, h', hb, hg, hn, hm, hc, ht⟩
  · simp at h'
  · simp only [Value.slice.injEq, Option.some.injEq, Addr.mk.injEq, and_true, true_and] at h'
    obtain ⟨rfl, rfl⟩ := h'
    refine .inr ⟨_, _, cur, rfl, hb, hg, by omega, hm, hc, ?_⟩
    rw [nodeCs_take, ← ht, List.take_take]
    congr 1
    omega

/-- The box gets another slice, whose row is there, and new blocks may have come. -/
theorem box_step {W w : World} {B P : Nat} {v0 v v' : Value} {d d' : List (Nat × Int)} (h : PileAt w B P v d) (hs : Step P v0 v W w) (hne : v'.ownBlock ≠ some P)
    (ho : w.ownsRow B 158 2 v' d'.length (nodeCs d')) (hv : v'.ownBlock = v.ownBlock ∨ ∀ k, v'.ownBlock = some k → W.heap.size ≤ k) :
    PileAt (w.setCell ⟨P, 0, none⟩ v') B P v' d' ∧ Step P v0 v' W (w.setCell ⟨P, 0, none⟩ v') := by
  refine ⟨⟨?_, ownsRow_setCell_other ho hne _, hne⟩, hs.os, hs.tape, hs.output, by rw [size_setCell]; exact hs.size, ?_, ?_⟩
  · rw [heap_setCell_same _ _ _ _ _ _ _ h.box]
    rfl
  · intro i hi hp hv2
    rw [Below.heap_setCell _ _ _ _ hp]
    exact hs.block i hi hp hv2
  · rcases hv with e | e
    · rw [e]; exact hs.own
    · exact .inr e

theorem PileAt.alloc {w : World} {B P : Nat} {v : Value} {d : List (Nat × Int)} (h : PileAt w B P v d) (o : Obj) : PileAt (w.alloc o) B P v d :=
  ⟨by rw [heap_alloc_old _ _ _ (Array.getElem?_eq_some_iff.1 h.box).1]; exact h.box, h.own.alloc o, h.ne⟩
theorem Step.alloc {p : Nat} {v v' : Value} {W w : World} (h : Step p v v' W w) (o : Obj) : Step p v v' W (w.alloc o) :=
  ⟨h.os, h.tape, h.output, size_alloc_le h.size, fun k hk hp hv => by rw [heap_alloc_old _ _ _ (Nat.lt_of_lt_of_le hk h.size)]; exact h.block k hk hp hv, h.own⟩
theorem Step.drew {p : Nat} {v v' : Value} {W w : World} (h : Step p v v' W w) : Step p v v' W w.drew := ⟨h.os, h.tape, h.output, h.size, h.block, h.own⟩
theorem PileAt.drew {w : World} {B P : Nat} {v : Value} {d : List (Nat × Int)} (h : PileAt w B P v d) : PileAt w.drew B P v d := ⟨h.box, h.own, h.ne⟩

theorem pop_step {W : World} {B P g n k cap : Nat} {d : List (Nat × Int)} (h : PileAt W B P (.slice (some ⟨g, 0, none⟩) n cap) d) (hd : d.length = n) (hk : k ≤ n) (o : Obj) :
    PileAt ((W.setCell ⟨P, 0, none⟩ (.slice (some ⟨g, 0, none⟩) k cap)).alloc o) B P (.slice (some ⟨g, 0, none⟩) k cap) (d.take k) ∧
    Step P (.slice (some ⟨g, 0, none⟩) n cap) (.slice (some ⟨g, 0, none⟩) k cap) W ((W.setCell ⟨P, 0, none⟩ (.slice (some ⟨g, 0, none⟩) k cap)).alloc o) := by
  have ho := h.own
  rw [hd] at ho
  have hlt : (d.take k).length = k := by rw [List.length_take]; omega
  have hb := box_step (v0 := .slice (some ⟨g, 0, none⟩) n cap) (v' := .slice (some ⟨g, 0, none⟩) k cap) h (Step.refl _ _ _) h.ne (by rw [hlt]; exact own_take ho hk hd) (.inl rfl)
  exact ⟨hb.1.alloc o, hb.2.alloc o⟩

set_option maxRecDepth 20000 in
set_option maxHeartbeats 2000000 in
theorem popm_any (P g n k cap B : Nat) (d : List (Nat × Int)) (W : World) (h : PileAt W B P (.slice (some ⟨g, 0, none⟩) n cap) d) (hd : d.length = n) (hk : k + 1 = n) (hn2 : n ≤ 1024) :
    Calls Tryz.prog 132 #[.pointer (some ⟨P, 0, none⟩)] W fun e w' => e = .returned (.iface 158 (nodeV (atP d k))) ∧ Hid (PileAt w' B P (.slice (some ⟨g, 0, none⟩) k cap) (d.take k)) ∧ Hid (Step P (.slice (some ⟨g, 0, none⟩) n cap) (.slice (some ⟨g, 0, none⟩) k cap) W w') := by
  have hcell := h.cell
  have hfz := h.frozen
  have HR := hide (fun o => pop_step h hd (k := k) (by omega) o)
  have ho := h.own
  rw [hd] at ho
  have hcap : n ≤ cap := own_cap ho
  obtain ⟨c1, c2, _, _⟩ := own_nodeP (j := k) (by rw [hd]; exact ho) (by omega)
  have hPW : P < W.heap.size := (Array.getElem?_eq_some_iff.1 h.box).1
  have hgW : g < W.heap.size := (ho.lt g rfl).2
  have e1 : (n : Int) - 1 = (k : Int) := by omega
  have z1 : (k : Int) < n := by omega
  have z2 : (k : Int) ≤ cap := by omega
  have hPn : P ≠ W.heap.size := by omega
  have hgn : g ≠ W.heap.size := by omega
  have HV := hide (show nodeV (atP d k) = .agg #[.int .i64 ((atP d k).1 : Int), .int .i64 (atP d k).2] from rfl)
  generalize atP d k = x at *
  obtain ⟨a, u⟩ := x
  dsimp only at c1 c2 HV
  clear h ho hd hk
  go_enter Tryz.func132, Tryz.ntmps132
  go_wp2
  go_ret
  exact ⟨rfl, hide (HR.out _).1, hide (HR.out _).2⟩

theorem Tryz.infoPile : (Tryz.prog.info? 158).map (fun i => (i.zero, i.size, i.bytes)) = some (some (.agg #[.int .i64 0, .int .i64 0]), 2, 16) := by kernel_rfl

theorem node_assert (v : Value) (w : World) : (Instr.typeAssert (.iface 158 v) 20 158 false).run Tryz.prog w = .ok v w := by kernel_rfl

theorem push_box {w1 w2 : World} {B P : Nat} {v : Value} {d : List (Nat × Int)} (h : PileAt w1 B P v d) (hg : w1.grownBy w2 v.ownBlock) : w2.heap[P]? = some (.cells #[v] 149 (0, 0)) := by
  rw [hg.block P (Array.getElem?_eq_some_iff.1 h.box).1 (fun e => h.ne e.symm)]
  exact h.box
theorem box_cell {w : World} {P : Nat} {v : Value} (h : w.heap[P]? = some (.cells #[v] 149 (0, 0))) : w.cell? ⟨P, 0, none⟩ = some v ∧ w.frozen? ⟨P, 0, none⟩ = false := by
  refine ⟨?_, by simp [World.frozen?, h]⟩
  rw [cell_of_row _ _ 0 _ _ (0, 0) h]
  rfl

theorem push_step {W w1 w2 : World} {B P n g cap : Nat} {v : Value} {d : List (Nat × Int)} {x : Nat × Int} (h : PileAt w1 B P v d) (hs : Step P v v W w1) (hd : d.length = n)
    (ho : w2.ownsRow B 158 2 (.slice (some ⟨g, 0, none⟩) (n + 1) cap) (n + 1) (nodeCs d ++ [.int .i64 (x.1 : Int), .int .i64 x.2])) (hg : w1.grownBy w2 v.ownBlock) (hv : v.ownBlock = some g ∨ g = w1.heap.size) :
    PileAt (w2.setCell ⟨P, 0, none⟩ (.slice (some ⟨g, 0, none⟩) (n + 1) cap)) B P (.slice (some ⟨g, 0, none⟩) (n + 1) cap) (d ++ [x]) ∧ Step P v (.slice (some ⟨g, 0, none⟩) (n + 1) cap) W (w2.setCell ⟨P, 0, none⟩ (.slice (some ⟨g, 0, none⟩) (n + 1) cap)) := by
  have hP := (Array.getElem?_eq_some_iff.1 h.box).1
  have hne : (Value.slice (some ⟨g, 0, none⟩) (n + 1) cap).ownBlock ≠ some P := by
    intro e
    have e2 : g = P := by injection e
    rcases hv with e3 | e3
    · exact h.ne (by rw [e3, e2])
    · omega
  refine ⟨⟨?_, ?_, hne⟩, hg.os.trans hs.os, hg.tape.trans hs.tape, hg.output.trans hs.output, ?_, ?_, ?_⟩
  · rw [heap_setCell_same _ _ _ _ _ _ _ (push_box h hg)]
    rfl
  · have hl : (d ++ [x]).length = n + 1 := by rw [List.length_append, hd]; rfl
    rw [hl, nodeCs_append]
    exact ownsRow_setCell_other ho hne _
  · rw [size_setCell]
    exact Nat.le_trans hs.size hg.size
  · intro k hk hp hv2
    rw [Below.heap_setCell _ _ _ _ hp, hg.block k (Nat.lt_of_lt_of_le hk hs.size) hv2]
    exact hs.block k hk hp hv2
  · rcases hv with e | e
    · exact .inl e.symm
    · refine .inr fun k hk => ?_
      have e2 : g = k := by injection hk
      have := hs.size
      omega

theorem at_alloc {w : World} {o : Obj} {v : Value} {g : Nat} (h : v.ownBlock = some g ∨ g = w.heap.size + 1) : v.ownBlock = some g ∨ g = (w.drew.alloc o).heap.size := by
  rcases h with h | h
  · exact .inl h
  · right
    rw [h]
    show w.heap.size + 1 = (w.heap.push o).size
    simp

set_option maxRecDepth 20000 in
set_option maxHeartbeats 2000000 in
theorem pushm_any (P n cap B : Nat) (a : Option Addr) (d : List (Nat × Int)) (x : Nat × Int) (W : World) (h : PileAt W B P (.slice a n cap) d) (hd : d.length = n) (hn2 : n ≤ 1023) (hB : B ≤ W.heap.size) :
    Calls Tryz.prog 133 #[.pointer (some ⟨P, 0, none⟩), .iface 158 (nodeV x)] W fun e w' => e = .returned (.tuple #[]) ∧ ∃ g cap', Hid (PileAt w' B P (.slice (some ⟨g, 0, none⟩) (n + 1) cap') (d ++ [x])) ∧ Hid (Step P (.slice a n cap) (.slice (some ⟨g, 0, none⟩) (n + 1) cap') W w') := by
  obtain ⟨i1, ki, kz0, kz1, kz2⟩ := info_parts Tryz.infoPile
  have hcell := h.cell
  have hfz := h.frozen
  have ho := h.own
  rw [hd] at ho
  have HH := hide h
  obtain ⟨x1, x2⟩ := x
  unfold nodeV
  have hPW : P < W.heap.size := (Array.getElem?_eq_some_iff.1 h.box).1
  have hPn : P ≠ W.heap.size := by omega
  have X1 : n + 1 ≤ maxLen := by unfold maxLen; omega
  have X2 : (n + 1) * 16 ≤ 140737488355328 := by omega
  have HO := hide ho
  have HX1 := hide X1
  have HX2 := hide X2
  have hta := node_assert
  have HD := hide hd
  clear ho h X1 X2 hd
  go_enter Tryz.func133, Tryz.ntmps133
  go_wp2_with fail
  have HP1 := hide (fun o => (HH.out.drew.alloc o : PileAt (W.drew.alloc o) B P _ d))
  have HS1 := hide (fun o => ((Step.refl P (.slice a n cap) W).drew.alloc o))
  go_region_law ((refine step_append_lies _ (by rfl) (.tmp 7) (.tmp 10) 149 (by rfl) B 158 i1 (.agg #[.int .i64 0, .int .i64 0]) 2 16 Tryz.underlying149 ki kz0 kz1 kz2 rfl (by decide) (.slice a n cap) n (nodeCs d) (by rfl) (HO.out.drew.alloc _) ⟨W.heap.size, 0, none⟩ 1 1 [.int .i64 (x1 : Int), .int .i64 x2] (by rfl) rfl (cell_two_new _ _ _ _) (fun x hx => by simp at hx; rcases hx with rfl | rfl <;> rfl) (by decide) HX1.out HX2.out (size_alloc_le hB) (W.heap.size + 1) (by simp) ?_; intro g cap' w1 hown hgrow hat hlt; obtain ⟨_c, _f⟩ := box_cell (push_box (HP1.out _) hgrow); have HF := hide (push_step (x := (x1, x2)) (HP1.out _) (HS1.out _) HD.out hown hgrow (at_alloc hat)); clear hown hgrow hat hlt))
  all_goals
    go_end0
    exact ⟨rfl, g, cap', hide HF.out.1, hide HF.out.2⟩

end Go.Proofs.YtaalbaiglkadlaaGreat

/- Contract of container/heap's 'up' over the pile of layer 4. -/
namespace Go.Proofs.YtaalbaiglkadlaaGreat
open Go.RowKit Go.Lib

/-- The way up, at j. -/
structure Ups (w W : World) (B P g n cap : Nat) (d0 d : List (Nat × Int)) (j : Nat) : Prop where
  pile : PileAt w B P (.slice (some ⟨g, 0, none⟩) n cap) d
  only : Only g W w
  perm : d.Perm d0
  up : HpUp d n j

def Upped (w W : World) (B P g n cap : Nat) (d0 : List (Nat × Int)) : Prop :=
  ∃ d, PileAt w B P (.slice (some ⟨g, 0, none⟩) n cap) d ∧ Only g W w ∧ d.Perm d0 ∧ HpFrom d 0 n

theorem Ups.form {w W : World} {B P g n cap : Nat} {d0 d : List (Nat × Int)} {j : Nat} (h : Ups w W B P g n cap d0 d j) (hn : d0.length = n) : d.length = n ∧ w.ownsRow B 158 2 (.slice (some ⟨g, 0, none⟩) n cap) n (nodeCs d) := by
  have hl : d.length = n := by rw [h.perm.length_eq]; exact hn
  refine ⟨hl, ?_⟩
  have := h.pile.own
  rw [hl] at this
  exact this

theorem Ups.done {w W : World} {B P g n cap : Nat} {d0 d : List (Nat × Int)} {j : Nat} (h : Ups w W B P g n cap d0 d j) (q : Nat) (hp : HpFrom d 0 n) : Upped (w.drewN q) W B P g n cap d0 :=
  ⟨d, h.pile.drewN q, h.only.trans (Only.drewN _ _ _), h.perm, hp⟩

theorem Ups.next {w w2 W : World} {B P g n cap : Nat} {d0 d : List (Nat × Int)} {i j q : Nat} (h : Ups w W B P g n cap d0 d j) (hi : Chi i j) (hj : j < n) (hl : ltP (atP d j) (atP d i)) (hn : d.length = n)
    (o : Only g (w.drewN q) w2) (ho : w2.ownsRow B 158 2 (.slice (some ⟨g, 0, none⟩) n cap) d.length (nodeCs (swp d i j))) : Ups w2 W B P g n cap d0 (swp d i j) i := by
  have hij : i < j := by unfold Chi at hi; omega
  exact ⟨(h.pile.drewN q).turned o (swp_length _ _ _) ho, h.only.trans ((Only.drewN _ _ _).trans o), (swp_perm d i j (by omega) (by omega)).trans h.perm, h.up.step hi hj hl (by omega)⟩

theorem meas_up (i j : Nat) (h : i < j) : (intOf (.int .i64 (i : Int))).toNat < (intOf (.int .i64 (j : Int))).toNat := by
  show ((i : Nat) : Int).toNat < ((j : Nat) : Int).toNat
  omega

theorem par_quo (j i : Nat) (h : j = 2 * i + 1 ∨ j = 2 * i + 2) (hj : j ≤ 1024) : ((j : Int) - 1).tdiv 2 = (i : Int) ∧ ((j : Int) - 1) / 2 = (i : Int) := by
  constructor
  · rw [Int.tdiv_eq_ediv_of_nonneg (by omega)]; omega
  · omega

set_option maxRecDepth 20000 in
set_option maxHeartbeats 4000000 in
theorem up_any (P g n cap B j0 : Nat) (d0 : List (Nat × Int)) (W : World) (h0 : PileAt W B P (.slice (some ⟨g, 0, none⟩) n cap) d0) (hn : d0.length = n) (hn2 : n ≤ 1024) (hj0 : j0 < n) (hp : HpUp d0 n j0) :
    Calls Tryz.prog 112 #[.iface 156 (.pointer (some ⟨P, 0, none⟩)), .int .i64 (j0 : Int)] W fun e w' => e = .returned (.tuple #[]) ∧ Hid (Upped w' W B P g n cap d0) := by
  have HS := hide (show Ups W W B P g n cap d0 d0 j0 from ⟨h0, Only.refl _ _, List.Perm.refl _, hp⟩)
  have HN := hide hn
  clear h0 hp hn
  go_enter Tryz.func112, Tryz.ntmps112
  go_wp2
  go_loopw [1] (fun jv wr => ∃ (j : Nat) (d : List (Nat × Int)), j < n ∧ jv = .int .i64 j ∧ Hid (Ups wr W B P g n cap d0 d j)) (fun jv _ => (intOf jv).toNat)
  case atStart => exact ⟨j0, d0, hj0, rfl, HS⟩
  case round =>
    obtain ⟨j, d, hj, rfl, HD⟩ := hrel
    by_cases h1 : j = 0
    · subst h1
      have HF := hide (HD.out.done 0 HD.out.up.top)
      go_wp2
      go_end0
      exact ⟨rfl, HF⟩
    · obtain ⟨hdl, hown⟩ := HD.out.form HN.out
      have hml : (method 283 156 (.pointer (some ⟨P, 0, none⟩)) "Less").run Tryz.prog wr = .ok (130, .slice (some ⟨g, 0, none⟩) n cap) wr := meth_less P _ _ HD.out.pile.cell
      have hms : ∀ q, (method 283 156 (.pointer (some ⟨P, 0, none⟩)) "Swap").run Tryz.prog (wr.drewN q) = .ok (131, .slice (some ⟨g, 0, none⟩) n cap) (wr.drewN q) := fun q => meth_swap P _ _ (HD.out.pile.drewN q).cell
      have HDL := hide hdl
      obtain ⟨i, hi⟩ : ∃ i, j = 2 * i + 1 ∨ j = 2 * i + 2 := ⟨(j - 1) / 2, by omega⟩
      have HCH := hide (show Chi i j from hi)
      obtain ⟨e1, e2⟩ := par_quo j i hi (by omega)
      have hij : i < j := by omega
      have b1 : ((i : Int) == (j : Int)) = false := by simp; omega
      have HCL := hide (fun (r : Bool) (hr : ltPB (atP d j) (atP d i) = r) => less_any g n cap B d j i wr hdl hown hj (by omega) r hr)
      have HCS := hide (fun (q : Nat) => swap_any g n cap B d i j (wr.drewN q) hdl hown (by omega) hj)
      clear hdl hown hi
      have z1 : (1 : Int) ≤ j := by omega
      have z2 : (j : Int) ≤ 1024 := by omega
      have w1 : IntKind.i64.wrap ((j : Int) - 1) = (j : Int) - 1 := by rw [IntKind.wrap_i64]; omega
      obtain ⟨r2, hr2⟩ : ∃ r, ltPB (atP d j) (atP d i) = r := ⟨_, rfl⟩
      have HR2 := hide hr2
      clear hr2
      go_wp2_with fail
      refine (HCL.out r2 HR2.out).mono ?_
      rintro e w1 ⟨rfl, q2, rfl⟩
      cases r2 with
      | false =>
        have HF := hide (HD.out.done q2 (HD.out.up.stop HCH.out ((ltPB_no _ _).1 HR2.out)))
        go_wp2
        go_end0
        exact ⟨rfl, HF⟩
      | true =>
        go_wp2_with fail
        refine (HCS.out q2).mono ?_
        rintro e w2 ⟨rfl, o2, ho2⟩
        have HNX := hide (HD.out.next HCH.out hj ((ltPB_iff _ _).1 HR2.out) HDL.out o2 (by rw [HDL.out]; exact ho2))
        clear o2 ho2
        go_wp2
        go_roundw
        case rel => exact ⟨i, _, by omega, rfl, HNX⟩
        case measure => exact meas_up i j hij

end Go.Proofs.YtaalbaiglkadlaaGreat

/- What a pile's process comes to: nodes and their parents, and how deep they lie, as plain rows. Nothing of the program is named here. -/
namespace Go.Proofs.YtaalbaiglkadlaaGreat

/-- A node that is left, as the pile has it. -/
def prP (g : Gr) : Nat × Int := (g.w, (g.id : Int))

theorem lt_of_ahead {x y : Gr} (h : ahead x y) : ltP (prP x) (prP y) := by
  unfold ahead at h
  unfold ltP prP
  dsimp only
  omega

/-- The pile's top is the first in order. -/
theorem pile_top {d : List (Nat × Int)} {a : Gr} {r : List Gr} (hord : Ord (a :: r)) (hp : d.Perm ((a :: r).map prP)) (hh : HpFrom d 0 d.length) : atP d 0 = prP a := by
  have hl : 0 < d.length := by rw [hp.length_eq]; simp
  have hm : prP a ∈ d := hp.mem_iff.2 (by simp)
  obtain ⟨k, hk, hke⟩ := List.getElem_of_mem hm
  have e1 : atP d k = prP a := atP_of (by rw [List.getElem?_eq_getElem hk, hke])
  have h1 := hh.least k hk
  rw [e1] at h1
  have h2 : atP d 0 ∈ d := List.mem_of_getElem? (atP_some hl)
  obtain ⟨g, hg, hge⟩ := List.mem_map.1 (hp.mem_iff.1 h2)
  rw [← hge] at h1 ⊢
  rcases List.mem_cons.1 hg with e | e
  · rw [e]
  · exact absurd (lt_of_ahead ((List.pairwise_cons.1 hord).1 g e)) h1

theorem atP_take {d : List (Nat × Int)} {n k : Nat} (h : k < n) : atP (d.take n) k = atP d k := by
  unfold atP
  rw [List.getD_eq_getElem?_getD, List.getD_eq_getElem?_getD, List.getElem?_take, if_pos h]

theorem hp_take {d : List (Nat × Int)} {n : Nat} (h : HpFrom d 0 n) (hn : n ≤ d.length) : HpFrom (d.take n) 0 (d.take n).length := by
  have hl : (d.take n).length = n := by rw [List.length_take]; omega
  rw [hl]
  intro k c hk hc hcn
  have hc2 := hc
  unfold Chi at hc2
  rw [atP_take hcn, atP_take (by omega)]
  exact h k c hk hc hcn

/-- What is left behind a change of the top and the last, a way down, and the last taken off. -/
theorem pop_perm {d d2 : List (Nat × Int)} {n : Nat} (hd : d.length = n + 1) (k : Kept n (swp d 0 n) d2) : atP d2 n = atP d 0 ∧ d.Perm (atP d 0 :: d2.take n) := by
  have h1 : atP d2 n = atP d 0 := by rw [k.rest n (Nat.le_refl _), swp_at d 0 n n (by omega) (by omega), if_pos rfl]
  have hl : d2.length = n + 1 := by rw [k.len, swp_length, hd]
  have e : d2 = d2.take n ++ [atP d2 n] := by
    have h2 := List.take_add_one (l := d2) (i := n)
    rw [atP_some (by omega), List.take_of_length_le (by omega)] at h2
    exact h2
  refine ⟨h1, (swp_perm d 0 n (by omega) (by omega)).symm.trans (k.perm.symm.trans ?_)⟩
  refine (List.Perm.of_eq e).trans ?_
  rw [← h1]
  exact List.perm_append_singleton _ _

/-- Each node's parent, 0 of one without. -/
def parOf (all : List (Nat × Int)) : List Nat := all.map fun p => p.2.toNat

theorem parOf_length (all : List (Nat × Int)) : (parOf all).length = all.length := by simp [parOf]
theorem parOf_get {all : List (Nat × Int)} {i w : Nat} {u : Int} (h : all[i]? = some (w, u)) : (parOf all).getD i 0 = u.toNat := by
  unfold parOf
  rw [List.getD_eq_getElem?_getD, List.getElem?_map, h]
  rfl

/-- The pile, the nodes and their parents, while nodes are put together. -/
structure PSim (ws : List Nat) (d : List (Nat × Int)) (all : List (Nat × Int)) (live : List Gr) (n : Nat) (dd : Nat → Nat) : Prop where
  sim : Sim ws (leafL ws 0) (live.map (·.id)) all live n dd
  run : huff (live.length - 1) live n dd = dep ws
  num : all.length + live.length = 2 * cntL ws
  syms : (symsOf live).Perm (stand ws 0)
  up : ∀ (i w : Nat) (u : Int), all[i]? = some (w, u) → (u = -1 ∧ ∃ g ∈ live, g.id = i) ∨ ((i : Int) < u ∧ u < n)
  last : live ≠ [] → ∃ g ∈ live, g.id + 1 = n
  pile : d.Perm (live.map prP)
  hp : HpFrom d 0 d.length

theorem stepAll_par {ws : List Nat} {leaf : List Int} {left : List Nat} {all : List (Nat × Int)} {a b : Gr} {r : List Gr} {n : Nat} {d : Nat → Nat} (h : Sim ws leaf left all (a :: b :: r) n d) :
    parOf (stepAll all a.id b.id) = (((parOf all).set a.id n).set b.id n) ++ [0] := by
  have hla := h.st.lt a List.mem_cons_self
  have hlb := h.st.lt b (List.mem_cons_of_mem _ List.mem_cons_self)
  have e := (h.step (l2 := r.map (·.id)) (List.Perm.refl _)).2
  rw [e]
  unfold parOf
  rw [List.map_set, List.map_set, List.map_append]
  have hl : (all.map fun p => p.2.toNat).length = n := by rw [List.length_map]; exact h.len
  generalize (all.map fun p => p.2.toNat) = L at *
  show ((L ++ [0]).set a.id ((n : Int)).toNat).set b.id ((n : Int)).toNat = _
  rw [Int.toNat_natCast, List.set_append_left _ _ (by omega), List.set_append_left _ _ (by rw [List.length_set]; omega)]

theorem PSim.step {ws : List Nat} {d d2 all : List (Nat × Int)} {a b : Gr} {r : List Gr} {n : Nat} {dd : Nat → Nat} (h : PSim ws d all (a :: b :: r) n dd) (hp : d2.Perm ((a.w + b.w, (n : Int)) :: r.map prP)) (hh : HpFrom d2 0 d2.length) :
    PSim ws d2 (stepAll all a.id b.id) (ins ⟨a.w + b.w, n, a.ss ++ b.ss⟩ r) (n + 1) (bump (a.ss ++ b.ss) dd) := by
  have hs := h.sim.step (l2 := r.map (·.id)) (List.Perm.refl _)
  have hpi := ins_perm ⟨a.w + b.w, n, a.ss ++ b.ss⟩ r
  have hla := h.sim.st.lt a List.mem_cons_self
  have hlb := h.sim.st.lt b (List.mem_cons_of_mem _ List.mem_cons_self)
  have hlen := h.sim.len
  have hs1 := hs.1
  refine ⟨⟨hs1.st, hs1.len, List.Perm.refl _, hs1.node, hs1.leafLen, hs1.reach, hs1.sum, hs1.nd⟩, ?_, ?_, ?_, ?_, ?_, ?_, hh⟩
  · rw [← h.run, ins_length]
    rfl
  · have h1 := h.num
    have h2 := hs1.len
    rw [h2, ins_length]
    simp only [List.length_cons] at h1
    omega
  · refine (symsOf_perm hpi).trans ?_
    rw [syms_step]
    exact h.syms
  · intro i w u hi
    rw [hs.2, List.getElem?_set] at hi
    by_cases e1 : b.id = i
    · rw [if_pos e1, if_pos (by simp; omega)] at hi
      injection hi with hi
      injection hi with _ hi
      right
      omega
    · rw [if_neg e1, List.getElem?_set] at hi
      by_cases e2 : a.id = i
      · rw [if_pos e2, if_pos (by simp; omega)] at hi
        injection hi with hi
        injection hi with _ hi
        right
        omega
      · rw [if_neg e2] at hi
        by_cases e3 : i < n
        · rw [List.getElem?_append_left (by omega)] at hi
          rcases h.up i w u hi with ⟨h1, g, hg, hgi⟩ | h1
          · refine .inl ⟨h1, g, hpi.mem_iff.2 (List.mem_cons_of_mem _ ?_), hgi⟩
            rcases List.mem_cons.1 hg with e | hg
            · exact absurd (by rw [← e]; exact hgi) e2
            · rcases List.mem_cons.1 hg with e | hg
              · exact absurd (by rw [← e]; exact hgi) e1
              · exact hg
          · right
            omega
        · have hi2 := (List.getElem?_eq_some_iff.1 hi).1
          simp only [List.length_append, List.length_cons, List.length_nil] at hi2
          have e4 : i = n := by omega
          rw [List.getElem?_append_right (by omega), show i - all.length = 0 by omega] at hi
          simp only [List.getElem?_cons_zero, Option.some.injEq, Prod.mk.injEq] at hi
          exact .inl ⟨hi.2.symm, ⟨a.w + b.w, n, a.ss ++ b.ss⟩, hpi.mem_iff.2 List.mem_cons_self, e4.symm⟩
  · intro _
    exact ⟨⟨a.w + b.w, n, a.ss ++ b.ss⟩, hpi.mem_iff.2 List.mem_cons_self, rfl⟩
  · refine hp.trans ?_
    exact (hpi.map prP).symm

/-! ### The beginning -/
theorem leaves_get (ws : List Nat) : ∀ (a n i : Nat), (leaves ws a n)[i]? = ((stand ws a)[i]?).map fun s => ⟨ws.getD (s - a) 0, n + i, [s]⟩ := by
  induction ws with
  | nil => intro a n i; simp [leaves, stand]
  | cons w ws ih =>
    intro a n i
    have key : ∀ (m q : Nat), ((stand ws (a + 1))[q]?).map (fun s => (⟨ws.getD (s - (a + 1)) 0, m, [s]⟩ : Gr)) = ((stand ws (a + 1))[q]?).map fun s => ⟨(w :: ws).getD (s - a) 0, m, [s]⟩ := by
      intro m q
      cases hq : (stand ws (a + 1))[q]? with
      | none => rfl
      | some s =>
        have hs := (stand_mem ws (a + 1) s).1 (List.mem_of_getElem? hq)
        have e : s - a = (s - (a + 1)) + 1 := by omega
        simp only [Option.map_some, e, List.getD_cons_succ]
    unfold leaves stand
    by_cases h : w = 0
    · rw [if_pos h, if_pos h, ih (a + 1) n i, key]
    · rw [if_neg h, if_neg h]
      cases i with
      | zero => simp
      | succ i =>
        rw [List.getElem?_cons_succ, List.getElem?_cons_succ, ih (a + 1) (n + 1) i, key, show n + 1 + i = n + (i + 1) by omega]

/-- The first j leaves, as the pile has them. -/
def nodesL (ws : List Nat) (j : Nat) : List (Nat × Int) := (List.range j).map fun i => (ws.getD ((stand ws 0).getD i 0) 0, (i : Int))

theorem nodesL_length (ws : List Nat) (j : Nat) : (nodesL ws j).length = j := by simp [nodesL]
theorem nodesL_snoc (ws : List Nat) (j : Nat) : nodesL ws (j + 1) = nodesL ws j ++ [(ws.getD ((stand ws 0).getD j 0) 0, (j : Int))] := by
  unfold nodesL
  rw [List.range_succ, List.map_append]
  rfl

theorem leaves_pr (ws : List Nat) : (leaves ws 0 0).map prP = nodesL ws (cnt ws) := by
  apply List.ext_getElem?
  intro i
  rw [List.getElem?_map, leaves_get ws 0 0 i]
  unfold nodesL
  by_cases h : i < cnt ws
  · have h2 : i < (stand ws 0).length := h
    rw [List.getElem?_map, List.getElem?_range h, List.getElem?_eq_getElem h2]
    simp only [Option.map_some, prP, Nat.sub_zero, Nat.zero_add, Option.some.injEq, Prod.mk.injEq, and_true]
    rw [List.getD_eq_getElem?_getD (l := stand ws 0), List.getElem?_eq_getElem h2]
    rfl
  · rw [List.getElem?_eq_none (by show cnt ws ≤ i; omega), List.getElem?_eq_none (by simp; omega)]
    rfl

theorem PSim.begin {ws : List Nat} {d : List (Nat × Int)} (hd : d.Perm (nodesL ws (cnt ws))) (hh : HpFrom d 0 d.length) : PSim ws d (allL ws) (live0 ws) (cnt ws) fun _ => 0 := by
  have hc : cnt ws = cntL ws := cntL_cnt ws 0
  have hb := Sim.begin ws
  rw [← hc] at hb
  have hids : ((live0 ws).map (·.id)).Perm (List.range (cnt ws)) := hb.perm.symm
  refine ⟨⟨hb.st, hb.len, List.Perm.refl _, hb.node, hb.leafLen, hb.reach, hb.sum, hb.nd⟩, ?_, ?_, live0_syms ws, ?_, ?_, ?_, hh⟩
  · rw [live0_length]
    rfl
  · rw [allL_length, live0_length]
    omega
  · intro i w u hi
    left
    have hi2 := (List.getElem?_eq_some_iff.1 hi).1
    rw [allL_length, ← hc] at hi2
    have hm := hids.mem_iff.2 (List.mem_range.2 hi2)
    obtain ⟨g, hg, hgi⟩ := List.mem_map.1 hm
    refine ⟨?_, g, hg, hgi⟩
    have h1 := hb.node g hg
    have e : g.id = i := hgi
    rw [e, hi] at h1
    injection h1 with h1
    injection h1
  · intro hne
    have hl := live0_length ws
    have hpos : 0 < (live0 ws).length := List.length_pos_iff.2 hne
    have hm := hids.mem_iff.2 (List.mem_range.2 (show cnt ws - 1 < cnt ws by omega))
    obtain ⟨g, hg, hgi⟩ := List.mem_map.1 hm
    have e : g.id = cnt ws - 1 := hgi
    exact ⟨g, hg, by omega⟩
  · refine hd.trans ?_
    rw [← leaves_pr]
    exact ((live0_perm ws).map prP).symm

theorem parOf_begin (ws : List Nat) : parOf (allL ws) = List.replicate (cnt ws) 0 := by
  have hc : cnt ws = cntL ws := cntL_cnt ws 0
  rw [hc]
  apply List.eq_replicate_iff.2
  refine ⟨by rw [parOf_length, allL_length], fun b hb => ?_⟩
  obtain ⟨p, hp, rfl⟩ := List.mem_map.1 hb
  obtain ⟨w, _, rfl⟩ := List.mem_map.1 hp
  rfl

/-! ### The end -/
/-- Each node but the last went into a later one. -/
def ParOk (par : List Nat) : Prop := ∀ x, x + 1 < par.length → x < par.getD x 0 ∧ par.getD x 0 < par.length

/-- How deep the nodes from i on lie. -/
structure DpOk (par D : List Nat) (i : Nat) : Prop where
  len : D.length = par.length
  bnd : ∀ x, x < D.length → D.getD x 0 + x + 1 ≤ D.length
  eqn : ∀ x, i ≤ x → x + 1 < D.length → D.getD x 0 = D.getD (par.getD x 0) 0 + 1
  zero : D.getD (D.length - 1) 0 = 0

theorem getD_set (l : List Nat) (i j v : Nat) (h : i < l.length) : (l.set i v).getD j 0 = if i = j then v else l.getD j 0 := by
  rw [List.getD_eq_getElem?_getD, List.getElem?_set]
  by_cases e : i = j
  · rw [if_pos e, if_pos h, if_pos e]; rfl
  · rw [if_neg e, if_neg e, ← List.getD_eq_getElem?_getD]

theorem DpOk.begin (par : List Nat) : DpOk par (List.replicate par.length 0) (par.length - 1) := by
  have e : ∀ x, (List.replicate par.length 0).getD x 0 = 0 := by
    intro x
    rw [List.getD_eq_getElem?_getD, List.getElem?_replicate]
    split <;> rfl
  refine ⟨List.length_replicate, fun x hx => ?_, fun x h1 h2 => ?_, e _⟩
  · rw [e]; omega
  · rw [List.length_replicate] at h2; omega

theorem DpOk.step {par D : List Nat} {i : Nat} (h : DpOk par D (i + 1)) (hp : ParOk par) (hi : i + 1 < par.length) : DpOk par (D.set i (D.getD (par.getD i 0) 0 + 1)) i := by
  have hl := h.len
  obtain ⟨p1, p2⟩ := hp i hi
  have b1 := h.bnd (par.getD i 0) (by omega)
  have S := fun j => getD_set D i j (D.getD (par.getD i 0) 0 + 1) (by omega)
  refine ⟨by rw [List.length_set]; exact hl, fun x hx => ?_, fun x h1 h2 => ?_, ?_⟩
  · rw [List.length_set] at hx ⊢
    rw [S x]
    by_cases e : i = x
    · rw [if_pos e]; omega
    · rw [if_neg e]; exact h.bnd x hx
  · rw [List.length_set] at h2
    have hpx := hp x (by omega)
    rw [S x, S (par.getD x 0), if_neg (show ¬ i = par.getD x 0 by omega)]
    by_cases e : i = x
    · rw [if_pos e, e]
    · rw [if_neg e]; exact h.eqn x (by omega) h2
  · rw [List.length_set, S, if_neg (by omega)]
    exact h.zero

theorem dp_reach {all : List (Nat × Int)} {D : List Nat} (hp : ∀ (i w : Nat) (u : Int), all[i]? = some (w, u) → u = -1 ∨ ((i : Int) < u ∧ u < all.length)) (hd : DpOk (parOf all) D 0) :
    ∀ (k i : Nat), Reach all k i (all.length - 1) → D.getD i 0 = k
  | 0, i, h => by
    have e : i = all.length - 1 := h
    have h2 := hd.zero
    rw [hd.len, parOf_length] at h2
    rw [e]
    exact h2
  | k + 1, i, h => by
    obtain ⟨w, j, h1, h2⟩ := h
    have h3 := dp_reach hp hd k j h2
    have h4 := hp i w j h1
    have h5 : (parOf all).getD i 0 = j := by rw [parOf_get h1]; exact Int.toNat_natCast j
    have h6 := hd.eqn i (Nat.zero_le _) (by rw [hd.len, parOf_length]; omega)
    rw [h5, h3] at h6
    exact h6

theorem stand_leaf (ws : List Nat) : ∀ (a n i s : Nat), (stand ws a)[i]? = some s → a ≤ s ∧ (leafL ws n)[s - a]? = some ((n + i : Nat) : Int) := by
  induction ws with
  | nil => intro a n i s h; simp [stand] at h
  | cons w ws ih =>
    intro a n i s h
    unfold stand at h
    unfold leafL
    by_cases hw : w = 0
    · rw [if_pos hw] at h ⊢
      obtain ⟨h1, h2⟩ := ih (a + 1) n i s h
      refine ⟨by omega, ?_⟩
      rw [show s - a = (s - (a + 1)) + 1 by omega, List.getElem?_cons_succ]
      exact h2
    · rw [if_neg hw] at h ⊢
      cases i with
      | zero =>
        simp only [List.getElem?_cons_zero, Option.some.injEq] at h
        subst h
        refine ⟨Nat.le_refl _, ?_⟩
        rw [Nat.sub_self]
        rfl
      | succ i =>
        rw [List.getElem?_cons_succ] at h
        obtain ⟨h1, h2⟩ := ih (a + 1) (n + 1) i s h
        refine ⟨by omega, ?_⟩
        rw [show s - a = (s - (a + 1)) + 1 by omega, List.getElem?_cons_succ, h2]
        congr 2
        omega

/-- All put together. -/
structure ParEnd (ws par : List Nat) : Prop where
  len : par.length ≤ 2 * cnt ws ∧ cnt ws ≤ par.length
  ok : ParOk par
  deep : ∀ D, DpOk par D 0 → ∀ i s, (stand ws 0)[i]? = some s → D.getD i 0 = dep ws s

theorem PSim.finish {ws : List Nat} {d all : List (Nat × Int)} {live : List Gr} {n : Nat} {dd : Nat → Nat} (h : PSim ws d all live n dd) (hl : live.length ≤ 1) : ParEnd ws (parOf all) := by
  have hc : cnt ws = cntL ws := cntL_cnt ws 0
  have hn := h.num
  have hlen := h.sim.len
  have hone : ∀ g ∈ live, live = [g] ∧ g.id + 1 = n := by
    intro g hg
    have hpos : 0 < live.length := List.length_pos_of_mem hg
    obtain ⟨g', hg'⟩ := List.length_eq_one_iff.1 (show live.length = 1 by omega)
    rw [hg'] at hg
    have e : g = g' := by simpa using hg
    obtain ⟨g2, h2, h3⟩ := h.last (by rw [hg']; simp)
    rw [hg'] at h2
    have e2 : g2 = g' := by simpa using h2
    rw [hg', e]
    rw [e2] at h3
    exact ⟨rfl, h3⟩
  refine ⟨⟨by rw [parOf_length]; omega, ?_⟩, ?_, ?_⟩
  · rw [parOf_length]
    have hll : live.length ≤ cnt ws := by
      by_cases h0 : live = []
      · rw [h0]; exact Nat.zero_le _
      · have : 0 < live.length := List.length_pos_iff.2 h0
        omega
    omega
  · intro x hx
    rw [parOf_length] at hx ⊢
    have hxs : ∃ w u, all[x]? = some (w, u) := ⟨_, _, List.getElem?_eq_getElem (show x < all.length by omega)⟩
    obtain ⟨w, u, hxs⟩ := hxs
    rw [parOf_get hxs]
    rcases h.up x w u hxs with ⟨_, g, hg, hgx⟩ | h1
    · have := (hone g hg).2
      omega
    · omega
  · intro D hD i s hs
    have hsm : s ∈ stand ws 0 := List.mem_of_getElem? hs
    have hm : s ∈ symsOf live := h.syms.mem_iff.2 hsm
    obtain ⟨g, hg, hgj⟩ := List.mem_flatMap.1 hm
    obtain ⟨h1, h2⟩ := hone g hg
    have hd : dd = dep ws := by
      have := h.run
      rw [h1] at this
      exact this
    obtain ⟨li, h3, h4⟩ := h.sim.reach g hg s hgj
    have h5 := (stand_leaf ws 0 0 i s hs).2
    rw [Nat.sub_zero, h3] at h5
    injection h5 with h5
    have e : li = i := by omega
    rw [e, hd] at h4
    refine dp_reach (fun x w u hx => ?_) hD _ _ ?_
    · rcases h.up x w u hx with ⟨h6, _⟩ | h6
      · exact .inl h6
      · right; omega
    · rw [show all.length - 1 = g.id by omega]
      exact h4

end Go.Proofs.YtaalbaiglkadlaaGreat

/- Contracts of container/heap's Init, Pop and Push over the pile of layer 4, and of 'least'. -/
namespace Go.Proofs.YtaalbaiglkadlaaGreat
open Go.RowKit Go.Lib

/-- A pile with the least on top: its box P holds v, which has the nodes d. -/
structure PileOk (w : World) (B P : Nat) (v : Value) (d : List (Nat × Int)) : Prop where
  at_ : PileAt w B P v d
  hp : HpFrom d 0 d.length

theorem Only.step {P g n cap : Nat} {w w' : World} (h : Only g w w') : Step P (.slice (some ⟨g, 0, none⟩) n cap) (.slice (some ⟨g, 0, none⟩) n cap) w w' :=
  ⟨h.os, h.tape, h.output, Nat.le_of_eq h.size.symm, fun k _ _ hv => h.block k (fun e => hv (by rw [e]; rfl)), .inl rfl⟩

theorem PileAt.len {w : World} {B P n cap : Nat} {a : Option Addr} {d : List (Nat × Int)} (h : PileAt w B P (.slice a n cap) d) : d.length = n := by
  rcases h.own.2 with ⟨h', h2⟩ | ⟨g, cap', _, h', _⟩
  · injection h' with _ h3 _
    omega
  · injection h' with _ h3 _
    exact h3.symm

/-- Behind a Pop. -/
def Popped (w W : World) (B P g n k cap : Nat) (d : List (Nat × Int)) : Prop :=
  ∃ d', PileOk w B P (.slice (some ⟨g, 0, none⟩) k cap) d' ∧ Step P (.slice (some ⟨g, 0, none⟩) n cap) (.slice (some ⟨g, 0, none⟩) k cap) W w ∧ d.Perm (atP d 0 :: d')

set_option maxRecDepth 20000 in
set_option maxHeartbeats 2000000 in
theorem hpop_any (P g n k cap B : Nat) (d : List (Nat × Int)) (W : World) (h : PileOk W B P (.slice (some ⟨g, 0, none⟩) n cap) d) (hk : k + 1 = n) (hn2 : n ≤ 1024) :
    Calls Tryz.prog 111 #[.iface 156 (.pointer (some ⟨P, 0, none⟩))] W fun e w' => e = .returned (.iface 158 (nodeV (atP d 0))) ∧ Hid (Popped w' W B P g n k cap d) := by
  have hd : d.length = n := h.at_.len
  have ho := h.at_.own
  rw [hd] at ho
  have hml := meth_len P _ W h.at_.cell
  have hms := meth_swap P _ W h.at_.cell
  have e1 : (n : Int) - 1 = (k : Int) := by omega
  have HCS := hide (swap_any g n cap B d 0 k W hd ho (by omega) (by omega))
  have HH := hide h
  have HD := hide hd
  have HK := hide hk
  clear h hd ho hk
  go_enter Tryz.func111, Tryz.ntmps111
  go_wp2_with fail
  refine (len_any _ n cap W).mono ?_
  rintro e w0 ⟨rfl, rfl⟩
  go_wp2_with fail
  refine HCS.out.mono ?_
  rintro e w1 ⟨rfl, o1, ho1⟩
  have HO1 := hide o1
  have HP1 := hide (HH.out.at_.turned o1 (swp_length _ _ _) (by rw [HD.out]; exact ho1))
  clear o1 ho1 hml hms
  go_wp2_with fail
  refine (down_any P g n cap B 0 k (swp d 0 k) w1 HP1.out (by rw [swp_length]; exact HD.out) (by have := HK.out; omega) hn2 (Nat.zero_le _) (HpFrom.popped (n := k) (by have := HH.out.hp; rw [HD.out, ← HK.out] at this; exact this) (by have := HK.out; have := HD.out; omega))).mono ?_
  rintro e w2 ⟨⟨r, rfl⟩, HDN⟩
  obtain ⟨d2, h2, o2, k2, p2⟩ := HDN.out
  have hmp := meth_pop P w2
  have HE := hide (pop_perm (by have := HK.out; have := HD.out; omega) k2).1
  have hl2 : d2.length = n := by rw [k2.len, swp_length]; exact HD.out
  have HCP := hide (popm_any P g n k cap B d2 w2 h2 hl2 HK.out hn2)
  have HF := hide (show ∀ w3, PileAt w3 B P (.slice (some ⟨g, 0, none⟩) k cap) (d2.take k) → Step P (.slice (some ⟨g, 0, none⟩) n cap) (.slice (some ⟨g, 0, none⟩) k cap) w2 w3 → Popped w3 W B P g n k cap d from fun w3 a b =>
    ⟨d2.take k, ⟨a, hp_take p2 (by have := HK.out; omega)⟩, ((HO1.out.step (P := P) (n := n) (cap := cap)).trans o2.step).trans b, (pop_perm (by have := HK.out; have := HD.out; omega) k2).2⟩)
  clear h2 o2 k2 p2 hl2 HDN
  go_wp2_with fail
  refine HCP.out.mono ?_
  rintro e w3 ⟨rfl, a3, b3⟩
  have HG := hide (HF.out w3 a3.out b3.out)
  rw [HE.out]
  go_wp2
  go_ret
  exact ⟨rfl, HG⟩

/-- Behind a Push. -/
def Pushed (w W : World) (B P : Nat) (v : Value) (g m cap : Nat) (d : List (Nat × Int)) (x : Nat × Int) : Prop :=
  ∃ d', PileOk w B P (.slice (some ⟨g, 0, none⟩) m cap) d' ∧ Step P v (.slice (some ⟨g, 0, none⟩) m cap) W w ∧ d'.Perm (x :: d)

set_option maxRecDepth 20000 in
set_option maxHeartbeats 2000000 in
theorem hpush_any (P n cap B : Nat) (a : Option Addr) (d : List (Nat × Int)) (x : Nat × Int) (W : World) (h : PileOk W B P (.slice a n cap) d) (hn2 : n ≤ 1023) (hB : B ≤ W.heap.size) :
    Calls Tryz.prog 109 #[.iface 156 (.pointer (some ⟨P, 0, none⟩)), .iface 158 (nodeV x)] W fun e w' => e = .returned (.tuple #[]) ∧ ∃ g cap', Hid (Pushed w' W B P (.slice a n cap) g (n + 1) cap' d x) := by
  have hd : d.length = n := h.at_.len
  have hmp := meth_push P W
  have HCP := hide (pushm_any P n cap B a d x W h.at_ hd hn2 hB)
  have HH := hide h
  have HD := hide hd
  clear h hd
  unfold nodeV at *
  go_enter Tryz.func109, Tryz.ntmps109
  go_wp2_with fail
  refine HCP.out.mono ?_
  rintro e w1 ⟨rfl, g, cap', HA, HS⟩
  have hml := meth_len P _ w1 HA.out.cell
  have e1 : ((n : Int) + 1) - 1 = (n : Int) := by omega
  have HCU := hide (up_any P g (n + 1) cap' B n (d ++ [x]) w1 HA.out (by rw [List.length_append, HD.out]; rfl) (by omega) (by omega) (by have h := HpFrom.pushed HH.out.hp x; rw [HD.out] at h; exact h))
  clear hmp
  go_wp2_with fail
  refine (len_any _ (n + 1) cap' w1).mono ?_
  rintro e w0 ⟨rfl, rfl⟩
  go_wp2_with fail
  refine HCU.out.mono ?_
  rintro e w2 ⟨rfl, HU⟩
  obtain ⟨d2, h2, o2, p2, q2⟩ := HU.out
  have HF := hide (show Pushed w2 W B P (.slice a n cap) g (n + 1) cap' d x from ⟨d2, ⟨h2, by rw [h2.len]; exact q2⟩, HS.out.trans o2.step, p2.trans (List.perm_append_singleton _ _)⟩)
  clear h2 o2 p2 q2
  go_wp2
  go_end0
  exact ⟨rfl, g, cap', HF⟩

/-- The pile under way, m places from the top left. -/
structure Inits (w W : World) (B P : Nat) (v : Value) (n : Nat) (d0 d : List (Nat × Int)) (m : Nat) : Prop where
  pile : PileAt w B P v d
  step : Step P v v W w
  perm : d.Perm d0
  hp : HpFrom d m n

def Inited (w W : World) (B P : Nat) (v : Value) (d0 : List (Nat × Int)) : Prop := ∃ d, PileOk w B P v d ∧ Step P v v W w ∧ d.Perm d0

theorem half_q (n : Nat) (h : n ≤ 1024) : (n : Int).tdiv 2 = ((n / 2 : Nat) : Int) := by
  rw [Int.tdiv_eq_ediv_of_nonneg (by omega)]
  omega
theorem meas_init (m : Nat) : (intOf (.int .i64 ((m : Int) - 1)) + 1).toNat < (intOf (.int .i64 (m : Int)) + 1).toNat := by
  show ((m : Int) - 1 + 1).toNat < ((m : Nat) + 1 : Int).toNat
  omega

set_option maxRecDepth 20000 in
set_option maxHeartbeats 2000000 in
theorem hinit_any (P n cap B : Nat) (a : Option Addr) (d0 : List (Nat × Int)) (W : World) (h : PileAt W B P (.slice a n cap) d0) (hn2 : n ≤ 1024) :
    Calls Tryz.prog 107 #[.iface 156 (.pointer (some ⟨P, 0, none⟩))] W fun e w' => e = .returned (.tuple #[]) ∧ Hid (Inited w' W B P (.slice a n cap) d0) := by
  have hd : d0.length = n := h.len
  have hml := meth_len P _ W h.cell
  have HS := hide (show Inits W W B P (.slice a n cap) n d0 d0 (n / 2) from ⟨h, Step.refl _ _ _, List.Perm.refl _, HpFrom.half _ _⟩)
  have HD := hide hd
  obtain ⟨q, hq⟩ : ∃ q, n / 2 = q := ⟨_, rfl⟩
  have hqt := half_q n hn2
  rw [hq] at hqt HS
  have hqn : q ≤ n := by omega
  have hq2 : 2 * q ≤ n := by omega
  have HQ2 := hide hq2
  clear h hd hq hq2
  go_enter Tryz.func107, Tryz.ntmps107
  go_wp2_with fail
  refine (len_any _ n cap W).mono ?_
  rintro e w0 ⟨rfl, rfl⟩
  clear hml
  have wq : IntKind.i64.wrap ((q : Int) - 1) = (q : Int) - 1 := by rw [IntKind.wrap_i64]; omega
  go_wp2
  go_loopw [3] (fun iv wr => ∃ (m : Nat) (z : Int) (d : List (Nat × Int)), m ≤ q ∧ z + 1 = (m : Int) ∧ iv = .int .i64 z ∧ Hid (Inits wr W B P (.slice a n cap) n d0 d m)) (fun iv _ => (intOf iv + 1).toNat)
  case atStart => exact ⟨q, (q : Int) - 1, d0, Nat.le_refl _, by omega, rfl, HS⟩
  case round =>
    obtain ⟨m, z, d, hm, hz, rfl, HI⟩ := hrel
    cases m with
    | zero =>
      obtain rfl : z = -1 := by omega
      have HF := hide (show Inited wr W B P (.slice a n cap) d0 from ⟨d, ⟨HI.out.pile, by rw [HI.out.pile.len]; exact HI.out.hp⟩, HI.out.step, HI.out.perm⟩)
      clear hz hm
      go_wp2
      go_end0
      exact ⟨rfl, HF⟩
    | succ m =>
      obtain rfl : z = (m : Int) := by omega
      have hdl := HI.out.pile.len
      obtain ⟨g, cap2, e2⟩ := own_slice HI.out.pile.own (by have := HQ2.out; omega)
      rw [hdl] at e2
      injection e2 with e3 e4 e5
      subst e3
      subst e5
      have HCD := hide (down_any P g n cap B m n d wr HI.out.pile hdl (Nat.le_refl _) hn2 (by omega) HI.out.hp)
      have wm : IntKind.i64.wrap ((m : Int) - 1) = (m : Int) - 1 := by rw [IntKind.wrap_i64]; omega
      have z0 : (0 : Int) ≤ m := by omega
      have hm2 : m ≤ q := by omega
      clear hdl hz hm e4
      go_wp2_with fail
      refine HCD.out.mono ?_
      rintro e w2 ⟨⟨r, rfl⟩, HDN⟩
      obtain ⟨d2, h2, o2, k2, p2⟩ := HDN.out
      have HNX := hide (show Inits w2 W B P (.slice (some ⟨g, 0, none⟩) n cap) n d0 d2 m from ⟨h2, HI.out.step.trans o2.step, k2.perm.trans HI.out.perm, p2⟩)
      clear h2 o2 k2 p2 HDN
      go_wp2
      go_roundw
      case rel => exact ⟨m, (m : Int) - 1, d2, hm2, by omega, rfl, HNX⟩
      case measure => exact meas_init m

/-! ### 'least': the top, and what is left -/
theorem Popped.setOther {w W : World} {B P g n k cap : Nat} {d : List (Nat × Int)} (h : Popped w W B P g n k cap d) (R i : Nat) (u : Value) (hR : W.heap.size ≤ R) (hP : P ≠ R) (hg : g ≠ R) : Popped (w.setCell ⟨R, i, none⟩ u) W B P g n k cap d := by
  obtain ⟨d', h1, h2, h3⟩ := h
  refine ⟨d', ⟨⟨?_, ownsRow_setCell_other h1.at_.own (fun e => hg (by injection e)) _, h1.at_.ne⟩, h1.hp⟩, ⟨h2.os, h2.tape, h2.output, by rw [size_setCell]; exact h2.size, fun b hb hp hv => ?_, h2.own⟩, h3⟩
  · rw [Below.heap_setCell _ _ _ _ hP]
    exact h1.at_.box
  · rw [Below.heap_setCell _ _ _ _ (show b ≠ R by omega)]
    exact h2.block b hb hp hv
theorem Popped.unalloc {w W : World} {o : Obj} {B P g n k cap : Nat} {d : List (Nat × Int)} (h : Popped w (W.alloc o) B P g n k cap d) : Popped w W B P g n k cap d := by
  obtain ⟨d', h1, h2, h3⟩ := h
  refine ⟨d', h1, ⟨h2.os, h2.tape, h2.output, Nat.le_trans (size_alloc_le (Nat.le_refl _)) h2.size, fun b hb hp hv => ?_, .inl rfl⟩, h3⟩
  rw [h2.block b (size_alloc_le hb) hp hv]
  exact heap_alloc_old _ _ _ hb
theorem Popped.other {w W : World} {B P g n k cap : Nat} {d : List (Nat × Int)} (h : Popped w W B P g n k cap d) (R : Nat) (hR : R < W.heap.size) (hP : P ≠ R) (hg : g ≠ R) : w.heap[R]? = W.heap[R]? := by
  obtain ⟨d', h1, h2, h3⟩ := h
  exact h2.block R hR (fun e => hP e.symm) (fun e => hg (by injection e with e; exact e.symm))

theorem two_cells {w : World} {R : Nat} {x y : Value} {t : TypeId} (h : w.heap[R]? = some (.cells #[x, y] t (0, 0))) : w.cell? ⟨R, 0, none⟩ = some x ∧ w.cell? ⟨R, 1, none⟩ = some y ∧ w.frozen? ⟨R, 0, none⟩ = false ∧ w.frozen? ⟨R, 1, none⟩ = false := by
  refine ⟨?_, ?_, by simp [World.frozen?, h], by simp [World.frozen?, h]⟩
  · rw [cell_of_row _ _ 0 _ _ (0, 0) h]; rfl
  · rw [cell_of_row _ _ 1 _ _ (0, 0) h]; rfl

set_option maxRecDepth 20000 in
set_option maxHeartbeats 2000000 in
theorem least_any (P g n k cap B : Nat) (d : List (Nat × Int)) (W : World) (h : PileOk W B P (.slice (some ⟨g, 0, none⟩) n cap) d) (hk : k + 1 = n) (hn2 : n ≤ 1024) :
    Calls Tryz.prog 108 #[.pointer (some ⟨P, 0, none⟩)] W fun e w' => e = .returned (nodeV (atP d 0)) ∧ Hid (Popped w' W B P g n k cap d) := by
  have hta := node_assert
  have hPW : P < W.heap.size := (Array.getElem?_eq_some_iff.1 h.at_.box).1
  have hgW : g < W.heap.size := (h.at_.own.lt g rfl).2
  have HC := hide (fun o => hpop_any P g n k cap B d (W.alloc o) ⟨h.at_.alloc o, h.hp⟩ hk hn2)
  have HN := hide (show W.heap.size < (W.alloc (.cells #[.int .i64 0, .int .i64 0] 158)).heap.size ∧ (W.alloc (.cells #[.int .i64 0, .int .i64 0] 158)).heap[W.heap.size]? = some (.cells #[.int .i64 0, .int .i64 0] 158 (0, 0)) by
    constructor
    · show W.heap.size < (W.heap.push _).size
      simp
    · show (W.heap.push _)[W.heap.size]? = _
      simp)
  have HPG := hide (And.intro (show P ≠ W.heap.size by omega) (show g ≠ W.heap.size by omega))
  clear h hk
  generalize atP d 0 = x at HC ⊢
  obtain ⟨x1, x2⟩ := x
  unfold nodeV at *
  dsimp only at HC ⊢
  go_enter Tryz.func108, Tryz.ntmps108
  go_wp2_with fail
  refine (HC.out _).mono ?_
  rintro e w3 ⟨rfl, HP⟩
  obtain ⟨c1, c2, f1, f2⟩ := two_cells ((HP.out.other W.heap.size HN.out.1 HPG.out.1 HPG.out.2).trans HN.out.2)
  have HF := hide (fun u1 u2 => (HP.out.unalloc.setOther W.heap.size 0 u1 (Nat.le_refl _) HPG.out.1 HPG.out.2).setOther W.heap.size 1 u2 (Nat.le_refl _) HPG.out.1 HPG.out.2)
  go_wp2
  (try simp only [Exit.inBlock, Exit.then])
  refine bodyPost_ret (v := .agg #[.int .i64 (x1 : Int), .int .i64 x2]) ?_ rfl ⟨rfl, hide (HF.out _ _)⟩
  simp [results, Tryz.results108, asAddr]
  go_simp

end Go.Proofs.YtaalbaiglkadlaaGreat
