import Derived.Test.YtaalbaiglkadlaaGreatMA
import Derived.Test.YtaalbaiglkadlaaGreatBitsA
import Derived.Lib.MinMax
import Derived.Maps.OwnSet
import Derived.Laws.MakeOwn
/- Like tokens are told to be: the document's 'Same' of layer 8; and contracts of the stand-in (practice). -/
namespace Go.Proofs.YtaalbaiglkadlaaGreat
open Go.RowKit Go.Lib

end Go.Proofs.YtaalbaiglkadlaaGreat

/- Places by their three bytes, plainly: where they stood last, and what going back from place to place comes to. Nothing of the program is named here. -/
namespace Go.Proofs.YtaalbaiglkadlaaGreat

/-- Three bytes as a number. -/
def threeN (c : Nat → Nat) (i : Nat) : Nat := c i * 65536 + c (i + 1) * 256 + c (i + 2)
theorem three_lt (c : Nat → Nat) (hc : ∀ i, c i < 256) (i : Nat) : threeN c i < 16777216 := by
  have h1 := hc i
  have h2 := hc (i + 1)
  have h3 := hc (i + 2)
  unfold threeN
  omega
theorem three_iff (c : Nat → Nat) (hc : ∀ i, c i < 256) (n k i : Nat) (hi : i + 3 ≤ n) : same3 c n k i = true ↔ threeN c k = threeN c i := by
  rw [same3_iff]
  unfold threeN
  have h1 := hc i
  have h2 := hc (i + 1)
  have h3 := hc (i + 2)
  have h4 := hc k
  have h5 := hc (k + 1)
  have h6 := hc (k + 2)
  omega
/-- The latest place below j where this number stands. -/
def latest (c : Nat → Nat) (x : Nat) : Nat → Option Nat
  | 0 => none
  | j + 1 => if threeN c j = x then some j else latest c x j
theorem latest_succ (c : Nat → Nat) (x j : Nat) : latest c x (j + 1) = if threeN c j = x then some j else latest c x j := rfl
theorem latest_some (c : Nat → Nat) (x k : Nat) : ∀ j, latest c x j = some k → k < j ∧ threeN c k = x ∧ ∀ i, k < i → i < j → threeN c i ≠ x
  | 0, h => by cases h
  | j + 1, h => by
    rw [latest_succ] at h
    by_cases e : threeN c j = x
    · rw [if_pos e] at h
      injection h with h
      subst h
      exact ⟨by omega, e, fun i h1 h2 => by omega⟩
    · rw [if_neg e] at h
      obtain ⟨h1, h2, h3⟩ := latest_some c x k j h
      refine ⟨by omega, h2, fun i h4 h5 => ?_⟩
      by_cases e2 : i = j
      · rw [e2]; exact e
      · exact h3 i h4 (by omega)
theorem latest_none (c : Nat → Nat) (x : Nat) : ∀ j, latest c x j = none → ∀ i, i < j → threeN c i ≠ x
  | 0, _, i, hi => by omega
  | j + 1, h, i, hi => by
    rw [latest_succ] at h
    by_cases e : threeN c j = x
    · rw [if_pos e] at h; cases h
    · rw [if_neg e] at h
      by_cases e2 : i = j
      · rw [e2]; exact e
      · exact latest_none c x j h i (by omega)
/-- How far back a place's three bytes stood last; 0: nowhere, or too far. -/
def linkN (c : Nat → Nat) (n i : Nat) : Nat := if i + 3 ≤ n then (match latest c (threeN c i) i with | some k => if i - k ≤ 32768 then i - k else 0 | none => 0) else 0
theorem link_no (c : Nat → Nat) (n i : Nat) (h : n < i + 3) : linkN c n i = 0 := by unfold linkN; rw [if_neg (by omega)]
theorem link_none (c : Nat → Nat) (n i : Nat) (h : latest c (threeN c i) i = none) : linkN c n i = 0 := by
  unfold linkN
  rw [h]
  split <;> rfl
theorem link_some (c : Nat → Nat) (n i k : Nat) (hi : i + 3 ≤ n) (h : latest c (threeN c i) i = some k) : linkN c n i = if i - k ≤ 32768 then i - k else 0 := by
  unfold linkN
  rw [h, if_pos hi]
theorem link_le (c : Nat → Nat) (n i : Nat) : linkN c n i ≤ 32768 ∧ linkN c n i ≤ i := by
  by_cases hi : i + 3 ≤ n
  · cases h : latest c (threeN c i) i with
    | none => rw [link_none c n i h]; omega
    | some k => rw [link_some c n i k hi h]; split <;> omega
  · rw [link_no c n i (by omega)]; omega

/-! ### Going back -/
theorem bestR_stop (c : Nat → Nat) (n at_ : Nat) : ∀ p q r, (∀ j, j < p → same3 c n j at_ = true → 32768 < at_ - j) → bestR c n at_ p q r = r
  | 0, _, _, _ => rfl
  | p + 1, q, r, h => by
    unfold bestR
    by_cases h1 : 32768 < at_ - p ∨ q = 0
    · rw [if_pos h1]
    · rw [if_neg h1, if_neg (fun h2 => h1 (.inl (h p (by omega) h2)))]
      exact bestR_stop c n at_ p q r fun j hj => h j (by omega)
theorem bestR_skip (c : Nat → Nat) (n at_ k q : Nat) (r : Nat × Nat) (hk : at_ - k ≤ 32768) : ∀ p, k ≤ p → p ≤ at_ → (∀ j, k ≤ j → j < p → same3 c n j at_ = false) → bestR c n at_ p q r = bestR c n at_ k q r
  | 0, h, _, _ => by rw [show k = 0 by omega]
  | p + 1, h, hp, hs => by
    by_cases e : k = p + 1
    · rw [e]
    · by_cases q0 : q = 0
      · rw [q0, bestR_zero, bestR_zero]
      · rw [← bestR_skip c n at_ k q r hk p (by omega) (by omega) (fun j h1 h2 => hs j h1 (by omega))]
        show (if 32768 < at_ - p ∨ q = 0 then r else if same3 c n p at_ = true then _ else bestR c n at_ p q r) = _
        rw [if_neg (by omega), if_neg (by rw [hs p (by omega) (by omega)]; decide)]
theorem bestR_full (c : Nat → Nat) (n at_ : Nat) (r : Nat × Nat) (h : n - at_ ≤ r.1 ∨ 258 ≤ r.1) : ∀ p q, bestR c n at_ p q r = r
  | 0, _ => rfl
  | p + 1, q => by
    unfold bestR
    split
    · rfl
    · split
      · rename_i hs
        obtain ⟨_, g2, g3, _⟩ := mlen_spec c n p at_ hs
        have e : bett c n p at_ r = r := by unfold bett; rw [if_neg (by omega)]
        rw [e]
        exact bestR_full c n at_ r h p _
      · exact bestR_full c n at_ r h p _

theorem same_three (c : Nat → Nat) (hc : ∀ i, c i < 256) (n at_ p j : Nat) (hp : p = at_ ∨ same3 c n p at_ = true) (hj : same3 c n j at_ = true) : at_ + 3 ≤ n ∧ threeN c p = threeN c at_ ∧ threeN c j = threeN c p := by
  have ha := ((same3_iff c n j at_).1 hj).1
  have e1 := (three_iff c hc n j at_ ha).1 hj
  have e2 : threeN c p = threeN c at_ := by
    rcases hp with e | e
    · rw [e]
    · exact (three_iff c hc n p at_ ha).1 e
  exact ⟨ha, e2, by rw [e1, e2]⟩
theorem back_none (c : Nat → Nat) (hc : ∀ i, c i < 256) (n at_ p q : Nat) (r : Nat × Nat) (hpa : p ≤ at_) (hp : p = at_ ∨ same3 c n p at_ = true) (h : linkN c n p = 0) : bestR c n at_ p q r = r := by
  refine bestR_stop c n at_ p q r fun j hj hs => ?_
  obtain ⟨ha, _, e3⟩ := same_three c hc n at_ p j hp hs
  cases hl : latest c (threeN c p) p with
  | none => exact absurd e3 (latest_none c _ p hl j hj)
  | some k =>
    obtain ⟨h1, _, h3⟩ := latest_some c _ k p hl
    have hjk : j ≤ k := Classical.byContradiction fun hn => h3 j (by omega) hj e3
    rw [link_some c n p k (by omega) hl] at h
    split at h <;> omega
theorem back_at (c : Nat → Nat) (n p d : Nat) (h : linkN c n p = d) (hd : d ≠ 0) : p + 3 ≤ n ∧ d ≤ p ∧ latest c (threeN c p) p = some (p - d) := by
  by_cases hn : p + 3 ≤ n
  · cases hl : latest c (threeN c p) p with
    | none => rw [link_none c n p hl] at h; omega
    | some k =>
      have h1 := (latest_some c _ k p hl).1
      rw [link_some c n p k hn hl] at h
      split at h
      · exact ⟨hn, by omega, by rw [show p - d = k by omega]⟩
      · omega
  · rw [link_no c n p (by omega)] at h; omega
theorem back_far (c : Nat → Nat) (hc : ∀ i, c i < 256) (n at_ p q d : Nat) (r : Nat × Nat) (hpa : p ≤ at_) (hp : p = at_ ∨ same3 c n p at_ = true) (h : linkN c n p = d) (hd : d ≠ 0) (hf : 32768 < at_ - (p - d)) : bestR c n at_ p q r = r := by
  obtain ⟨_, _, hl⟩ := back_at c n p d h hd
  refine bestR_stop c n at_ p q r fun j hj hs => ?_
  obtain ⟨_, _, e3⟩ := same_three c hc n at_ p j hp hs
  obtain ⟨h1, _, h3⟩ := latest_some c _ _ p hl
  have hjk : j ≤ p - d := Classical.byContradiction fun hn => h3 j (by omega) hj e3
  omega
theorem back_step (c : Nat → Nat) (hc : ∀ i, c i < 256) (n at_ p q d : Nat) (r : Nat × Nat) (hpa : p ≤ at_) (hp : p = at_ ∨ same3 c n p at_ = true) (h : linkN c n p = d) (hd : d ≠ 0) (hf : ¬ 32768 < at_ - (p - d)) (hq : q ≠ 0) : same3 c n (p - d) at_ = true ∧ bestR c n at_ p q r = bestR c n at_ (p - d) (q - 1) (bett c n (p - d) at_ r) := by
  obtain ⟨hn, hdp, hl⟩ := back_at c n p d h hd
  obtain ⟨h1, h2, h3⟩ := latest_some c _ _ p hl
  have ha : at_ + 3 ≤ n := by
    rcases hp with e | e
    · rw [← e]; exact hn
    · exact ((same3_iff c n p at_).1 e).1
  have e2 : threeN c p = threeN c at_ := by
    rcases hp with e | e
    · rw [e]
    · exact (three_iff c hc n p at_ ha).1 e
  have hs : same3 c n (p - d) at_ = true := (three_iff c hc n (p - d) at_ ha).2 (by rw [h2, e2])
  refine ⟨hs, ?_⟩
  rw [bestR_skip c n at_ (p - d + 1) q r (by omega) p (by omega) hpa (fun j g1 g2 => ?_)]
  · show (if 32768 < at_ - (p - d) ∨ q = 0 then r else if same3 c n (p - d) at_ = true then bestR c n at_ (p - d) (q - 1) (bett c n (p - d) at_ r) else bestR c n at_ (p - d) q r) = _
    rw [if_neg (by omega), if_pos hs]
  · cases hc2 : same3 c n j at_ with
    | false => rfl
    | true => exact absurd (((three_iff c hc n j at_ ha).1 hc2).trans e2.symm) (h3 j (by omega) g2)
theorem mlen_of (c : Nat → Nat) (n k at_ m : Nat) (hs : same3 c n k at_ = true) (h1 : m ≤ n - at_) (h2 : m ≤ 258) (h3 : ∀ t, t < m → c (k + t) = c (at_ + t)) (h4 : m = n - at_ ∨ m = 258 ∨ c (k + m) ≠ c (at_ + m)) : mlen c n k at_ = m := by
  obtain ⟨g1, g2, g3, g4⟩ := (same3_iff c n k at_).1 hs
  have hm : 3 ≤ m := by
    refine Classical.byContradiction fun hn => ?_
    have hne : c (k + m) ≠ c (at_ + m) := by
      rcases h4 with e | e | e
      · omega
      · omega
      · exact e
    have hc : m = 0 ∨ m = 1 ∨ m = 2 := by omega
    rcases hc with e | e | e
    · rw [e] at hne; exact hne g2
    · rw [e] at hne; exact hne g3
    · rw [e] at hne; exact hne g4
  refine mlen_eq c n k at_ m hm (fun t h5 h6 => (more1_iff c n k at_ t).2 ⟨by omega, by omega, h3 t h6⟩) ?_
  cases hc : more1 c n k at_ m with
  | false => rfl
  | true =>
    obtain ⟨e1, e2, e3⟩ := (more1_iff c n k at_ m).1 hc
    rcases h4 with e | e | e
    · omega
    · omega
    · exact absurd e3 e

end Go.Proofs.YtaalbaiglkadlaaGreat

/- Contracts of the code of layer 8: tries, size, same, match. -/
namespace Go.Proofs.YtaalbaiglkadlaaGreat
open Go.RowKit Go.Lib

set_option maxHeartbeats 1000000 in
theorem tries8 (level : Int) (w : World) :
    Calls Tryz.prog 19 #[.int .i64 level] w fun e w' => e = .returned (.int .i64 (chainL level : Nat)) ∧ w = w' := by
  by_cases h1 : level < 1
  · have e : chainL level = 0 := by unfold chainL; rw [if_pos h1]
    rw [e]
    clear e
    go_enter Tryz.func19, Tryz.ntmps19
    go_wp2
    go_ret
    exact ⟨rfl, rfl⟩
  · by_cases h9 : 9 < level
    · have e : chainL level = 256 := by unfold chainL; rw [if_neg h1, show min level 9 = 9 by omega]; rfl
      have hm : min level 9 = 9 := by omega
      rw [e]
      clear e
      go_enter Tryz.func19, Tryz.ntmps19
      go_wp2
      go_ret
      exact ⟨rfl, rfl⟩
    · have hc : level = 1 ∨ level = 2 ∨ level = 3 ∨ level = 4 ∨ level = 5 ∨ level = 6 ∨ level = 7 ∨ level = 8 ∨ level = 9 := by omega
      have hm : min level 9 = level := by omega
      clear h1 h9
      rcases hc with rfl | rfl | rfl | rfl | rfl | rfl | rfl | rfl | rfl <;>
        (go_enter Tryz.func19, Tryz.ntmps19
         go_wp2
         go_ret
         exact ⟨rfl, rfl⟩)

set_option maxHeartbeats 1000000 in
theorem size8 (l d : Int) (x : Nat) (w : World) :
    Calls Tryz.prog 21 #[.agg #[.int .i64 l, .int .i64 d, .int .u8 (x : Nat)]] w fun e w' => e = .returned (.int .i64 (max l 1)) ∧ Below w.heap.size w w' := by
  have HB := hide ((Below.refl w.heap.size w).alloc (Nat.le_refl _) (.cells #[.int .i64 l, .int .i64 d, .int .u8 (x : Nat)] 58))
  go_enter Tryz.func21, Tryz.ntmps21
  go_wp2
  go_ret
  exact ⟨rfl, HB.out⟩

/-- How many bytes are the same, from two places on, so many at the most. -/
def sameN (c : Nat → Nat) (k i : Nat) : Nat → Nat → Nat
  | 0, l => l
  | f + 1, l => if c (k + l) = c (i + l) then sameN c k i f (l + 1) else l
theorem sameN_spec (c : Nat → Nat) (k i : Nat) : ∀ f l, l ≤ sameN c k i f l ∧ sameN c k i f l ≤ l + f ∧ (∀ t, l ≤ t → t < sameN c k i f l → c (k + t) = c (i + t)) ∧ (sameN c k i f l = l + f ∨ c (k + sameN c k i f l) ≠ c (i + sameN c k i f l))
  | 0, l => ⟨Nat.le_refl _, Nat.le_refl _, fun t h1 h2 => by unfold sameN at h2; omega, .inl rfl⟩
  | f + 1, l => by
    unfold sameN
    by_cases h : c (k + l) = c (i + l)
    · rw [if_pos h]
      obtain ⟨h1, h2, h3, h4⟩ := sameN_spec c k i f (l + 1)
      refine ⟨by omega, by omega, fun t g1 g2 => ?_, ?_⟩
      · by_cases e : t = l
        · rw [e]; exact h
        · exact h3 t (by omega) g2
      · rcases h4 with h4 | h4
        · exact .inl (by omega)
        · exact .inr h4
    · rw [if_neg h]
      exact ⟨Nat.le_refl _, by omega, fun t g1 g2 => by omega, .inr h⟩
theorem same_len (c : Nat → Nat) (n k i : Nat) (hi : i ≤ n) (hs : same3 c n k i = true) : sameN c k i (min (n - i) 258) 0 = mlen c n k i := by
  obtain ⟨h1, h2, h3, h4⟩ := sameN_spec c k i (min (n - i) 258) 0
  refine (mlen_of c n k i _ hs (by omega) (by omega) (fun t ht => h3 t (Nat.zero_le _) ht) ?_).symm
  rcases h4 with h4 | h4
  · omega
  · exact .inr (.inr h4)

set_option maxRecDepth 20000 in
set_option maxHeartbeats 4000000 in
theorem same8 (s : ByteArray) (b : Value) (q : Int) (k i M : Nat) (W : World) (hk : k ≤ i) (hi : i + M ≤ s.size) (hs : s.size ≤ 1000000) :
    Calls Tryz.prog 36 #[.agg #[.string s, b, .int .i64 q], .int .i64 (k : Nat), .int .i64 (i : Nat), .int .i64 (M : Nat)] W fun e w' => e = .returned (.int .i64 (sameN (bAt s) k i M 0 : Nat)) ∧ Below W.heap.size W w' := by
  obtain ⟨R, hR⟩ : ∃ R, sameN (bAt s) k i M 0 = R := ⟨_, rfl⟩
  rw [hR]
  have HR0 := hide (show sameN (bAt s) k i (M - 0) 0 = R by rw [Nat.sub_zero]; exact hR)
  have HS := hide hs
  have HI := hide hi
  have hM9 : M ≤ 1000000 := by omega
  have hi9 : i ≤ 1000000 := by omega
  have B0 := hide ((Below.refl W.heap.size W).alloc (Nat.le_refl _) (.cells #[.string s, b, .int .i64 q] 56))
  have HX0 := hide (show (W.alloc (.cells #[.string s, b, .int .i64 q] 56)).heap[W.heap.size]? = some (.cells #[.string s, b, .int .i64 q] 56 (0, 0)) by show (W.heap.push _)[W.heap.size]? = _; simp)
  clear hR hi hs
  go_enter Tryz.func36, Tryz.ntmps36
  go_wp2
  go_loopw [9] (fun lv wr => ∃ l : Nat, l ≤ M ∧ lv = .int .i64 (l : Nat) ∧ Hid (sameN (bAt s) k i (M - l) l = R) ∧ Hid (Below W.heap.size W wr) ∧ Hid (wr.heap[W.heap.size]? = some (.cells #[.string s, b, .int .i64 q] 56 (0, 0)))) (fun lv _ => M - (intOf lv).toNat)
  case atStart => exact ⟨0, Nat.zero_le _, rfl, HR0, B0, HX0⟩
  case round =>
    clear HR0 B0 HX0
    obtain ⟨l, hl, rfl, HR, HB, HX⟩ := hrel
    by_cases c1 : l < M
    · have d1 : decide ((l : Int) < M) = true := decide_eq_true (by omega)
      have d1n : decide (l < M) = true := decide_eq_true c1
      obtain ⟨f, hf⟩ : ∃ f, M - l = f + 1 := ⟨M - l - 1, by omega⟩
      have hf2 : M - (l + 1) = f := by omega
      rw [hf] at HR
      obtain ⟨x, hx⟩ : ∃ x, k + l = x := ⟨_, rfl⟩
      obtain ⟨y, hy⟩ : ∃ y, i + l = y := ⟨_, rfl⟩
      have HST := hide (show sameN (bAt s) k i (f + 1) l = if bAt s x = bAt s y then sameN (bAt s) k i f (l + 1) else l by rw [← hx, ← hy]; rfl)
      have ex : (k : Int) + (l : Int) = (x : Int) := by omega
      have ey : (i : Int) + (l : Int) = (y : Int) := by omega
      have ix := str_index s x (by have := HI.out; omega)
      have iy := str_index s y (by have := HI.out; omega)
      have _p0 : wr.cell? ⟨W.heap.size, 0, none⟩ = some (.string s) := by rw [cell_of_row _ _ 0 _ _ (0, 0) HX.out]; rfl
      by_cases c3 : bAt s x = bAt s y
      · have HR2 := hide (show sameN (bAt s) k i (M - (l + 1)) (l + 1) = R by rw [hf2, ← HR.out, HST.out, if_pos c3])
        have HC := hide c1
        rw [c3] at ix
        clear c1 c3 hx hy hf hf2 HST HR
        go_wp2
        go_quiet (fail)
        go_wp2
        go_roundw
        case rel => exact ⟨l + 1, HC.out, by go_num, HR2, hide (below_drewN HB.out _), HX⟩
        case measure => exact meas_oneW l M HC.out
      · have HE := hide (show l = R by rw [← HR.out, HST.out, if_neg c3])
        have bxy : ((bAt s x : Int) == (bAt s y : Int)) = false := by simp; omega
        clear c1 c3 hx hy hf hf2 HST HR
        generalize bAt s x = bx at ix bxy
        generalize bAt s y = bY at iy bxy
        go_wp2
        go_quiet (fail)
        go_wp2
        go_ret
        exact ⟨by rw [← HE.out]; rfl, below_drewN HB.out _⟩
    · have hle : l = M := by omega
      have d1 : decide ((l : Int) < M) = false := decide_eq_false (by omega)
      have d1n : decide (l < M) = false := decide_eq_false (by omega)
      have HE := hide (show l = R by rw [← HR.out, hle, Nat.sub_self]; rfl)
      clear c1 hle hl
      go_wp2
      go_quiet (fail)
      go_wp2
      go_ret
      exact ⟨by rw [← HE.out]; rfl, below_drewN HB.out _⟩

/-- How far back each place's bytes stood last, as cells. -/
def BackAt (w : World) (a : Option Addr) (c : Nat → Nat) (n : Nat) : Prop := ∀ i, i < n → ∃ g, a = some ⟨g, 0, none⟩ ∧ g < w.heap.size ∧ w.cell? ⟨g, i, none⟩ = some (.int .u16 (linkN c n i : Nat))
theorem BackAt.below {w w' : World} {a : Option Addr} {c : Nat → Nat} {n : Nat} (h : BackAt w a c n) {B : Nat} (b : Below B w w') (hB : w.heap.size ≤ B) : BackAt w' a c n := by
  intro i hi
  obtain ⟨g, h1, h2, h3⟩ := h i hi
  have hlt := Nat.lt_of_lt_of_le h2 hB
  exact ⟨g, h1, Nat.lt_of_lt_of_le h2 b.size, by rw [b.cell (p := ⟨g, i, none⟩) hlt]; exact h3⟩

theorem frozen_row {w : World} {b : Nat} {cs : Array Value} {t : TypeId} (h : w.heap[b]? = some (.cells cs t (0, 0))) (o : Nat) : w.frozen? ⟨b, o, none⟩ = false := by simp [World.frozen?, h]
/-- A search under way: the text's box, the result's, the best one's. -/
structure MatW (w W : World) (s : ByteArray) (bk : Value) (m l d : Nat) : Prop where
  bel : Below W.heap.size W w
  box : w.heap[W.heap.size]? = some (.cells #[.string s, bk, .int .i64 (m : Nat)] 56 (0, 0))
  res : w.heap[W.heap.size + 1]? = some (.cells #[.int .i64 0, .int .i64 0, .int .u8 0] 58 (0, 0))
  best : w.heap[W.heap.size + 1 + 1]? = some (.cells #[.int .i64 (l : Nat), .int .i64 (d : Nat), .int .u8 0] 58 (0, 0))
theorem MatW.below {w w' W : World} {s : ByteArray} {bk : Value} {m l d : Nat} (h : MatW w W s bk m l d) (b : Below w.heap.size w w') : MatW w' W s bk m l d := by
  have h1 : W.heap.size < w.heap.size := (Array.getElem?_eq_some_iff.1 h.box).1
  have h2 : W.heap.size + 1 < w.heap.size := (Array.getElem?_eq_some_iff.1 h.res).1
  have h3 : W.heap.size + 1 + 1 < w.heap.size := (Array.getElem?_eq_some_iff.1 h.best).1
  exact ⟨h.bel.trans (b.mono h.bel.size), by rw [b.block _ h1]; exact h.box, by rw [b.block _ h2]; exact h.res, by rw [b.block _ h3]; exact h.best⟩
theorem MatW.start (W : World) (s : ByteArray) (bk : Value) (m : Nat) : MatW (((W.alloc (.cells #[.string s, bk, .int .i64 (m : Nat)] 56)).alloc (.cells #[.int .i64 0, .int .i64 0, .int .u8 0] 58)).alloc (.cells #[.int .i64 0, .int .i64 0, .int .u8 0] 58)) W s bk m 0 0 := by
  have s1 : (W.alloc (.cells #[.string s, bk, .int .i64 (m : Nat)] 56)).heap.size = W.heap.size + 1 := by show (W.heap.push _).size = _; simp
  have e1 : (W.alloc (.cells #[.string s, bk, .int .i64 (m : Nat)] 56)).heap[W.heap.size]? = some (.cells #[.string s, bk, .int .i64 (m : Nat)] 56 (0, 0)) := by show (W.heap.push _)[W.heap.size]? = _; simp
  have b1 : Below W.heap.size W (W.alloc (.cells #[.string s, bk, .int .i64 (m : Nat)] 56)) := (Below.refl _ _).alloc (Nat.le_refl _) _
  generalize (W.alloc (.cells #[.string s, bk, .int .i64 (m : Nat)] 56)) = w1 at *
  have s2 : (w1.alloc (.cells #[.int .i64 0, .int .i64 0, .int .u8 0] 58)).heap.size = w1.heap.size + 1 := by show (w1.heap.push _).size = _; simp
  have e2 : (w1.alloc (.cells #[.int .i64 0, .int .i64 0, .int .u8 0] 58)).heap[w1.heap.size]? = some (.cells #[.int .i64 0, .int .i64 0, .int .u8 0] 58 (0, 0)) := by show (w1.heap.push _)[w1.heap.size]? = _; simp
  have b2 := b1.alloc b1.size (.cells #[.int .i64 0, .int .i64 0, .int .u8 0] 58)
  have f2 := heap_alloc_old w1 (.cells #[.int .i64 0, .int .i64 0, .int .u8 0] 58) W.heap.size (by omega)
  generalize (w1.alloc (.cells #[.int .i64 0, .int .i64 0, .int .u8 0] 58)) = w2 at *
  have e3 : (w2.alloc (.cells #[.int .i64 0, .int .i64 0, .int .u8 0] 58)).heap[w2.heap.size]? = some (.cells #[.int .i64 0, .int .i64 0, .int .u8 0] 58 (0, 0)) := by show (w2.heap.push _)[w2.heap.size]? = _; simp
  refine ⟨b2.alloc b2.size _, ?_, ?_, ?_⟩
  · rw [heap_alloc_old _ _ _ (by omega), f2]; exact e1
  · rw [heap_alloc_old _ _ _ (by omega), ← s1]; exact e2
  · rw [show W.heap.size + 1 + 1 = w2.heap.size by omega]; exact e3

/-- Three cells of a block are written. -/
theorem set_three (w : World) (p : Nat) (a b c x y z : Value) (T : TypeId) (h : w.heap[p]? = some (.cells #[a, b, c] T (0, 0))) : (((w.setCell ⟨p, 0, none⟩ x).setCell ⟨p, 1, none⟩ y).setCell ⟨p, 2, none⟩ z).heap[p]? = some (.cells #[x, y, z] T (0, 0)) := by
  have h1 := heap_setCell_same w p 0 x _ _ _ h
  have h2 := heap_setCell_same _ p 1 y _ _ _ h1
  have h3 := heap_setCell_same _ p 2 z _ _ _ h2
  exact h3
theorem MatW.put {w W : World} {s : ByteArray} {bk : Value} {m l d : Nat} (h : MatW w W s bk m l d) (l2 d2 : Nat) (x y : Int) (hx : x = l2) (hy : y = d2) : MatW (((w.setCell ⟨W.heap.size + 1 + 1, 0, none⟩ (.int .i64 x)).setCell ⟨W.heap.size + 1 + 1, 1, none⟩ (.int .i64 y)).setCell ⟨W.heap.size + 1 + 1, 2, none⟩ (.int .u8 0)) W s bk m l2 d2 := by
  subst hx
  subst hy
  refine ⟨((h.bel.setCell (by show _ ≤ W.heap.size + 1 + 1; omega) _).setCell (by show _ ≤ W.heap.size + 1 + 1; omega) _).setCell (by show _ ≤ W.heap.size + 1 + 1; omega) _, ?_, ?_, set_three _ _ _ _ _ _ _ _ _ h.best⟩
  · rw [Below.heap_setCell _ _ _ _ (by show W.heap.size ≠ W.heap.size + 1 + 1; omega), Below.heap_setCell _ _ _ _ (by show W.heap.size ≠ W.heap.size + 1 + 1; omega), Below.heap_setCell _ _ _ _ (by show W.heap.size ≠ W.heap.size + 1 + 1; omega)]
    exact h.box
  · rw [Below.heap_setCell _ _ _ _ (by show W.heap.size + 1 ≠ W.heap.size + 1 + 1; omega), Below.heap_setCell _ _ _ _ (by show W.heap.size + 1 ≠ W.heap.size + 1 + 1; omega), Below.heap_setCell _ _ _ _ (by show W.heap.size + 1 ≠ W.heap.size + 1 + 1; omega)]
    exact h.res
theorem MatW.ret {w W : World} {s : ByteArray} {bk : Value} {m l d : Nat} (h : MatW w W s bk m l d) (x y : Int) : Below W.heap.size W (((w.setCell ⟨W.heap.size + 1, 0, none⟩ (.int .i64 x)).setCell ⟨W.heap.size + 1, 1, none⟩ (.int .i64 y)).setCell ⟨W.heap.size + 1, 2, none⟩ (.int .u8 0)) :=
  ((h.bel.setCell (by show _ ≤ W.heap.size + 1; omega) _).setCell (by show _ ≤ W.heap.size + 1; omega) _).setCell (by show _ ≤ W.heap.size + 1; omega) _

theorem load_tok {w : World} {p : Nat} (l d z : Int) (h : w.heap[p]? = some (.cells #[.int .i64 l, .int .i64 d, .int .u8 z] 58 (0, 0))) : (loadVar 58 ⟨p, 0, none⟩).run Tryz.prog w = .ok (.agg #[.int .i64 l, .int .i64 d, .int .u8 z]) w := by
  have _c0 : w.cell? ⟨p, 0, none⟩ = some (.int .i64 l) := by rw [cell_of_row _ _ 0 _ _ (0, 0) h]; rfl
  have _c1 : w.cell? ⟨p, 1, none⟩ = some (.int .i64 d) := by rw [cell_of_row _ _ 1 _ _ (0, 0) h]; rfl
  have _c2 : w.cell? ⟨p, 2, none⟩ = some (.int .u8 z) := by rw [cell_of_row _ _ 2 _ _ (0, 0) h]; rfl
  clear h
  go_simp

set_option maxRecDepth 20000 in
set_option maxHeartbeats 8000000 in
theorem match8 (s : ByteArray) (a : Option Addr) (n ca m i : Nat) (W : World) (hn : s.size = n) (hb : BackAt W a (bAt s) n) (hi : i < n) (hs : n ≤ 1000000) (hm : m ≤ 256) :
    Calls Tryz.prog 20 #[.agg #[.string s, .slice a n ca, .int .i64 (m : Nat)], .int .i64 (i : Nat)] W fun e w' => e = .returned (.agg #[.int .i64 ((bestM (bAt s) n i m).1 : Nat), .int .i64 ((bestM (bAt s) n i m).2 : Nat), .int .u8 0]) ∧ Below W.heap.size W w' := by
  obtain ⟨⟨R1, R2⟩, hR⟩ : ∃ R, bestM (bAt s) n i m = R := ⟨_, rfl⟩
  rw [hR]
  dsimp only
  have HR0 := hide (show bestR (bAt s) n i i (m - 0) (0, 0) = (R1, R2) from hR)
  have HN := hide hn
  have HB := hide hb
  have HS := hide hs
  have zn : ((s.size : Nat) : Int) = (n : Int) := by omega
  obtain ⟨M, hM⟩ : ∃ M, min (n - i) 258 = M := ⟨_, rfl⟩
  have HM := hide hM
  have HW0 := hide (MatW.start W s (.slice a n ca) m)
  have zM : min ((n : Int) - (i : Int)) 258 = (M : Int) := by omega
  clear hR hn hb hM
  go_enter Tryz.func20, Tryz.ntmps20
  go_wp2
  clear zM
  go_loopw [7, 20] (fun pv kv wr => ∃ k p l d : Nat, k ≤ m ∧ p ≤ i ∧ l ≤ 258 ∧ d ≤ 32768 ∧ pv = .int .i64 (p : Nat) ∧ kv = .int .i64 (k : Nat) ∧ Hid (p = i ∨ same3 (bAt s) n p i = true) ∧ Hid (bestR (bAt s) n i p (m - k) (l, d) = (R1, R2)) ∧ Hid (MatW wr W s (.slice a n ca) m l d)) (fun _ kv _ => m - (intOf kv).toNat)
  case atStart => exact ⟨0, i, 0, 0, Nat.zero_le _, Nat.le_refl _, by omega, by omega, rfl, rfl, hide (.inl rfl), HR0, HW0⟩
  case round =>
    clear HR0 HW0
    obtain ⟨k, p, l, d, hk, hp, hl, hd, rfl, rfl, HP, HR, HW⟩ := hrel
    have _p0 : wr.cell? ⟨W.heap.size, 0, none⟩ = some (.string s) := by rw [cell_of_row _ _ 0 _ _ (0, 0) HW.out.box]; rfl
    have _p1 : wr.cell? ⟨W.heap.size, 1, none⟩ = some (.slice a n ca) := by rw [cell_of_row _ _ 1 _ _ (0, 0) HW.out.box]; rfl
    have _p2 : wr.cell? ⟨W.heap.size, 2, none⟩ = some (.int .i64 (m : Nat)) := by rw [cell_of_row _ _ 2 _ _ (0, 0) HW.out.box]; rfl
    have _r0 : wr.cell? ⟨W.heap.size + 1 + 1, 0, none⟩ = some (.int .i64 (l : Nat)) := by rw [cell_of_row _ _ 0 _ _ (0, 0) HW.out.best]; rfl
    have _r1 : wr.cell? ⟨W.heap.size + 1 + 1, 1, none⟩ = some (.int .i64 (d : Nat)) := by rw [cell_of_row _ _ 1 _ _ (0, 0) HW.out.best]; rfl
    have _r2 : wr.cell? ⟨W.heap.size + 1 + 1, 2, none⟩ = some (.int .u8 0) := by rw [cell_of_row _ _ 2 _ _ (0, 0) HW.out.best]; rfl
    have _q0 : wr.cell? ⟨W.heap.size + 1, 0, none⟩ = some (.int .i64 0) := by rw [cell_of_row _ _ 0 _ _ (0, 0) HW.out.res]; rfl
    have _q1 : wr.cell? ⟨W.heap.size + 1, 1, none⟩ = some (.int .i64 0) := by rw [cell_of_row _ _ 1 _ _ (0, 0) HW.out.res]; rfl
    have _q2 : wr.cell? ⟨W.heap.size + 1, 2, none⟩ = some (.int .u8 0) := by rw [cell_of_row _ _ 2 _ _ (0, 0) HW.out.res]; rfl
    have _f0 : wr.frozen? ⟨W.heap.size + 1, 0, none⟩ = false := frozen_row HW.out.res 0
    have _f1 : wr.frozen? ⟨W.heap.size + 1, 1, none⟩ = false := frozen_row HW.out.res 1
    have _f2 : wr.frozen? ⟨W.heap.size + 1, 2, none⟩ = false := frozen_row HW.out.res 2
    by_cases hkm : k < m
    · have zk : (k : Int) < m := by omega
      obtain ⟨q, hq⟩ : ∃ q, m - k = q + 1 := ⟨m - k - 1, by omega⟩
      have HQ := hide (show m - (k + 1) = q by omega)
      rw [hq] at HR
      obtain ⟨g, rfl, hg, hcell⟩ := HB.out p (by omega)
      obtain ⟨D, hD⟩ : ∃ D, linkN (bAt s) n p = D := ⟨_, rfl⟩
      have HL := hide hD
      have hDle := link_le (bAt s) n p
      rw [hD] at hcell hDle
      have _c := (HW.out.bel.cell (p := ⟨g, p, none⟩) hg).trans hcell
      have hD1 := hDle.1
      have hD2 := hDle.2
      have hpn : p < n := by omega
      have zp : (p : Int) < n := by omega
      have HKM := hide hkm
      clear hq hg hcell hD hDle hkm
      by_cases d0 : D = 0
      · subst d0
        have HE := hide (show ((l, d) : Nat × Nat) = (R1, R2) by rw [← HR.out]; exact (back_none (bAt s) (bAt_lt s) n i p (q + 1) (l, d) hp HP.out HL.out).symm)
        injection HE.out with e1 e2
        subst e1
        subst e2
        go_wp2
        (try simp only [Exit.inBlock, Exit.then])
        refine bodyPost_ret (v := .agg #[.int .i64 (l : Nat), .int .i64 (d : Nat), .int .u8 0]) ?_ rfl ⟨rfl, HW.out.ret _ _⟩
        simp [results, Tryz.results20, asAddr]
        go_simp
      · have bD : ((D : Int) == 0) = false := by simp; exact d0
        obtain ⟨p2, hp2⟩ : ∃ p2, p - D = p2 := ⟨_, rfl⟩
        have ep : (p : Int) - (D : Int) = (p2 : Int) := by omega
        have hp29 : p2 < i := by omega
        by_cases hf : 32768 < i - p2
        · have HE := hide (show ((l, d) : Nat × Nat) = (R1, R2) by rw [← HR.out]; exact (back_far (bAt s) (bAt_lt s) n i p (q + 1) D (l, d) hp HP.out HL.out d0 (by omega)).symm)
          injection HE.out with e1 e2
          subst e1
          subst e2
          have df : decide ((32768 : Int) < (i : Int) - (p2 : Int)) = true := decide_eq_true (by omega)
          clear hf hp2 d0
          go_wp2
          (try simp only [Exit.inBlock, Exit.then])
          refine bodyPost_ret (v := .agg #[.int .i64 (l : Nat), .int .i64 (d : Nat), .int .u8 0]) ?_ rfl ⟨rfl, HW.out.ret _ _⟩
          simp [results, Tryz.results20, asAddr]
          go_simp
        · have df : decide ((32768 : Int) < (i : Int) - (p2 : Int)) = false := decide_eq_false (by omega)
          have HST := back_step (bAt s) (bAt_lt s) n i p (q + 1) D (l, d) hp HP.out HL.out d0 (by omega) (Nat.succ_ne_zero q)
          rw [hp2] at HST
          have HSM := hide HST.1
          have HR2 := hide (show bestR (bAt s) n i p2 q (bett (bAt s) n p2 i (l, d)) = (R1, R2) by rw [← HR.out]; exact HST.2.symm)
          have HSA := hide (fun w => same8 s (.slice (some ⟨g, 0, none⟩) n ca) (m : Nat) p2 i M w (by omega) (by rw [HN.out]; have := HM.out; omega) (by rw [HN.out]; exact hs))
          rw [← HM.out, same_len (bAt s) n p2 i (by omega) HST.1, HM.out] at HSA
          obtain ⟨N, hN⟩ : ∃ N, mlen (bAt s) n p2 i = N := ⟨_, rfl⟩
          rw [hN] at HSA
          have hms := mlen_spec (bAt s) n p2 i HST.1
          rw [hN] at hms
          have hN8 := hms.2.1
          have hb9 : i - p2 ≤ 32768 := by omega
          have hNM : N ≤ M := by have := HM.out; omega
          have HBT := hide (show bett (bAt s) n p2 i (l, d) = if l < N then (N, i - p2) else (l, d) by unfold bett; rw [hN])
          have HFU := hide (fun (r : Nat × Nat) (h : M ≤ r.1) => bestR_full (bAt s) n i r (by have := HM.out; omega) p2 q)
          clear hf hp2 d0 HST hms hN
          go_wp2_with fail
          refine (HSA.out _).mono ?_
          clear _p0 _p1 _p2 _r0 _r1 _r2 _q0 _q1 _q2 _f0 _f1 _f2 _c
          rintro e w2 ⟨rfl, b2⟩
          have HW2 := hide (HW.out.below b2)
          clear b2
          have _x0 : w2.cell? ⟨W.heap.size, 0, none⟩ = some (.string s) := by rw [cell_of_row _ _ 0 _ _ (0, 0) HW2.out.box]; rfl
          have _x1 : w2.cell? ⟨W.heap.size, 1, none⟩ = some (.slice (some ⟨g, 0, none⟩) n ca) := by rw [cell_of_row _ _ 1 _ _ (0, 0) HW2.out.box]; rfl
          have _x2 : w2.cell? ⟨W.heap.size, 2, none⟩ = some (.int .i64 (m : Nat)) := by rw [cell_of_row _ _ 2 _ _ (0, 0) HW2.out.box]; rfl
          have _y0 : w2.cell? ⟨W.heap.size + 1 + 1, 0, none⟩ = some (.int .i64 (l : Nat)) := by rw [cell_of_row _ _ 0 _ _ (0, 0) HW2.out.best]; rfl
          have _y1 : w2.cell? ⟨W.heap.size + 1 + 1, 1, none⟩ = some (.int .i64 (d : Nat)) := by rw [cell_of_row _ _ 1 _ _ (0, 0) HW2.out.best]; rfl
          have _y2 : w2.cell? ⟨W.heap.size + 1 + 1, 2, none⟩ = some (.int .u8 0) := by rw [cell_of_row _ _ 2 _ _ (0, 0) HW2.out.best]; rfl
          have _z0 : w2.cell? ⟨W.heap.size + 1, 0, none⟩ = some (.int .i64 0) := by rw [cell_of_row _ _ 0 _ _ (0, 0) HW2.out.res]; rfl
          have _z1 : w2.cell? ⟨W.heap.size + 1, 1, none⟩ = some (.int .i64 0) := by rw [cell_of_row _ _ 1 _ _ (0, 0) HW2.out.res]; rfl
          have _z2 : w2.cell? ⟨W.heap.size + 1, 2, none⟩ = some (.int .u8 0) := by rw [cell_of_row _ _ 2 _ _ (0, 0) HW2.out.res]; rfl
          have _u0 : w2.frozen? ⟨W.heap.size + 1, 0, none⟩ = false := frozen_row HW2.out.res 0
          have _u1 : w2.frozen? ⟨W.heap.size + 1, 1, none⟩ = false := frozen_row HW2.out.res 1
          have _u2 : w2.frozen? ⟨W.heap.size + 1, 2, none⟩ = false := frozen_row HW2.out.res 2
          have _v0 : w2.frozen? ⟨W.heap.size + 1 + 1, 0, none⟩ = false := frozen_row HW2.out.best 0
          have _v1 : w2.frozen? ⟨W.heap.size + 1 + 1, 1, none⟩ = false := frozen_row HW2.out.best 1
          have _v2 : w2.frozen? ⟨W.heap.size + 1 + 1, 2, none⟩ = false := frozen_row HW2.out.best 2
          by_cases hln : l < N
          · have zl : (l : Int) < N := by omega
            have HR3 := hide (show bestR (bAt s) n i p2 q (N, i - p2) = (R1, R2) by rw [← HR2.out, HBT.out, if_pos hln])
            have HW3 := hide (HW2.out.put N (i - p2) (N : Int) ((i : Int) - (p2 : Int)) rfl (by omega))
            by_cases hNe : N = M
            · have bN : ((N : Int) == (M : Int)) = true := by simp; omega
              have HE := hide (show ((N, i - p2) : Nat × Nat) = (R1, R2) by rw [← HR3.out]; exact (HFU.out (N, i - p2) (by dsimp only; omega)).symm)
              clear hln hNe
              have HE2 := hide (show Ending.returned (.agg #[.int .i64 (N : Nat), .int .i64 ((i : Int) - (p2 : Int)), .int .u8 0]) = Ending.returned (.agg #[.int .i64 (R1 : Nat), .int .i64 (R2 : Nat), .int .u8 0]) by
                have h := HE.out
                injection h with e1 e2
                rw [← e1, ← e2, show ((i - p2 : Nat) : Int) = (i : Int) - (p2 : Int) by omega])
              go_wp2
              (try simp only [Exit.inBlock, Exit.then])
              refine bodyPost_ret (v := .agg #[.int .i64 (N : Nat), .int .i64 ((i : Int) - (p2 : Int)), .int .u8 0]) ?_ rfl ⟨HE2.out, HW3.out.ret _ _⟩
              simp [results, Tryz.results20, asAddr]
              exact load_tok _ _ _ (set_three _ _ _ _ _ _ _ _ _ HW3.out.res)
            · have bN : ((N : Int) == (M : Int)) = false := by simp; omega
              clear hln hNe
              go_wp2
              go_roundw
              case rel => exact ⟨k + 1, p2, N, i - p2, HKM.out, by omega, hN8, by omega, rfl, by go_num, hide (.inr HSM.out), by rw [HQ.out]; exact HR3, HW3⟩
              case measure => exact meas_oneW k m HKM.out
          · have zl : ¬ (l : Int) < N := by omega
            have HR3 := hide (show bestR (bAt s) n i p2 q (l, d) = (R1, R2) by rw [← HR2.out, HBT.out, if_neg hln])
            by_cases hNe : N = M
            · have bN : ((N : Int) == (M : Int)) = true := by simp; omega
              have HE := hide (show ((l, d) : Nat × Nat) = (R1, R2) by rw [← HR3.out]; exact (HFU.out (l, d) (by dsimp only; omega)).symm)
              injection HE.out with e1 e2
              subst e1
              subst e2
              clear hln hNe
              go_wp2
              (try simp only [Exit.inBlock, Exit.then])
              refine bodyPost_ret (v := .agg #[.int .i64 (l : Nat), .int .i64 (d : Nat), .int .u8 0]) ?_ rfl ⟨rfl, HW2.out.ret _ _⟩
              simp [results, Tryz.results20, asAddr]
              go_simp
            · have bN : ((N : Int) == (M : Int)) = false := by simp; omega
              clear hln hNe
              go_wp2
              go_roundw
              case rel => exact ⟨k + 1, p2, l, d, HKM.out, by omega, hl, hd, rfl, by go_num, hide (.inr HSM.out), by rw [HQ.out]; exact HR3, HW2⟩
              case measure => exact meas_oneW k m HKM.out
    · have hke : k = m := by omega
      subst hke
      have HE := hide (show ((l, d) : Nat × Nat) = (R1, R2) by rw [← HR.out, Nat.sub_self, bestR_zero])
      injection HE.out with e1 e2
      subst e1
      subst e2
      go_wp2
      (try simp only [Exit.inBlock, Exit.then])
      refine bodyPost_ret (v := .agg #[.int .i64 (l : Nat), .int .i64 (d : Nat), .int .u8 0]) ?_ rfl ⟨rfl, HW.out.ret _ _⟩
      simp [results, Tryz.results20, asAddr]
      go_simp

end Go.Proofs.YtaalbaiglkadlaaGreat

/- Contract of the code of layer 8: links. -/
namespace Go.Proofs.YtaalbaiglkadlaaGreat
open Go.RowKit Go.Lib Go.Maps

theorem Tryz.infoU16 : (Tryz.prog.info? 29).map (fun i => (i.zero, i.size, i.bytes)) = some (some (.int .u16 0), 1, 2) := by kernel_rfl
theorem law_int : Keyed Tryz.prog 3 := int_keyed Tryz.underlying3
theorem zero_int (w : World) : (zeroValue 3).run Tryz.prog w = .ok (.int .i64 0) w := by kernel_rfl

/-- Where each three bytes stood last, as a map. -/
def lastD (c : Nat → Nat) : Nat → DataW Unit
  | 0 => .map []
  | j + 1 => (lastD c j).put (.int .i64 (threeN c j : Nat)) (.lit (.int .i64 (j : Nat)))
theorem lastD_map (c : Nat → Nat) : ∀ j, IsMap (lastD c j)
  | 0 => isMap_empty
  | j + 1 => (lastD_map c j).put _ _
theorem key_lit (x : Int) : WideAt.IsKeyLit (.int .i64 x) := by simp [WideAt.IsKeyLit]
theorem lastD_has (c : Nat → Nat) (x : Nat) : ∀ j, Maps.has (lastD c j) (.int .i64 (x : Nat)) = (latest c x j).isSome
  | 0 => rfl
  | j + 1 => by
    rw [latest_succ]
    unfold lastD
    by_cases e : threeN c j = x
    · rw [if_pos e, e, has_put_same (lastD_map c j) (key_lit _)]; rfl
    · rw [if_neg e, has_put_other (by intro h; injection h with _ h; omega), lastD_has c x j]
theorem lastD_at (c : Nat → Nat) (x k : Nat) (z : DataW Unit) : ∀ j, latest c x j = some k → (lastD c j).atKey (.int .i64 (x : Nat)) z = .lit (.int .i64 (k : Nat))
  | 0, h => by cases h
  | j + 1, h => by
    rw [latest_succ] at h
    unfold lastD
    by_cases e : threeN c j = x
    · rw [if_pos e] at h
      injection h with h
      subst h
      rw [e]
      exact atKey_put_same (lastD_map c j) (key_lit _) _ _
    · rw [if_neg e] at h
      rw [atKey_put_other (by intro h; injection h with _ h; omega)]
      exact lastD_at c x k z j h

/-- The row under way. -/
def linkR (c : Nat → Nat) (n j : Nat) : List Value := (List.range n).map fun i => .int .u16 ((if i < j then linkN c n i else 0 : Nat) : Int)
theorem linkR_length (c : Nat → Nat) (n j : Nat) : (linkR c n j).length = n := by simp [linkR]
theorem linkR_get (c : Nat → Nat) (n j i : Nat) (h : i < n) : (linkR c n j)[i]? = some (.int .u16 ((if i < j then linkN c n i else 0 : Nat) : Int)) := by
  unfold linkR
  rw [List.getElem?_map, List.getElem?_range h]
  rfl
theorem linkR_zero (c : Nat → Nat) (n : Nat) : linkR c n 0 = List.replicate n (.int .u16 0) := by
  refine List.ext_getElem? fun i => ?_
  by_cases h : i < n
  · rw [linkR_get c n 0 i h, if_neg (Nat.not_lt_zero _), List.getElem?_replicate, if_pos h]; rfl
  · rw [List.getElem?_eq_none (by rw [linkR_length]; omega), List.getElem?_eq_none (by rw [List.length_replicate]; omega)]
theorem linkR_set (c : Nat → Nat) (n j : Nat) (x : Int) (hx : x = (linkN c n j : Nat)) (h : j < n) : (linkR c n j).set j (.int .u16 x) = linkR c n (j + 1) := by
  subst hx
  refine List.ext_getElem? fun i => ?_
  by_cases hi : i < n
  · rw [linkR_get c n (j + 1) i hi]
    by_cases e : i = j
    · subst e
      rw [List.getElem?_set_self (by rw [linkR_length]; exact h), if_pos (Nat.lt_succ_self _)]
    · rw [List.getElem?_set_ne (fun h => e h.symm), linkR_get c n j i hi]
      by_cases h2 : i < j
      · rw [if_pos h2, if_pos (by omega)]
      · rw [if_neg h2, if_neg (by omega)]
  · rw [List.getElem?_eq_none (by rw [List.length_set, linkR_length]; omega), List.getElem?_eq_none (by rw [linkR_length]; omega)]
theorem linkR_none (c : Nat → Nat) (n j : Nat) (hx : linkN c n j = 0) : linkR c n j = linkR c n (j + 1) := by
  refine List.ext_getElem? fun i => ?_
  by_cases hi : i < n
  · rw [linkR_get c n (j + 1) i hi, linkR_get c n j i hi]
    by_cases e : i = j
    · subst e
      rw [if_neg (Nat.lt_irrefl _), if_pos (Nat.lt_succ_self _), hx]
    · by_cases h2 : i < j
      · rw [if_pos h2, if_pos (by omega)]
      · rw [if_neg h2, if_neg (by omega)]
  · rw [List.getElem?_eq_none (by rw [linkR_length]; omega), List.getElem?_eq_none (by rw [linkR_length]; omega)]

/-- The links under way: the row, and the map. -/
structure LinkW (w W : World) (c : Nat → Nat) (n j : Nat) : Prop where
  bel : Below W.heap.size W w
  row : w.heap[W.heap.size]? = some (.cells (linkR c n j).toArray 29 (0, 0))
  map : w.ownsMap Tryz.prog 3 (plainElem Tryz.prog 3) (W.heap.size + 1) j (lastD c j)
theorem LinkW.start (W : World) (c : Nat → Nat) (n : Nat) : LinkW ((W.alloc (.cells (madeCells #[.int .u16 0] n) 29)).alloc (.map #[] 0)) W c n 0 := by
  have e1 : (W.alloc (.cells (madeCells #[.int .u16 0] n) 29)).heap[W.heap.size]? = some (.cells (linkR c n 0).toArray 29 (0, 0)) := by
    have e : (linkR c n 0).toArray = madeCells #[.int .u16 0] n := by
      rw [linkR_zero, ← toList_madeCells_one, Array.toArray_toList]
    rw [e]
    show (W.heap.push _)[W.heap.size]? = _
    simp
  have s1 : (W.alloc (.cells (madeCells #[.int .u16 0] n) 29)).heap.size = W.heap.size + 1 := by show (W.heap.push _).size = _; simp
  have b1 : Below W.heap.size W (W.alloc (.cells (madeCells #[.int .u16 0] n) 29)) := (Below.refl _ _).alloc (Nat.le_refl _) _
  generalize (W.alloc (.cells (madeCells #[.int .u16 0] n) 29)) = w1 at *
  refine ⟨b1.alloc b1.size _, ?_, ?_⟩
  · rw [heap_alloc_old _ _ _ (by omega)]; exact e1
  · rw [← s1]
    exact World.ownsMap_made _ _ _ _
set_option maxRecDepth 20000 in
theorem LinkW.look {w W : World} {c : Nat → Nat} {n j : Nat} (h : LinkW w W c n j) (x : Nat) (hx : x < 16777216) (q : Nat) :
    (latest c x j = none → ∃ z, (Instr.lookup 73 (.map (some (W.heap.size + 1))) (.int .i64 (x : Nat)) true).run Tryz.prog (w.drewN q) = .ok (.tuple #[.int .i64 z, .bool false]) (w.drewN q)) ∧
    (∀ k, latest c x j = some k → (Instr.lookup 73 (.map (some (W.heap.size + 1))) (.int .i64 (x : Nat)) true).run Tryz.prog (w.drewN q) = .ok (.tuple #[.int .i64 (k : Nat), .bool true]) (w.drewN q)) := by
  have hm : (w.drewN q).ownsMap Tryz.prog 3 (plainElem Tryz.prog 3) (W.heap.size + 1) j (lastD c j) := h.map
  have hkey : keyOf Tryz.prog 3 (.int .i64 (x : Nat)) = some (.int .i64 (x : Nat)) := keyOf_int_mk Tryz.underlying3 (WalkArith.wf_i64 (by omega))
  obtain ⟨v, ps, hrun, hv⟩ := hm.look_ok law_int Tryz.underlying73 (zero_int _) (plainElem_int Tryz.underlying3 (by decide)) hkey
  obtain ⟨cc, rfl, hc, _⟩ := plainElem_int_inv Tryz.underlying3 hv
  rw [lastD_has] at hrun
  constructor
  · intro e
    rw [e] at hrun
    exact ⟨cc, hrun⟩
  · intro k e
    rw [e] at hrun
    have h2 := congrArg Prod.fst hc
    dsimp only at h2
    rw [lastD_at c x k _ j e] at h2
    injection h2 with h2
    injection h2 with _ h2
    rw [h2]
    exact hrun
theorem LinkW.cell {w W : World} {c : Nat → Nat} {n j : Nat} (h : LinkW w W c n j) (hj : j < n) : w.cell? ⟨W.heap.size, j, none⟩ = some (.int .u16 0) ∧ w.frozen? ⟨W.heap.size, j, none⟩ = false := by
  refine ⟨?_, frozen_row h.row j⟩
  rw [cell_of_row _ _ j _ _ (0, 0) h.row]
  have := linkR_get c n j j hj
  rw [if_neg (Nat.lt_irrefl _)] at this
  simpa using this

/-- The row is a place ahead of the map. -/
structure LinkM (w W : World) (c : Nat → Nat) (n j : Nat) : Prop where
  bel : Below W.heap.size W w
  row : w.heap[W.heap.size]? = some (.cells (linkR c n (j + 1)).toArray 29 (0, 0))
  map : w.ownsMap Tryz.prog 3 (plainElem Tryz.prog 3) (W.heap.size + 1) j (lastD c j)
theorem LinkW.skip {w W : World} {c : Nat → Nat} {n j : Nat} (h : LinkW w W c n j) (h0 : linkN c n j = 0) : LinkM w W c n j := ⟨h.bel, by rw [← linkR_none c n j h0]; exact h.row, h.map⟩
theorem LinkW.set {w W : World} {c : Nat → Nat} {n j : Nat} (h : LinkW w W c n j) (hj : j < n) (x : Int) (hx : x = (linkN c n j : Nat)) : LinkM (w.setCell ⟨W.heap.size, j, none⟩ (.int .u16 x)) W c n j := by
  refine ⟨h.bel.setCell (Nat.le_refl _) _, ?_, h.map.setCell (by show W.heap.size + 1 ≠ W.heap.size; omega) _⟩
  rw [heap_setCell_same _ _ _ _ _ _ _ h.row, List.setIfInBounds_toArray, linkR_set c n j x hx hj]
theorem LinkM.next {w w' W : World} {c : Nat → Nat} {n j : Nat} (h : LinkM w W c n j) (hm : w'.ownsMap Tryz.prog 3 (plainElem Tryz.prog 3) (W.heap.size + 1) (j + 1) (lastD c (j + 1))) (hg : w.grownBy w' (some (W.heap.size + 1))) : LinkW w' W c n (j + 1) := by
  refine ⟨h.bel.grown hg h.bel.size (fun k hk => by cases hk; exact Nat.le_succ _), ?_, hm⟩
  rw [hg.block _ (Array.getElem?_eq_some_iff.1 h.row).1 (by intro e; injection e with e; omega)]
  exact h.row
theorem LinkW.done {w W : World} {c : Nat → Nat} {n T : Nat} (h : LinkW w W c n T) (hT : n - 2 = T) : BackAt w (some ⟨W.heap.size, 0, none⟩) c n := by
  intro i hi
  refine ⟨W.heap.size, rfl, (Array.getElem?_eq_some_iff.1 h.row).1, ?_⟩
  rw [cell_of_row _ _ i _ _ (0, 0) h.row]
  have := linkR_get c n T i hi
  by_cases e : i < T
  · rw [if_pos e] at this
    simpa using this
  · rw [if_neg e, ← link_no c n i (by omega)] at this
    simpa using this
theorem wf_nat (j : Nat) (h : j ≤ 100000000) : (Lit.int .i64 (j : Nat)).wf = true := WalkArith.wf_i64 (by omega)

set_option maxRecDepth 20000 in
set_option maxHeartbeats 4000000 in
theorem links8 (s : ByteArray) (n : Nat) (W : World) (hn : s.size = n) (hs : n ≤ 1000000) :
    Calls Tryz.prog 18 #[.string s] W fun e w' => ∃ g, e = .returned (.slice (some ⟨g, 0, none⟩) n n) ∧ BackAt w' (some ⟨g, 0, none⟩) (bAt s) n ∧ Below W.heap.size W w' := by
  have HN := hide hn
  have zn : ((s.size : Nat) : Int) = (n : Int) := by omega
  have hmm := @run_makeMap Tryz.prog
  have hmk := run_make_row' (P := Tryz.prog) 53 29 (.int .u16 0) 2 Tryz.underlying53 Tryz.infoU16 rfl .i64 .i64 n (by omega) (by omega)
  obtain ⟨T, hT⟩ : ∃ T, n - 2 = T := ⟨_, rfl⟩
  have HT := hide hT
  have zT : max ((n : Int) - 3 + 1) 0 = (T : Int) := by omega
  have HL0 := hide (LinkW.start W (bAt s) n)
  clear hn hT
  go_enter Tryz.func18, Tryz.ntmps18
  go_wp2
  clear hmm hmk zT
  go_loopw [18] (fun kv wr => ∃ j : Nat, j ≤ T ∧ kv = .int .i64 (j : Nat) ∧ Hid (LinkW wr W (bAt s) n j)) (fun kv _ => T - (intOf kv).toNat)
  case atStart => exact ⟨0, Nat.zero_le _, rfl, HL0⟩
  case round =>
    clear HL0
    obtain ⟨j, hj, rfl, HL⟩ := hrel
    by_cases hlt : j < T
    · have zj : (j : Int) < T := by omega
      have hjn : j + 3 ≤ n := by have := HT.out; omega
      have HJN := hide hjn
      obtain ⟨x, hx⟩ : ∃ x, bAt s j = x := ⟨_, rfl⟩
      obtain ⟨y, hy⟩ : ∃ y, bAt s (j + 1) = y := ⟨_, rfl⟩
      obtain ⟨z, hz⟩ : ∃ z, bAt s (j + 2) = z := ⟨_, rfl⟩
      have ix := str_index s j (by rw [HN.out]; omega)
      have iy := str_index s (j + 1) (by rw [HN.out]; omega)
      have iz := str_index s (j + 2) (by rw [HN.out]; omega)
      have x9 := bAt_lt s j
      have y9 := bAt_lt s (j + 1)
      have z9 := bAt_lt s (j + 2)
      have h3 : threeN (bAt s) j = x * 65536 + y * 256 + z := by unfold threeN; rw [hx, hy, hz]
      rw [hx] at ix x9
      rw [hy] at iy y9
      rw [hz] at iz z9
      rw [show ((j + 1 : Nat) : Int) = (j : Int) + 1 by omega] at iy
      rw [show ((j + 2 : Nat) : Int) = (j : Int) + 2 by omega] at iz
      have H3 := hide h3
      have zj1 : (j : Int) + 1 < n := by omega
      have zj2 : (j : Int) + 2 < n := by omega
      have zj0 : (j : Int) < n := by omega
      obtain ⟨v, hv⟩ : ∃ v : Nat, x * 65536 + y * 256 = v := ⟨_, rfl⟩
      obtain ⟨h, hh⟩ : ∃ h : Nat, v + z = h := ⟨_, rfl⟩
      have o1 : bits .or .i64 ((x : Int) * 65536) ((y : Int) * 256) = (v : Int) := by
        rw [show (x : Int) * 65536 = ((x * 65536 : Nat) : Int) by omega, show (y : Int) * 256 = ((y * 256 : Nat) : Int) by omega, or_i64_nat _ _ (by omega) (by omega), nat_join 16 _ _ (by omega) (by omega), hv]
      have o2 : bits .or .i64 (v : Int) (z : Int) = (h : Int) := by
        rw [or_i64_nat _ _ (by omega) (by omega), nat_join 8 _ _ (by omega) (by omega), hh]
      have H3 := hide (show threeN (bAt s) j = h by rw [h3, hv, hh])
      have h9 : h < 16777216 := by omega
      have hj9 : j ≤ 1000000 := by omega
      clear hx hy hz h3 hjn
      go_wp2
      go_quiet (fail)
      have HLQ := hide (show LinkW (wr.drewN nq) W (bAt s) n j from ⟨below_drewN HL.out.bel _, HL.out.row, HL.out.map⟩)
      have hlk := HL.out.look h h9 nq
      generalize wr.drewN nq = wq at *
      clear HL ix iy iz o1 o2 hv hh
      cases hla : latest (bAt s) h j with
      | none =>
        obtain ⟨zz, hrun⟩ := hlk.1 hla
        have HM := hide (HLQ.out.skip (link_none (bAt s) n j (by rw [H3.out]; exact hla)))
        clear hlk hla
        go_wp2_with (first
          | (at_mapUpdate; refine wpList_mapUpdate_own _ rfl _ _ _ 73 rfl 3 3 law_int Tryz.underlying73 _ (W.heap.size + 1) j _ rfl HM.out.map (by unfold maxLen; omega) _ _ _ rfl rfl (keyOf_int_mk Tryz.underlying3 (wf_nat h (by omega))) _ [] (plainElem_int Tryz.underlying3 (wf_nat j (by omega))) ?_; intro w1 hown1 hgrow1)
          | go_in)
        have HN1 := hide (HM.out.next (by unfold lastD; rw [H3.out]; exact hown1) hgrow1)
        clear hown1 hgrow1
        go_roundw
        case rel => exact ⟨j + 1, hlt, by go_num, HN1⟩
        case measure => exact meas_oneW j T hlt
      | some k =>
        have hrun := hlk.2 k hla
        have hkj := (latest_some (bAt s) h k j hla).1
        have HLS := hide (link_some (bAt s) n j k HJN.out (by rw [H3.out]; exact hla))
        obtain ⟨d, hd⟩ : ∃ d, j - k = d := ⟨_, rfl⟩
        rw [hd] at HLS
        have ed : (j : Int) - (k : Int) = (d : Int) := by omega
        clear hlk hla hd
        by_cases hf : d ≤ 32768
        · have df : decide ((d : Int) ≤ 32768) = true := decide_eq_true (by omega)
          have dfn : decide (d ≤ 32768) = true := decide_eq_true hf
          have ew : IntKind.u16.wrap (d : Int) = (d : Int) := by rw [IntKind.wrap_u16]; omega
          obtain ⟨_c, _f⟩ := HLQ.out.cell (show j < n by have := HJN.out; omega)
          have HM := hide (HLQ.out.set (show j < n by have := HJN.out; omega) (d : Int) (by rw [HLS.out, if_pos hf]))
          clear hf
          go_wp2_with (first
            | (at_mapUpdate; refine wpList_mapUpdate_own _ rfl _ _ _ 73 rfl 3 3 law_int Tryz.underlying73 _ (W.heap.size + 1) j _ rfl HM.out.map (by unfold maxLen; omega) _ _ _ rfl rfl (keyOf_int_mk Tryz.underlying3 (wf_nat h (by omega))) _ [] (plainElem_int Tryz.underlying3 (wf_nat j (by omega))) ?_; intro w1 hown1 hgrow1)
            | go_in)
          have HN1 := hide (HM.out.next (by unfold lastD; rw [H3.out]; exact hown1) hgrow1)
          clear hown1 hgrow1
          go_roundw
          case rel => exact ⟨j + 1, hlt, by go_num, HN1⟩
          case measure => exact meas_oneW j T hlt
        · have df : decide ((d : Int) ≤ 32768) = false := decide_eq_false (by omega)
          have dfn : decide (d ≤ 32768) = false := decide_eq_false hf
          have HM := hide (HLQ.out.skip (by rw [HLS.out, if_neg hf]))
          clear hf
          go_wp2_with (first
            | (at_mapUpdate; refine wpList_mapUpdate_own _ rfl _ _ _ 73 rfl 3 3 law_int Tryz.underlying73 _ (W.heap.size + 1) j _ rfl HM.out.map (by unfold maxLen; omega) _ _ _ rfl rfl (keyOf_int_mk Tryz.underlying3 (wf_nat h (by omega))) _ [] (plainElem_int Tryz.underlying3 (wf_nat j (by omega))) ?_; intro w1 hown1 hgrow1)
            | go_in)
          have HN1 := hide (HM.out.next (by unfold lastD; rw [H3.out]; exact hown1) hgrow1)
          clear hown1 hgrow1
          go_roundw
          case rel => exact ⟨j + 1, hlt, by go_num, HN1⟩
          case measure => exact meas_oneW j T hlt
    · have hje : j = T := by omega
      subst hje
      have HG := hide (show BackAt wr (some ⟨W.heap.size, 0, none⟩) (bAt s) n from HL.out.done HT.out)
      have HB := hide HL.out.bel
      go_wp2
      go_ret
      exact ⟨W.heap.size, rfl, HG.out, HB.out⟩

end Go.Proofs.YtaalbaiglkadlaaGreat

/- Contract of the code of layer 8: Tokens. -/
namespace Go.Proofs.YtaalbaiglkadlaaGreat
open Go.RowKit Go.Lib

theorem own_setC {w : World} {B p o : Nat} {e : TypeId} {size n : Nat} {v u : Value} {xs : List Value} (h : w.ownsRow B e size v n xs) (hp : v.ownBlock ≠ some p) : (w.setCell ⟨p, o, none⟩ u).ownsRow B e size v n xs := by
  refine ⟨h.1, ?_⟩
  rcases h.2 with h2 | ⟨g, cap, cur, hv, hg, hc, r⟩
  · exact .inl h2
  · refine .inr ⟨g, cap, cur, hv, hg, ?_, r⟩
    rw [Below.heap_setCell _ _ _ _ (fun e => hp (by rw [hv, show g = p from e]; rfl))]
    exact hc
/-- The tokens under way, and the match's own block. -/
structure TokI (w W : World) (s : ByteArray) (level : Int) (i : Nat) (out : List (Nat × Nat × Nat)) (v : Value) (MB r1 r2 : Nat) : Prop where
  tok : TokW w W s level i out v
  box : w.heap[MB]? = some (.cells #[.int .i64 (r1 : Nat), .int .i64 (r2 : Nat), .int .u8 0] 58 (0, 0))
  ne : v.ownBlock ≠ some MB
  ge : W.heap.size ≤ MB
theorem TokI.below {w w' W : World} {s : ByteArray} {level : Int} {i : Nat} {out : List (Nat × Nat × Nat)} {v : Value} {MB r1 r2 : Nat} (h : TokI w W s level i out v MB r1 r2) (b : Below w.heap.size w w') : TokI w' W s level i out v MB r1 r2 :=
  ⟨h.tok.below b, by rw [b.block _ (Array.getElem?_eq_some_iff.1 h.box).1]; exact h.box, h.ne, h.ge⟩
theorem TokI.made {w W : World} {s : ByteArray} {level : Int} {i : Nat} {out : List (Nat × Nat × Nat)} {v : Value} (h : TokW w W s level i out v) (r1 r2 : Nat) : TokI (w.alloc (.cells #[.int .i64 (r1 : Nat), .int .i64 (r2 : Nat), .int .u8 0] 58)) W s level i out v w.heap.size r1 r2 :=
  ⟨h.below ((Below.refl _ _).alloc (Nat.le_refl _) _), by show (w.heap.push _)[w.heap.size]? = _; simp, own_ne h.own (Nat.le_refl _), h.bel.size⟩

theorem TokI.lit {w W : World} {s : ByteArray} {level : Int} {i : Nat} {out : List (Nat × Nat × Nat)} {v : Value} {MB r1 r2 : Nat} (h : TokI w W s level i out v MB r1 r2) (x : Int) : TokW (w.setCell ⟨MB, 2, none⟩ (.int .u8 x)) W s level i out v ∧ (w.setCell ⟨MB, 2, none⟩ (.int .u8 x)).heap[MB]? = some (.cells #[.int .i64 (r1 : Nat), .int .i64 (r2 : Nat), .int .u8 x] 58 (0, 0)) :=
  ⟨⟨own_setC h.tok.own h.ne, h.tok.bel.setCell h.ge _, h.tok.tok, h.tok.len⟩, heap_setCell_same _ _ _ _ _ _ _ h.box⟩
theorem box_after {w w' : World} {v : Value} {p : Nat} {c : Obj} (hb : w.heap[p]? = some c) (hne : v.ownBlock ≠ some p) (o : Obj) (hg : (w.alloc o).grownBy w' v.ownBlock) : w'.heap[p]? = some c := by
  have hp : p < w.heap.size := (Array.getElem?_eq_some_iff.1 hb).1
  have hsz : (w.alloc o).heap.size = w.heap.size + 1 := by show (w.heap.push _).size = _; simp
  rw [hg.block p (by omega) (fun e => hne e.symm), heap_alloc_old _ _ _ hp]
  exact hb
theorem TokI.next {w w' W : World} {s : ByteArray} {level : Int} {i i2 : Nat} {out out2 : List (Nat × Nat × Nat)} {v v' : Value} {MB r1 r2 : Nat} (h : TokI w W s level i out v MB r1 r2) (o : Obj) (hg : (w.alloc o).grownBy w' v.ownBlock) (hf : v'.ownBlock = v.ownBlock ∨ ∀ k, v'.ownBlock = some k → (w.alloc o).heap.size ≤ k) (ht : TokW w' W s level i2 out2 v') (q1 q2 : Nat) :
    TokI (((w'.setCell ⟨MB, 0, none⟩ (.int .i64 (q1 : Nat))).setCell ⟨MB, 1, none⟩ (.int .i64 (q2 : Nat))).setCell ⟨MB, 2, none⟩ (.int .u8 0)) W s level i2 out2 v' MB q1 q2 := by
  have hp : MB < w.heap.size := (Array.getElem?_eq_some_iff.1 h.box).1
  have hsz : (w.alloc o).heap.size = w.heap.size + 1 := by show (w.heap.push _).size = _; simp
  have hne : v'.ownBlock ≠ some MB := by
    intro e
    rcases hf with e2 | e2
    · exact h.ne (by rw [← e2]; exact e)
    · have := e2 _ e; omega
  exact ⟨⟨own_setC (own_setC (own_setC ht.own hne) hne) hne, ((ht.bel.setCell h.ge _).setCell h.ge _).setCell h.ge _, ht.tok, ht.len⟩, set_three _ _ _ _ _ _ _ _ _ (box_after h.box h.ne o hg), hne, h.ge⟩

theorem setC_size (w : World) (p o : Nat) (u : Value) : (w.setCell ⟨p, o, none⟩ u).heap.size = w.heap.size := by simp [World.setCell]
theorem alloc_size (w : World) (o : Obj) : (w.alloc o).heap.size = w.heap.size + 1 := by show (w.heap.push _).size = _; simp
theorem cell_three_at (w : World) (p : Nat) (hp : w.heap.size = p) (x y z : Value) (t : TypeId) : ∀ j u, [x, y, z][j]? = some u → (w.alloc (.cells #[x, y, z] t)).cell? ((⟨p, 0, none⟩ : Addr).add j) = some u := by
  subst hp
  exact cell_three_new w x y z t
theorem three_cells {w : World} {p : Nat} {x y z : Value} {T : TypeId} (h : w.heap[p]? = some (.cells #[x, y, z] T (0, 0))) : w.cell? ⟨p, 0, none⟩ = some x ∧ w.cell? ⟨p, 1, none⟩ = some y ∧ w.cell? ⟨p, 2, none⟩ = some z :=
  ⟨by rw [cell_of_row _ _ 0 _ _ (0, 0) h]; rfl, by rw [cell_of_row _ _ 1 _ _ (0, 0) h]; rfl, by rw [cell_of_row _ _ 2 _ _ (0, 0) h]; rfl⟩
theorem meas_from {i j k n : Nat} (h1 : i ≤ j) (h2 : 1 ≤ k) (h3 : j + k ≤ n) : n - (intOf (.int .i64 ((j : Int) + (k : Int)))).toNat < n - (intOf (.int .i64 (i : Int))).toNat := by
  show n - ((j : Int) + (k : Int)).toNat < n - ((i : Nat) : Int).toNat
  omega
theorem TokCap.from {W W2 : World} {s : ByteArray} {level : Int} {e : Ending} {w' : World} (h : TokCap W2 s level e w') (b : Below W.heap.size W W2) : TokCap W s level e w' := by
  obtain ⟨a, c, ts, h1, h2, h3, h4, h5, h6⟩ := h
  exact ⟨a, c, ts, h1, h2, h3, h4, b.trans (h5.mono b.size), h6⟩

set_option maxRecDepth 20000 in
set_option maxHeartbeats 8000000 in
theorem tokens8 (s : ByteArray) (level : Int) (W : World) (hs : s.size ≤ 1000000) :
    Calls Tryz.prog 11 #[.string s, .int .i64 level] W fun e w' => TokCap W s level e w' := by
  obtain ⟨n, hn⟩ : ∃ n, s.size = n := ⟨_, rfl⟩
  have HN := hide hn
  have zn : ((s.size : Nat) : Int) = (n : Int) := by omega
  have HLK := hide (links8 s n W hn (by omega))
  have HTR := hide (tries8 level)
  have HCL := hide (chain_le level)
  have HCH := hide (show chainL level = chainL level from rfl)
  obtain ⟨m, hm⟩ : ∃ m, chainL level = m := ⟨_, rfl⟩
  rw [hm] at HTR HCL
  have HM := hide hm
  rw [hn] at hs
  obtain ⟨i1, ki, kz0, kz1, kz2⟩ := info_parts Tryz.infoTok
  clear hn hm HCH
  go_enter Tryz.func11, Tryz.ntmps11
  go_wp2_with fail
  refine HLK.out.mono ?_
  rintro e w1 ⟨g, rfl, hbk, b1⟩
  have HB1 := hide b1
  have HBK := hide hbk
  clear b1 hbk HLK
  go_wp2_with fail
  refine (HTR.out _).mono ?_
  rintro e w1 ⟨rfl, rfl⟩
  go_wp2
  have HT0 := hide (show TokW (w1.alloc (.cells #[.string s, .slice (some ⟨g, 0, none⟩) n n, .int .i64 (m : Nat)] 56)) (w1.alloc (.cells #[.string s, .slice (some ⟨g, 0, none⟩) n n, .int .i64 (m : Nat)] 56)) s level 0 [] (.slice none 0 0) from ⟨World.ownsRow_nil _ _ _ _, Below.refl _ _, fun rs h => h, Nat.le_refl _⟩)
  have HTX := hide (show (w1.alloc (.cells #[.string s, .slice (some ⟨g, 0, none⟩) n n, .int .i64 (m : Nat)] 56)).heap[w1.heap.size]? = some (.cells #[.string s, .slice (some ⟨g, 0, none⟩) n n, .int .i64 (m : Nat)] 56 (0, 0)) by show (w1.heap.push _)[w1.heap.size]? = _; simp)
  have HBK2 := hide (HBK.out.below ((Below.refl w1.heap.size w1).alloc (Nat.le_refl _) (.cells #[.string s, .slice (some ⟨g, 0, none⟩) n n, .int .i64 (m : Nat)] 56)) (Nat.le_refl _))
  have HB2 := hide (HB1.out.alloc HB1.out.size (.cells #[.string s, .slice (some ⟨g, 0, none⟩) n n, .int .i64 (m : Nat)] 56))
  clear HB1 HBK HTR
  generalize (w1.alloc (.cells #[.string s, .slice (some ⟨g, 0, none⟩) n n, .int .i64 (m : Nat)] 56)) = W2 at *
  generalize w1.heap.size = PB at *
  have hPB : PB < W2.heap.size := (Array.getElem?_eq_some_iff.1 HTX.out).1
  have HPB := hide hPB
  clear hPB
  go_loopw [6, 7] (fun v iv wr => ∃ i : Nat, i ≤ n ∧ iv = .int .i64 (i : Nat) ∧ ∃ out, Hid (TokW wr W2 s level i out v)) (fun _ iv _ => n - (intOf iv).toNat)
  case atStart => exact ⟨0, Nat.zero_le _, rfl, [], HT0⟩
  case round =>
    clear HT0
    obtain ⟨i, hi, rfl, out, HT⟩ := hrel
    by_cases hlt : i < n
    · have zi : (i : Int) < n := by omega
      have HMA := hide (fun w (b : Below W2.heap.size W2 w) j (hj : j < n) => match8 s (some ⟨g, 0, none⟩) n n m j w HN.out (HBK2.out.below b (Nat.le_refl _)) hj hs HCL.out)
      have HGD := hide (fun j => best_good (bAt s) n j m)
      obtain ⟨⟨r1, r2⟩, hr⟩ : ∃ r, bestM (bAt s) n i m = r := ⟨_, rfl⟩
      have HR := hide hr
      have HMA1 := hide (HMA.out wr HT.out.bel i hlt)
      rw [hr] at HMA1
      dsimp only at HMA1
      have _b0 : wr.cell? ⟨PB, 0, none⟩ = some (.string s) := by rw [HT.out.bel.cell (p := ⟨PB, 0, none⟩) HPB.out, cell_of_row _ _ 0 _ _ (0, 0) HTX.out]; rfl
      have _b1 : wr.cell? ⟨PB, 1, none⟩ = some (.slice (some ⟨g, 0, none⟩) n n) := by rw [HT.out.bel.cell (p := ⟨PB, 1, none⟩) HPB.out, cell_of_row _ _ 1 _ _ (0, 0) HTX.out]; rfl
      have _b2 : wr.cell? ⟨PB, 2, none⟩ = some (.int .i64 (m : Nat)) := by rw [HT.out.bel.cell (p := ⟨PB, 2, none⟩) HPB.out, cell_of_row _ _ 2 _ _ (0, 0) HTX.out]; rfl
      have HLT := hide hlt
      clear hr hlt
      go_wp2_with fail
      refine HMA1.out.mono ?_
      rintro e w2 ⟨rfl, b2⟩
      clear HMA1 _b0 _b1 _b2
      have HI0 := hide (TokI.made (HT.out.below b2) r1 r2)
      clear b2 HT
      go_wp2
      generalize (w2.alloc (.cells #[.int .i64 (r1 : Nat), .int .i64 (r2 : Nat), .int .u8 0] 58)) = w3 at *
      generalize w2.heap.size = MB at *
      rename World => wm
      go_loopw [6, 7] (fun v iv wt => ∃ j a b : Nat, i ≤ j ∧ j < n ∧ iv = .int .i64 (j : Nat) ∧ ∃ out, Hid (bestM (bAt s) n j m = (a, b)) ∧ Hid (TokI wt W2 s level j out v MB a b)) (fun _ iv _ => n - (intOf iv).toNat)
      case atStart => exact ⟨i, r1, r2, Nat.le_refl _, HLT.out, rfl, out, HR, HI0⟩
      case round =>
        clear HI0 HR
        obtain ⟨j, a, b, hij, hjn, rfl, out, HAB, HI⟩ := hrel
        have hol := HI.out.tok.len
        have X1 := hide (show out.length + 1 ≤ maxLen by unfold maxLen; omega)
        have X2 := hide (show (out.length + 1) * 24 ≤ 140737488355328 by omega)
        have HIS := hide (show j < s.size by rw [HN.out]; exact hjn)
        have ix := str_index s j HIS.out
        have HLIT := hide (tok_lit (bAt s) n j level)
        have HMAT := hide (tok_mat (bAt s) n j level)
        have HLNO := hide (lazy_no (bAt s) n j level)
        have HLIS := hide (lazy_is (bAt s) n j level)
        rw [HM.out] at HLIT HMAT HLNO HLIS
        rw [HAB.out] at HLIT HMAT HLNO HLIS
        dsimp only at HLIT HMAT HLNO HLIS
        rw [← HN.out] at HLIT HMAT HLNO
        have hgd := HGD.out j
        rw [HAB.out] at hgd
        have hg9 : a ≤ 258 ∧ b ≤ 32768 ∧ (a ≠ 0 → j + a ≤ n ∧ 3 ≤ a) ∧ (a = 0 → b = 0) := by
          rcases hgd with e | e
          · injection e with e1 e2; omega
          · have h1 := e.1; have h2 := e.2.1; have h3 := e.2.2.2.1; have h4 := e.2.2.2.2.2.1; dsimp only at h1 h2 h3 h4; omega
        have ha9 := hg9.1
        have hb9 := hg9.2.1
        have HRN := hide hg9.2.2.1
        have HR0 := hide hg9.2.2.2
        have hbt := bAt_lt s j
        generalize bAt s j = bi at *
        have HZ0 := hide (fun w => size8 0 0 bi w)
        have HZ := hide (fun (a0 : a ≠ 0) w => (show Calls Tryz.prog 21 #[.agg #[.int .i64 (a : Nat), .int .i64 (b : Nat), .int .u8 0]] w (fun e w' => e = .returned (.int .i64 (a : Nat)) ∧ Below w.heap.size w w') from by
          have h := size8 (a : Nat) (b : Nat) 0 w
          rw [show max ((a : Nat) : Int) 1 = (a : Nat) by omega] at h
          exact h))
        have _m0 : wr.cell? ⟨MB, 0, none⟩ = some (.int .i64 (a : Nat)) := by rw [cell_of_row _ _ 0 _ _ (0, 0) HI.out.box]; rfl
        have _m1 : wr.cell? ⟨MB, 1, none⟩ = some (.int .i64 (b : Nat)) := by rw [cell_of_row _ _ 1 _ _ (0, 0) HI.out.box]; rfl
        have _m2 : wr.cell? ⟨MB, 2, none⟩ = some (.int .u8 0) := by rw [cell_of_row _ _ 2 _ _ (0, 0) HI.out.box]; rfl
        have _n0 : wr.frozen? ⟨MB, 0, none⟩ = false := frozen_row HI.out.box 0
        have _n1 : wr.frozen? ⟨MB, 1, none⟩ = false := frozen_row HI.out.box 1
        have _n2 : wr.frozen? ⟨MB, 2, none⟩ = false := frozen_row HI.out.box 2
        have zj : (j : Int) < n := by omega
        clear hol hgd hg9
        by_cases a0 : a = 0
        · subst a0
          have hb0 : b = 0 := HR0.out rfl
          subst hb0
          by_cases l4 : 4 ≤ level
          · have d4 : decide ((4 : Int) ≤ level) = true := decide_eq_true l4
            clear l4
            have HTK := hide (HLIT.out (.inl rfl))
            have HLS := hide (HI.out.lit (bi : Int))
            have HL1 := hide HLS.out.1
            have HLB := hide HLS.out.2
            have HNE := hide HI.out.ne
            clear HLIT HMAT HLNO HLIS
            go_wp2_with (first
              | (at_builtin; refine wpList_append_fresh _ rfl _ _ 38 rfl W2.heap.size 58 i1 (.agg #[.int .i64 0, .int .i64 0, .int .u8 0]) 3 24 Tryz.underlying38 ki kz0 kz1 kz2 rfl (by decide) u6 _ _ rfl (HL1.out.own.alloc _) _ 1 1 [.int .i64 0, .int .i64 0, .int .u8 (bi : Int)] rfl rfl (cell_three_at _ _ (setC_size _ _ _ _) _ _ _ _) (three_one _ _ _) X1.out X2.out (size_alloc_le HL1.out.bel.size) ?_; intro v3 w3 o3 g3 f3; have HT3 := hide (HL1.out.app HIS.out (bi, 0, 0) HTK.out 1 rfl _ o3 g3); have HX3 := hide (box_after HLB.out HNE.out _ g3); obtain ⟨_z0, _z1, _z2⟩ := three_cells HX3.out; clear o3 g3 f3))
            refine (HZ0.out _).mono ?_
            rintro e w4 ⟨rfl, b4⟩
            have HT4 := hide (HT3.out.below b4)
            clear b4
            go_wp2
            go_roundw
            case rel => exact ⟨j + 1, hjn, by go_num, _, HT4⟩
            case measure => exact meas_from hij (Nat.le_refl _) hjn
          · have d4 : decide ((4 : Int) ≤ level) = false := decide_eq_false l4
            clear l4
            have HTK := hide (HLIT.out (.inl rfl))
            have HLS := hide (HI.out.lit (bi : Int))
            have HL1 := hide HLS.out.1
            have HLB := hide HLS.out.2
            have HNE := hide HI.out.ne
            clear HLIT HMAT HLNO HLIS
            go_wp2_with (first
              | (at_builtin; refine wpList_append_fresh _ rfl _ _ 38 rfl W2.heap.size 58 i1 (.agg #[.int .i64 0, .int .i64 0, .int .u8 0]) 3 24 Tryz.underlying38 ki kz0 kz1 kz2 rfl (by decide) u6 _ _ rfl (HL1.out.own.alloc _) _ 1 1 [.int .i64 0, .int .i64 0, .int .u8 (bi : Int)] rfl rfl (cell_three_at _ _ (setC_size _ _ _ _) _ _ _ _) (three_one _ _ _) X1.out X2.out (size_alloc_le HL1.out.bel.size) ?_; intro v3 w3 o3 g3 f3; have HT3 := hide (HL1.out.app HIS.out (bi, 0, 0) HTK.out 1 rfl _ o3 g3); have HX3 := hide (box_after HLB.out HNE.out _ g3); obtain ⟨_z0, _z1, _z2⟩ := three_cells HX3.out; clear o3 g3 f3))
            refine (HZ0.out _).mono ?_
            rintro e w4 ⟨rfl, b4⟩
            have HT4 := hide (HT3.out.below b4)
            clear b4
            go_wp2
            go_roundw
            case rel => exact ⟨j + 1, hjn, by go_num, _, HT4⟩
            case measure => exact meas_from hij (Nat.le_refl _) hjn
        · have za0 : (0 : Int) < a := by omega
          by_cases l4 : 4 ≤ level
          · have d4 : decide ((4 : Int) ≤ level) = true := decide_eq_true l4
            by_cases a258 : a < 258
            · have za258 : (a : Int) < 258 := by omega
              have hj1 : j + 1 < n := by have := HRN.out a0; omega
              have HLZ := hide (HLIS.out (by omega) a258 l4)
              obtain ⟨⟨q1, q2⟩, hq⟩ : ∃ r, bestM (bAt s) n (j + 1) m = r := ⟨_, rfl⟩
              have HAB2 := hide hq
              have HMA2 := hide (HMA.out wr HI.out.tok.bel (j + 1) hj1)
              rw [hq] at HMA2 HLZ
              dsimp only at HMA2 HLZ
              have hgd := HGD.out (j + 1)
              rw [hq] at hgd
              have hq9 : q1 ≤ 258 ∧ q2 ≤ 32768 := by
                rcases hgd with e | e
                · injection e with e1 e2; omega
                · have h2 := e.2.1; have h3 := e.2.2.2.1; dsimp only at h2 h3; omega
              have hq1 := hq9.1
              have hq2 := hq9.2
              have e1 : ((j + 1 : Nat) : Int) = (j : Int) + 1 := by omega
              rw [e1] at HMA2
              have _b0 : wr.cell? ⟨PB, 0, none⟩ = some (.string s) := by rw [HI.out.tok.bel.cell (p := ⟨PB, 0, none⟩) HPB.out, cell_of_row _ _ 0 _ _ (0, 0) HTX.out]; rfl
              have _b1 : wr.cell? ⟨PB, 1, none⟩ = some (.slice (some ⟨g, 0, none⟩) n n) := by rw [HI.out.tok.bel.cell (p := ⟨PB, 1, none⟩) HPB.out, cell_of_row _ _ 1 _ _ (0, 0) HTX.out]; rfl
              have _b2 : wr.cell? ⟨PB, 2, none⟩ = some (.int .i64 (m : Nat)) := by rw [HI.out.tok.bel.cell (p := ⟨PB, 2, none⟩) HPB.out, cell_of_row _ _ 2 _ _ (0, 0) HTX.out]; rfl
              have HJ1 := hide hj1
              clear hq hgd hq9 e1 hj1 HMA HGD HLIS l4 a258
              go_wp2_with fail
              refine HMA2.out.mono ?_
              rintro e w5 ⟨rfl, b5⟩
              clear HMA2 _b0 _b1 _b2 _m0 _m1 _m2 _n0 _n1 _n2
              have HI5 := hide (HI.out.below b5)
              clear b5 HI
              have HNN := hide (own_ne HI5.out.tok.own (Nat.le_refl _))
              have HI6 := hide (HI5.out.below ((Below.refl _ _).alloc (Nat.le_refl _) (.cells #[.int .i64 (q1 : Nat), .int .i64 (q2 : Nat), .int .u8 0] 58)))
              have HNB := hide (show (w5.alloc (.cells #[.int .i64 (q1 : Nat), .int .i64 (q2 : Nat), .int .u8 0] 58)).heap[w5.heap.size]? = some (.cells #[.int .i64 (q1 : Nat), .int .i64 (q2 : Nat), .int .u8 0] 58 (0, 0)) by show (w5.heap.push _)[w5.heap.size]? = _; simp)
              obtain ⟨_m0, _m1, _m2⟩ := three_cells HI5.out.box
              obtain ⟨_k0, _k1, _k2⟩ := three_cells HI6.out.box
              have _n0 := frozen_row HI6.out.box 0
              have _n1 := frozen_row HI6.out.box 1
              have _n2 := frozen_row HI6.out.box 2
              by_cases hqa : q1 ≤ a
              · have zqa : (q1 : Int) ≤ a := by omega
                have HLF := hide (show lazyB (bAt s) n j level = false by rw [HLZ.out]; exact decide_eq_false (by omega))
                rw [← HN.out] at HLF
                clear hqa
                have HTK := hide (HMAT.out a0 HLF.out)
                have HNE := hide HI6.out.ne
                have HL1 := hide HI6.out.tok
                have HLB := hide HI6.out.box
                have hin := HRN.out a0
                have HTS := hide (show takes (0, a, b) = a by unfold takes; rw [if_neg a0])
                have HZA := hide (HZ.out a0)
                have ba0 : ((a : Int) == 0) = false := by simp; omega
                have ha1 : 1 ≤ a := by omega
                clear HLIT HMAT HLNO a0
                go_wp2_with (first
                  | (at_builtin; refine wpList_append_fresh _ rfl _ _ 38 rfl W2.heap.size 58 i1 (.agg #[.int .i64 0, .int .i64 0, .int .u8 0]) 3 24 Tryz.underlying38 ki kz0 kz1 kz2 rfl (by decide) u6 _ _ rfl (HL1.out.own.alloc _) _ 1 1 [.int .i64 (a : Int), .int .i64 (b : Int), .int .u8 0] rfl rfl (cell_three_at _ _ (alloc_size _ _) _ _ _ _) (three_one _ _ _) X1.out X2.out (size_alloc_le HL1.out.bel.size) ?_; intro v3 w3 o3 g3 f3; have HT3 := hide (HL1.out.app HIS.out (0, a, b) HTK.out a HTS.out _ o3 g3); have HX3 := hide (box_after HLB.out HNE.out _ g3); obtain ⟨_z0, _z1, _z2⟩ := three_cells HX3.out; clear o3 g3 f3))
                refine (HZA.out _).mono ?_
                rintro e w4 ⟨rfl, b4⟩
                have HT4 := hide (HT3.out.below b4)
                clear b4
                go_wp2
                go_roundw
                case rel => exact ⟨j + a, hin.1, by go_num, _, HT4⟩
                case measure => exact meas_from hij ha1 hin.1
              · have zqa : ¬ (q1 : Int) ≤ a := by omega
                have HLF := hide (show lazyB (bAt s) n j level = true by rw [HLZ.out]; exact decide_eq_true (by omega))
                rw [← HN.out] at HLF
                have HTK := hide (HLIT.out (.inr HLF.out))
                have HL1 := hide HI6.out.tok
                have HLB := hide HI6.out.box
                have HNE := hide HI6.out.ne
                clear hqa HLIT HMAT HLNO HLF a0
                go_wp2_with (first
                  | (at_builtin; refine wpList_append_fresh _ rfl _ _ 38 rfl W2.heap.size 58 i1 (.agg #[.int .i64 0, .int .i64 0, .int .u8 0]) 3 24 Tryz.underlying38 ki kz0 kz1 kz2 rfl (by decide) u6 _ _ rfl (HL1.out.own.alloc _) _ 1 1 [.int .i64 0, .int .i64 0, .int .u8 (bi : Int)] rfl rfl (cell_three_at _ _ (alloc_size _ _) _ _ _ _) (three_one _ _ _) X1.out X2.out (size_alloc_le HL1.out.bel.size) ?_; intro v3 w3 o3 g3 f3; have HT3 := hide (HL1.out.app HIS.out (bi, 0, 0) HTK.out 1 rfl _ o3 g3); have HX3 := hide (box_after HLB.out HNE.out _ g3); have HX4 := hide (box_after HNB.out HNN.out _ g3); have HI7 := hide (HI6.out.next _ g3 f3 HT3.out q1 q2); obtain ⟨_z0, _z1, _z2⟩ := three_cells HX3.out; obtain ⟨_y0, _y1, _y2⟩ := three_cells HX4.out; have _w0 := frozen_row HX3.out 0; have _w1 := frozen_row HX3.out 1; have _w2 := frozen_row HX3.out 2; clear o3 g3 f3))
                go_roundw
                case rel => exact ⟨j + 1, q1, q2, by omega, HJ1.out, by go_num, _, HAB2, HI7⟩
                case measure => exact meas_oneW j n hjn
            · have za258 : ¬ (a : Int) < 258 := by omega
              have HLF := hide (HLNO.out (.inl (by omega)))
              have HTK := hide (HMAT.out a0 HLF.out)
              have HNE := hide HI.out.ne
              have HL1 := hide HI.out.tok
              have HLB := hide HI.out.box
              have hin := HRN.out a0
              have HTS := hide (show takes (0, a, b) = a by unfold takes; rw [if_neg a0])
              have HZA := hide (HZ.out a0)
              have ba0 : ((a : Int) == 0) = false := by simp; omega
              have ha1 : 1 ≤ a := by omega
              clear HLIT HMAT HLNO HLIS a0
              go_wp2_with (first
                | (at_builtin; refine wpList_append_fresh _ rfl _ _ 38 rfl W2.heap.size 58 i1 (.agg #[.int .i64 0, .int .i64 0, .int .u8 0]) 3 24 Tryz.underlying38 ki kz0 kz1 kz2 rfl (by decide) u6 _ _ rfl (HL1.out.own.alloc _) _ 1 1 [.int .i64 (a : Int), .int .i64 (b : Int), .int .u8 0] rfl rfl (cell_three_new _ _ _ _ _) (three_one _ _ _) X1.out X2.out (size_alloc_le HL1.out.bel.size) ?_; intro v3 w3 o3 g3 f3; have HT3 := hide (HL1.out.app HIS.out (0, a, b) HTK.out a HTS.out _ o3 g3); have HX3 := hide (box_after HLB.out HNE.out _ g3); obtain ⟨_z0, _z1, _z2⟩ := three_cells HX3.out; clear o3 g3 f3))
              refine (HZA.out _).mono ?_
              rintro e w4 ⟨rfl, b4⟩
              have HT4 := hide (HT3.out.below b4)
              clear b4
              go_wp2
              go_roundw
              case rel => exact ⟨j + a, hin.1, by go_num, _, HT4⟩
              case measure => exact meas_from hij ha1 hin.1
          · have d4 : decide ((4 : Int) ≤ level) = false := decide_eq_false l4
            have HLF := hide (HLNO.out (.inr (by omega)))
            have HTK := hide (HMAT.out a0 HLF.out)
            have HNE := hide HI.out.ne
            have HL1 := hide HI.out.tok
            have HLB := hide HI.out.box
            have hin := HRN.out a0
            have HTS := hide (show takes (0, a, b) = a by unfold takes; rw [if_neg a0])
            have HZA := hide (HZ.out a0)
            have ba0 : ((a : Int) == 0) = false := by simp; omega
            have ha1 : 1 ≤ a := by omega
            clear HLIT HMAT HLNO HLIS a0
            go_wp2_with (first
              | (at_builtin; refine wpList_append_fresh _ rfl _ _ 38 rfl W2.heap.size 58 i1 (.agg #[.int .i64 0, .int .i64 0, .int .u8 0]) 3 24 Tryz.underlying38 ki kz0 kz1 kz2 rfl (by decide) u6 _ _ rfl (HL1.out.own.alloc _) _ 1 1 [.int .i64 (a : Int), .int .i64 (b : Int), .int .u8 0] rfl rfl (cell_three_new _ _ _ _ _) (three_one _ _ _) X1.out X2.out (size_alloc_le HL1.out.bel.size) ?_; intro v3 w3 o3 g3 f3; have HT3 := hide (HL1.out.app HIS.out (0, a, b) HTK.out a HTS.out _ o3 g3); have HX3 := hide (box_after HLB.out HNE.out _ g3); obtain ⟨_z0, _z1, _z2⟩ := three_cells HX3.out; clear o3 g3 f3))
            refine (HZA.out _).mono ?_
            rintro e w4 ⟨rfl, b4⟩
            have HT4 := hide (HT3.out.below b4)
            clear b4
            go_wp2
            go_roundw
            case rel => exact ⟨j + a, hin.1, by go_num, _, HT4⟩
            case measure => exact meas_from hij ha1 hin.1
    · have hie : i = n := by omega
      subst hie
      have HD := hide (show TokCap W s level (.returned u6) wr by
        have h := HT.out
        rw [← HN.out] at h
        exact h.done.from HB2.out)
      go_wp2
      go_ret
      exact HD.out

end Go.Proofs.YtaalbaiglkadlaaGreat

/- Contract of the code of layer 8: counted. -/
namespace Go.Proofs.YtaalbaiglkadlaaGreat
open Go.RowKit Go.Lib

/-- How many bytes tokens come to, behind so many, or the error. -/
def cntT (limit : Int) : Nat → List (Nat × Int × Int) → Nat × Nat
  | S, [] => (S, 0)
  | S, t :: ts =>
    if t.2.1 ≤ 0 then (if limit ≤ (S : Int) then (0, 6) else cntT limit (S + 1) ts)
    else if t.2.2 < 1 ∨ (S : Int) < t.2.2 then (0, 5)
    else if limit - (S : Int) < t.2.1 then (0, 6)
    else cntT limit (S + t.2.1.toNat) ts
/-- What is counted is what they come to. -/
theorem cnt_ex (limit : Int) : ∀ (ts : List (Nat × Int × Int)) (out : List Nat), (cntT limit out.length ts).2 = (exF 5 6 limit out ts).2 ∧ ((exF 5 6 limit out ts).2 = 0 → (cntT limit out.length ts).1 = (exF 5 6 limit out ts).1.length) ∧ ((exF 5 6 limit out ts).2 ≠ 0 → (cntT limit out.length ts).1 = 0)
  | [], out => ⟨rfl, fun _ => rfl, fun h => absurd rfl h⟩
  | t :: ts, out => by
    unfold exF cntT
    by_cases c1 : t.2.1 ≤ 0
    · rw [if_pos c1, if_pos c1]
      by_cases c2 : limit ≤ (out.length : Int)
      · rw [if_pos c2, if_pos c2]
        exact ⟨rfl, fun h => (by cases h), fun _ => rfl⟩
      · rw [if_neg c2, if_neg c2]
        have h := cnt_ex limit ts (out ++ [t.1])
        rw [List.length_append] at h
        exact h
    · rw [if_neg c1, if_neg c1]
      by_cases c2 : t.2.2 < 1 ∨ (out.length : Int) < t.2.2
      · rw [if_pos c2, if_pos c2]
        exact ⟨rfl, fun h => (by cases h), fun _ => rfl⟩
      · rw [if_neg c2, if_neg c2]
        by_cases c3 : limit - (out.length : Int) < t.2.1
        · rw [if_pos c3, if_pos c3]
          exact ⟨rfl, fun h => (by cases h), fun _ => rfl⟩
        · rw [if_neg c3, if_neg c3]
          have h := cnt_ex limit ts (copyN t.2.2.toNat t.2.1.toNat out)
          rw [copyN_length] at h
          exact h

/-- A counting under way. -/
structure CntT (w W : World) (l : List (Nat × Int × Int)) (limit : Int) (i S : Nat) : Prop where
  bel : Below W.heap.size W w
  cnt : cntT limit 0 l = cntT limit S (l.drop i)
  room : S = 0 ∨ (S : Int) ≤ limit
/-- What a counting gives. -/
def CntTPost (W : World) (l : List (Nat × Int × Int)) (limit : Int) (e : Ending) (w' : World) : Prop := e = .returned (.tuple #[.int .i64 ((cntT limit 0 l).1 : Nat), .int .i64 ((cntT limit 0 l).2 : Nat)]) ∧ Below W.heap.size W w'
theorem CntT.step {w W : World} {l : List (Nat × Int × Int)} {limit : Int} {i S : Nat} (h : CntT w W l limit i S) (t : Nat × Int × Int) (ht : l[i]? = some t) :
    cntT limit 0 l = (if t.2.1 ≤ 0 then (if limit ≤ (S : Int) then (0, 6) else cntT limit (S + 1) (l.drop (i + 1)))
      else if t.2.2 < 1 ∨ (S : Int) < t.2.2 then (0, 5)
      else if limit - (S : Int) < t.2.1 then (0, 6)
      else cntT limit (S + t.2.1.toNat) (l.drop (i + 1))) := by
  obtain ⟨hi, e⟩ := List.getElem?_eq_some_iff.1 ht
  rw [h.cnt, List.drop_eq_getElem_cons hi, e]
  rfl
theorem cntT_post {W w : World} {l : List (Nat × Int × Int)} {limit : Int} {n e : Nat} (h : cntT limit 0 l = (n, e)) (b : Below W.heap.size W w) : CntTPost W l limit (.returned (.tuple #[.int .i64 (n : Nat), .int .i64 (e : Nat)])) w := by
  unfold CntTPost
  rw [h]
  exact ⟨rfl, b⟩

end Go.Proofs.YtaalbaiglkadlaaGreat

/- Contracts of the code of layer 8: Tokens and Expand. -/
namespace Go.Proofs.YtaalbaiglkadlaaGreat
open Go.RowKit Go.Lib

theorem tokens_cap (s : ByteArray) (level : Int) (W : World) (hs : s.size ≤ 1000000) :
    Calls Tryz.prog 11 #[.string s, .int .i64 level] W fun e w' => TokCap W s level e w' := tokens8 s level W hs
theorem tokens_any (s : ByteArray) (level : Int) (W : World) (hs : s.size ≤ 1000000) :
    Calls Tryz.prog 11 #[.string s, .int .i64 level] W fun e w' => TokPost W s level e w' := by
  refine (tokens_cap s level W hs).mono ?_
  intro e w' h
  exact h.post

end Go.Proofs.YtaalbaiglkadlaaGreat
