/- Contracts of the code of layer 8: tries, size, same, match. -/
import Derived.Test.YtifcpaeofmkokaaMTok
import Derived.Test.YtifcpaeofmkokaaMLink
import Derived.Lib.MinMax
namespace Go.Proofs.Ytifcpaeofmkokaa
open Go.RowKit Go.Lib

set_option maxHeartbeats 1000000 in
theorem tries8 (level : Int) (w : World) :
    Calls Try.prog 16 #[.int .i64 level] w fun e w' => e = .returned (.int .i64 (chainL level : Nat)) ∧ w = w' := by
  by_cases h1 : level < 1
  · have e : chainL level = 0 := by unfold chainL; rw [if_pos h1]
    rw [e]
    clear e
    go_enter Try.func16, Try.ntmps16
    go_wp2
    go_ret
    exact ⟨rfl, rfl⟩
  · by_cases h9 : 9 < level
    · have e : chainL level = 256 := by unfold chainL; rw [if_neg h1, show min level 9 = 9 by omega]; rfl
      have hm : min level 9 = 9 := by omega
      rw [e]
      clear e
      go_enter Try.func16, Try.ntmps16
      go_wp2
      go_ret
      exact ⟨rfl, rfl⟩
    · have hc : level = 1 ∨ level = 2 ∨ level = 3 ∨ level = 4 ∨ level = 5 ∨ level = 6 ∨ level = 7 ∨ level = 8 ∨ level = 9 := by omega
      have hm : min level 9 = level := by omega
      clear h1 h9
      rcases hc with rfl | rfl | rfl | rfl | rfl | rfl | rfl | rfl | rfl <;>
        (go_enter Try.func16, Try.ntmps16
         go_wp2
         go_ret
         exact ⟨rfl, rfl⟩)

set_option maxHeartbeats 1000000 in
theorem size8 (l d : Int) (x : Nat) (w : World) :
    Calls Try.prog 18 #[.agg #[.int .i64 l, .int .i64 d, .int .u8 (x : Nat)]] w fun e w' => e = .returned (.int .i64 (max l 1)) ∧ Below w.heap.size w w' := by
  have HB := hide ((Below.refl w.heap.size w).alloc (Nat.le_refl _) (.cells #[.int .i64 l, .int .i64 d, .int .u8 (x : Nat)] 32))
  go_enter Try.func18, Try.ntmps18
  go_wp2
  go_ret
  exact ⟨rfl, HB.out⟩

/-- How many bytes are the same, from two places on, so many at the most. -/
def sameN (c : Nat → Nat) (k i : Nat) : Nat → Nat → Nat
  | 0, l => l
  | f + 1, l => if c (k + l) = c (i + l) then sameN c k i f (l + 1) else l
theorem sameN_spec (c : Nat → Nat) (k i : Nat) : ∀ f l, l ≤ sameN c k i f l ∧ sameN c k i f l ≤ l + f ∧ (∀ t, l ≤ t → t < sameN c k i f l → c (k + t) = c (i + t)) ∧ (sameN c k i f l = l + f ∨ c (k + sameN c k i f l) ≠ c (i + sameN c k i f l))
  | 0, l => ⟨Nat.le_refl _, Nat.le_refl _, fun t h1 h2 => by unfold sameN at h2; omega, .inl rfl⟩
  | f + 1, l => by
    unfold sameN
    by_cases h : c (k + l) = c (i + l)
    · rw [if_pos h]
      obtain ⟨h1, h2, h3, h4⟩ := sameN_spec c k i f (l + 1)
      refine ⟨by omega, by omega, fun t g1 g2 => ?_, ?_⟩
      · by_cases e : t = l
        · rw [e]; exact h
        · exact h3 t (by omega) g2
      · rcases h4 with h4 | h4
        · exact .inl (by omega)
        · exact .inr h4
    · rw [if_neg h]
      exact ⟨Nat.le_refl _, by omega, fun t g1 g2 => by omega, .inr h⟩
theorem same_len (c : Nat → Nat) (n k i : Nat) (hi : i ≤ n) (hs : same3 c n k i = true) : sameN c k i (min (n - i) 258) 0 = mlen c n k i := by
  obtain ⟨h1, h2, h3, h4⟩ := sameN_spec c k i (min (n - i) 258) 0
  refine (mlen_of c n k i _ hs (by omega) (by omega) (fun t ht => h3 t (Nat.zero_le _) ht) ?_).symm
  rcases h4 with h4 | h4
  · omega
  · exact .inr (.inr h4)

set_option maxRecDepth 20000 in
set_option maxHeartbeats 4000000 in
theorem same8 (s : ByteArray) (b : Value) (q : Int) (k i M : Nat) (W : World) (hk : k ≤ i) (hi : i + M ≤ s.size) (hs : s.size ≤ 1000000) :
    Calls Try.prog 22 #[.agg #[.string s, b, .int .i64 q], .int .i64 (k : Nat), .int .i64 (i : Nat), .int .i64 (M : Nat)] W fun e w' => e = .returned (.int .i64 (sameN (bAt s) k i M 0 : Nat)) ∧ Below W.heap.size W w' := by
  obtain ⟨R, hR⟩ : ∃ R, sameN (bAt s) k i M 0 = R := ⟨_, rfl⟩
  rw [hR]
  have HR0 := hide (show sameN (bAt s) k i (M - 0) 0 = R by rw [Nat.sub_zero]; exact hR)
  have HS := hide hs
  have HI := hide hi
  have hM9 : M ≤ 1000000 := by omega
  have hi9 : i ≤ 1000000 := by omega
  have B0 := hide ((Below.refl W.heap.size W).alloc (Nat.le_refl _) (.cells #[.string s, b, .int .i64 q] 40))
  have HX0 := hide (show (W.alloc (.cells #[.string s, b, .int .i64 q] 40)).heap[W.heap.size]? = some (.cells #[.string s, b, .int .i64 q] 40 (0, 0)) by show (W.heap.push _)[W.heap.size]? = _; simp)
  clear hR hi hs
  go_enter Try.func22, Try.ntmps22
  go_wp2
  go_loopw [9] (fun lv wr => ∃ l : Nat, l ≤ M ∧ lv = .int .i64 (l : Nat) ∧ Hid (sameN (bAt s) k i (M - l) l = R) ∧ Hid (Below W.heap.size W wr) ∧ Hid (wr.heap[W.heap.size]? = some (.cells #[.string s, b, .int .i64 q] 40 (0, 0)))) (fun lv _ => M - (intOf lv).toNat)
  case atStart => exact ⟨0, Nat.zero_le _, rfl, HR0, B0, HX0⟩
  case round =>
    clear HR0 B0 HX0
    obtain ⟨l, hl, rfl, HR, HB, HX⟩ := hrel
    by_cases c1 : l < M
    · have d1 : decide ((l : Int) < M) = true := decide_eq_true (by omega)
      have d1n : decide (l < M) = true := decide_eq_true c1
      obtain ⟨f, hf⟩ : ∃ f, M - l = f + 1 := ⟨M - l - 1, by omega⟩
      have hf2 : M - (l + 1) = f := by omega
      rw [hf] at HR
      obtain ⟨x, hx⟩ : ∃ x, k + l = x := ⟨_, rfl⟩
      obtain ⟨y, hy⟩ : ∃ y, i + l = y := ⟨_, rfl⟩
      have HST := hide (show sameN (bAt s) k i (f + 1) l = if bAt s x = bAt s y then sameN (bAt s) k i f (l + 1) else l by rw [← hx, ← hy]; rfl)
      have ex : (k : Int) + (l : Int) = (x : Int) := by omega
      have ey : (i : Int) + (l : Int) = (y : Int) := by omega
      have ix := str_index s x (by have := HI.out; omega)
      have iy := str_index s y (by have := HI.out; omega)
      have _p0 : wr.cell? ⟨W.heap.size, 0, none⟩ = some (.string s) := by rw [cell_of_row _ _ 0 _ _ (0, 0) HX.out]; rfl
      by_cases c3 : bAt s x = bAt s y
      · have HR2 := hide (show sameN (bAt s) k i (M - (l + 1)) (l + 1) = R by rw [hf2, ← HR.out, HST.out, if_pos c3])
        have HC := hide c1
        rw [c3] at ix
        clear c1 c3 hx hy hf hf2 HST HR
        go_wp2
        go_quiet (fail)
        go_wp2
        go_roundw
        case rel => exact ⟨l + 1, HC.out, by go_num, HR2, hide (below_drewN HB.out _), HX⟩
        case measure => exact meas_oneW l M HC.out
      · have HE := hide (show l = R by rw [← HR.out, HST.out, if_neg c3])
        have bxy : ((bAt s x : Int) == (bAt s y : Int)) = false := by simp; omega
        clear c1 c3 hx hy hf hf2 HST HR
        generalize bAt s x = bx at ix bxy
        generalize bAt s y = bY at iy bxy
        go_wp2
        go_quiet (fail)
        go_wp2
        go_ret
        exact ⟨by rw [← HE.out]; rfl, below_drewN HB.out _⟩
    · have hle : l = M := by omega
      have d1 : decide ((l : Int) < M) = false := decide_eq_false (by omega)
      have d1n : decide (l < M) = false := decide_eq_false (by omega)
      have HE := hide (show l = R by rw [← HR.out, hle, Nat.sub_self]; rfl)
      clear c1 hle hl
      go_wp2
      go_quiet (fail)
      go_wp2
      go_ret
      exact ⟨by rw [← HE.out]; rfl, below_drewN HB.out _⟩

/-- How far back each place's bytes stood last, as cells. -/
def BackAt (w : World) (a : Option Addr) (c : Nat → Nat) (n : Nat) : Prop := ∀ i, i < n → ∃ g, a = some ⟨g, 0, none⟩ ∧ g < w.heap.size ∧ w.cell? ⟨g, i, none⟩ = some (.int .u16 (linkN c n i : Nat))
theorem BackAt.below {w w' : World} {a : Option Addr} {c : Nat → Nat} {n : Nat} (h : BackAt w a c n) {B : Nat} (b : Below B w w') (hB : w.heap.size ≤ B) : BackAt w' a c n := by
  intro i hi
  obtain ⟨g, h1, h2, h3⟩ := h i hi
  have hlt := Nat.lt_of_lt_of_le h2 hB
  exact ⟨g, h1, Nat.lt_of_lt_of_le h2 b.size, by rw [b.cell (p := ⟨g, i, none⟩) hlt]; exact h3⟩

theorem frozen_row {w : World} {b : Nat} {cs : Array Value} {t : TypeId} (h : w.heap[b]? = some (.cells cs t (0, 0))) (o : Nat) : w.frozen? ⟨b, o, none⟩ = false := by simp [World.frozen?, h]
/-- A search under way: the text's box, the result's, the best one's. -/
structure MatW (w W : World) (s : ByteArray) (bk : Value) (m l d : Nat) : Prop where
  bel : Below W.heap.size W w
  box : w.heap[W.heap.size]? = some (.cells #[.string s, bk, .int .i64 (m : Nat)] 40 (0, 0))
  res : w.heap[W.heap.size + 1]? = some (.cells #[.int .i64 0, .int .i64 0, .int .u8 0] 32 (0, 0))
  best : w.heap[W.heap.size + 1 + 1]? = some (.cells #[.int .i64 (l : Nat), .int .i64 (d : Nat), .int .u8 0] 32 (0, 0))
theorem MatW.below {w w' W : World} {s : ByteArray} {bk : Value} {m l d : Nat} (h : MatW w W s bk m l d) (b : Below w.heap.size w w') : MatW w' W s bk m l d := by
  have h1 : W.heap.size < w.heap.size := (Array.getElem?_eq_some_iff.1 h.box).1
  have h2 : W.heap.size + 1 < w.heap.size := (Array.getElem?_eq_some_iff.1 h.res).1
  have h3 : W.heap.size + 1 + 1 < w.heap.size := (Array.getElem?_eq_some_iff.1 h.best).1
  exact ⟨h.bel.trans (b.mono h.bel.size), by rw [b.block _ h1]; exact h.box, by rw [b.block _ h2]; exact h.res, by rw [b.block _ h3]; exact h.best⟩
theorem MatW.start (W : World) (s : ByteArray) (bk : Value) (m : Nat) : MatW (((W.alloc (.cells #[.string s, bk, .int .i64 (m : Nat)] 40)).alloc (.cells #[.int .i64 0, .int .i64 0, .int .u8 0] 32)).alloc (.cells #[.int .i64 0, .int .i64 0, .int .u8 0] 32)) W s bk m 0 0 := by
  have s1 : (W.alloc (.cells #[.string s, bk, .int .i64 (m : Nat)] 40)).heap.size = W.heap.size + 1 := by show (W.heap.push _).size = _; simp
  have e1 : (W.alloc (.cells #[.string s, bk, .int .i64 (m : Nat)] 40)).heap[W.heap.size]? = some (.cells #[.string s, bk, .int .i64 (m : Nat)] 40 (0, 0)) := by show (W.heap.push _)[W.heap.size]? = _; simp
  have b1 : Below W.heap.size W (W.alloc (.cells #[.string s, bk, .int .i64 (m : Nat)] 40)) := (Below.refl _ _).alloc (Nat.le_refl _) _
  generalize (W.alloc (.cells #[.string s, bk, .int .i64 (m : Nat)] 40)) = w1 at *
  have s2 : (w1.alloc (.cells #[.int .i64 0, .int .i64 0, .int .u8 0] 32)).heap.size = w1.heap.size + 1 := by show (w1.heap.push _).size = _; simp
  have e2 : (w1.alloc (.cells #[.int .i64 0, .int .i64 0, .int .u8 0] 32)).heap[w1.heap.size]? = some (.cells #[.int .i64 0, .int .i64 0, .int .u8 0] 32 (0, 0)) := by show (w1.heap.push _)[w1.heap.size]? = _; simp
  have b2 := b1.alloc b1.size (.cells #[.int .i64 0, .int .i64 0, .int .u8 0] 32)
  have f2 := heap_alloc_old w1 (.cells #[.int .i64 0, .int .i64 0, .int .u8 0] 32) W.heap.size (by omega)
  generalize (w1.alloc (.cells #[.int .i64 0, .int .i64 0, .int .u8 0] 32)) = w2 at *
  have e3 : (w2.alloc (.cells #[.int .i64 0, .int .i64 0, .int .u8 0] 32)).heap[w2.heap.size]? = some (.cells #[.int .i64 0, .int .i64 0, .int .u8 0] 32 (0, 0)) := by show (w2.heap.push _)[w2.heap.size]? = _; simp
  refine ⟨b2.alloc b2.size _, ?_, ?_, ?_⟩
  · rw [heap_alloc_old _ _ _ (by omega), f2]; exact e1
  · rw [heap_alloc_old _ _ _ (by omega), ← s1]; exact e2
  · rw [show W.heap.size + 1 + 1 = w2.heap.size by omega]; exact e3

/-- Three cells of a block are written. -/
theorem set_three (w : World) (p : Nat) (a b c x y z : Value) (T : TypeId) (h : w.heap[p]? = some (.cells #[a, b, c] T (0, 0))) : (((w.setCell ⟨p, 0, none⟩ x).setCell ⟨p, 1, none⟩ y).setCell ⟨p, 2, none⟩ z).heap[p]? = some (.cells #[x, y, z] T (0, 0)) := by
  have h1 := heap_setCell_same w p 0 x _ _ _ h
  have h2 := heap_setCell_same _ p 1 y _ _ _ h1
  have h3 := heap_setCell_same _ p 2 z _ _ _ h2
  exact h3
theorem MatW.put {w W : World} {s : ByteArray} {bk : Value} {m l d : Nat} (h : MatW w W s bk m l d) (l2 d2 : Nat) (x y : Int) (hx : x = l2) (hy : y = d2) : MatW (((w.setCell ⟨W.heap.size + 1 + 1, 0, none⟩ (.int .i64 x)).setCell ⟨W.heap.size + 1 + 1, 1, none⟩ (.int .i64 y)).setCell ⟨W.heap.size + 1 + 1, 2, none⟩ (.int .u8 0)) W s bk m l2 d2 := by
  subst hx
  subst hy
  refine ⟨((h.bel.setCell (by show _ ≤ W.heap.size + 1 + 1; omega) _).setCell (by show _ ≤ W.heap.size + 1 + 1; omega) _).setCell (by show _ ≤ W.heap.size + 1 + 1; omega) _, ?_, ?_, set_three _ _ _ _ _ _ _ _ _ h.best⟩
  · rw [Below.heap_setCell _ _ _ _ (by show W.heap.size ≠ W.heap.size + 1 + 1; omega), Below.heap_setCell _ _ _ _ (by show W.heap.size ≠ W.heap.size + 1 + 1; omega), Below.heap_setCell _ _ _ _ (by show W.heap.size ≠ W.heap.size + 1 + 1; omega)]
    exact h.box
  · rw [Below.heap_setCell _ _ _ _ (by show W.heap.size + 1 ≠ W.heap.size + 1 + 1; omega), Below.heap_setCell _ _ _ _ (by show W.heap.size + 1 ≠ W.heap.size + 1 + 1; omega), Below.heap_setCell _ _ _ _ (by show W.heap.size + 1 ≠ W.heap.size + 1 + 1; omega)]
    exact h.res
theorem MatW.ret {w W : World} {s : ByteArray} {bk : Value} {m l d : Nat} (h : MatW w W s bk m l d) (x y : Int) : Below W.heap.size W (((w.setCell ⟨W.heap.size + 1, 0, none⟩ (.int .i64 x)).setCell ⟨W.heap.size + 1, 1, none⟩ (.int .i64 y)).setCell ⟨W.heap.size + 1, 2, none⟩ (.int .u8 0)) :=
  ((h.bel.setCell (by show _ ≤ W.heap.size + 1; omega) _).setCell (by show _ ≤ W.heap.size + 1; omega) _).setCell (by show _ ≤ W.heap.size + 1; omega) _

theorem load_tok {w : World} {p : Nat} (l d z : Int) (h : w.heap[p]? = some (.cells #[.int .i64 l, .int .i64 d, .int .u8 z] 32 (0, 0))) : (loadVar 32 ⟨p, 0, none⟩).run Try.prog w = .ok (.agg #[.int .i64 l, .int .i64 d, .int .u8 z]) w := by
  have _c0 : w.cell? ⟨p, 0, none⟩ = some (.int .i64 l) := by rw [cell_of_row _ _ 0 _ _ (0, 0) h]; rfl
  have _c1 : w.cell? ⟨p, 1, none⟩ = some (.int .i64 d) := by rw [cell_of_row _ _ 1 _ _ (0, 0) h]; rfl
  have _c2 : w.cell? ⟨p, 2, none⟩ = some (.int .u8 z) := by rw [cell_of_row _ _ 2 _ _ (0, 0) h]; rfl
  clear h
  go_simp

set_option maxRecDepth 20000 in
set_option maxHeartbeats 8000000 in
theorem match8 (s : ByteArray) (a : Option Addr) (n ca m i : Nat) (W : World) (hn : s.size = n) (hb : BackAt W a (bAt s) n) (hi : i < n) (hs : n ≤ 1000000) (hm : m ≤ 256) :
    Calls Try.prog 17 #[.agg #[.string s, .slice a n ca, .int .i64 (m : Nat)], .int .i64 (i : Nat)] W fun e w' => e = .returned (.agg #[.int .i64 ((bestM (bAt s) n i m).1 : Nat), .int .i64 ((bestM (bAt s) n i m).2 : Nat), .int .u8 0]) ∧ Below W.heap.size W w' := by
  obtain ⟨⟨R1, R2⟩, hR⟩ : ∃ R, bestM (bAt s) n i m = R := ⟨_, rfl⟩
  rw [hR]
  dsimp only
  have HR0 := hide (show bestR (bAt s) n i i (m - 0) (0, 0) = (R1, R2) from hR)
  have HN := hide hn
  have HB := hide hb
  have HS := hide hs
  have zn : ((s.size : Nat) : Int) = (n : Int) := by omega
  obtain ⟨M, hM⟩ : ∃ M, min (n - i) 258 = M := ⟨_, rfl⟩
  have HM := hide hM
  have HW0 := hide (MatW.start W s (.slice a n ca) m)
  have zM : min ((n : Int) - (i : Int)) 258 = (M : Int) := by omega
  clear hR hn hb hM
  go_enter Try.func17, Try.ntmps17
  go_wp2
  clear zM
  go_loopw [7, 20] (fun pv kv wr => ∃ k p l d : Nat, k ≤ m ∧ p ≤ i ∧ l ≤ 258 ∧ d ≤ 32768 ∧ pv = .int .i64 (p : Nat) ∧ kv = .int .i64 (k : Nat) ∧ Hid (p = i ∨ same3 (bAt s) n p i = true) ∧ Hid (bestR (bAt s) n i p (m - k) (l, d) = (R1, R2)) ∧ Hid (MatW wr W s (.slice a n ca) m l d)) (fun _ kv _ => m - (intOf kv).toNat)
  case atStart => exact ⟨0, i, 0, 0, Nat.zero_le _, Nat.le_refl _, by omega, by omega, rfl, rfl, hide (.inl rfl), HR0, HW0⟩
  case round =>
    clear HR0 HW0
    obtain ⟨k, p, l, d, hk, hp, hl, hd, rfl, rfl, HP, HR, HW⟩ := hrel
    have _p0 : wr.cell? ⟨W.heap.size, 0, none⟩ = some (.string s) := by rw [cell_of_row _ _ 0 _ _ (0, 0) HW.out.box]; rfl
    have _p1 : wr.cell? ⟨W.heap.size, 1, none⟩ = some (.slice a n ca) := by rw [cell_of_row _ _ 1 _ _ (0, 0) HW.out.box]; rfl
    have _p2 : wr.cell? ⟨W.heap.size, 2, none⟩ = some (.int .i64 (m : Nat)) := by rw [cell_of_row _ _ 2 _ _ (0, 0) HW.out.box]; rfl
    have _r0 : wr.cell? ⟨W.heap.size + 1 + 1, 0, none⟩ = some (.int .i64 (l : Nat)) := by rw [cell_of_row _ _ 0 _ _ (0, 0) HW.out.best]; rfl
    have _r1 : wr.cell? ⟨W.heap.size + 1 + 1, 1, none⟩ = some (.int .i64 (d : Nat)) := by rw [cell_of_row _ _ 1 _ _ (0, 0) HW.out.best]; rfl
    have _r2 : wr.cell? ⟨W.heap.size + 1 + 1, 2, none⟩ = some (.int .u8 0) := by rw [cell_of_row _ _ 2 _ _ (0, 0) HW.out.best]; rfl
    have _q0 : wr.cell? ⟨W.heap.size + 1, 0, none⟩ = some (.int .i64 0) := by rw [cell_of_row _ _ 0 _ _ (0, 0) HW.out.res]; rfl
    have _q1 : wr.cell? ⟨W.heap.size + 1, 1, none⟩ = some (.int .i64 0) := by rw [cell_of_row _ _ 1 _ _ (0, 0) HW.out.res]; rfl
    have _q2 : wr.cell? ⟨W.heap.size + 1, 2, none⟩ = some (.int .u8 0) := by rw [cell_of_row _ _ 2 _ _ (0, 0) HW.out.res]; rfl
    have _f0 : wr.frozen? ⟨W.heap.size + 1, 0, none⟩ = false := frozen_row HW.out.res 0
    have _f1 : wr.frozen? ⟨W.heap.size + 1, 1, none⟩ = false := frozen_row HW.out.res 1
    have _f2 : wr.frozen? ⟨W.heap.size + 1, 2, none⟩ = false := frozen_row HW.out.res 2
    by_cases hkm : k < m
    · have zk : (k : Int) < m := by omega
      obtain ⟨q, hq⟩ : ∃ q, m - k = q + 1 := ⟨m - k - 1, by omega⟩
      have HQ := hide (show m - (k + 1) = q by omega)
      rw [hq] at HR
      obtain ⟨g, rfl, hg, hcell⟩ := HB.out p (by omega)
      obtain ⟨D, hD⟩ : ∃ D, linkN (bAt s) n p = D := ⟨_, rfl⟩
      have HL := hide hD
      have hDle := link_le (bAt s) n p
      rw [hD] at hcell hDle
      have _c := (HW.out.bel.cell (p := ⟨g, p, none⟩) hg).trans hcell
      have hD1 := hDle.1
      have hD2 := hDle.2
      have hpn : p < n := by omega
      have zp : (p : Int) < n := by omega
      have HKM := hide hkm
      clear hq hg hcell hD hDle hkm
      by_cases d0 : D = 0
      · subst d0
        have HE := hide (show ((l, d) : Nat × Nat) = (R1, R2) by rw [← HR.out]; exact (back_none (bAt s) (bAt_lt s) n i p (q + 1) (l, d) hp HP.out HL.out).symm)
        injection HE.out with e1 e2
        subst e1
        subst e2
        go_wp2
        (try simp only [Exit.inBlock, Exit.then])
        refine bodyPost_ret (v := .agg #[.int .i64 (l : Nat), .int .i64 (d : Nat), .int .u8 0]) ?_ rfl ⟨rfl, HW.out.ret _ _⟩
        simp [results, Try.results17, asAddr]
        go_simp
      · have bD : ((D : Int) == 0) = false := by simp; exact d0
        obtain ⟨p2, hp2⟩ : ∃ p2, p - D = p2 := ⟨_, rfl⟩
        have ep : (p : Int) - (D : Int) = (p2 : Int) := by omega
        have hp29 : p2 < i := by omega
        by_cases hf : 32768 < i - p2
        · have HE := hide (show ((l, d) : Nat × Nat) = (R1, R2) by rw [← HR.out]; exact (back_far (bAt s) (bAt_lt s) n i p (q + 1) D (l, d) hp HP.out HL.out d0 (by omega)).symm)
          injection HE.out with e1 e2
          subst e1
          subst e2
          have df : decide ((32768 : Int) < (i : Int) - (p2 : Int)) = true := decide_eq_true (by omega)
          clear hf hp2 d0
          go_wp2
          (try simp only [Exit.inBlock, Exit.then])
          refine bodyPost_ret (v := .agg #[.int .i64 (l : Nat), .int .i64 (d : Nat), .int .u8 0]) ?_ rfl ⟨rfl, HW.out.ret _ _⟩
          simp [results, Try.results17, asAddr]
          go_simp
        · have df : decide ((32768 : Int) < (i : Int) - (p2 : Int)) = false := decide_eq_false (by omega)
          have HST := back_step (bAt s) (bAt_lt s) n i p (q + 1) D (l, d) hp HP.out HL.out d0 (by omega) (Nat.succ_ne_zero q)
          rw [hp2] at HST
          have HSM := hide HST.1
          have HR2 := hide (show bestR (bAt s) n i p2 q (bett (bAt s) n p2 i (l, d)) = (R1, R2) by rw [← HR.out]; exact HST.2.symm)
          have HSA := hide (fun w => same8 s (.slice (some ⟨g, 0, none⟩) n ca) (m : Nat) p2 i M w (by omega) (by rw [HN.out]; have := HM.out; omega) (by rw [HN.out]; exact hs))
          rw [← HM.out, same_len (bAt s) n p2 i (by omega) HST.1, HM.out] at HSA
          obtain ⟨N, hN⟩ : ∃ N, mlen (bAt s) n p2 i = N := ⟨_, rfl⟩
          rw [hN] at HSA
          have hms := mlen_spec (bAt s) n p2 i HST.1
          rw [hN] at hms
          have hN8 := hms.2.1
          have hb9 : i - p2 ≤ 32768 := by omega
          have hNM : N ≤ M := by have := HM.out; omega
          have HBT := hide (show bett (bAt s) n p2 i (l, d) = if l < N then (N, i - p2) else (l, d) by unfold bett; rw [hN])
          have HFU := hide (fun (r : Nat × Nat) (h : M ≤ r.1) => bestR_full (bAt s) n i r (by have := HM.out; omega) p2 q)
          clear hf hp2 d0 HST hms hN
          go_wp2_with fail
          refine (HSA.out _).mono ?_
          clear _p0 _p1 _p2 _r0 _r1 _r2 _q0 _q1 _q2 _f0 _f1 _f2 _c
          rintro e w2 ⟨rfl, b2⟩
          have HW2 := hide (HW.out.below b2)
          clear b2
          have _x0 : w2.cell? ⟨W.heap.size, 0, none⟩ = some (.string s) := by rw [cell_of_row _ _ 0 _ _ (0, 0) HW2.out.box]; rfl
          have _x1 : w2.cell? ⟨W.heap.size, 1, none⟩ = some (.slice (some ⟨g, 0, none⟩) n ca) := by rw [cell_of_row _ _ 1 _ _ (0, 0) HW2.out.box]; rfl
          have _x2 : w2.cell? ⟨W.heap.size, 2, none⟩ = some (.int .i64 (m : Nat)) := by rw [cell_of_row _ _ 2 _ _ (0, 0) HW2.out.box]; rfl
          have _y0 : w2.cell? ⟨W.heap.size + 1 + 1, 0, none⟩ = some (.int .i64 (l : Nat)) := by rw [cell_of_row _ _ 0 _ _ (0, 0) HW2.out.best]; rfl
          have _y1 : w2.cell? ⟨W.heap.size + 1 + 1, 1, none⟩ = some (.int .i64 (d : Nat)) := by rw [cell_of_row _ _ 1 _ _ (0, 0) HW2.out.best]; rfl
          have _y2 : w2.cell? ⟨W.heap.size + 1 + 1, 2, none⟩ = some (.int .u8 0) := by rw [cell_of_row _ _ 2 _ _ (0, 0) HW2.out.best]; rfl
          have _z0 : w2.cell? ⟨W.heap.size + 1, 0, none⟩ = some (.int .i64 0) := by rw [cell_of_row _ _ 0 _ _ (0, 0) HW2.out.res]; rfl
          have _z1 : w2.cell? ⟨W.heap.size + 1, 1, none⟩ = some (.int .i64 0) := by rw [cell_of_row _ _ 1 _ _ (0, 0) HW2.out.res]; rfl
          have _z2 : w2.cell? ⟨W.heap.size + 1, 2, none⟩ = some (.int .u8 0) := by rw [cell_of_row _ _ 2 _ _ (0, 0) HW2.out.res]; rfl
          have _u0 : w2.frozen? ⟨W.heap.size + 1, 0, none⟩ = false := frozen_row HW2.out.res 0
          have _u1 : w2.frozen? ⟨W.heap.size + 1, 1, none⟩ = false := frozen_row HW2.out.res 1
          have _u2 : w2.frozen? ⟨W.heap.size + 1, 2, none⟩ = false := frozen_row HW2.out.res 2
          have _v0 : w2.frozen? ⟨W.heap.size + 1 + 1, 0, none⟩ = false := frozen_row HW2.out.best 0
          have _v1 : w2.frozen? ⟨W.heap.size + 1 + 1, 1, none⟩ = false := frozen_row HW2.out.best 1
          have _v2 : w2.frozen? ⟨W.heap.size + 1 + 1, 2, none⟩ = false := frozen_row HW2.out.best 2
          by_cases hln : l < N
          · have zl : (l : Int) < N := by omega
            have HR3 := hide (show bestR (bAt s) n i p2 q (N, i - p2) = (R1, R2) by rw [← HR2.out, HBT.out, if_pos hln])
            have HW3 := hide (HW2.out.put N (i - p2) (N : Int) ((i : Int) - (p2 : Int)) rfl (by omega))
            by_cases hNe : N = M
            · have bN : ((N : Int) == (M : Int)) = true := by simp; omega
              have HE := hide (show ((N, i - p2) : Nat × Nat) = (R1, R2) by rw [← HR3.out]; exact (HFU.out (N, i - p2) (by dsimp only; omega)).symm)
              clear hln hNe
              have HE2 := hide (show Ending.returned (.agg #[.int .i64 (N : Nat), .int .i64 ((i : Int) - (p2 : Int)), .int .u8 0]) = Ending.returned (.agg #[.int .i64 (R1 : Nat), .int .i64 (R2 : Nat), .int .u8 0]) by
                have h := HE.out
                injection h with e1 e2
                rw [← e1, ← e2, show ((i - p2 : Nat) : Int) = (i : Int) - (p2 : Int) by omega])
              go_wp2
              (try simp only [Exit.inBlock, Exit.then])
              refine bodyPost_ret (v := .agg #[.int .i64 (N : Nat), .int .i64 ((i : Int) - (p2 : Int)), .int .u8 0]) ?_ rfl ⟨HE2.out, HW3.out.ret _ _⟩
              simp [results, Try.results17, asAddr]
              exact load_tok _ _ _ (set_three _ _ _ _ _ _ _ _ _ HW3.out.res)
            · have bN : ((N : Int) == (M : Int)) = false := by simp; omega
              clear hln hNe
              go_wp2
              go_roundw
              case rel => exact ⟨k + 1, p2, N, i - p2, HKM.out, by omega, hN8, by omega, rfl, by go_num, hide (.inr HSM.out), by rw [HQ.out]; exact HR3, HW3⟩
              case measure => exact meas_oneW k m HKM.out
          · have zl : ¬ (l : Int) < N := by omega
            have HR3 := hide (show bestR (bAt s) n i p2 q (l, d) = (R1, R2) by rw [← HR2.out, HBT.out, if_neg hln])
            by_cases hNe : N = M
            · have bN : ((N : Int) == (M : Int)) = true := by simp; omega
              have HE := hide (show ((l, d) : Nat × Nat) = (R1, R2) by rw [← HR3.out]; exact (HFU.out (l, d) (by dsimp only; omega)).symm)
              injection HE.out with e1 e2
              subst e1
              subst e2
              clear hln hNe
              go_wp2
              (try simp only [Exit.inBlock, Exit.then])
              refine bodyPost_ret (v := .agg #[.int .i64 (l : Nat), .int .i64 (d : Nat), .int .u8 0]) ?_ rfl ⟨rfl, HW2.out.ret _ _⟩
              simp [results, Try.results17, asAddr]
              go_simp
            · have bN : ((N : Int) == (M : Int)) = false := by simp; omega
              clear hln hNe
              go_wp2
              go_roundw
              case rel => exact ⟨k + 1, p2, l, d, HKM.out, by omega, hl, hd, rfl, by go_num, hide (.inr HSM.out), by rw [HQ.out]; exact HR3, HW2⟩
              case measure => exact meas_oneW k m HKM.out
    · have hke : k = m := by omega
      subst hke
      have HE := hide (show ((l, d) : Nat × Nat) = (R1, R2) by rw [← HR.out, Nat.sub_self, bestR_zero])
      injection HE.out with e1 e2
      subst e1
      subst e2
      go_wp2
      (try simp only [Exit.inBlock, Exit.then])
      refine bodyPost_ret (v := .agg #[.int .i64 (l : Nat), .int .i64 (d : Nat), .int .u8 0]) ?_ rfl ⟨rfl, HW.out.ret _ _⟩
      simp [results, Try.results17, asAddr]
      go_simp

end Go.Proofs.Ytifcpaeofmkokaa
