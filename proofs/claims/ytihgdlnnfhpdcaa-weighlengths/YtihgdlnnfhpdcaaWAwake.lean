/- The document's examples of layer 4 hold: 'awake' answers true, and touches nothing that was there. -/
import Derived.Test.YtihgdlnnfhpdcaaWCode
namespace Go.Proofs.Ytihgdlnnfhpdcaa
open Go.RowKit Go.Lib

theorem lit_arg (w : World) (l : List Int) : ArgZ (w.alloc (.cells (intCs l).toArray 3)) (some ⟨w.heap.size, 0, none⟩) l := by
  intro i x hx
  refine ⟨w.heap.size, 0, rfl, by show _ < (w.heap.push _).size; simp, ?_⟩
  have hh : (w.alloc (.cells (intCs l).toArray 3)).heap[w.heap.size]? = some (.cells (intCs l).toArray 3 (0, 0)) := by show (w.heap.push _)[w.heap.size]? = _; simp
  rw [Nat.zero_add, cell_of_row _ _ i _ _ (0, 0) hh, List.getElem?_toArray]
  unfold intCs
  rw [List.getElem?_map, hx]
  rfl

theorem own_argZ {w : World} {B n c : Nat} {a : Option Addr} {out : List Nat} (h : w.ownsRow B 3 1 (.slice a n c) n (natCs out)) (hl : out.length = n) : ArgZ w a (out.map fun (x : Nat) => (x : Int)) := by
  intro i x hx
  rw [List.getElem?_map] at hx
  cases hy : out[i]? with
  | none => rw [hy] at hx; cases hx
  | some y =>
    rw [hy] at hx
    injection hx with hx
    subst hx
    exact own_arg h hl i y hy

theorem len_good {W w' : World} {l : List Int} {m : Int} {r : Value} (h : LenRes W l m r w') (hg : GoodW l m) (out : List Nat) (hl : LimTo (l.map Int.toNat) m.toNat out) : ∃ v, r = .tuple #[v, .int .i64 0] ∧ w'.ownsRow W.heap.size 3 1 v l.length (natCs out) := by
  rcases h with ⟨h, _⟩ | ⟨_, v, o2, e, h2, h3⟩
  · exact absurd hg h
  · rw [h2.uniq hl] at h3
    exact ⟨v, e, h3⟩
theorem len_bad {W w' : World} {l : List Int} {m : Int} {r : Value} (h : LenRes W l m r w') (hg : ¬ GoodW l m) : r = .tuple #[.slice none 0 0, .int .i64 1] := by
  rcases h with ⟨_, e⟩ | ⟨h, _⟩
  · exact e
  · exact absurd h hg

theorem goodW_of (l : List Int) (m : Int) (h : decide (1 ≤ m) && decide (m ≤ 15) && decide (l.length ≤ 512) && l.all (fun x => decide (0 ≤ x) && decide (x ≤ 1099511627776)) && decide (cntL (l.map Int.toNat) ≤ 2 ^ m.toNat) = true) : GoodW l m := by
  simp only [Bool.and_eq_true, decide_eq_true_eq, List.all_eq_true] at h
  exact ⟨h.1.1.1.1, h.1.1.1.2, h.1.1.2, h.1.2, h.2⟩

def ex1 : List Int := [5, 1, 0, 1, 2]
def ex2 : List Int := [0, 7]
def ex3 : List Int := [1, 1, 1]
def ex4 : List Int := [1, 2, 4, 8, 16]

theorem ex1_lim : LimTo (ex1.map Int.toNat) (15 : Int).toNat [1, 3, 0, 3, 2] := ⟨0, by decide +kernel, by unfold shortL; decide +kernel, fun i hi => by omega⟩
theorem ex2_lim : LimTo (ex2.map Int.toNat) (15 : Int).toNat [0, 1] := ⟨0, by decide +kernel, by unfold shortL; decide +kernel, fun i hi => by omega⟩
theorem ex4_lim : LimTo (ex4.map Int.toNat) (3 : Int).toNat [3, 3, 3, 3, 1] := ⟨2, by decide +kernel, by unfold shortL; decide +kernel, fun i hi => by
  have h : i = 0 ∨ i = 1 := by omega
  rcases h with rfl | rfl <;> unfold shortL <;> decide +kernel⟩
theorem ex3_bad : ¬ GoodW ex3 1 := fun h => absurd h.few (by decide +kernel)
theorem ex_cost : costW ex1 [1, 3, 0, 3, 2] 5 = 15 := by decide +kernel

theorem ArgZ.below2 {w w' : World} {a : Option Addr} {l : List Int} {B : Nat} (h : ArgZ w a l) (b : Below B w w') (hB : w.heap.size ≤ B) : ArgZ w' a l := h.below (b.mono hB)

set_option maxRecDepth 20000 in
set_option maxHeartbeats 4000000 in
theorem wawake_any (W : World) : Calls Try.prog 8 #[] W fun e w' => e = .returned (.bool true) ∧ Below W.heap.size W w' := by
  have HN : ∀ p : Addr, (some p = none) → 5 = 0 := fun p h => by cases h
  go_enter Try.func8, Try.ntmps8
  go_wp2_with fail
  refine (lengths_any ex1 15 (some ⟨W.heap.size, 0, none⟩) 5 _ (lit_arg W ex1) (fun h => by cases h)).mono ?_
  rintro e w1 ⟨r, rfl, hr, b⟩
  obtain ⟨v1, rfl, o1⟩ := len_good hr (goodW_of _ _ (by decide +kernel)) _ ex1_lim
  obtain ⟨g1, c1, rfl⟩ := own_slice o1 (by decide)
  have B1 := hide (((Below.refl W.heap.size W).alloc (Nat.le_refl _) (.cells (intCs ex1).toArray 3)).trans (b.mono (size_alloc_le (Nat.le_refl _))))
  have O1 := hide o1
  clear hr b o1
  go_wp2_with fail
  refine (lengths_any ex2 15 (some ⟨w1.heap.size, 0, none⟩) 2 _ (lit_arg w1 ex2) (fun h => by cases h)).mono ?_
  rintro e w2 ⟨r, rfl, hr, b⟩
  obtain ⟨v2, rfl, o2⟩ := len_good hr (goodW_of _ _ (by decide +kernel)) _ ex2_lim
  obtain ⟨g2, c2, rfl⟩ := own_slice o2 (by decide)
  have b' : Below w1.heap.size w1 w2 := ((Below.refl w1.heap.size w1).alloc (Nat.le_refl _) (.cells (intCs ex2).toArray 3)).trans (b.mono (size_alloc_le (Nat.le_refl _)))
  have B2 := hide (B1.out.trans (b'.mono B1.out.size))
  have O12 := hide (own_below O1.out b' (Nat.le_refl _))
  have O2 := hide o2
  clear hr b b' o2 O1 B1
  go_wp2_with fail
  refine (lengths_any ex3 1 (some ⟨w2.heap.size, 0, none⟩) 3 _ (lit_arg w2 ex3) (fun h => by cases h)).mono ?_
  rintro e w3 ⟨r, rfl, hr, b⟩
  obtain rfl := len_bad hr ex3_bad
  have b' : Below w2.heap.size w2 w3 := ((Below.refl w2.heap.size w2).alloc (Nat.le_refl _) (.cells (intCs ex3).toArray 3)).trans (b.mono (size_alloc_le (Nat.le_refl _)))
  have B3 := hide (B2.out.trans (b'.mono B2.out.size))
  have O13 := hide (own_below O12.out b' (Nat.le_refl _))
  have O23 := hide (own_below O2.out b' (Nat.le_refl _))
  clear hr b b' O12 O2 B2
  go_wp2_with fail
  refine (lengths_any ex4 3 (some ⟨w3.heap.size, 0, none⟩) 5 _ (lit_arg w3 ex4) (fun h => by cases h)).mono ?_
  rintro e w4 ⟨r, rfl, hr, b⟩
  obtain ⟨v4, rfl, o4⟩ := len_good hr (goodW_of _ _ (by decide +kernel)) _ ex4_lim
  obtain ⟨g4, c4, rfl⟩ := own_slice o4 (by decide)
  have b' : Below w3.heap.size w3 w4 := ((Below.refl w3.heap.size w3).alloc (Nat.le_refl _) (.cells (intCs ex4).toArray 3)).trans (b.mono (size_alloc_le (Nat.le_refl _)))
  have B4 := hide (B3.out.trans (b'.mono B3.out.size))
  have O14 := hide (own_below O13.out b' (Nat.le_refl _))
  have O24 := hide (own_below O23.out b' (Nat.le_refl _))
  have O4 := hide o4
  clear hr b b' o4 O13 O23 B3
  go_wp2_with fail
  have L1 := lit_arg w4 [1, 3, 0, 3, 2]
  refine (same_any [1, 3, 0, 3, 2] (some ⟨g1, 0, none⟩) (some ⟨w4.heap.size, 0, none⟩) c1 5 _ (own_argZ (O14.out.alloc _) rfl) L1 (by decide)).mono ?_
  rintro e w5 ⟨rfl, b⟩
  have b' : Below w4.heap.size w4 w5 := ((Below.refl w4.heap.size w4).alloc (Nat.le_refl _) (.cells (intCs [1, 3, 0, 3, 2]).toArray 3)).trans (b.mono (size_alloc_le (Nat.le_refl _)))
  have B5 := hide (B4.out.trans (b'.mono B4.out.size))
  have O15 := hide (own_below O14.out b' (Nat.le_refl _))
  have O25 := hide (own_below O24.out b' (Nat.le_refl _))
  have O45 := hide (own_below O4.out b' (Nat.le_refl _))
  clear b b' L1 O14 O24 O4 B4
  go_wp2_with fail
  have L2 := lit_arg w5 [0, 1]
  refine (same_any [0, 1] (some ⟨g2, 0, none⟩) (some ⟨w5.heap.size, 0, none⟩) c2 2 _ (own_argZ (O25.out.alloc _) rfl) L2 (by decide)).mono ?_
  rintro e w6 ⟨rfl, b⟩
  have b' : Below w5.heap.size w5 w6 := ((Below.refl w5.heap.size w5).alloc (Nat.le_refl _) (.cells (intCs [0, 1]).toArray 3)).trans (b.mono (size_alloc_le (Nat.le_refl _)))
  have B6 := hide (B5.out.trans (b'.mono B5.out.size))
  have O16 := hide (own_below O15.out b' (Nat.le_refl _))
  have o46 := own_below O45.out b' (Nat.le_refl _)
  have _c4 := (own_nat (l := [3, 3, 3, 3, 1]) (j := 0) (x := 3) o46 rfl).1
  clear b b' L2 O15 O25 O45 B5 o46
  go_wp2_with fail
  have L3 := lit_arg w6 ex1
  refine (cost_any ex1 [1, 3, 0, 3, 2] (some ⟨w6.heap.size, 0, none⟩) (some ⟨g1, 0, none⟩) 5 c1 _ L3 (own_argZ (O16.out.alloc _) rfl) (by decide) (by decide)).mono ?_
  rintro e w7 ⟨rfl, b⟩
  have b' : Below w6.heap.size w6 w7 := ((Below.refl w6.heap.size w6).alloc (Nat.le_refl _) (.cells (intCs ex1).toArray 3)).trans (b.mono (size_alloc_le (Nat.le_refl _)))
  have B7 := hide (B6.out.trans (b'.mono B6.out.size))
  clear b b' L3 O16 B6
  rw [show costW ex1 [1, 3, 0, 3, 2] (min ex1.length [1, 3, 0, 3, (2 : Int)].length) = 15 from ex_cost]
  go_wp2
  go_ret
  exact ⟨rfl, B7.out⟩

end Go.Proofs.Ytihgdlnnfhpdcaa
