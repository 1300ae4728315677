/- Contracts of layer 4's small functions: Cost, above, halved, standing. -/
import Derived.Test.YtihgdlnnfhpdcaaWCost
namespace Go.Proofs.Ytihgdlnnfhpdcaa
open Go.RowKit Go.Lib

/-- What f says of the first j, 0 of the others. -/
def fillTo (f : Nat → Nat) (n j : Nat) : List Nat := (List.range n).map fun i => if i < j then f i else 0

theorem fillTo_length (f : Nat → Nat) (n j : Nat) : (fillTo f n j).length = n := by simp [fillTo]
theorem fillTo_get (f : Nat → Nat) (n j i : Nat) (h : i < n) : (fillTo f n j)[i]? = some (if i < j then f i else 0) := by
  unfold fillTo
  rw [List.getElem?_map, List.getElem?_range h]
  rfl
theorem fillTo_zero (f : Nat → Nat) (n : Nat) : natCs (fillTo f n 0) = List.replicate n (.int .i64 0) := by
  apply List.eq_replicate_iff.2
  refine ⟨by simp [natCs, fillTo], fun b hb => ?_⟩
  obtain ⟨n, hn, rfl⟩ := List.mem_map.1 hb
  obtain ⟨i, _, rfl⟩ := List.mem_map.1 hn
  simp
theorem fillTo_set (f : Nat → Nat) (n j : Nat) (h : j < n) : (fillTo f n j).set j (f j) = fillTo f n (j + 1) := by
  apply List.ext_getElem?
  intro i
  by_cases hi : i < n
  · rw [List.getElem?_set, fillTo_get f n (j + 1) i hi]
    by_cases e : j = i
    · subst e
      rw [if_pos rfl, if_pos (by rw [fillTo_length]; exact h), if_pos (by omega)]
    · rw [if_neg e, fillTo_get f n j i hi]
      by_cases h2 : i < j
      · rw [if_pos h2, if_pos (by omega)]
      · rw [if_neg h2, if_neg (by omega)]
  · rw [List.getElem?_eq_none (by rw [List.length_set, fillTo_length]; omega), List.getElem?_eq_none (by rw [fillTo_length]; omega)]

theorem own_made (w : World) (f : Nat → Nat) (n : Nat) (hn : n ≤ 1000) : (w.alloc (.cells (madeCells #[.int .i64 0] n) 3)).ownsRow w.heap.size 3 1 (.slice (some ⟨w.heap.size, 0, none⟩) n n) n (natCs (fillTo f n 0)) := by
  have ho := World.ownsRow_lit (e := 3) (size := 1) w (madeCells #[.int .i64 0] n) n (Nat.le_refl _) (by unfold maxLen; omega) (by rw [size_madeCells]; omega)
  rw [toList_madeCells_one, ← fillTo_zero f] at ho
  exact ho

set_option maxHeartbeats 1000000 in
theorem cost_any (a b : List Int) (pa pb : Option Addr) (ca cb : Nat) (W : World) (ha : ArgZ W pa a) (hb : ArgZ W pb b) (la : a.length ≤ 1000) (lb : b.length ≤ 1000) :
    Calls Try.prog 12 #[.slice pa a.length ca, .slice pb b.length cb] W fun e w' => e = .returned (.int .i64 (costW a b (min a.length b.length))) ∧ Below W.heap.size W w' := by
  have HA := hide ha
  have HB := hide hb
  have B0 := hide (Below.refl W.heap.size W)
  clear ha hb
  have hcase : b.length < a.length ∨ ¬ b.length < a.length := Decidable.em _
  rcases hcase with h1 | h1
  all_goals
    (try (have zab : (b.length : Int) < a.length := by omega))
    (try (have zab : ¬ (b.length : Int) < a.length := by omega))
    go_enter Try.func12, Try.ntmps12
    go_wp2
    go_loopw [5, 12] (fun c i wr => ∃ j : Nat, j ≤ min a.length b.length ∧ i = .int .i64 j ∧ c = .int .i64 (costW a b j) ∧ Hid (Below W.heap.size W wr)) (fun _ i _ => min a.length b.length - (intOf i).toNat)
    case atStart => exact ⟨0, Nat.zero_le _, rfl, rfl, B0⟩
    case round =>
      obtain ⟨j, hj, rfl, rfl, BB⟩ := hrel
      by_cases hlt : j < min a.length b.length
      · have h1 : j < a.length := by omega
        have h2 : j < b.length := by omega
        obtain ⟨x, offx, rfl, hx, hcx⟩ := HA.out j _ (getZ a j h1)
        obtain ⟨y, offy, rfl, hy, hcy⟩ := HB.out j _ (getZ b j h2)
        have _c1 := (BB.out.cell (p := ⟨x, offx + j, none⟩) hx).trans hcx
        have _c2 := (BB.out.cell (p := ⟨y, offy + j, none⟩) hy).trans hcy
        have z1 : (j : Int) < a.length := by omega
        have z2 : (j : Int) < b.length := by omega
        have HC := hide (show costW a b (j + 1) = wrap64 (costW a b j + wrap64 (a.getD j 0 * b.getD j 0)) from rfl)
        have HLT := hide hlt
        generalize a.getD j 0 = u at *
        generalize b.getD j 0 = v at *
        clear hx hy hcx hcy hlt hj
        go_wp2
        go_quiet (fail)
        go_wp2
        go_roundw
        case rel => exact ⟨j + 1, HLT.out, by go_num, by rw [HC.out], hide (below_drewN BB.out _)⟩
        case measure => exact meas_oneW j _ HLT.out
      · have hje : j = min a.length b.length := by omega
        have HJ := hide hje
        (first | (have z3 : ¬ (j : Int) < b.length := by omega) | (have z3 : ¬ (j : Int) < a.length := by omega))
        clear hje hlt hj
        go_wp2
        go_ret
        exact ⟨by rw [← HJ.out]; rfl, BB.out⟩

set_option maxHeartbeats 1000000 in
theorem above_any (l : List Nat) (k n : Nat) (B : Nat) (a : Option Addr) (c : Nat) (W : World) (hn : l.length = n) (ho : W.ownsRow B 3 1 (.slice a n c) n (natCs l)) (hl : n ≤ 512) (r : Bool) (hr : r = decide (¬ topOf l n ≤ k)) :
    Calls Try.prog 16 #[.slice a n c, .int .i64 (k : Int)] W fun e w' => e = .returned (.bool r) ∧ W = w' := by
  have HA := hide (own_arg ho hn)
  have HN := hide hn
  have HR := hide hr
  clear ho hr hn
  go_enter Try.func16, Try.ntmps16
  go_wp2
  go_loop [9] (fun qv => ∃ q : Nat, q ≤ n ∧ qv = .int .i64 q ∧ Hid (topOf l q ≤ k)) (fun qv => n - (intOf qv).toNat)
  case atStart => exact ⟨0, Nat.zero_le _, rfl, hide (Nat.zero_le _)⟩
  case round =>
    obtain ⟨q, hq, rfl, HQ⟩ := hrel
    by_cases hlt : q < n
    · obtain ⟨b, off, rfl, hb, _c⟩ := HA.out q _ (getD_some l q (by rw [HN.out]; exact hlt))
      have HT := hide (show topOf l (q + 1) = max (topOf l q) (l.getD q 0) from rfl)
      have zq : (q : Int) < n := by omega
      have HD := hide (show l.getD q 0 ≤ topOf l n → topOf l n ≤ k → l.getD q 0 ≤ k from fun h1 h2 => Nat.le_trans h1 h2)
      have HTL := hide (show topOf l n ≤ k → l.getD q 0 ≤ k from fun h => (topOf_le l k n).1 h q hlt)
      generalize l.getD q 0 = z at *
      by_cases hz : k < z
      · have zz : (k : Int) < z := by omega
        have HRT := hide (show r = true by rw [HR.out]; simp only [decide_eq_true_eq]; intro h; have := HTL.out h; omega)
        go_wp2
        go_ret
        exact ⟨by rw [HRT.out]; rfl, rfl⟩
      · have zz : ¬ (k : Int) < z := by omega
        have HNX := hide (show topOf l (q + 1) ≤ k by rw [HT.out]; have := HQ.out; omega)
        go_wp2
        go_round
        case rel => exact ⟨q + 1, hlt, by go_num, HNX⟩
        case measure => exact meas_oneW q n hlt
    · have hqe : q = n := by omega
      subst hqe
      have HRF := hide (show r = false by rw [HR.out]; simp only [decide_eq_false_iff_not, Classical.not_not]; exact HQ.out)
      go_wp2
      go_ret
      exact ⟨by rw [HRF.out]; rfl, rfl⟩

theorem fillTo_all (ws : List Nat) : fillTo (fun i => (ws.getD i 0 + 1) / 2) ws.length ws.length = halves ws := by
  rw [← partH_all]
  unfold fillTo partH
  refine List.map_congr_left fun i hi => ?_
  rw [if_pos (List.mem_range.1 hi), if_pos (List.mem_range.1 hi)]

set_option maxHeartbeats 1000000 in
theorem halved_any (ws : List Nat) (n : Nat) (a : Option Addr) (c : Nat) (W : World) (hn : ws.length = n) (harg : ArgN W a ws) (hl : n ≤ 512) (hmax : ∀ x ∈ ws, x ≤ 1099511627776) :
    Calls Try.prog 17 #[.slice a n c] W fun e w' => ∃ g, e = .returned (.slice (some ⟨g, 0, none⟩) n n) ∧ Hid (w'.ownsRow W.heap.size 3 1 (.slice (some ⟨g, 0, none⟩) n n) n (natCs (halves ws))) ∧ Hid (Below W.heap.size W w') := by
  have HA := hide harg
  have HN := hide hn
  have HM := hide hmax
  have O0 := hide (own_made W (fun i => (ws.getD i 0 + 1) / 2) n (by omega))
  have B0 := hide ((Below.refl W.heap.size W).alloc (Nat.le_refl _) (.cells (madeCells #[.int .i64 0] n) 3))
  have hmk := run_make_row' (P := Try.prog) 22 3 (.int .i64 0) 8 Try.underlying22 Try.infoInt rfl .i64 .i64 n (by omega) (by omega)
  clear harg hn hmax
  go_enter Try.func17, Try.ntmps17
  go_wp2
  clear hmk
  go_loopw [11] (fun i wr => ∃ j : Nat, j ≤ n ∧ i = .int .i64 j ∧ Hid (wr.ownsRow W.heap.size 3 1 (.slice (some ⟨W.heap.size, 0, none⟩) n n) n (natCs (fillTo (fun i => (ws.getD i 0 + 1) / 2) n j))) ∧ Hid (Below W.heap.size W wr)) (fun i _ => n - (intOf i).toNat)
  case atStart => exact ⟨0, Nat.zero_le _, rfl, O0, B0⟩
  case round =>
    obtain ⟨j, hj, rfl, HO, HB⟩ := hrel
    by_cases hlt : j < n
    · obtain ⟨b, off, rfl, hb, hc⟩ := HA.out j _ (getD_some ws j (by rw [HN.out]; exact hlt))
      have _c := (HB.out.cell (p := ⟨b, off + j, none⟩) hb).trans hc
      have zj : (j : Int) < n := by omega
      have hz40 : ws.getD j 0 ≤ 1099511627776 := HM.out _ (List.mem_of_getElem? (getD_some ws j (by rw [HN.out]; exact hlt)))
      have ho := HO.out
      have hz : (fillTo (fun i => (ws.getD i 0 + 1) / 2) n j)[j]? = some 0 := by rw [fillTo_get _ _ _ j hlt, if_neg (by omega)]
      obtain ⟨_c2, _f2⟩ := own_nat (by rw [fillTo_length]; exact ho) hz
      have HSET := hide (own_set ho j ((ws.getD j 0 + 1) / 2))
      rw [fillTo_set (fun i => (ws.getD i 0 + 1) / 2) n j hlt] at HSET
      have HBS := hide (fun v => HB.out.setCell (p := ⟨W.heap.size, j, none⟩) (Nat.le_refl _) v)
      obtain ⟨z, hzz⟩ : ∃ z, ws.getD j 0 = z := ⟨_, rfl⟩
      rw [hzz] at _c HSET hz40
      have zw := (wrap_one z hz40).1
      have zw2 := (wrap_one z hz40).2
      have HZH := hide (half_quo z hz40)
      clear hz hz40 hzz ho hc
      go_wp2
      go_roundw
      case rel => exact ⟨j + 1, hlt, by go_num, by rw [HZH.out]; exact HSET, hide (HBS.out _)⟩
      case measure => exact meas_oneW j n hlt
    · have hje : j = n := by omega
      subst hje
      have HF := hide (fillTo_all ws)
      rw [HN.out] at HF
      go_wp2
      go_ret
      exact ⟨W.heap.size, rfl, by rw [← HF.out]; exact HO, HB⟩

/-- The first j of those that stand. -/
theorem stand_append (a b : List Nat) : ∀ i, stand (a ++ b) i = stand a i ++ stand b (i + a.length) := by
  induction a with
  | nil => intro i; rfl
  | cons x a ih =>
    intro i
    have e : i + 1 + a.length = i + (a.length + 1) := by omega
    simp only [List.cons_append, stand, ih, List.length_cons, e]
    split
    · rfl
    · rfl

theorem stand_take (ws : List Nat) (j x : Nat) (h : ws[j]? = some x) : stand (ws.take (j + 1)) 0 = stand (ws.take j) 0 ++ if x = 0 then [] else [j] := by
  have hl : j < ws.length := (List.getElem?_eq_some_iff.1 h).1
  rw [take_snocW ws j x h, stand_append, Nat.zero_add, List.length_take, show min j ws.length = j by omega]
  rfl

theorem stand_le (ws : List Nat) : (stand ws 0).length ≤ ws.length := by
  rw [cntL_cnt]
  exact cntL_le ws

theorem two_one (x y : Int) : ∀ u ∈ [Value.int .i64 x, Value.int .i64 y], u.oneCell' = true := by
  intro u hu
  simp at hu
  rcases hu with rfl | rfl <;> rfl
theorem one_int (x : Int) : ∀ u ∈ [Value.int .i64 x], u.oneCell' = true := by
  intro u hu
  rw [List.mem_singleton.1 hu]
  rfl

set_option maxRecDepth 20000 in
set_option maxHeartbeats 1000000 in
theorem standing_any (ws : List Nat) (n : Nat) (a : Option Addr) (c : Nat) (W : World) (hn : ws.length = n) (harg : ArgN W a ws) (hl : n ≤ 512) :
    Calls Try.prog 19 #[.slice a n c] W fun e w' => ∃ v, e = .returned v ∧ Hid (w'.ownsRow W.heap.size 3 1 v (stand ws 0).length (natCs (stand ws 0))) ∧ Hid (Below W.heap.size W w') := by
  have HA := hide harg
  have HN := hide hn
  have O0 : Hid (W.ownsRow W.heap.size 3 1 (.slice none 0 0) (stand (ws.take 0) 0).length (natCs (stand (ws.take 0) 0))) := hide (World.ownsRow_nil _ _ _ _)
  have B0 := hide (Below.refl W.heap.size W)
  obtain ⟨i0, hi, hz0, hz1, hz2⟩ := info_parts Try.infoInt
  clear harg hn
  go_enter Try.func19, Try.ntmps19
  go_wp2
  go_loopw [3, 8] (fun v i wr => ∃ j : Nat, j ≤ n ∧ i = .int .i64 j ∧ Hid (wr.ownsRow W.heap.size 3 1 v (stand (ws.take j) 0).length (natCs (stand (ws.take j) 0))) ∧ Hid (Below W.heap.size W wr)) (fun _ i _ => n - (intOf i).toNat)
  case atStart => exact ⟨0, Nat.zero_le _, rfl, O0, B0⟩
  case round =>
    obtain ⟨j, hj, rfl, HO, HB⟩ := hrel
    by_cases hlt : j < n
    · obtain ⟨b, off, rfl, hb, hc⟩ := HA.out j _ (getD_some ws j (by rw [HN.out]; exact hlt))
      have _c := (HB.out.cell (p := ⟨b, off + j, none⟩) hb).trans hc
      have zj : (j : Int) < n := by omega
      have HST := hide (stand_take ws j _ (getD_some ws j (by rw [HN.out]; exact hlt)))
      generalize ws.getD j 0 = z at *
      clear hc
      by_cases hz : z = 0
      · subst hz
        have HS2 := hide (show stand (ws.take (j + 1)) 0 = stand (ws.take j) 0 by rw [HST.out]; simp)
        go_wp2
        go_roundw
        case rel => exact ⟨j + 1, hlt, by go_num, by rw [HS2.out]; exact HO, HB⟩
        case measure => exact meas_oneW j n hlt
      · have zz : (0 : Int) < z := by omega
        have HS2 := hide (show stand (ws.take (j + 1)) 0 = stand (ws.take j) 0 ++ [j] by rw [HST.out, if_neg hz])
        have hle : (stand (ws.take j) 0).length ≤ 512 := by
          have h1 := stand_le (ws.take j)
          rw [List.length_take] at h1
          omega
        have X1 := hide (show (stand (ws.take j) 0).length + 1 ≤ maxLen by unfold maxLen; omega)
        have X2 := hide (show ((stand (ws.take j) 0).length + 1) * 8 ≤ 140737488355328 by omega)
        clear hle
        go_wp2_with (first
          | (at_builtin; refine wpList_append_fresh _ rfl _ _ 22 rfl W.heap.size 3 i0 (.int .i64 0) 1 8 Try.underlying22 hi hz0 hz1 hz2 rfl (by decide) u3 _ _ rfl (HO.out.alloc _) ⟨wr.heap.size, 0, none⟩ 1 1 [.int .i64 (j : Int)] rfl rfl (cell_one_new _ _ _) (one_int _) X1.out X2.out (size_alloc_le HB.out.size) ?_; intro v1 w1 o1 g1 f1; have HO1 := hide o1; have HB1 := hide (Below.grownB (HB.out.alloc HB.out.size _) g1 (HO.out.alloc _) (size_alloc_le HB.out.size)); clear o1 g1 f1))
        go_roundw
        case rel => exact ⟨j + 1, hlt, by go_num, by rw [HS2.out, List.length_append]; have h := HO1.out; rw [show [Value.int .i64 (j : Int)] = natCs [j] from rfl, natCs_append] at h; exact h, HB1⟩
        case measure => exact meas_oneW j n hlt
    · have hje : j = n := by omega
      subst hje
      have HF := hide (show ws.take ws.length = ws from List.take_of_length_le (Nat.le_refl _))
      rw [HN.out] at HF
      go_wp2
      go_ret
      exact ⟨_, rfl, by rw [← HF.out]; exact HO, HB⟩

end Go.Proofs.Ytihgdlnnfhpdcaa
