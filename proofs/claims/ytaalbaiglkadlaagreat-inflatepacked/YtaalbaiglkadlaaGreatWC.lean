import Derived.Test.YtaalbaiglkadlaaGreatWL
import Derived.Test.YtaalbaiglkadlaaGreatIRow
import Derived.Test.YtaalbaiglkadlaaGreatWB
/- Contracts of layer 4's small functions: Cost, above, halved, standing. -/
namespace Go.Proofs.YtaalbaiglkadlaaGreat
open Go.RowKit Go.Lib

set_option maxHeartbeats 1000000 in
theorem cost_any (a b : List Int) (pa pb : Option Addr) (ca cb : Nat) (W : World) (ha : ArgZ W pa a) (hb : ArgZ W pb b) (la : a.length ≤ 1000) (lb : b.length ≤ 1000) :
    Calls Tryz.prog 81 #[.slice pa a.length ca, .slice pb b.length cb] W fun e w' => e = .returned (.int .i64 (costW a b (min a.length b.length))) ∧ Below W.heap.size W w' := by
  have HA := hide ha
  have HB := hide hb
  have B0 := hide (Below.refl W.heap.size W)
  clear ha hb
  have hcase : b.length < a.length ∨ ¬ b.length < a.length := Decidable.em _
  rcases hcase with h1 | h1
  all_goals
    (try (have zab : (b.length : Int) < a.length := by omega))
    (try (have zab : ¬ (b.length : Int) < a.length := by omega))
    go_enter Tryz.func81, Tryz.ntmps81
    go_wp2
    go_loopw [5, 12] (fun c i wr => ∃ j : Nat, j ≤ min a.length b.length ∧ i = .int .i64 j ∧ c = .int .i64 (costW a b j) ∧ Hid (Below W.heap.size W wr)) (fun _ i _ => min a.length b.length - (intOf i).toNat)
    case atStart => exact ⟨0, Nat.zero_le _, rfl, rfl, B0⟩
    case round =>
      obtain ⟨j, hj, rfl, rfl, BB⟩ := hrel
      by_cases hlt : j < min a.length b.length
      · have h1 : j < a.length := by omega
        have h2 : j < b.length := by omega
        obtain ⟨x, offx, rfl, hx, hcx⟩ := HA.out j _ (getZ a j h1)
        obtain ⟨y, offy, rfl, hy, hcy⟩ := HB.out j _ (getZ b j h2)
        have _c1 := (BB.out.cell (p := ⟨x, offx + j, none⟩) hx).trans hcx
        have _c2 := (BB.out.cell (p := ⟨y, offy + j, none⟩) hy).trans hcy
        have z1 : (j : Int) < a.length := by omega
        have z2 : (j : Int) < b.length := by omega
        have HC := hide (show costW a b (j + 1) = wrap64 (costW a b j + wrap64 (a.getD j 0 * b.getD j 0)) from rfl)
        have HLT := hide hlt
        generalize a.getD j 0 = u at *
        generalize b.getD j 0 = v at *
        clear hx hy hcx hcy hlt hj
        go_wp2
        go_quiet (fail)
        go_wp2
        go_roundw
        case rel => exact ⟨j + 1, HLT.out, by go_num, by rw [HC.out], hide (below_drewN BB.out _)⟩
        case measure => exact meas_oneW j _ HLT.out
      · have hje : j = min a.length b.length := by omega
        have HJ := hide hje
        (first | (have z3 : ¬ (j : Int) < b.length := by omega) | (have z3 : ¬ (j : Int) < a.length := by omega))
        clear hje hlt hj
        go_wp2
        go_ret
        exact ⟨by rw [← HJ.out]; rfl, BB.out⟩

set_option maxHeartbeats 1000000 in
theorem above_any (l : List Nat) (k n : Nat) (B : Nat) (a : Option Addr) (c : Nat) (W : World) (hn : l.length = n) (ho : W.ownsRow B 3 1 (.slice a n c) n (natCs l)) (hl : n ≤ 512) (r : Bool) (hr : r = decide (¬ topOf l n ≤ k)) :
    Calls Tryz.prog 90 #[.slice a n c, .int .i64 (k : Int)] W fun e w' => e = .returned (.bool r) ∧ W = w' := by
  have HA := hide (own_arg ho hn)
  have HN := hide hn
  have HR := hide hr
  clear ho hr hn
  go_enter Tryz.func90, Tryz.ntmps90
  go_wp2
  go_loop [9] (fun qv => ∃ q : Nat, q ≤ n ∧ qv = .int .i64 q ∧ Hid (topOf l q ≤ k)) (fun qv => n - (intOf qv).toNat)
  case atStart => exact ⟨0, Nat.zero_le _, rfl, hide (Nat.zero_le _)⟩
  case round =>
    obtain ⟨q, hq, rfl, HQ⟩ := hrel
    by_cases hlt : q < n
    · obtain ⟨b, off, rfl, hb, _c⟩ := HA.out q _ (getD_some l q (by rw [HN.out]; exact hlt))
      have HT := hide (show topOf l (q + 1) = max (topOf l q) (l.getD q 0) from rfl)
      have zq : (q : Int) < n := by omega
      have HD := hide (show l.getD q 0 ≤ topOf l n → topOf l n ≤ k → l.getD q 0 ≤ k from fun h1 h2 => Nat.le_trans h1 h2)
      have HTL := hide (show topOf l n ≤ k → l.getD q 0 ≤ k from fun h => (topOf_le l k n).1 h q hlt)
      generalize l.getD q 0 = z at *
      by_cases hz : k < z
      · have zz : (k : Int) < z := by omega
        have HRT := hide (show r = true by rw [HR.out]; simp only [decide_eq_true_eq]; intro h; have := HTL.out h; omega)
        go_wp2
        go_ret
        exact ⟨by rw [HRT.out]; rfl, rfl⟩
      · have zz : ¬ (k : Int) < z := by omega
        have HNX := hide (show topOf l (q + 1) ≤ k by rw [HT.out]; have := HQ.out; omega)
        go_wp2
        go_round
        case rel => exact ⟨q + 1, hlt, by go_num, HNX⟩
        case measure => exact meas_oneW q n hlt
    · have hqe : q = n := by omega
      subst hqe
      have HRF := hide (show r = false by rw [HR.out]; simp only [decide_eq_false_iff_not, Classical.not_not]; exact HQ.out)
      go_wp2
      go_ret
      exact ⟨by rw [HRF.out]; rfl, rfl⟩

theorem fillTo_all (ws : List Nat) : fillTo (fun i => (ws.getD i 0 + 1) / 2) ws.length ws.length = halves ws := by
  rw [← partH_all]
  unfold fillTo partH
  refine List.map_congr_left fun i hi => ?_
  rw [if_pos (List.mem_range.1 hi), if_pos (List.mem_range.1 hi)]

set_option maxHeartbeats 1000000 in
theorem halved_any (ws : List Nat) (n : Nat) (a : Option Addr) (c : Nat) (W : World) (hn : ws.length = n) (harg : ArgN W a ws) (hl : n ≤ 512) (hmax : ∀ x ∈ ws, x ≤ 1099511627776) :
    Calls Tryz.prog 91 #[.slice a n c] W fun e w' => ∃ g, e = .returned (.slice (some ⟨g, 0, none⟩) n n) ∧ Hid (w'.ownsRow W.heap.size 3 1 (.slice (some ⟨g, 0, none⟩) n n) n (natCs (halves ws))) ∧ Hid (Below W.heap.size W w') := by
  have HA := hide harg
  have HN := hide hn
  have HM := hide hmax
  have O0 := hide (own_made W (fun i => (ws.getD i 0 + 1) / 2) n (by omega))
  have B0 := hide ((Below.refl W.heap.size W).alloc (Nat.le_refl _) (.cells (madeCells #[.int .i64 0] n) 3))
  have hmk := run_make_row' (P := Tryz.prog) 63 3 (.int .i64 0) 8 Tryz.underlying63 Tryz.infoInt rfl .i64 .i64 n (by omega) (by omega)
  clear harg hn hmax
  go_enter Tryz.func91, Tryz.ntmps91
  go_wp2
  clear hmk
  go_loopw [11] (fun i wr => ∃ j : Nat, j ≤ n ∧ i = .int .i64 j ∧ Hid (wr.ownsRow W.heap.size 3 1 (.slice (some ⟨W.heap.size, 0, none⟩) n n) n (natCs (fillTo (fun i => (ws.getD i 0 + 1) / 2) n j))) ∧ Hid (Below W.heap.size W wr)) (fun i _ => n - (intOf i).toNat)
  case atStart => exact ⟨0, Nat.zero_le _, rfl, O0, B0⟩
  case round =>
    obtain ⟨j, hj, rfl, HO, HB⟩ := hrel
    by_cases hlt : j < n
    · obtain ⟨b, off, rfl, hb, hc⟩ := HA.out j _ (getD_some ws j (by rw [HN.out]; exact hlt))
      have _c := (HB.out.cell (p := ⟨b, off + j, none⟩) hb).trans hc
      have zj : (j : Int) < n := by omega
      have hz40 : ws.getD j 0 ≤ 1099511627776 := HM.out _ (List.mem_of_getElem? (getD_some ws j (by rw [HN.out]; exact hlt)))
      have ho := HO.out
      have hz : (fillTo (fun i => (ws.getD i 0 + 1) / 2) n j)[j]? = some 0 := by rw [fillTo_get _ _ _ j hlt, if_neg (by omega)]
      obtain ⟨_c2, _f2⟩ := own_nat (by rw [fillTo_length]; exact ho) hz
      have HSET := hide (own_set ho j ((ws.getD j 0 + 1) / 2))
      rw [fillTo_set (fun i => (ws.getD i 0 + 1) / 2) n j hlt] at HSET
      have HBS := hide (fun v => HB.out.setCell (p := ⟨W.heap.size, j, none⟩) (Nat.le_refl _) v)
      obtain ⟨z, hzz⟩ : ∃ z, ws.getD j 0 = z := ⟨_, rfl⟩
      rw [hzz] at _c HSET hz40
      have zw := (wrap_one z hz40).1
      have zw2 := (wrap_one z hz40).2
      have HZH := hide (half_quo z hz40)
      clear hz hz40 hzz ho hc
      go_wp2
      go_roundw
      case rel => exact ⟨j + 1, hlt, by go_num, by rw [HZH.out]; exact HSET, hide (HBS.out _)⟩
      case measure => exact meas_oneW j n hlt
    · have hje : j = n := by omega
      subst hje
      have HF := hide (fillTo_all ws)
      rw [HN.out] at HF
      go_wp2
      go_ret
      exact ⟨W.heap.size, rfl, by rw [← HF.out]; exact HO, HB⟩

/-- The first j of those that stand. -/
theorem stand_append (a b : List Nat) : ∀ i, stand (a ++ b) i = stand a i ++ stand b (i + a.length) := by
  induction a with
  | nil => intro i; rfl
  | cons x a ih =>
    intro i
    have e : i + 1 + a.length = i + (a.length + 1) := by omega
    simp only [List.cons_append, stand, ih, List.length_cons, e]
    split
    · rfl
    · rfl

theorem stand_take (ws : List Nat) (j x : Nat) (h : ws[j]? = some x) : stand (ws.take (j + 1)) 0 = stand (ws.take j) 0 ++ if x = 0 then [] else [j] := by
  have hl : j < ws.length := (List.getElem?_eq_some_iff.1 h).1
  rw [take_snocW ws j x h, stand_append, Nat.zero_add, List.length_take, show min j ws.length = j by omega]
  rfl

theorem stand_le (ws : List Nat) : (stand ws 0).length ≤ ws.length := by
  rw [cntL_cnt]
  exact cntL_le ws

theorem two_one (x y : Int) : ∀ u ∈ [Value.int .i64 x, Value.int .i64 y], u.oneCell' = true := by
  intro u hu
  simp at hu
  rcases hu with rfl | rfl <;> rfl
set_option maxRecDepth 20000 in
set_option maxHeartbeats 1000000 in
theorem standing_any (ws : List Nat) (n : Nat) (a : Option Addr) (c : Nat) (W : World) (hn : ws.length = n) (harg : ArgN W a ws) (hl : n ≤ 512) :
    Calls Tryz.prog 100 #[.slice a n c] W fun e w' => ∃ v, e = .returned v ∧ Hid (w'.ownsRow W.heap.size 3 1 v (stand ws 0).length (natCs (stand ws 0))) ∧ Hid (Below W.heap.size W w') := by
  have HA := hide harg
  have HN := hide hn
  have O0 : Hid (W.ownsRow W.heap.size 3 1 (.slice none 0 0) (stand (ws.take 0) 0).length (natCs (stand (ws.take 0) 0))) := hide (World.ownsRow_nil _ _ _ _)
  have B0 := hide (Below.refl W.heap.size W)
  obtain ⟨i0, hi, hz0, hz1, hz2⟩ := info_parts Tryz.infoInt
  clear harg hn
  go_enter Tryz.func100, Tryz.ntmps100
  go_wp2
  go_loopw [3, 8] (fun v i wr => ∃ j : Nat, j ≤ n ∧ i = .int .i64 j ∧ Hid (wr.ownsRow W.heap.size 3 1 v (stand (ws.take j) 0).length (natCs (stand (ws.take j) 0))) ∧ Hid (Below W.heap.size W wr)) (fun _ i _ => n - (intOf i).toNat)
  case atStart => exact ⟨0, Nat.zero_le _, rfl, O0, B0⟩
  case round =>
    obtain ⟨j, hj, rfl, HO, HB⟩ := hrel
    by_cases hlt : j < n
    · obtain ⟨b, off, rfl, hb, hc⟩ := HA.out j _ (getD_some ws j (by rw [HN.out]; exact hlt))
      have _c := (HB.out.cell (p := ⟨b, off + j, none⟩) hb).trans hc
      have zj : (j : Int) < n := by omega
      have HST := hide (stand_take ws j _ (getD_some ws j (by rw [HN.out]; exact hlt)))
      generalize ws.getD j 0 = z at *
      clear hc
      by_cases hz : z = 0
      · subst hz
        have HS2 := hide (show stand (ws.take (j + 1)) 0 = stand (ws.take j) 0 by rw [HST.out]; simp)
        go_wp2
        go_roundw
        case rel => exact ⟨j + 1, hlt, by go_num, by rw [HS2.out]; exact HO, HB⟩
        case measure => exact meas_oneW j n hlt
      · have zz : (0 : Int) < z := by omega
        have HS2 := hide (show stand (ws.take (j + 1)) 0 = stand (ws.take j) 0 ++ [j] by rw [HST.out, if_neg hz])
        have hle : (stand (ws.take j) 0).length ≤ 512 := by
          have h1 := stand_le (ws.take j)
          rw [List.length_take] at h1
          omega
        have X1 := hide (show (stand (ws.take j) 0).length + 1 ≤ maxLen by unfold maxLen; omega)
        have X2 := hide (show ((stand (ws.take j) 0).length + 1) * 8 ≤ 140737488355328 by omega)
        clear hle
        go_wp2_with (first
          | (at_builtin; refine wpList_append_fresh _ rfl _ _ 63 rfl W.heap.size 3 i0 (.int .i64 0) 1 8 Tryz.underlying63 hi hz0 hz1 hz2 rfl (by decide) u3 _ _ rfl (HO.out.alloc _) ⟨wr.heap.size, 0, none⟩ 1 1 [.int .i64 (j : Int)] rfl rfl (cell_one_new _ _ _) (one_int _) X1.out X2.out (size_alloc_le HB.out.size) ?_; intro v1 w1 o1 g1 f1; have HO1 := hide o1; have HB1 := hide (Below.grownB (HB.out.alloc HB.out.size _) g1 (HO.out.alloc _) (size_alloc_le HB.out.size)); clear o1 g1 f1))
        go_roundw
        case rel => exact ⟨j + 1, hlt, by go_num, by rw [HS2.out, List.length_append]; have h := HO1.out; rw [show [Value.int .i64 (j : Int)] = natCs [j] from rfl, natCs_append] at h; exact h, HB1⟩
        case measure => exact meas_oneW j n hlt
    · have hje : j = n := by omega
      subst hje
      have HF := hide (show ws.take ws.length = ws from List.take_of_length_le (Nat.le_refl _))
      rw [HN.out] at HF
      go_wp2
      go_ret
      exact ⟨_, rfl, by rw [← HF.out]; exact HO, HB⟩

end Go.Proofs.YtaalbaiglkadlaaGreat

/- Contracts of layer 4's 'leaves' and 'depths'. -/
namespace Go.Proofs.YtaalbaiglkadlaaGreat
open Go.RowKit Go.Lib

set_option maxRecDepth 20000 in
set_option maxHeartbeats 1000000 in
theorem leaves_any (ws : List Nat) (n m : Nat) (a b : Option Addr) (c cs : Nat) (W : World) (hn : ws.length = n) (hm : cnt ws = m) (harg : ArgN W a ws) (hsym : ArgN W b (stand ws 0)) (hl : n ≤ 512) :
    Calls Tryz.prog 103 #[.slice a n c, .slice b m cs] W fun e w' => ∃ v, e = .returned v ∧ Hid (w'.ownsRow W.heap.size 158 2 v m (nodeCs (nodesL ws m))) ∧ Hid (Below W.heap.size W w') := by
  have HA := hide harg
  have HS := hide hsym
  have HN := hide hn
  have HM := hide (show (stand ws 0).length = m from hm)
  have hmn : m ≤ 512 := by have h := stand_le ws; rw [HM.out, HN.out] at h; omega
  have O0 : Hid (W.ownsRow W.heap.size 158 2 (.slice none 0 0) 0 (nodeCs (nodesL ws 0))) := hide (World.ownsRow_nil _ _ _ _)
  have B0 := hide (Below.refl W.heap.size W)
  obtain ⟨i1, ki, kz0, kz1, kz2⟩ := info_parts Tryz.infoPile
  clear harg hsym hn hm
  go_enter Tryz.func103, Tryz.ntmps103
  go_wp2
  go_loopw [5, 10] (fun v i wr => ∃ j : Nat, j ≤ m ∧ i = .int .i64 j ∧ Hid (wr.ownsRow W.heap.size 158 2 v j (nodeCs (nodesL ws j))) ∧ Hid (Below W.heap.size W wr)) (fun _ i _ => m - (intOf i).toNat)
  case atStart => exact ⟨0, Nat.zero_le _, rfl, O0, B0⟩
  case round =>
    obtain ⟨j, hj, rfl, HO, HB⟩ := hrel
    by_cases hlt : j < m
    · have hs := getD_some (stand ws 0) j (by rw [HM.out]; exact hlt)
      have hsl := ((stand0 ws _).1 (List.mem_of_getElem? hs)).1
      obtain ⟨b1, off1, rfl, hb1, hc1⟩ := HS.out j _ hs
      obtain ⟨b2, off2, rfl, hb2, hc2⟩ := HA.out _ _ (getD_some ws _ hsl)
      have _c1 := (HB.out.cell (p := ⟨b1, off1 + j, none⟩) hb1).trans hc1
      have _c2 := (HB.out.cell (p := ⟨b2, off2 + _, none⟩) hb2).trans hc2
      have HNL := hide (nodesL_snoc ws j)
      have zj : (j : Int) < m := by omega
      rw [HN.out] at hsl
      generalize (stand ws 0).getD j 0 = s at *
      have zs : (s : Int) < n := by omega
      generalize ws.getD s 0 = z at *
      have X1 := hide (show j + 1 ≤ maxLen by unfold maxLen; omega)
      have X2 := hide (show (j + 1) * 16 ≤ 140737488355328 by omega)
      clear hc1 hc2 hs hsl
      go_wp2_with (first
        | (at_builtin; refine wpList_append_fresh _ rfl _ _ 149 rfl W.heap.size 158 i1 (.agg #[.int .i64 0, .int .i64 0]) 2 16 Tryz.underlying149 ki kz0 kz1 kz2 rfl (by decide) u5 _ _ rfl (HO.out.alloc _) ⟨wr.heap.size, 0, none⟩ 1 1 [.int .i64 (z : Int), .int .i64 (j : Int)] rfl rfl (cell_two_new _ _ _ _) (two_one _ _) X1.out X2.out (size_alloc_le HB.out.size) ?_; intro v1 w1 o1 g1 f1; have HO1 := hide o1; have HB1 := hide (Below.grownB (HB.out.alloc HB.out.size _) g1 (HO.out.alloc _) (size_alloc_le HB.out.size)); clear o1 g1 f1))
      go_roundw
      case rel => exact ⟨j + 1, hlt, by go_num, by rw [HNL.out, nodeCs_append]; exact HO1, HB1⟩
      case measure => exact meas_oneW j m hlt
    · have hje : j = m := by omega
      subst hje
      go_wp2
      go_ret
      exact ⟨_, rfl, HO, HB⟩

set_option maxRecDepth 20000 in
set_option maxHeartbeats 1000000 in
theorem cdepths_any (par : List Nat) (n : Nat) (a : Option Addr) (c : Nat) (W : World) (hn : par.length = n) (harg : ArgN W a par) (hl : n ≤ 1024) (hok : ParOk par) :
    Calls Tryz.prog 101 #[.slice a n c] W fun e w' => ∃ g, e = .returned (.slice (some ⟨g, 0, none⟩) n n) ∧ ∃ D, Hid (DpOk par D 0) ∧ Hid (w'.ownsRow W.heap.size 3 1 (.slice (some ⟨g, 0, none⟩) n n) n (natCs D)) ∧ Hid (Below W.heap.size W w') := by
  have HA := hide harg
  have HN := hide hn
  have HOK := hide hok
  have O0 := hide (own_made0 W n hl)
  have B0 := hide ((Below.refl W.heap.size W).alloc (Nat.le_refl _) (.cells (madeCells #[.int .i64 0] n) 3))
  have hmk := run_make_row' (P := Tryz.prog) 63 3 (.int .i64 0) 8 Tryz.underlying63 Tryz.infoInt rfl .i64 .i64 n (by omega) (by omega)
  have D0 := hide (DpOk.begin par)
  rw [HN.out] at D0
  have w2 : IntKind.i64.wrap ((n : Int) - 2) = (n : Int) - 2 := by rw [IntKind.wrap_i64]; omega
  clear harg hn hok
  go_enter Tryz.func101, Tryz.ntmps101
  go_wp2
  clear hmk
  go_loopw [4] (fun iv wr => ∃ (m : Nat) (z : Int) (D : List Nat), m ≤ n - 1 ∧ (z + 1 = (m : Int) ∨ (m = 0 ∧ z < 0)) ∧ iv = .int .i64 z ∧ Hid (DpOk par D m) ∧ Hid (wr.ownsRow W.heap.size 3 1 (.slice (some ⟨W.heap.size, 0, none⟩) n n) n (natCs D)) ∧ Hid (Below W.heap.size W wr)) (fun iv _ => (intOf iv + 1).toNat)
  case atStart => exact ⟨n - 1, (n : Int) - 2, _, Nat.le_refl _, by omega, rfl, D0, O0, B0⟩
  case round =>
    obtain ⟨m, z, D, hm, hz, rfl, HD, HO, HB⟩ := hrel
    cases m with
    | zero =>
      have zz : ¬ (0 : Int) ≤ z := by omega
      clear hz hm
      go_wp2
      go_ret
      exact ⟨_, rfl, D, HD, HO, HB⟩
    | succ m =>
      obtain rfl : z = (m : Int) := by omega
      have hml : m + 1 < par.length := by rw [HN.out]; omega
      obtain ⟨b, off, rfl, hb, hc⟩ := HA.out m _ (getD_some par m (by omega))
      have _c := (HB.out.cell (p := ⟨b, off + m, none⟩) hb).trans hc
      obtain ⟨p1, p2⟩ := HOK.out m hml
      have hDl : D.length = n := by rw [HD.out.len, HN.out]
      have ho := HO.out
      have hpn : par.getD m 0 < D.length := by rw [hDl, ← HN.out]; exact p2
      obtain ⟨_c2, _f2⟩ := own_nat (by rw [hDl]; exact ho) (getD_some D (par.getD m 0) hpn)
      obtain ⟨_c3, _f3⟩ := own_nat (by rw [hDl]; exact ho) (getD_some D m (by omega))
      have hbnd := HD.out.bnd (par.getD m 0) hpn
      have HNX := hide (HD.out.step HOK.out hml)
      have HSET := hide (own_set ho m (D.getD (par.getD m 0) 0 + 1))
      have HBS := hide (fun v => HB.out.setCell (p := ⟨W.heap.size, m, none⟩) (Nat.le_refl _) v)
      have zp : ((par.getD m 0 : Nat) : Int) < n := by omega
      have zm : (m : Int) < n := by omega
      have zm0 : (0 : Int) ≤ m := by omega
      have wm : IntKind.i64.wrap ((m : Int) - 1) = (m : Int) - 1 := by rw [IntKind.wrap_i64]; omega
      have hm2 : m ≤ n - 1 := by omega
      generalize par.getD m 0 = q at *
      have hq9 : D.getD q 0 ≤ 1024 := by omega
      generalize D.getD q 0 = y at *
      generalize D.getD m 0 = x at *
      clear hz hm hc p1 p2 hDl ho hpn hbnd hml
      go_wp2
      go_roundw
      case rel => exact ⟨m, (m : Int) - 1, _, hm2, by omega, rfl, HNX, HSET, hide (HBS.out _)⟩
      case measure => exact meas_init m

end Go.Proofs.YtaalbaiglkadlaaGreat

/- Contract of layer 4's 'parents': the pile and the row of parents, side by side. -/
namespace Go.Proofs.YtaalbaiglkadlaaGreat
open Go.RowKit Go.Lib

structure Side (w W : World) (B P : Nat) (v u : Value) (d : List (Nat × Int)) (par : List Nat) : Prop where
  pile : PileAt w B P v d
  own : w.ownsRow B 3 1 u par.length (natCs par)
  uP : u.ownBlock ≠ some P
  vu : Apart v u
  bel : Below B W w
  pB : B ≤ P

theorem Side.step {w w' W : World} {B P : Nat} {v v' u : Value} {d d' : List (Nat × Int)} {par : List Nat} (h : Side w W B P v u d par) (s : Step P v v' w w') (p : PileAt w' B P v' d') : Side w' W B P v' u d' par := by
  refine ⟨p, ?_, h.uP, ?_, ⟨s.os.trans h.bel.os, s.tape.trans h.bel.tape, s.output.trans h.bel.output, Nat.le_trans h.bel.size s.size, fun k hk => ?_⟩, h.pB⟩
  · refine ⟨h.own.1, ?_⟩
    rcases h.own.2 with h2 | ⟨g, cap, cur, hv, hb, hg, r⟩
    · exact .inl h2
    · have hgl : g < w.heap.size := (Array.getElem?_eq_some_iff.1 hg).1
      refine .inr ⟨g, cap, cur, hv, hb, ?_, r⟩
      rw [s.block g hgl (fun e => h.uP (by rw [hv, e]; rfl)) (fun e => h.vu g e.symm (by rw [hv]; rfl))]
      exact hg
  · intro k hk hu
    have hkl := (h.own.lt k hu).2
    rcases s.own with e | e
    · rw [e] at hk; exact h.vu k hk hu
    · have := e k hk; omega
  · have hbs := h.bel.size
    have hPl : P < w.heap.size := (Array.getElem?_eq_some_iff.1 h.pile.box).1
    have := h.pB
    by_cases hks : k < w.heap.size
    · rw [s.block k hks (by omega) (fun e => ?_)]
      · exact h.bel.block k hk
      · have := (h.pile.own.lt k e.symm).1
        omega
    · omega

theorem Side.alloc {w W : World} {B P : Nat} {v u : Value} {d : List (Nat × Int)} {par : List Nat} (h : Side w W B P v u d par) (hB : B ≤ w.heap.size) (o : Obj) : Side (w.alloc o) W B P v u d par :=
  ⟨h.pile.alloc o, h.own.alloc o, h.uP, h.vu, h.bel.alloc hB o, h.pB⟩
theorem Side.drewN {w W : World} {B P : Nat} {v u : Value} {d : List (Nat × Int)} {par : List Nat} (h : Side w W B P v u d par) (q : Nat) : Side (w.drewN q) W B P v u d par :=
  ⟨h.pile.drewN q, h.own, h.uP, h.vu, below_drewN h.bel q, h.pB⟩
theorem Side.setAny {w W : World} {B P : Nat} {v u : Value} {d : List (Nat × Int)} {par : List Nat} (h : Side w W B P v u d par) (R i : Nat) (x : Value) (hB : B ≤ R) (hP : P ≠ R) (hv : v.ownBlock ≠ some R) (hu : u.ownBlock ≠ some R) : Side (w.setCell ⟨R, i, none⟩ x) W B P v u d par :=
  ⟨⟨by rw [Below.heap_setCell _ _ _ _ hP]; exact h.pile.box, ownsRow_setCell_other h.pile.own hv _, h.pile.ne⟩, ownsRow_setCell_other h.own hu _, h.uP, h.vu, h.bel.setCell (p := ⟨R, i, none⟩) hB _, h.pB⟩
theorem Side.setOut {w W : World} {B P o n co : Nat} {v : Value} {d : List (Nat × Int)} {par : List Nat} (h : Side w W B P v (.slice (some ⟨o, 0, none⟩) n co) d par) (j x : Nat) : Side (w.setCell ⟨o, j, none⟩ (.int .i64 (x : Int))) W B P v (.slice (some ⟨o, 0, none⟩) n co) d (par.set j x) := by
  have hne : o ≠ P := fun e => h.uP (by rw [e]; rfl)
  have hn : par.length = n := by
    rcases len_form h.own with ⟨h1, _⟩ | ⟨g, cap, h1⟩
    · cases h1
    · injection h1 with _ h2 _; exact h2.symm
  refine ⟨⟨by rw [Below.heap_setCell _ _ _ _ (fun e => hne e.symm)]; exact h.pile.box, ownsRow_setCell_other h.pile.own (fun e => h.vu o e rfl) _, h.pile.ne⟩, ?_, h.uP, h.vu, h.bel.setCell (p := ⟨o, j, none⟩) (h.own.lt o rfl).1 _, h.pB⟩
  have ho := h.own
  rw [hn] at ho
  rw [List.length_set, hn]
  exact own_set ho j x
theorem Side.app {w w' W : World} {B P : Nat} {v u u' : Value} {d : List (Nat × Int)} {par : List Nat} (h : Side w W B P v u d par) (x : Nat) (hB : B ≤ w.heap.size)
    (ho : w'.ownsRow B 3 1 u' (par.length + 1) (natCs par ++ [.int .i64 (x : Int)])) (hg : w.grownBy w' u.ownBlock) (hf : u'.ownBlock = u.ownBlock ∨ ∀ k, u'.ownBlock = some k → w.heap.size ≤ k) : Side w' W B P v u' d (par ++ [x]) := by
  have hPl : P < w.heap.size := (Array.getElem?_eq_some_iff.1 h.pile.box).1
  refine ⟨⟨?_, own_kept h.pile.own hg h.vu.symm, h.pile.ne⟩, ?_, ?_, ?_, Below.grownB h.bel hg h.own hB, h.pB⟩
  · rw [hg.block P hPl (fun e => h.uP e.symm)]
    exact h.pile.box
  · rw [List.length_append, ← natCs_append]
    exact ho
  · intro e
    rcases hf with e2 | e2
    · exact h.uP (by rw [← e2]; exact e)
    · have := e2 P e; omega
  · exact (h.vu.symm.fresh h.pile.own hf).symm

/-- The state while nodes are put together. -/
structure Pars (w W : World) (B P : Nat) (v u : Value) (ws : List Nat) (d all : List (Nat × Int)) (live : List Gr) (n : Nat) (dd : Nat → Nat) : Prop where
  side : Side w W B P v u d (parOf all)
  psim : PSim ws d all live n dd

/-- There is such a state, with so many nodes left, and so many in all. -/
def ParsAt (w W : World) (B P : Nat) (u : Value) (ws : List Nat) (k n : Nat) : Prop :=
  ∃ v d all live dd, Pars w W B P v u ws d all live n dd ∧ live.length = k

theorem ParsAt.form {w W : World} {B P : Nat} {u : Value} {ws : List Nat} {k n : Nat} (h : ParsAt w W B P u ws k n) : ∃ a cap, w.cell? ⟨P, 0, none⟩ = some (.slice a k cap) ∧ ∃ d all live dd, Pars w W B P (.slice a k cap) u ws d all live n dd ∧ live.length = k := by
  obtain ⟨v, d, all, live, dd, h1, h2⟩ := h
  have hd : d.length = k := by rw [h1.psim.pile.length_eq, List.length_map, h2]
  rcases len_form h1.side.pile.own with ⟨e1, e2⟩ | ⟨g, cap, e1⟩
  · have e3 : v = .slice none k 0 := by rw [e1]; congr 1; omega
    subst e3
    exact ⟨_, _, h1.side.pile.cell, d, all, live, dd, h1, h2⟩
  · rw [hd] at e1
    subst e1
    exact ⟨_, _, h1.side.pile.cell, d, all, live, dd, h1, h2⟩

theorem PSim.bounds {ws : List Nat} {d all : List (Nat × Int)} {live : List Gr} {n : Nat} {dd : Nat → Nat} (h : PSim ws d all live n dd) (hlen : ws.length ≤ 512) : n ≤ 1024 ∧ live.length ≤ 1024 ∧ n + live.length ≤ 1024 := by
  have h1 := h.num
  have h2 := cntL_le ws
  have h3 := h.sim.len
  omega
theorem PSim.ne {ws : List Nat} {d all : List (Nat × Int)} {a b : Gr} {r : List Gr} {n : Nat} {dd : Nat → Nat} (h : PSim ws d all (a :: b :: r) n dd) : a.id ≠ b.id := by
  have hna := h.sim.node a List.mem_cons_self
  have hnb := h.sim.node b (List.mem_cons_of_mem _ List.mem_cons_self)
  have := (List.pairwise_cons.1 h.sim.st.ord).1 b List.mem_cons_self
  unfold ahead at this
  intro e
  have h2 := node_inj hna hnb e
  omega
theorem PSim.sums {ws : List Nat} {d all : List (Nat × Int)} {a b : Gr} {r : List Gr} {n : Nat} {dd : Nat → Nat} (h : PSim ws d all (a :: b :: r) n dd) (hlen : ws.length ≤ 512) (hmax : ∀ x ∈ ws, x ≤ 1099511627776) : a.w + b.w ≤ 562949953421312 := by
  have h1 := h.sim.sum
  have h2 := sum_le ws 1099511627776 hmax
  have h3 : ws.length * 1099511627776 ≤ 512 * 1099511627776 := Nat.mul_le_mul_right _ hlen
  simp only [List.map_cons, List.sum_cons] at h1
  omega

theorem Side.begin {W : World} {B m cap : Nat} {a : Option Addr} {d : List (Nat × Int)} (hB : B ≤ W.heap.size) (hm : m ≤ 1024) (h : PileAt (W.alloc (.cells #[.slice a m cap] 149)) B W.heap.size (.slice a m cap) d) (hv : (Value.slice a m cap).ownBlock ≠ some (W.heap.size + 1)) :
    Side ((W.alloc (.cells #[.slice a m cap] 149)).alloc (.cells (madeCells #[.int .i64 0] m) 3)) W B W.heap.size (.slice a m cap) (.slice (some ⟨W.heap.size + 1, 0, none⟩) m m) d (List.replicate m 0) := by
  have hsz : (W.alloc (.cells #[.slice a m cap] 149)).heap.size = W.heap.size + 1 := by show (W.heap.push _).size = _; simp
  have ho := own_made0 (W.alloc (.cells #[.slice a m cap] 149)) m hm
  rw [hsz] at ho
  refine ⟨h.alloc _, ?_, fun e => ?_, fun k hk hu => ?_, ((Below.refl B W).alloc hB _).alloc (size_alloc_le hB) _, hB⟩
  · rw [List.length_replicate]
    exact ownsRow_base ho (by omega)
  · have e2 : W.heap.size + 1 = W.heap.size := by injection e
    omega
  · have e2 : W.heap.size + 1 = k := by injection hu
    subst e2
    exact hv hk

/-- A step's bare facts: the first of those that are left is the pile's top. -/
theorem Pars.top {w W : World} {B P : Nat} {v u : Value} {ws : List Nat} {d all : List (Nat × Int)} {x : Gr} {r : List Gr} {n : Nat} {dd : Nat → Nat} (h : Pars w W B P v u ws d all (x :: r) n dd) : atP d 0 = prP x :=
  pile_top h.psim.sim.st.ord h.psim.pile h.psim.hp

theorem node_pr (g : Gr) : nodeV (prP g) = .agg #[.int .i64 (g.w : Int), .int .i64 (g.id : Int)] := rfl

/-- Behind the two least, laid into blocks of their own. -/
structure Laid (w W : World) (B P A A2 : Nat) (v u : Value) (d : List (Nat × Int)) (par : List Nat) (x y : Gr) : Prop where
  side : Side w W B P v u d par
  ba : w.heap[A]? = some (.cells #[.int .i64 (x.w : Int), .int .i64 (x.id : Int)] 158 (0, 0))
  bb : w.heap[A2]? = some (.cells #[.int .i64 (y.w : Int), .int .i64 (y.id : Int)] 158 (0, 0))
  ua : u.ownBlock ≠ some A
  ub : u.ownBlock ≠ some A2
  siz : B ≤ w.heap.size

theorem Laid.begin {w W : World} {B P : Nat} {v u : Value} {d : List (Nat × Int)} {par : List Nat} (h : Side w W B P v u d par) (x y : Gr) :
    Laid ((w.alloc (.cells #[.int .i64 (x.w : Int), .int .i64 (x.id : Int)] 158)).alloc (.cells #[.int .i64 (y.w : Int), .int .i64 (y.id : Int)] 158)) W B P w.heap.size (w.heap.size + 1) v u d par x y := by
  have hB : B ≤ w.heap.size := Nat.le_trans h.pB (Nat.le_of_lt (Array.getElem?_eq_some_iff.1 h.pile.box).1)
  have hsz : (w.alloc (.cells #[.int .i64 (x.w : Int), .int .i64 (x.id : Int)] 158)).heap.size = w.heap.size + 1 := by show (w.heap.push _).size = _; simp
  refine ⟨(h.alloc hB _).alloc (by omega) _, ?_, ?_, own_ne h.own (Nat.le_refl _), own_ne h.own (by omega), size_alloc_le (by omega)⟩
  · rw [heap_alloc_old _ _ _ (by omega)]
    show (w.heap.push _)[w.heap.size]? = _
    simp
  · have key : ∀ (w0 : World) (N : Nat) (o : Obj), w0.heap.size = N → (w0.alloc o).heap[N]? = some o := by
      intro w0 N o e
      subst e
      show (w0.heap.push o)[w0.heap.size]? = _
      simp
    exact key _ _ _ hsz

theorem Laid.set {w W : World} {B P A A2 o n co : Nat} {v : Value} {d : List (Nat × Int)} {par : List Nat} {x y : Gr} (h : Laid w W B P A A2 v (.slice (some ⟨o, 0, none⟩) n co) d par x y) (j z : Nat) : Laid (w.setCell ⟨o, j, none⟩ (.int .i64 (z : Int))) W B P A A2 v (.slice (some ⟨o, 0, none⟩) n co) d (par.set j z) x y := by
  refine ⟨h.side.setOut j z, ?_, ?_, h.ua, h.ub, by rw [size_setCell]; exact h.siz⟩
  · rw [Below.heap_setCell _ _ _ _ (fun e => h.ua (by rw [e]; rfl))]; exact h.ba
  · rw [Below.heap_setCell _ _ _ _ (fun e => h.ub (by rw [e]; rfl))]; exact h.bb
theorem Laid.drewN {w W : World} {B P A A2 : Nat} {v u : Value} {d : List (Nat × Int)} {par : List Nat} {x y : Gr} (h : Laid w W B P A A2 v u d par x y) (q : Nat) : Laid (w.drewN q) W B P A A2 v u d par x y :=
  ⟨h.side.drewN q, h.ba, h.bb, h.ua, h.ub, h.siz⟩
theorem Laid.alloc {w W : World} {B P A A2 : Nat} {v u : Value} {d : List (Nat × Int)} {par : List Nat} {x y : Gr} (h : Laid w W B P A A2 v u d par x y) (o : Obj) : Laid (w.alloc o) W B P A A2 v u d par x y :=
  ⟨h.side.alloc h.siz o, by rw [heap_alloc_old _ _ _ (Array.getElem?_eq_some_iff.1 h.ba).1]; exact h.ba, by rw [heap_alloc_old _ _ _ (Array.getElem?_eq_some_iff.1 h.bb).1]; exact h.bb, h.ua, h.ub, size_alloc_le h.siz⟩
theorem Laid.cells {w W : World} {B P A A2 : Nat} {v u : Value} {d : List (Nat × Int)} {par : List Nat} {x y : Gr} (h : Laid w W B P A A2 v u d par x y) :
    w.cell? ⟨A, 0, none⟩ = some (.int .i64 (x.w : Int)) ∧ w.cell? ⟨A, 1, none⟩ = some (.int .i64 (x.id : Int)) ∧ w.cell? ⟨A2, 0, none⟩ = some (.int .i64 (y.w : Int)) ∧ w.cell? ⟨A2, 1, none⟩ = some (.int .i64 (y.id : Int)) :=
  ⟨(two_cells h.ba).1, (two_cells h.ba).2.1, (two_cells h.bb).1, (two_cells h.bb).2.1⟩
theorem Laid.app {w w' W : World} {B P A A2 : Nat} {v u u' : Value} {d : List (Nat × Int)} {par : List Nat} {x y : Gr} (h : Laid w W B P A A2 v u d par x y) (z : Nat)
    (ho : w'.ownsRow B 3 1 u' (par.length + 1) (natCs par ++ [.int .i64 (z : Int)])) (hg : w.grownBy w' u.ownBlock) (hf : u'.ownBlock = u.ownBlock ∨ ∀ k, u'.ownBlock = some k → w.heap.size ≤ k) : Laid w' W B P A A2 v u' d (par ++ [z]) x y := by
  have hA := (Array.getElem?_eq_some_iff.1 h.ba).1
  have hA2 := (Array.getElem?_eq_some_iff.1 h.bb).1
  refine ⟨h.side.app z h.siz ho hg hf, ?_, ?_, ?_, ?_, Nat.le_trans h.siz hg.size⟩
  · rw [hg.block A hA (fun e => h.ua e.symm)]; exact h.ba
  · rw [hg.block A2 hA2 (fun e => h.ub e.symm)]; exact h.bb
  · intro e
    rcases hf with e2 | e2
    · exact h.ua (by rw [← e2]; exact e)
    · have := e2 A e; omega
  · intro e
    rcases hf with e2 | e2
    · exact h.ub (by rw [← e2]; exact e)
    · have := e2 A2 e; omega

/-- Behind the two least: what is left of the pile. -/
structure Two (w W : World) (B P g cap k : Nat) (u : Value) (d2 : List (Nat × Int)) (par : List Nat) (r : List Gr) : Prop where
  side : Side w W B P (.slice (some ⟨g, 0, none⟩) k cap) u d2 par
  hp : HpFrom d2 0 d2.length
  perm : d2.Perm (r.map prP)

set_option maxRecDepth 20000 in
set_option maxHeartbeats 4000000 in
theorem parents_any (ws : List Nat) (m : Nat) (v : Value) (B : Nat) (W : World) (hm : cnt ws = m) (ho : W.ownsRow B 158 2 v m (nodeCs (nodesL ws m))) (hB : B ≤ W.heap.size) (hlen : ws.length ≤ 512) (hmax : ∀ x ∈ ws, x ≤ 1099511627776) :
    Calls Tryz.prog 102 #[v] W fun e w' => ∃ u, e = .returned u ∧ ∃ par, Hid (ParEnd ws par) ∧ Hid (w'.ownsRow B 3 1 u par.length (natCs par)) ∧ Hid (Below B W w') := by
  obtain ⟨a, cap, rfl⟩ : ∃ a cap, v = .slice a m cap := by
    rcases len_form ho with ⟨e1, e2⟩ | ⟨g, cap, e1⟩
    · exact ⟨none, 0, by rw [e1, e2]⟩
    · exact ⟨_, _, e1⟩
  have hmn : m ≤ 512 := by have h := stand_le ws; have e : (stand ws 0).length = m := hm; omega
  have hne : (Value.slice a m cap).ownBlock ≠ some W.heap.size := own_ne ho (Nat.le_refl _)
  have HP0 := hide (show PileAt (W.alloc (.cells #[.slice a m cap] 149)) B W.heap.size (.slice a m cap) (nodesL ws m) from ⟨by show (W.heap.push _)[W.heap.size]? = _; simp, by rw [nodesL_length]; exact ho.alloc _, hne⟩)
  have hmk := run_make_row' (P := Tryz.prog) 63 3 (.int .i64 0) 8 Tryz.underlying63 Tryz.infoInt rfl .i64 .i64 m (by omega) (by omega)
  have HL := hide hlen
  have HX := hide hmax
  have HM := hide hm
  have HB := hide hB
  obtain ⟨i0, hi, hz0, hz1, hz2⟩ := info_parts Tryz.infoInt
  have HS0 := hide (Side.begin (B := B) hB (by omega) HP0.out (fun e => by have := (ho.lt _ e).2; omega))
  have HCI := hide (hinit_any W.heap.size m cap B a (nodesL ws m) _ HS0.out.pile (by omega))
  clear hlen hmax hm ho hne
  go_enter Tryz.func102, Tryz.ntmps102
  go_wp2_with fail
  refine HCI.out.mono ?_
  rintro e w2 ⟨rfl, HIN⟩
  obtain ⟨P, hP⟩ : ∃ P, W.heap.size = P := ⟨_, rfl⟩
  have HST := hide (show ParsAt w2 W B P (.slice (some ⟨W.heap.size + 1, 0, none⟩) m m) ws m m by
    obtain ⟨d, h1, h2, h3⟩ := HIN.out
    have hs := HS0.out.step h2 h1.at_
    rw [← hP]
    refine ⟨_, d, allL ws, live0 ws, fun _ => 0, ⟨by rw [parOf_begin, HM.out]; exact hs, ?_⟩, by rw [live0_length, HM.out]⟩
    have hb := PSim.begin (ws := ws) (d := d) (by rw [HM.out]; exact h3) h1.hp
    rw [HM.out] at hb
    exact hb)
  have HPP := hide hP
  generalize W.heap.size + 1 = o0 at HST ⊢
  rw [hP]
  clear hP HIN HCI HS0 HP0
  rename World => ww
  go_wp2
  go_loopg [3] m (fun gk uv wr => ∃ n, Hid (ParsAt wr W B P uv ws gk n))
  case atStart => exact ⟨m, HST⟩
  case round =>
    clear HST
    obtain ⟨n, HPA⟩ := hrel
    obtain ⟨a2, cap2, hcell, d, all, live, dd, hpars, hk⟩ := HPA.out.form
    have HPS := hide hpars
    have hbd := hpars.psim.bounds HL.out
    rw [hk] at hbd
    by_cases h1 : 1 < gk
    · match live, hk, hpars, HPS with
      | [], hk, _, _ => simp at hk; omega
      | [_], hk, _, _ => simp at hk; omega
      | x :: y :: r, hk, hpars, HPS =>
        have hall : all.length = n := hpars.psim.sim.len
        have hn0 : 0 < n := by
          have := hpars.psim.sim.st.lt x List.mem_cons_self
          omega
        obtain ⟨o, co, rfl⟩ : ∃ o co, u3 = .slice (some ⟨o, 0, none⟩) n co := by
          obtain ⟨o, co, e⟩ := own_slice hpars.side.own (by rw [parOf_length]; omega)
          exact ⟨o, co, by rw [e, parOf_length, hall]⟩
        have hdl : d.length = gk := hpars.side.pile.len
        obtain ⟨g, rfl⟩ : ∃ g, a2 = some ⟨g, 0, none⟩ := by
          obtain ⟨g, cap3, e⟩ := own_slice hpars.side.pile.own (by omega)
          injection e with e _ _
          exact ⟨g, e⟩
        obtain ⟨k, rfl⟩ : ∃ k, gk = k + 2 := ⟨gk - 2, by omega⟩
        have zk : (1 : Int) < (k : Int) + 2 := by omega
        have HC1 := hide (least_any P g (k + 2) (k + 1) cap2 B d wr ⟨hpars.side.pile, hpars.psim.hp⟩ rfl (by omega))
        have HTOP := hide hpars.top
        rw [hpars.top, node_pr] at HC1
        have HALL := hide hall
        have HBD := hide hbd
        have HK := hide hk
        clear hall hdl hpars hk hbd
        go_wp2_with fail
        refine HC1.out.mono ?_
        rintro e w1 ⟨rfl, HP1⟩
        obtain ⟨d1, h3, h4, h5⟩ := HP1.out
        have hs1 := HPS.out.side.step h4 h3.at_
        have hp1 : d1.Perm ((y :: r).map prP) := by
          rw [HTOP.out] at h5
          exact (h5.symm.trans HPS.out.psim.pile).cons_inv
        have ht1 := pile_top (List.pairwise_cons.1 HPS.out.psim.sim.st.ord).2 hp1 h3.hp
        have HC2 := hide (least_any P g (k + 1) k cap2 B d1 w1 h3 rfl (by have := HBD.out; omega))
        rw [ht1, node_pr] at HC2
        have HS1 := hide hs1
        have HP1' := hide hp1
        have HT1 := hide ht1
        clear h3 h4 h5 hs1 hp1 ht1 HP1 HC1
        go_wp2_with fail
        refine HC2.out.mono ?_
        rintro e w2 ⟨rfl, HP2⟩
        have HTW := hide (show ∃ d2, Two w2 W B P g cap2 k (.slice (some ⟨o, 0, none⟩) n co) d2 (parOf all) r by
          obtain ⟨d2, h3, h4, h5⟩ := HP2.out
          rw [HT1.out] at h5
          exact ⟨d2, HS1.out.step h4 h3.at_, h3.hp, (h5.symm.trans HP1'.out).cons_inv⟩)
        clear HP2 HC2 HS1 HP1' HT1 hcell
        obtain ⟨d2, htw⟩ := HTW.out
        have HT2 := hide htw
        have hlaid := Laid.begin htw.side x y
        have hxn := HPS.out.psim.sim.st.lt x List.mem_cons_self
        have hyn := HPS.out.psim.sim.st.lt y (List.mem_cons_of_mem _ List.mem_cons_self)
        have hxy := HPS.out.psim.ne
        have zx : (x.id : Int) < n := by omega
        have zy : (y.id : Int) < n := by omega
        have hpl : (parOf all).length = n := by rw [parOf_length, HALL.out]
        have ho := hlaid.side.own
        rw [hpl] at ho
        obtain ⟨c1, f1⟩ := own_nat (by rw [hpl]; exact ho) (getD_some (parOf all) x.id (by omega))
        obtain ⟨c2, f2⟩ := own_nat (by rw [hpl]; exact ho) (getD_some (parOf all) y.id (by omega))
        obtain ⟨k1, k2, k3, k4⟩ := hlaid.cells
        have hoA : o ≠ w2.heap.size := fun e => hlaid.ua (by rw [e]; rfl)
        have hoA2 : o ≠ w2.heap.size + 1 := fun e => hlaid.ub (by rw [e]; rfl)
        have HLD := hide hlaid
        have HPL := hide hpl
        generalize (parOf all).getD x.id 0 = px at *
        generalize (parOf all).getD y.id 0 = py at *
        clear ho hpl hlaid htw HTW
        go_wp2_with fail
        obtain ⟨A2, hA2⟩ : ∃ A2, w2.heap.size + 1 = A2 := ⟨_, rfl⟩
        rw [hA2] at k3 k4 HLD hoA2
        simp only [hA2]
        clear hA2
        obtain ⟨A, hA⟩ : ∃ A, w2.heap.size = A := ⟨_, rfl⟩
        rw [hA] at k1 k2 HLD hoA
        simp only [hA]
        clear hA
        generalize (w2.alloc (.cells #[.int .i64 (x.w : Int), .int .i64 (x.id : Int)] 158)).alloc (.cells #[.int .i64 (y.w : Int), .int .i64 (y.id : Int)] 158) = w3 at *
        go_region
        have HL4 : Hid (Laid ((w3.setCell ⟨o, x.id, none⟩ (.int .i64 (n : Int))).setCell ⟨o, y.id, none⟩ (.int .i64 (n : Int))).drew W B P A A2 (.slice (some ⟨g, 0, none⟩) k cap2) (.slice (some ⟨o, 0, none⟩) n co) d2 (((parOf all).set x.id n).set y.id n) x y) := hide (((HLD.out.set x.id n).set y.id n).drewN 1)
        have HPAR := hide (stepAll_par HPS.out.psim.sim)
        obtain ⟨par2, hpar2⟩ : ∃ par2, ((parOf all).set x.id n).set y.id n = par2 := ⟨_, rfl⟩
        have hp2l : par2.length = n := by rw [← hpar2, List.length_set, List.length_set]; exact HPL.out
        rw [hpar2] at HL4 HPAR
        have ho4 := HL4.out.side.own
        rw [hp2l] at ho4
        have HO4 := hide ho4
        have X1 := hide (show n + 1 ≤ maxLen by have := HBD.out; unfold maxLen; omega)
        have X2 := hide (show (n + 1) * 8 ≤ 140737488355328 by have := HBD.out; omega)
        have HP2L := hide hp2l
        obtain ⟨s, hs⟩ : ∃ s, x.w + y.w = s := ⟨_, rfl⟩
        have zs1 : wrap64 ((x.w : Int) + y.w) = (s : Int) := by rw [(wrap_sum _ _ (HPS.out.psim.sums HL.out HX.out)).1]; omega
        have zs2 : IntKind.i64.wrap ((x.w : Int) + y.w) = (s : Int) := by rw [(wrap_sum _ _ (HPS.out.psim.sums HL.out HX.out)).2]; omega
        have HS := hide hs
        clear hs
        clear hp2l ho4 hpar2 c1 c2 f1 f2 k1 k2 k3 k4
        generalize (((w3.setCell ⟨o, x.id, none⟩ (.int .i64 (n : Int))).setCell ⟨o, y.id, none⟩ (.int .i64 (n : Int))).drew) = w4 at *
        go_wp2_with (first
          | (at_builtin; refine wpList_append_fresh _ rfl _ _ 63 rfl B 3 i0 (.int .i64 0) 1 8 Tryz.underlying63 hi hz0 hz1 hz2 rfl (by decide) (.slice (some ⟨o, 0, none⟩) n co) _ _ rfl (HO4.out.alloc _) ⟨w4.heap.size, 0, none⟩ 1 1 [.int .i64 0] rfl rfl (cell_one_new _ _ _) (one_int _) X1.out X2.out (size_alloc_le HL4.out.siz) ?_; intro v5 w5 o5 g5 f5; have HL5 := hide ((HL4.out.alloc (.cells #[.int .i64 0] 3)).app 0 (by rw [HP2L.out]; exact o5) g5 f5); obtain ⟨k1, k2, k3, k4⟩ := HL5.out.cells; clear o5 g5 f5))
        refine (hpush_any P k cap2 B (some ⟨g, 0, none⟩) d2 (s, (n : Int)) w5 ⟨HL5.out.side.pile, HT2.out.hp⟩ (by have := HBD.out; omega) HL5.out.siz).mono ?_
        rintro e w6 ⟨rfl, g6, cap6, HP6⟩
        have HNX := hide (show ParsAt w6 W B P v5 ws (k + 1) (n + 1) by
          obtain ⟨d3, h6, h7, h8⟩ := HP6.out
          have hs6 := HL5.out.side.step h7 h6.at_
          rw [← HPAR.out] at hs6
          refine ⟨_, d3, stepAll all x.id y.id, _, _, ⟨hs6, HPS.out.psim.step ?_ h6.hp⟩, ?_⟩
          · rw [HS.out]
            exact h8.trans (HT2.out.perm.cons _)
          · have := HK.out
            simp only [List.length_cons] at this
            rw [ins_length]
            omega)
        clear HP6 k1 k2 k3 k4
        go_wp2
        go_roundg (k + 1)
        case measure => omega
        case rel => exact ⟨n + 1, HNX⟩
    · have HE := hide (hpars.psim.finish (by omega))
      have HO := hide hpars.side.own
      have HBE := hide hpars.side.bel
      have zk : ¬ (1 : Int) < gk := by omega
      clear hpars hbd
      go_wp2
      go_ret
      exact ⟨_, rfl, _, HE, HO, HBE⟩

end Go.Proofs.YtaalbaiglkadlaaGreat

/- Contracts of layer 4's 'unlimited', 'allowed' and 'Lengths', of the landed code: the error, or the lengths by the plain process, with the limit. -/
namespace Go.Proofs.YtaalbaiglkadlaaGreat
open Go.RowKit Go.Lib

/-- The lengths of the first j symbols that stand. -/
def fillS (ws : List Nat) (j : Nat) : List Nat := (List.range ws.length).map fun s => if s ∈ (stand ws 0).take j then lenF ws s else 0

theorem fillS_length (ws : List Nat) (j : Nat) : (fillS ws j).length = ws.length := by simp [fillS]
theorem fillS_get (ws : List Nat) (j i : Nat) (h : i < ws.length) : (fillS ws j)[i]? = some (if i ∈ (stand ws 0).take j then lenF ws i else 0) := by
  unfold fillS
  rw [List.getElem?_map, List.getElem?_range h]
  rfl
theorem fillS_zero (ws : List Nat) : fillS ws 0 = List.replicate ws.length 0 := by
  apply List.eq_replicate_iff.2
  refine ⟨fillS_length ws 0, fun b hb => ?_⟩
  obtain ⟨i, _, rfl⟩ := List.mem_map.1 hb
  simp
theorem fillS_set (ws : List Nat) (j s : Nat) (h : (stand ws 0)[j]? = some s) : (fillS ws j).set s (lenF ws s) = fillS ws (j + 1) := by
  have hs := ((stand0 ws s).1 (List.mem_of_getElem? h)).1
  apply List.ext_getElem?
  intro i
  have htk : (stand ws 0).take (j + 1) = (stand ws 0).take j ++ [s] := by rw [List.take_add_one, h]; rfl
  by_cases hi : i < ws.length
  · rw [List.getElem?_set, fillS_get ws (j + 1) i hi, htk]
    by_cases e : s = i
    · subst e
      rw [if_pos rfl, if_pos (by rw [fillS_length]; exact hs), if_pos (by simp)]
    · rw [if_neg e, fillS_get ws j i hi]
      by_cases h2 : i ∈ (stand ws 0).take j
      · rw [if_pos h2, if_pos (List.mem_append_left _ h2)]
      · rw [if_neg h2, if_neg (by
          intro h3
          rcases List.mem_append.1 h3 with h4 | h4
          · exact h2 h4
          · exact e (List.mem_singleton.1 h4).symm)]
  · rw [List.getElem?_eq_none (by rw [List.length_set, fillS_length]; omega), List.getElem?_eq_none (by rw [fillS_length]; omega)]
theorem fillS_all (ws : List Nat) : fillS ws (cnt ws) = lens ws := by
  unfold fillS lens
  refine List.map_congr_left fun i hi => ?_
  have e : (stand ws 0).take (cnt ws) = stand ws 0 := List.take_of_length_le (Nat.le_refl _)
  rw [e]
  by_cases h : i ∈ stand ws 0
  · rw [if_pos h]
  · rw [if_neg h]
    unfold lenF
    rw [if_pos]
    refine Classical.byContradiction fun h2 => h ((stand0 ws i).2 ⟨List.mem_range.1 hi, h2⟩)

set_option maxRecDepth 20000 in
set_option maxHeartbeats 2000000 in
theorem unlimited_any (ws : List Nat) (n : Nat) (a : Option Addr) (c : Nat) (W : World) (hn : ws.length = n) (harg : ArgN W a ws) (hl : n ≤ 512) (hmax : ∀ x ∈ ws, x ≤ 1099511627776) :
    Calls Tryz.prog 89 #[.slice a n c] W fun e w' => ∃ g, e = .returned (.slice (some ⟨g, 0, none⟩) n n) ∧ Hid (w'.ownsRow W.heap.size 3 1 (.slice (some ⟨g, 0, none⟩) n n) n (natCs (lens ws))) ∧ Hid (Below W.heap.size W w') := by
  have HA := hide harg
  have HN := hide hn
  have HX := hide hmax
  have O0 := hide (own_made0 W n (by omega))
  have B0 := hide ((Below.refl W.heap.size W).alloc (Nat.le_refl _) (.cells (madeCells #[.int .i64 0] n) 3))
  have hmk := run_make_row' (P := Tryz.prog) 63 3 (.int .i64 0) 8 Tryz.underlying63 Tryz.infoInt rfl .i64 .i64 n (by omega) (by omega)
  have HA1 := hide (HA.out.below B0.out (Nat.le_refl _))
  have hL : W.heap.size < (W.alloc (.cells (madeCells #[.int .i64 0] n) 3)).heap.size := by show W.heap.size < (W.heap.push _).size; simp
  have HL := hide hL
  have HC1 := hide (standing_any ws n a c _ hn HA1.out hl)
  clear harg hn hmax hL
  go_enter Tryz.func89, Tryz.ntmps89
  go_wp2_with fail
  obtain ⟨w1, hw1⟩ : ∃ w1, W.alloc (.cells (madeCells #[.int .i64 0] n) 3) = w1 := ⟨_, rfl⟩
  rw [hw1] at O0 B0 HA1 HL HC1
  simp only [hw1]
  clear hmk hw1
  refine HC1.out.mono ?_
  rintro e w2 ⟨v2, rfl, HO2, HB2⟩
  obtain ⟨m, hm⟩ : ∃ m, (stand ws 0).length = m := ⟨_, rfl⟩
  have HM := hide hm
  rw [hm] at HO2
  obtain ⟨b, cs, rfl, harg2⟩ := arg_form HO2.out hm
  have HS2 := hide harg2
  have HOL2 := hide (own_below O0.out HB2.out (Nat.le_refl _))
  have HBW2 := hide (B0.out.trans (HB2.out.mono B0.out.size))
  have HA2 := hide (HA1.out.below HB2.out (Nat.le_refl _))
  clear hm harg2
  by_cases h1 : m = 1
  · subst h1
    obtain ⟨s, hs⟩ : ∃ s, stand ws 0 = [s] := List.length_eq_one_iff.1 HM.out
    have hs0 : (stand ws 0)[0]? = some s := by rw [hs]; rfl
    have hsn := ((stand0 ws s).1 (List.mem_of_getElem? hs0)).1
    rw [HN.out] at hsn
    obtain ⟨b1, off1, rfl, hb1, hc1⟩ := HS2.out 0 s hs0
    have ho := HOL2.out
    obtain ⟨c2, f2⟩ := own_nat (l := List.replicate n 0) (j := s) (x := 0) (by rw [List.length_replicate]; exact ho) (by rw [List.getElem?_replicate, if_pos hsn])
    have HF := hide (show (List.replicate n 0).set s 1 = lens ws by
      have hl1 : lenF ws s = 1 := by unfold lenF; rw [if_neg ((stand0 ws s).1 (List.mem_of_getElem? hs0)).2, if_pos (show cnt ws = 1 from HM.out)]
      have h3 := fillS_set ws 0 s hs0
      rw [fillS_zero, hl1, HN.out] at h3
      have h4 := fillS_all ws
      rw [show cnt ws = 1 from HM.out] at h4
      rw [h3, h4])
    have HSET := hide (own_set ho s 1)
    rw [HF.out] at HSET
    have HBS := hide (fun v => HBW2.out.setCell (p := ⟨W.heap.size, s, none⟩) (Nat.le_refl _) v)
    have zs : (s : Int) < n := by omega
    rw [Nat.add_zero] at hc1
    clear ho hs hs0 hsn
    go_wp2
    go_ret
    exact ⟨_, rfl, HSET, hide (HBS.out _)⟩
  · have hne : ((m : Int) == 1) = false := by simp; omega
    have HNE := hide h1
    have hm512 : m ≤ 512 := by have h := stand_le ws; have := HM.out; have := HN.out; omega
    clear h1
    go_wp2_with fail
    refine (leaves_any ws n m a b c cs w2 HN.out HM.out HA2.out HS2.out hl).mono ?_
    rintro e w3 ⟨v3, rfl, HO3, HB3⟩
    have HC4 := hide (parents_any ws m v3 w2.heap.size w3 HM.out HO3.out HB3.out.size (by rw [HN.out]; exact hl) HX.out)
    go_wp2_with fail
    refine HC4.out.mono ?_
    rintro e w4 ⟨u4, rfl, par, HE4, HO4, HB4⟩
    obtain ⟨np, hnp⟩ : ∃ np, par.length = np := ⟨_, rfl⟩
    have HNP := hide hnp
    rw [hnp] at HO4
    obtain ⟨a4, c4, rfl, harg4⟩ := arg_form HO4.out hnp
    have hnp2 : np ≤ 1024 ∧ m ≤ np := by have h := HE4.out.len; have e : cnt ws = m := HM.out; omega
    have HC5 := hide (cdepths_any par np a4 c4 w4 hnp harg4 (by omega) HE4.out.ok)
    clear hnp harg4 HC4
    go_wp2_with fail
    refine HC5.out.mono ?_
    rintro e w5 ⟨g5, rfl, D, HD5, HO5, HB5⟩
    have HB24 := hide (HB3.out.trans HB4.out)
    have hs24 : w2.heap.size ≤ w4.heap.size := HB24.out.size
    have HB25 := hide (HB24.out.trans (HB5.out.mono hs24))
    have HS5 := hide (HS2.out.below HB25.out (Nat.le_refl _))
    have HOL5 := hide (own_below HOL2.out HB25.out (Nat.le_refl _))
    have hW2 : W.heap.size ≤ w2.heap.size := HBW2.out.size
    have HBW5 := hide (HBW2.out.trans (HB25.out.mono hW2))
    have hDl : D.length = np := by rw [HD5.out.len, HNP.out]
    have HA5 := hide (own_arg HO5.out hDl)
    have HDL := hide hDl
    have hg5 : g5 ≠ W.heap.size := by
      have h1 := (HO5.out.lt g5 rfl).1
      have h2 := HL.out
      have h3 := HB2.out.size
      omega
    have hb5 : ∀ b0 off, b = some ⟨b0, off, none⟩ → b0 ≠ W.heap.size := by
      intro b0 off e
      have hh := HO2.out
      rcases len_form hh with ⟨e1, _⟩ | ⟨g', c', e1⟩
      · injection e1 with e1; rw [e1] at e; cases e
      · injection e1 with e1
        rw [e1] at e
        injection e with e
        injection e with e
        have h1 := (hh.lt g' (by rw [e1]; rfl)).1
        have h2 := HL.out
        omega
    have HG5 := hide hg5
    have HBB5 := hide hb5
    have HLZ : Hid (w5.ownsRow W.heap.size 3 1 (.slice (some ⟨W.heap.size, 0, none⟩) n n) n (natCs (fillS ws 0))) := hide (by rw [fillS_zero, HN.out]; exact HOL5.out)
    have HOn0 := hide (Only.refl W.heap.size w5)
    clear hnp2 hs24 hW2 hDl hg5 hb5
    go_wp2
    go_loopw [29] (fun i wr => ∃ j : Nat, j ≤ m ∧ i = .int .i64 j ∧ Hid (wr.ownsRow W.heap.size 3 1 (.slice (some ⟨W.heap.size, 0, none⟩) n n) n (natCs (fillS ws j))) ∧ Hid (Only W.heap.size w5 wr)) (fun i _ => m - (intOf i).toNat)
    case atStart => exact ⟨0, Nat.zero_le _, rfl, HLZ, HOn0⟩
    case round =>
      obtain ⟨j, hj, rfl, HO, HON⟩ := hrel
      by_cases hlt : j < m
      · have hs := getD_some (stand ws 0) j (by rw [HM.out]; exact hlt)
        have hsl := ((stand0 ws _).1 (List.mem_of_getElem? hs)).1
        have hmp : j < D.length := by
          have h := HE4.out.len
          have e : cnt ws = m := HM.out
          rw [HDL.out, ← HNP.out]
          omega
        have HDD := hide (HE4.out.deep D HD5.out j _ hs)
        have HLF := hide (show lenF ws ((stand ws 0).getD j 0) = dep ws ((stand ws 0).getD j 0) by unfold lenF; rw [if_neg ((stand0 ws _).1 (List.mem_of_getElem? hs)).2, if_neg (fun e => HNE.out (by rw [← HM.out]; exact e))])
        have HFS := hide (fillS_set ws j _ hs)
        have hget := fillS_get ws j ((stand ws 0).getD j 0) hsl
        obtain ⟨b1, off1, rfl, hb1, _c1⟩ := (HS5.out.only HON.out HBB5.out) j _ hs
        obtain ⟨b2, off2, e2, hb2, _c2⟩ := (HA5.out.only HON.out (fun b0 off e => by injection e with e; injection e with e; rw [← e]; exact HG5.out)) j _ (getD_some D j hmp)
        injection e2 with e2
        injection e2 with e3 e4
        subst e3
        subst e4
        rw [HDL.out] at hmp
        rw [HN.out] at hsl
        have ho := HO.out
        obtain ⟨_c3, _f3⟩ := own_nat (by rw [fillS_length, HN.out]; exact ho) hget
        have HSET := hide (own_set ho ((stand ws 0).getD j 0) (lenF ws ((stand ws 0).getD j 0)))
        rw [HFS.out, HLF.out, ← HDD.out] at HSET
        rw [Nat.zero_add] at _c2
        generalize (stand ws 0).getD j 0 = s at *
        generalize D.getD j 0 = y at *
        have HONS := hide (fun v => HON.out.trans (Only.setCell W.heap.size s wr v))
        have zj : (j : Int) < m := by omega
        have zs : (s : Int) < n := by omega
        have zp : (j : Int) < np := by omega
        clear hs ho hget hmp hsl
        go_wp2
        go_roundw
        case rel => exact ⟨j + 1, hlt, by go_num, HSET, hide (HONS.out _)⟩
        case measure => exact meas_oneW j m hlt
      · have hje : j = m := by omega
        subst hje
        have HFA := hide (fillS_all ws)
        rw [show cnt ws = j from HM.out] at HFA
        rw [HFA.out] at HO
        have HBF := hide (show Below W.heap.size W wr from ⟨HON.out.os.trans HBW5.out.os, HON.out.tape.trans HBW5.out.tape, HON.out.output.trans HBW5.out.output, by rw [HON.out.size]; exact HBW5.out.size, fun k hk => by rw [HON.out.block k (by omega)]; exact HBW5.out.block k hk⟩)
        go_wp2
        go_ret
        exact ⟨_, rfl, HO, HBF⟩

/-- Of numbers that are none below 0. -/
theorem ArgZ.nat {w : World} {a : Option Addr} {l : List Int} (h : ArgZ w a l) (he : ∀ x ∈ l, 0 ≤ x ∧ x ≤ 1099511627776) : ArgN w a (l.map Int.toNat) := by
  intro i x hx
  rw [List.getElem?_map] at hx
  cases hl : l[i]? with
  | none => rw [hl] at hx; cases hx
  | some z =>
    rw [hl] at hx
    injection hx with hx
    obtain ⟨b, off, h1, h2, h3⟩ := h i z hl
    refine ⟨b, off, h1, h2, ?_⟩
    rw [h3, ← hx]
    have := he z (mem_of_get hl)
    rw [Int.toNat_of_nonneg this.1]

set_option maxRecDepth 20000 in
set_option maxHeartbeats 2000000 in
theorem allowed_any (l : List Int) (m : Int) (a : Option Addr) (cap : Nat) (W : World) (harg : ArgZ W a l) (r : Bool) (hr : r = true ↔ GoodW l m) :
    Calls Tryz.prog 88 #[.slice a l.length cap, .int .i64 m] W fun e w' => e = .returned (.bool r) ∧ Hid (Below W.heap.size W w') := by
  have HA := hide harg
  have HR := hide hr
  have B0 := hide (Below.refl W.heap.size W)
  have HNO := hide (show ¬ GoodW l m → r = false from fun h => by cases r with | false => rfl | true => exact absurd (HR.out.1 rfl) h)
  clear harg hr
  by_cases h1 : m < 1
  · have HB := hide (HNO.out fun h => by have := h.lo; omega)
    rw [HB.out]
    clear HB HNO HR
    go_enter Tryz.func88, Tryz.ntmps88
    go_wp2
    go_ret
    exact ⟨rfl, B0⟩
  · have d1 : decide (m < 1) = false := by simp; omega
    by_cases h2 : 15 < m
    · have HB := hide (HNO.out fun h => by have := h.hi; omega)
      rw [HB.out]
      clear HB HNO HR
      go_enter Tryz.func88, Tryz.ntmps88
      go_wp2
      go_ret
      exact ⟨rfl, B0⟩
    · have d2 : decide (15 < m) = false := by simp; omega
      by_cases h3 : 512 < l.length
      · have HB := hide (HNO.out fun h => by have := h.len; omega)
        have z3 : (512 : Int) < l.length := by omega
        rw [HB.out]
        clear HB HNO HR
        go_enter Tryz.func88, Tryz.ntmps88
        go_wp2
        go_ret
        exact ⟨rfl, B0⟩
      · have z3 : ¬ (512 : Int) < l.length := by omega
        have hl512 : l.length ≤ 512 := by omega
        have HL := hide hl512
        obtain ⟨k, rfl⟩ : ∃ k : Nat, m = (k : Int) := ⟨m.toNat, by omega⟩
        have hk : 1 ≤ k ∧ k ≤ 15 := by omega
        have HK := hide hk
        clear hk
        go_enter Tryz.func88, Tryz.ntmps88
        go_wp2
        go_loop [20] (fun i => ∃ j : Nat, j ≤ l.length ∧ i = .int .i64 j ∧ Hid (∀ x ∈ l.take j, 0 ≤ x ∧ x ≤ 1099511627776)) (fun i => l.length - (intOf i).toNat)
        case atStart => exact ⟨0, Nat.zero_le _, rfl, hide (fun x hx => by simp at hx)⟩
        case round =>
          obtain ⟨j, hj, rfl, HE⟩ := hrel
          by_cases hlt : j < l.length
          · obtain ⟨x, hx⟩ : ∃ x, l[j]? = some x := ⟨_, List.getElem?_eq_getElem hlt⟩
            obtain ⟨b, off, rfl, hb, _c⟩ := HA.out j x hx
            have zj : (j : Int) < l.length := by omega
            have HX := hide hx
            have HTK := hide (show l.take (j + 1) = l.take j ++ [x] by rw [List.take_add_one, hx]; rfl)
            clear hx
            by_cases q1 : x < 0
            · have HB := hide (HNO.out fun h => by have := (h.each x (mem_of_get HX.out)).1; omega)
              go_wp2
              go_ret
              exact ⟨by rw [HB.out]; rfl, B0⟩
            · have q1d : decide (x < 0) = false := by simp; omega
              by_cases q2 : 1099511627776 < x
              · have HB := hide (HNO.out fun h => by have := (h.each x (mem_of_get HX.out)).2; omega)
                go_wp2
                go_ret
                exact ⟨by rw [HB.out]; rfl, B0⟩
              · have q2d : decide (1099511627776 < x) = false := by simp; omega
                have HE2 := hide (show ∀ z ∈ l.take (j + 1), 0 ≤ z ∧ z ≤ 1099511627776 from fun z hz => by
                  rw [HTK.out] at hz
                  rcases List.mem_append.1 hz with e | e
                  · exact HE.out z e
                  · rw [List.mem_singleton.1 e]; omega)
                clear q2
                go_wp2
                go_round
                case rel => exact ⟨j + 1, hlt, by go_num, HE2⟩
                case measure => exact meas_oneW j l.length hlt
          · have hje : j = l.length := by omega
            subst hje
            have HEA : Hid (∀ x ∈ l, 0 ≤ x ∧ x ≤ 1099511627776) := hide (by have h := HE.out; rw [List.take_of_length_le (Nat.le_refl _)] at h; exact h)
            obtain ⟨p, hp, hp2⟩ := pow_wrap k HK.out.2
            have HWL := hide (show (l.map Int.toNat).length = l.length from List.length_map ..)
            have HARG := hide (HA.out.nat HEA.out)
            have HC := hide (standing_any (l.map Int.toNat) l.length a cap W.drew HWL.out HARG.out HL.out)
            obtain ⟨q, hq⟩ : ∃ q, (stand (l.map Int.toNat) 0).length = q := ⟨_, rfl⟩
            have HQ := hide (show r = decide (q ≤ p) by
              have e1 : cntL (l.map Int.toNat) = q := by rw [← hq]; exact (cntL_cnt _ 0).symm
              have e2 : GoodW l (k : Int) ↔ q ≤ p := by
                rw [hp2]
                constructor
                · intro h; have := h.few; rw [e1, Int.toNat_natCast] at this; exact this
                · intro h; exact ⟨by have := HK.out.1; omega, by have := HK.out.2; omega, HL.out, HEA.out, by rw [e1, Int.toNat_natCast]; exact h⟩
              by_cases h : q ≤ p
              · rw [HR.out.2 (e2.2 h)]; simp [h]
              · rw [HNO.out (fun h2 => h (e2.1 h2))]; simp [h])
            rw [hq] at HC
            have hk0 : (0 : Int) ≤ k := by omega
            have HQ0 := hide hq
            have HPK : Hid (IntKind.i64.wrap ((2 : Int) ^ k) = (p : Int)) := hide (by rw [IntKind.wrap_i64]; unfold wrap64 at hp; exact hp)
            have HBD := hide (Below.refl W.heap.size W).drew
            clear HE hp hp2 hlt hj hq
            go_wp2_with fail
            go_region_held3 (fun _ => True) (exact trivial) (first
              | (go_at_call 100; refine HC.out.mono ?_; rintro e w1 ⟨v1, rfl, HO1, HB1⟩; obtain ⟨b1, cs1, rfl, _⟩ := arg_form HO1.out HQ0.out; have HF := hide (HBD.out.trans HB1.out)))
            go_wp2
            go_ret
            refine ⟨?_, HF⟩
            rw [HQ.out]
            show Ending.returned (.bool (decide ((q : Int) ≤ IntKind.i64.wrap (2 ^ k)))) = _
            rw [HPK.out]
            congr 2
            exact decide_eq_decide.2 Int.ofNat_le

/-- The weights under way: halved i times. -/
structure LenC (w W : World) (a : Option Addr) (ws : List Nat) (k i : Nat) : Prop where
  arg : ArgN w a (halfJ i ws)
  bel : Below W.heap.size W w
  not : ∀ z, z < i → ¬ shortL (halfJ z ws) k

set_option maxRecDepth 20000 in
set_option maxHeartbeats 4000000 in
theorem lengths_any (l : List Int) (m : Int) (a : Option Addr) (cap : Nat) (W : World) (harg : ArgZ W a l) (_hnil : a = none → cap = 0) :
    Calls Tryz.prog 70 #[.slice a l.length cap, .int .i64 m] W fun e w' => ∃ r, e = .returned r ∧ LenRes W l m r w' ∧ Below W.heap.size W w' := by
  have HA := hide harg
  clear harg _hnil
  by_cases hgood : GoodW l m
  · have HG := hide hgood
    have HC := hide (allowed_any l m a cap W HA.out true ⟨fun _ => hgood, fun _ => rfl⟩)
    obtain ⟨k, rfl⟩ : ∃ k : Nat, m = (k : Int) := ⟨m.toNat, by have := hgood.lo; omega⟩
    have HK := hide (show 1 ≤ k ∧ k ≤ 15 by have := hgood.lo; have := hgood.hi; omega)
    obtain ⟨ws, hws⟩ : ∃ ws, l.map Int.toNat = ws := ⟨_, rfl⟩
    have HWS := hide hws
    have HWL := hide (show ws.length = l.length by rw [← hws]; exact List.length_map ..)
    have HWM := hide (show ∀ x ∈ ws, x ≤ 1099511627776 from fun x hx => by
      rw [← hws] at hx
      obtain ⟨y, hy, rfl⟩ := List.mem_map.1 hx
      have := hgood.each y hy
      omega)
    have HC5 := hide (show cnt ws ≤ 2 ^ k by have h5 := hgood.few; rw [Int.toNat_natCast, hws] at h5; have e : cnt ws = cntL ws := cntL_cnt _ 0; omega)
    have HARG := hide (show ArgN W a ws by rw [← hws]; exact HA.out.nat hgood.each)
    have hlen := hgood.len
    have HL := hide hlen
    clear hgood hws
    go_enter Tryz.func70, Tryz.ntmps70
    go_wp2_with fail
    refine HC.out.mono ?_
    rintro e w1 ⟨rfl, HB1⟩
    have HW := hide (show LenC w1 W a ws k 0 from ⟨HARG.out.below HB1.out (Nat.le_refl _), HB1.out, fun z hz => by omega⟩)
    clear HC
    go_wp2
    go_loopg [0] ws.sum (fun gk wv wr => ∃ aw cw i, wv = .slice aw l.length cw ∧ (halfJ i ws).sum ≤ gk ∧ Hid (LenC wr W aw ws k i))
    case atStart => exact ⟨a, cap, 0, rfl, Nat.le_refl _, HW⟩
    case round =>
      obtain ⟨aw, cw, i, rfl, hsum, HI⟩ := hrel
      have hli : (halfJ i ws).length = l.length := by rw [halfJ_len, HWL.out]
      have HCU := hide (unlimited_any (halfJ i ws) l.length aw cw wr hli HI.out.arg HL.out (halfJ_max i ws _ HWM.out))
      have HLI := hide hli
      have HSUM := hide hsum
      clear hli hsum HW
      rename World => wi
      go_wp2_with fail
      refine HCU.out.mono ?_
      rintro e w2 ⟨g2, rfl, HO2, HB2⟩
      have hll : (lens (halfJ i ws)).length = l.length := by rw [lens_length, HLI.out]
      have HSH := hide (top_short (halfJ i ws) k)
      rw [HLI.out] at HSH
      have HBEL := hide (HI.out.bel.trans (HB2.out.mono HI.out.bel.size))
      by_cases hsh : topOf (lens (halfJ i ws)) l.length ≤ k
      · have HS := hide (HSH.out.1 hsh)
        have HCA := hide (above_any (lens (halfJ i ws)) k l.length _ _ _ w2 hll HO2.out HL.out false (by simp [hsh]))
        have HOUT := hide (ownsRow_base HO2.out HI.out.bel.size)
        clear hsh hll
        go_wp2_with fail
        refine HCA.out.mono ?_
        rintro e w3 ⟨rfl, rfl⟩
        go_wp2
        go_ret2
        exact ⟨_, rfl, .inr ⟨HG.out, _, _, rfl, ⟨i, by rw [HWS.out], by rw [HWS.out, Int.toNat_natCast]; exact HS.out, by rw [HWS.out, Int.toNat_natCast]; exact HI.out.not⟩, HOUT.out⟩, HBEL.out⟩
      · have HNS := hide (fun h => hsh (HSH.out.2 h))
        have HCA := hide (above_any (lens (halfJ i ws)) k l.length _ _ _ w2 hll HO2.out HL.out true (by simp [hsh]))
        have HARG2 := hide (HI.out.arg.below HB2.out (Nat.le_refl _))
        have HCH := hide (halved_any (halfJ i ws) l.length aw cw w2 HLI.out HARG2.out HL.out (halfJ_max i ws _ HWM.out))
        clear hsh hll
        go_wp2_with fail
        refine HCA.out.mono ?_
        rintro e w3 ⟨rfl, rfl⟩
        go_wp2_with fail
        refine HCH.out.mono ?_
        rintro e w4 ⟨g4, rfl, HO4, HB4⟩
        have HNX := hide (show LenC w4 W (some ⟨g4, 0, none⟩) ws k (i + 1) from ⟨own_arg HO4.out (by show (halfJ (i + 1) ws).length = _; rw [halfJ_len, HWL.out]), HBEL.out.trans (HB4.out.mono HBEL.out.size), fun z hz => by
          by_cases e : z = i
          · rw [e]; intro h; exact HNS.out h
          · exact HI.out.not z (by omega)⟩)
        have HLESS := hide (halves_less (halfJ i ws) k HK.out.1 (by rw [halfJ_cnt]; exact HC5.out) (fun h => HNS.out ((shortL_iff _ _).2 h)))
        go_wp2
        go_roundg ((halfJ (i + 1) ws).sum)
        case measure => exact Nat.lt_of_lt_of_le HLESS.out HSUM.out
        case rel => exact ⟨_, _, i + 1, rfl, Nat.le_refl _, HNX⟩
  · have HG := hide hgood
    have HC := hide (allowed_any l m a cap W HA.out false ⟨fun h => (by cases h), fun h => absurd h hgood⟩)
    clear hgood
    go_enter Tryz.func70, Tryz.ntmps70
    go_wp2_with fail
    refine HC.out.mono ?_
    rintro e w1 ⟨rfl, HB1⟩
    go_wp2
    go_ret2
    exact ⟨_, rfl, .inl ⟨HG.out, rfl⟩, HB1.out⟩

end Go.Proofs.YtaalbaiglkadlaaGreat
