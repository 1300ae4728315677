/- Contracts of layer 4's 'leaves' and 'depths'. -/
import Derived.Test.YtihgdlnnfhpdcaaWSmall
import Derived.Test.YtihgdlnnfhpdcaaWPop
namespace Go.Proofs.Ytihgdlnnfhpdcaa
open Go.RowKit Go.Lib

set_option maxRecDepth 20000 in
set_option maxHeartbeats 1000000 in
theorem leaves_any (ws : List Nat) (n m : Nat) (a b : Option Addr) (c cs : Nat) (W : World) (hn : ws.length = n) (hm : cnt ws = m) (harg : ArgN W a ws) (hsym : ArgN W b (stand ws 0)) (hl : n ≤ 512) :
    Calls Try.prog 22 #[.slice a n c, .slice b m cs] W fun e w' => ∃ v, e = .returned v ∧ Hid (w'.ownsRow W.heap.size 44 2 v m (nodeCs (nodesL ws m))) ∧ Hid (Below W.heap.size W w') := by
  have HA := hide harg
  have HS := hide hsym
  have HN := hide hn
  have HM := hide (show (stand ws 0).length = m from hm)
  have hmn : m ≤ 512 := by have h := stand_le ws; rw [HM.out, HN.out] at h; omega
  have O0 : Hid (W.ownsRow W.heap.size 44 2 (.slice none 0 0) 0 (nodeCs (nodesL ws 0))) := hide (World.ownsRow_nil _ _ _ _)
  have B0 := hide (Below.refl W.heap.size W)
  obtain ⟨i1, ki, kz0, kz1, kz2⟩ := info_parts Try.infoPile
  clear harg hsym hn hm
  go_enter Try.func22, Try.ntmps22
  go_wp2
  go_loopw [5, 10] (fun v i wr => ∃ j : Nat, j ≤ m ∧ i = .int .i64 j ∧ Hid (wr.ownsRow W.heap.size 44 2 v j (nodeCs (nodesL ws j))) ∧ Hid (Below W.heap.size W wr)) (fun _ i _ => m - (intOf i).toNat)
  case atStart => exact ⟨0, Nat.zero_le _, rfl, O0, B0⟩
  case round =>
    obtain ⟨j, hj, rfl, HO, HB⟩ := hrel
    by_cases hlt : j < m
    · have hs := getD_some (stand ws 0) j (by rw [HM.out]; exact hlt)
      have hsl := ((stand0 ws _).1 (List.mem_of_getElem? hs)).1
      obtain ⟨b1, off1, rfl, hb1, hc1⟩ := HS.out j _ hs
      obtain ⟨b2, off2, rfl, hb2, hc2⟩ := HA.out _ _ (getD_some ws _ hsl)
      have _c1 := (HB.out.cell (p := ⟨b1, off1 + j, none⟩) hb1).trans hc1
      have _c2 := (HB.out.cell (p := ⟨b2, off2 + _, none⟩) hb2).trans hc2
      have HNL := hide (nodesL_snoc ws j)
      have zj : (j : Int) < m := by omega
      rw [HN.out] at hsl
      generalize (stand ws 0).getD j 0 = s at *
      have zs : (s : Int) < n := by omega
      generalize ws.getD s 0 = z at *
      have X1 := hide (show j + 1 ≤ maxLen by unfold maxLen; omega)
      have X2 := hide (show (j + 1) * 16 ≤ 140737488355328 by omega)
      clear hc1 hc2 hs hsl
      go_wp2_with (first
        | (at_builtin; refine wpList_append_fresh _ rfl _ _ 35 rfl W.heap.size 44 i1 (.agg #[.int .i64 0, .int .i64 0]) 2 16 Try.underlying35 ki kz0 kz1 kz2 rfl (by decide) u5 _ _ rfl (HO.out.alloc _) ⟨wr.heap.size, 0, none⟩ 1 1 [.int .i64 (z : Int), .int .i64 (j : Int)] rfl rfl (cell_two_new _ _ _ _) (two_one _ _) X1.out X2.out (size_alloc_le HB.out.size) ?_; intro v1 w1 o1 g1 f1; have HO1 := hide o1; have HB1 := hide (Below.grownB (HB.out.alloc HB.out.size _) g1 (HO.out.alloc _) (size_alloc_le HB.out.size)); clear o1 g1 f1))
      go_roundw
      case rel => exact ⟨j + 1, hlt, by go_num, by rw [HNL.out, nodeCs_append]; exact HO1, HB1⟩
      case measure => exact meas_oneW j m hlt
    · have hje : j = m := by omega
      subst hje
      go_wp2
      go_ret
      exact ⟨_, rfl, HO, HB⟩

theorem own_made0 (w : World) (n : Nat) (hn : n ≤ 1024) : (w.alloc (.cells (madeCells #[.int .i64 0] n) 3)).ownsRow w.heap.size 3 1 (.slice (some ⟨w.heap.size, 0, none⟩) n n) n (natCs (List.replicate n 0)) := by
  have ho := World.ownsRow_lit (e := 3) (size := 1) w (madeCells #[.int .i64 0] n) n (Nat.le_refl _) (by unfold maxLen; omega) (by rw [size_madeCells]; omega)
  rw [toList_madeCells_one] at ho
  have e : natCs (List.replicate n 0) = List.replicate n (Value.int .i64 0) := by unfold natCs; rw [List.map_replicate]; rfl
  rw [e]
  exact ho

set_option maxRecDepth 20000 in
set_option maxHeartbeats 1000000 in
theorem cdepths_any (par : List Nat) (n : Nat) (a : Option Addr) (c : Nat) (W : World) (hn : par.length = n) (harg : ArgN W a par) (hl : n ≤ 1024) (hok : ParOk par) :
    Calls Try.prog 20 #[.slice a n c] W fun e w' => ∃ g, e = .returned (.slice (some ⟨g, 0, none⟩) n n) ∧ ∃ D, Hid (DpOk par D 0) ∧ Hid (w'.ownsRow W.heap.size 3 1 (.slice (some ⟨g, 0, none⟩) n n) n (natCs D)) ∧ Hid (Below W.heap.size W w') := by
  have HA := hide harg
  have HN := hide hn
  have HOK := hide hok
  have O0 := hide (own_made0 W n hl)
  have B0 := hide ((Below.refl W.heap.size W).alloc (Nat.le_refl _) (.cells (madeCells #[.int .i64 0] n) 3))
  have hmk := run_make_row' (P := Try.prog) 22 3 (.int .i64 0) 8 Try.underlying22 Try.infoInt rfl .i64 .i64 n (by omega) (by omega)
  have D0 := hide (DpOk.begin par)
  rw [HN.out] at D0
  have w2 : IntKind.i64.wrap ((n : Int) - 2) = (n : Int) - 2 := by rw [IntKind.wrap_i64]; omega
  clear harg hn hok
  go_enter Try.func20, Try.ntmps20
  go_wp2
  clear hmk
  go_loopw [4] (fun iv wr => ∃ (m : Nat) (z : Int) (D : List Nat), m ≤ n - 1 ∧ (z + 1 = (m : Int) ∨ (m = 0 ∧ z < 0)) ∧ iv = .int .i64 z ∧ Hid (DpOk par D m) ∧ Hid (wr.ownsRow W.heap.size 3 1 (.slice (some ⟨W.heap.size, 0, none⟩) n n) n (natCs D)) ∧ Hid (Below W.heap.size W wr)) (fun iv _ => (intOf iv + 1).toNat)
  case atStart => exact ⟨n - 1, (n : Int) - 2, _, Nat.le_refl _, by omega, rfl, D0, O0, B0⟩
  case round =>
    obtain ⟨m, z, D, hm, hz, rfl, HD, HO, HB⟩ := hrel
    cases m with
    | zero =>
      have zz : ¬ (0 : Int) ≤ z := by omega
      clear hz hm
      go_wp2
      go_ret
      exact ⟨_, rfl, D, HD, HO, HB⟩
    | succ m =>
      obtain rfl : z = (m : Int) := by omega
      have hml : m + 1 < par.length := by rw [HN.out]; omega
      obtain ⟨b, off, rfl, hb, hc⟩ := HA.out m _ (getD_some par m (by omega))
      have _c := (HB.out.cell (p := ⟨b, off + m, none⟩) hb).trans hc
      obtain ⟨p1, p2⟩ := HOK.out m hml
      have hDl : D.length = n := by rw [HD.out.len, HN.out]
      have ho := HO.out
      have hpn : par.getD m 0 < D.length := by rw [hDl, ← HN.out]; exact p2
      obtain ⟨_c2, _f2⟩ := own_nat (by rw [hDl]; exact ho) (getD_some D (par.getD m 0) hpn)
      obtain ⟨_c3, _f3⟩ := own_nat (by rw [hDl]; exact ho) (getD_some D m (by omega))
      have hbnd := HD.out.bnd (par.getD m 0) hpn
      have HNX := hide (HD.out.step HOK.out hml)
      have HSET := hide (own_set ho m (D.getD (par.getD m 0) 0 + 1))
      have HBS := hide (fun v => HB.out.setCell (p := ⟨W.heap.size, m, none⟩) (Nat.le_refl _) v)
      have zp : ((par.getD m 0 : Nat) : Int) < n := by omega
      have zm : (m : Int) < n := by omega
      have zm0 : (0 : Int) ≤ m := by omega
      have wm : IntKind.i64.wrap ((m : Int) - 1) = (m : Int) - 1 := by rw [IntKind.wrap_i64]; omega
      have hm2 : m ≤ n - 1 := by omega
      generalize par.getD m 0 = q at *
      have hq9 : D.getD q 0 ≤ 1024 := by omega
      generalize D.getD q 0 = y at *
      generalize D.getD m 0 = x at *
      clear hz hm hc p1 p2 hDl ho hpn hbnd hml
      go_wp2
      go_roundw
      case rel => exact ⟨m, (m : Int) - 1, _, hm2, by omega, rfl, HNX, HSET, hide (HBS.out _)⟩
      case measure => exact meas_init m

end Go.Proofs.Ytihgdlnnfhpdcaa
