/- Contract of the code of layer 8: Expand. -/
import Derived.Test.YtifcpaeofmkokaaMCodeD
import Derived.Laws.MakeOwn
namespace Go.Proofs.Ytifcpaeofmkokaa
open Go.RowKit Go.Lib

theorem cnt_room (limit : Int) : ∀ (ts : List (Nat × Int × Int)) (S c : Nat), cntT limit S ts = (c, 0) → (S = 0 ∨ (S : Int) ≤ limit) → (c = 0 ∨ (c : Int) ≤ limit)
  | [], S, c, h, hr => by
    unfold cntT at h
    injection h with h _
    rw [← h]
    exact hr
  | t :: ts, S, c, h, hr => by
    unfold cntT at h
    split at h
    · split at h
      · injection h with _ h; cases h
      · exact cnt_room limit ts _ c h (.inr (by omega))
    · split at h
      · injection h with _ h; cases h
      · split at h
        · injection h with _ h; cases h
        · exact cnt_room limit ts _ c h (.inr (by omega))
theorem made8 (w : World) (n : Nat) (B : Nat) (hB : B ≤ w.heap.size) (hn : n ≤ 1000000) : (w.alloc (.cells (madeCells #[.int .u8 0] n) 5)).ownsRow B 5 1 (.slice (some ⟨w.heap.size, 0, none⟩) 0 n) 0 (u8Cs []) :=
  World.ownsRow_made w _ n hB (by unfold maxLen; omega) (by rw [size_madeCells]; omega)

set_option maxRecDepth 20000 in
set_option maxHeartbeats 8000000 in
theorem expand_any (l : List (Nat × Int × Int)) (a : Option Addr) (cap : Nat) (limit : Int) (W : World) (harg : ArgT W a l) (hl : l.length ≤ 100000) (h1 : -9223372036854775808 ≤ limit) (h2 : limit ≤ 1000000) :
    Calls Try.prog 13 #[.slice a l.length cap, .int .i64 limit] W fun e w' => ExPost W l limit e w' := by
  have HA := hide harg
  obtain ⟨m, hm⟩ : ∃ m, l.length = m := ⟨_, rfl⟩
  have HM := hide hm
  have HCT := hide (counted8 l a m cap limit W hm harg (by omega) h1 h2)
  have HLM := hide h2
  rw [hm] at hl ⊢
  obtain ⟨i1, ki, kz0, kz1, kz2⟩ := info_parts Try.infoU8
  unfold ExPost
  unfold CntTPost at HCT
  have hce := cnt_ex limit l []
  have her := ex_err 5 6 limit l []
  obtain ⟨⟨rt, re⟩, hre⟩ : ∃ r, exF 5 6 limit [] l = r := ⟨_, rfl⟩
  have HRE := hide hre
  obtain ⟨⟨cn, ce⟩, hcn⟩ : ∃ r, cntT limit 0 l = r := ⟨_, rfl⟩
  rw [hre] at hce her ⊢
  rw [List.length_nil, hcn] at hce
  dsimp only at hce her ⊢
  rw [hcn] at HCT
  dsimp only at HCT
  have hcr := cnt_room limit l 0 cn
  rw [hcn] at hcr
  obtain ⟨e1, e2, e3⟩ := hce
  subst e1
  clear harg hm h1 h2 hre hcn
  by_cases hz : ce = 0
  · subst hz
    have hcn := e2 rfl
    have HCN := hide hcn
    have hcr2 := hcr rfl (.inl rfl)
    have hcn9 : cn ≤ 1000000 := by have := HLM.out; omega
    have hmk : ∀ w : World, (Instr.makeSlice 47 (.int .i64 0) (.int .i64 (cn : Int))).run Try.prog w = .ok (.slice (some ⟨w.heap.size, 0, none⟩) 0 cn) (w.alloc (.cells (madeCells #[.int .u8 0] cn) 5)) := fun w => by
      have h := run_make (P := Try.prog) w 47 5 i1 (.int .u8 0) Try.underlying47 ki kz0 .i64 .i64 0 (cn : Int) (Int.le_refl _) (by omega) (by rw [kz2]; omega) (by omega)
      rw [kz1, Int.toNat_zero, Int.toNat_natCast, Nat.mul_one] at h
      exact h
    clear hcr hcr2 e2 e3 her hcn
    go_enter Try.func13, Try.ntmps13
    go_wp2_with fail
    refine HCT.out.mono ?_
    rintro e w1 ⟨rfl, b1⟩
    have HU0 := hide (show ExW (w1.alloc (.cells (madeCells #[.int .u8 0] cn) 5)) W l limit 0 [] (.slice (some ⟨w1.heap.size, 0, none⟩) 0 cn) from ⟨made8 w1 cn _ b1.size hcn9, b1.alloc b1.size _, by rw [List.drop_zero], .inl rfl⟩)
    clear b1 HCT
    go_wp2
    clear hmk
    go_loopw [8, 24] (fun v iv wr => ∃ i : Nat, i ≤ m ∧ iv = .int .i64 (i : Nat) ∧ ∃ out a6 c6, v = .slice a6 (out : List Nat).length c6 ∧ Hid (ExW wr W l limit i out v)) (fun _ iv _ => m - (intOf iv).toNat)
    case atStart => exact ⟨0, Nat.zero_le _, rfl, [], some ⟨w1.heap.size, 0, none⟩, cn, rfl, HU0⟩
    case round =>
      clear HU0
      obtain ⟨i, hi, rfl, out, a6, c6, rfl, HU⟩ := hrel
      have HRM := hide HU.out.room
      obtain ⟨L, hL⟩ : ∃ L, out.length = L := ⟨_, rfl⟩
      have HLL := hide hL
      simp only [hL] at HU ⊢
      have hLm : L = 0 ∨ (L : Int) ≤ limit := by
        rcases HRM.out with h | h
        · left; rw [← hL, h]; rfl
        · right; rw [hL] at h; exact h
      have hL9 : L ≤ 1000000 := by have := HLM.out; omega
      by_cases hlt : i < m
      · obtain ⟨⟨b, len, dist⟩, hr⟩ : ∃ r, l[i]? = some r := ⟨_, List.getElem?_eq_getElem (by rw [HM.out]; exact hlt)⟩
        have HSTEP := hide (HU.out.step _ hr)
        dsimp only at HSTEP
        rw [HRE.out] at HSTEP
        obtain ⟨g, off, rfl, hg, hc1, hc2, hc3⟩ := HA.out i _ hr
        dsimp only at hc1 hc2 hc3
        have _c1 := (HU.out.bel.cell (p := ⟨g, off + i * 3, none⟩) hg).trans hc1
        have _c2 := (HU.out.bel.cell (p := ⟨g, off + i * 3 + 1, none⟩) hg).trans hc2
        have _c3 := (HU.out.bel.cell (p := ⟨g, off + i * 3 + 2, none⟩) hg).trans hc3
        have zi : (i : Int) < m := by omega
        have HU1 := hide (HU.out.alloc (.cells #[.int .i64 len, .int .i64 dist, .int .u8 (b : Int)] 32))
        have HHB := hide (show (wr.alloc (.cells #[.int .i64 len, .int .i64 dist, .int .u8 (b : Int)] 32)).heap[wr.heap.size]? = some (.cells #[.int .i64 len, .int .i64 dist, .int .u8 (b : Int)] 32 (0, 0)) by show (wr.heap.push _)[wr.heap.size]? = _; simp)
        have HLMM := hide hLm
        have hNE := own_ne HU.out.own (Nat.le_refl _)
        have HNE := hide hNE
        clear hr hc1 hc2 hc3 hLm hi hL hNE
        by_cases c1 : len ≤ 0
        · rw [if_pos c1] at HSTEP
          by_cases c2 : limit ≤ (out.length : Int)
          · rw [if_pos c2] at HSTEP
            injection HSTEP.out with _ e2
            cases e2
          · rw [if_neg c2] at HSTEP
            rw [HLL.out] at c2
            have X1 := hide (show L + 1 ≤ maxLen by unfold maxLen; omega)
            have X2 := hide (show (L + 1) * 1 ≤ 140737488355328 by omega)
            have HO1 := hide (show (wr.alloc (.cells #[.int .i64 len, .int .i64 dist, .int .u8 (b : Int)] 32)).ownsRow W.heap.size 5 1 (.slice a6 L c6) L (u8Cs out) by have h := HU1.out.own; rw [HLL.out] at h; exact h)
            have HB1 := hide HU1.out.bel
            have HSZ1 := hide (show (wr.alloc (.cells #[.int .i64 len, .int .i64 dist, .int .u8 (b : Int)] 32)).heap.size = wr.heap.size + 1 by show (wr.heap.push _).size = _; simp)
            generalize hw1 : wr.alloc (.cells #[.int .i64 len, .int .i64 dist, .int .u8 (b : Int)] 32) = w1 at *
            have HX := hide (show exF 5 6 limit [] l = exF 5 6 limit (out ++ [b]) (l.drop (i + 1)) by rw [HRE.out]; exact HSTEP.out)
            have HL2 := hide (show (out ++ [b]).length = L + 1 by rw [List.length_append, HLL.out]; rfl)
            have HLT2 := hide (show ((L + 1 : Nat) : Int) ≤ limit by omega)
            subst hw1
            clear HSTEP
            go_wp2_with (first
              | (at_builtin; refine wpList_append_fresh _ rfl _ _ 47 rfl W.heap.size 5 i1 (.int .u8 0) 1 1 Try.underlying47 ki kz0 kz1 kz2 rfl (by decide) (.slice a6 L c6) _ _ rfl (HO1.out.alloc _) ⟨wr.heap.size + 1, 0, none⟩ 1 1 [.int .u8 (b : Int)] rfl rfl (cell_one_at _ _ HSZ1.out _ ()) (one_u8 _) X1.out X2.out (size_alloc_le HB1.out.size) ?_; intro v3 w3 o3 g3 _f3; have HB3 := hide (Below.grownB (HB1.out.alloc HB1.out.size _) g3 (HO1.out.alloc _) (size_alloc_le HB1.out.size)); rw [show [Value.int .u8 (b : Int)] = u8Cs [b] from rfl, u8Cs_append] at o3; have HN3 := hide (ExW.next HX.out (by rw [HL2.out]; exact o3) HB3.out (by rw [HL2.out]; exact HLT2.out)); obtain ⟨gg, cc, rfl⟩ := own_slice o3 (Nat.succ_pos _); clear o3 g3 _f3))
            go_roundw
            case rel => exact ⟨i + 1, hlt, by go_num, out ++ [b], _, _, by rw [HL2.out], HN3⟩
            case measure => exact meas_oneW i m hlt
        · rw [if_neg c1] at HSTEP
          by_cases c2 : dist < 1 ∨ (out.length : Int) < dist
          · rw [if_pos c2] at HSTEP
            injection HSTEP.out with _ e2
            cases e2
          · rw [if_neg c2] at HSTEP
            by_cases c4 : limit - (out.length : Int) < len
            · rw [if_pos c4] at HSTEP
              injection HSTEP.out with _ e2
              cases e2
            · rw [if_neg c4] at HSTEP
              rw [HLL.out] at c2 c4
              have hd1' : 1 ≤ dist := by omega
              have hdL' : dist ≤ (L : Int) := by omega
              obtain ⟨d, rfl⟩ := Int.eq_ofNat_of_zero_le (show 0 ≤ dist by omega)
              obtain ⟨N, rfl⟩ := Int.eq_ofNat_of_zero_le (show 0 ≤ len by omega)
              rw [Int.toNat_natCast, Int.toNat_natCast] at HSTEP
              obtain ⟨fin, hfin⟩ : ∃ fin, copyN d N out = fin := ⟨_, rfl⟩
              have HFL := hide (show fin.length = L + N by rw [← hfin, copyN_length, HLL.out])
              rw [hfin] at HSTEP
              have HX := hide (show exF 5 6 limit [] l = exF 5 6 limit fin (l.drop (i + 1)) by rw [HRE.out]; exact HSTEP.out)
              have HC0 := hide (show CopyW (wr.alloc (.cells #[.int .i64 (N : Int), .int .i64 (d : Int), .int .u8 (b : Int)] 32)) W wr.heap.size b (N : Int) (d : Int) d N out fin (.slice a6 L c6) from ⟨HU1.out.own, HU1.out.bel, HHB.out, HNE.out, hfin⟩)
              have hd1 : 1 ≤ d := by omega
              have hdL : d ≤ L := by omega
              have hN9 : N ≤ 1000000 := by
                have := HLMM.out
                have := HLM.out
                omega
              have HFT := hide (show ((L + N : Nat) : Int) ≤ limit by have := HLMM.out; omega)
              clear HSTEP hfin HHB HU1 HU c2 c4 hd1' hdL'
              go_wp2
              obtain ⟨PB, hPB⟩ : ∃ PB, wr.heap.size = PB := ⟨_, rfl⟩
              simp only [hPB] at HC0 ⊢
              clear hPB
              rename World => wm
              go_loopw [8, 38] (fun v kv wt => ∃ (k : Nat) (cur : List Nat), k ≤ N ∧ kv = .int .i64 (k : Nat) ∧ Hid (cur.length = L + k) ∧ Hid (CopyW wt W PB b (N : Int) (d : Int) d (N - k) cur fin v)) (fun _ kv _ => N - (intOf kv).toNat)
              case atStart => exact ⟨0, out, Nat.zero_le _, rfl, HLL, HC0⟩
              case round =>
                clear HC0
                obtain ⟨k, cur, hk, rfl, HCL, HCW⟩ := hrel
                have _p0 : wr.cell? ⟨PB, 0, none⟩ = some (.int .i64 (N : Int)) := by rw [cell_of_row _ _ 0 _ _ (0, 0) HCW.out.box]; rfl
                have _p1 : wr.cell? ⟨PB, 1, none⟩ = some (.int .i64 (d : Int)) := by rw [cell_of_row _ _ 1 _ _ (0, 0) HCW.out.box]; rfl
                by_cases hkN : k < N
                · have zk : (k : Int) < N := by omega
                  obtain ⟨T, hT⟩ : ∃ T, L + k = T := ⟨_, rfl⟩
                  have HT := hide hT
                  have ho := HCW.out.own
                  rw [HCL.out, hT] at ho
                  obtain ⟨gv, cv, rfl⟩ := own_slice ho (by omega)
                  obtain ⟨x, hx⟩ : ∃ x, cur.getD (cur.length - d) 0 = x := ⟨_, rfl⟩
                  have HX9 := hide hx
                  obtain ⟨y, hy⟩ : ∃ y, T - d = y := ⟨_, rfl⟩
                  have hcy : cur[y]? = some x := by
                    rw [← hx, HCL.out, hT, hy]
                    exact getD_some cur y (by rw [HCL.out]; omega)
                  have _c := own_u8 ho (by rw [HCL.out, hT]) hcy
                  have ey : (T : Int) - (d : Int) = (y : Int) := by omega
                  have zy : (y : Int) < T := by omega
                  have HO := hide ho
                  have hT9 : T ≤ 3000000 := by omega
                  have X1 := hide (show T + 1 ≤ maxLen by unfold maxLen; omega)
                  have X2 := hide (show (T + 1) * 1 ≤ 140737488355328 by omega)
                  have HAP := hide (fun w' v' o h1 h2 h3 => (show CopyW wr W PB b (N : Int) (d : Int) d ((N - (k + 1)) + 1) cur fin (.slice (some ⟨gv, 0, none⟩) T cv) by rw [show N - (k + 1) + 1 = N - k by omega]; exact HCW.out).app (w' := w') (v' := v') x hx o h1 h2 h3)
                  rw [HCL.out, hT] at HAP
                  have HCL2 := hide (show (cur ++ [x]).length = L + (k + 1) by rw [List.length_append, HCL.out]; rfl)
                  have HBB := hide HCW.out.bel
                  clear ho hcy hx hy hT
                  go_wp2_with (first
                    | (at_builtin; refine wpList_append_fresh _ rfl _ _ 47 rfl W.heap.size 5 i1 (.int .u8 0) 1 1 Try.underlying47 ki kz0 kz1 kz2 rfl (by decide) (.slice (some ⟨gv, 0, none⟩) T cv) _ _ rfl (HO.out.alloc _) _ 1 1 [.int .u8 (x : Int)] rfl rfl (cell_one_new _ _ _) (one_u8 _) X1.out X2.out (size_alloc_le HBB.out.size) ?_; intro v3 w3 o3 g3 f3; have HN3 := hide (HAP.out w3 v3 _ o3 g3 f3); clear o3 g3 f3))
                  go_roundw
                  case rel => first | exact ⟨k + 1, cur ++ [x], hkN, by go_num, HCL2, HN3⟩ | exact ⟨_, _, _, _, _, _, _, _, _, _, _, _, _, _, _, _, _, _, ⟨k + 1, cur ++ [x], hkN, by go_num, HCL2, HN3⟩, rfl⟩
                  case measure => exact meas_oneW k N hkN
                · have hke : k = N := by omega
                  subst hke
                  have hcf : cur = fin := by have h := HCW.out.copy; rw [Nat.sub_self] at h; exact h
                  have HN3 := hide (show ExW wr W l limit (i + 1) fin u8 from ExW.next HX.out (by rw [← hcf]; exact HCW.out.own) HCW.out.bel (by rw [HFL.out]; exact HFT.out))
                  have hoo := HN3.out.own
                  obtain ⟨gv, cv, e9⟩ := own_slice hoo (by rw [HFL.out]; omega)
                  have HE9 := hide e9
                  clear hoo e9 hcf
                  go_wp2
                  go_roundw
                  case rel => exact ⟨i + 1, hlt, by go_num, fin, _, _, HE9.out, HN3⟩
                  case measure => exact meas_oneW i m hlt
      · have hie : i = m := by omega
        subst hie
        have HD := hide (show ((rt, 0) : List Nat × Nat) = (out, 0) by
          rw [← HRE.out, HU.out.ex, List.drop_of_length_le (by rw [HM.out]; exact Nat.le_refl _)]
          rfl)
        injection HD.out with e1 e2
        subst e1
        have hst := str_own (show wr.ownsRow W.heap.size 5 1 (.slice a6 L c6) rt.length (u8Cs rt) from HU.out.own)
        have HB := hide HU.out.bel
        clear HD
        go_wp2
        go_ret2
        exact ⟨rfl, HB.out⟩
  · have her2 : rt = [] := her hz
    subst her2
    have hcn := e3 hz
    have zz : ((ce : Int) != 0) = true := by simp; omega
    clear e2 e3 her hcr
    go_enter Try.func13, Try.ntmps13
    go_wp2_with fail
    refine HCT.out.mono ?_
    rintro e w1 ⟨rfl, b1⟩
    have B1 := hide b1
    clear b1
    go_wp2
    go_ret2
    exact ⟨rfl, B1.out⟩

end Go.Proofs.Ytifcpaeofmkokaa
