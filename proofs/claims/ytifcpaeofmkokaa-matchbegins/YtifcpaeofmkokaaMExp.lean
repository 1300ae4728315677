/- Contract of the document's 'Expand' of layer 8. -/
import Derived.Test.YtifcpaeofmkokaaMExpM
namespace Go.Proofs.Ytifcpaeofmkokaa
open Go.RowKit Go.Lib

/-- A match under way: the bytes, and the token's own block. -/
structure CopyW (w W : World) (PB : Nat) (b : Nat) (len dist : Int) (d j : Nat) (cur fin : List Nat) (v : Value) : Prop where
  own : w.ownsRow W.heap.size 5 1 v cur.length (u8Cs cur)
  bel : Below W.heap.size W w
  box : w.heap[PB]? = some (.cells #[.int .i64 len, .int .i64 dist, .int .u8 (b : Int)] 32 (0, 0))
  ne : v.ownBlock ≠ some PB
  copy : copyN d j cur = fin
theorem CopyW.app {w w' W : World} {PB b : Nat} {len dist : Int} {d j : Nat} {cur fin : List Nat} {v v' : Value} (h : CopyW w W PB b len dist d (j + 1) cur fin v) (x : Nat) (hx : cur.getD (cur.length - d) 0 = x) (o : Obj)
    (ho : w'.ownsRow W.heap.size 5 1 v' (cur.length + 1) (u8Cs cur ++ [.int .u8 (x : Int)])) (hg : (w.alloc o).grownBy w' v.ownBlock) (hf : v'.ownBlock = v.ownBlock ∨ ∀ k, v'.ownBlock = some k → (w.alloc o).heap.size ≤ k) : CopyW w' W PB b len dist d j (cur ++ [x]) fin v' := by
  have hP : PB < w.heap.size := (Array.getElem?_eq_some_iff.1 h.box).1
  have hsz : (w.alloc o).heap.size = w.heap.size + 1 := by show (w.heap.push _).size = _; simp
  refine ⟨?_, Below.grownB (h.bel.alloc h.bel.size _) hg (h.own.alloc o) (size_alloc_le h.bel.size), ?_, ?_, ?_⟩
  · rw [List.length_append, ← u8Cs_append]
    exact ho
  · rw [hg.block PB (by omega) (fun e => h.ne e.symm), heap_alloc_old _ _ _ hP]
    exact h.box
  · intro e
    rcases hf with e2 | e2
    · exact h.ne (by rw [← e2]; exact e)
    · have := e2 _ e; omega
  · rw [← hx]
    exact h.copy
theorem own_u8 {w : World} {B g cap n : Nat} {l : List Nat} {j x : Nat} (h : w.ownsRow B 5 1 (.slice (some ⟨g, 0, none⟩) n cap) n (u8Cs l)) (hn : l.length = n) (hj : l[j]? = some x) : w.cell? ⟨g, j, none⟩ = some (.int .u8 (x : Int)) := by
  have hl : j < l.length := (List.getElem?_eq_some_iff.1 hj).1
  rw [h.cellAt j (by omega)]
  unfold u8Cs
  rw [List.getElem?_map, hj]
  rfl

set_option maxRecDepth 20000 in
set_option maxHeartbeats 8000000 in
theorem qexpand_any (l : List (Nat × Int × Int)) (a : Option Addr) (cap : Nat) (limit : Int) (W : World) (harg : ArgT W a l) (hl : l.length ≤ 100000) (h1 : -9223372036854775808 ≤ limit) (h2 : limit ≤ 1000000) :
    Calls Try.prog 14 #[.slice a l.length cap, .int .i64 limit] W fun e w' => ExPost W l limit e w' := by
  have HA := hide harg
  obtain ⟨m, hm⟩ : ∃ m, l.length = m := ⟨_, rfl⟩
  have HM := hide hm
  have HWR := hide (fun L => wrap_lessM limit L h1 (by omega))
  have HLM := hide h2
  rw [hm] at hl ⊢
  obtain ⟨i1, ki, kz0, kz1, kz2⟩ := info_parts Try.infoU8
  have HU0 := hide (show ExW W W l limit 0 [] (.slice none 0 0) from ⟨World.ownsRow_nil _ _ _ _, Below.refl _ _, by rw [List.drop_zero], .inl rfl⟩)
  unfold ExPost
  obtain ⟨⟨rt, re⟩, hre⟩ : ∃ r, exF 5 6 limit [] l = r := ⟨_, rfl⟩
  have HRE := hide hre
  rw [hre]
  dsimp only
  clear harg hm h1 h2 hre
  go_enter Try.func14, Try.ntmps14
  go_wp2
  go_loopw [6, 7] (fun v iv wr => ∃ i : Nat, i ≤ m ∧ iv = .int .i64 (i : Nat) ∧ ∃ out a6 c6, v = .slice a6 (out : List Nat).length c6 ∧ Hid (ExW wr W l limit i out v)) (fun _ iv _ => m - (intOf iv).toNat)
  case atStart => exact ⟨0, Nat.zero_le _, rfl, [], none, 0, rfl, HU0⟩
  case round =>
    clear HU0
    obtain ⟨i, hi, rfl, out, a6, c6, rfl, HU⟩ := hrel
    have HRM := hide HU.out.room
    obtain ⟨L, hL⟩ : ∃ L, out.length = L := ⟨_, rfl⟩
    have HLL := hide hL
    simp only [hL] at HU ⊢
    have hLm : L = 0 ∨ (L : Int) ≤ limit := by
      rcases HRM.out with h | h
      · left; rw [← hL, h]; rfl
      · right; rw [hL] at h; exact h
    have hL9 : L ≤ 1000000 := by have := HLM.out; omega
    by_cases hlt : i < m
    · obtain ⟨⟨b, len, dist⟩, hr⟩ : ∃ r, l[i]? = some r := ⟨_, List.getElem?_eq_getElem (by rw [HM.out]; exact hlt)⟩
      have HSTEP := hide (HU.out.step _ hr)
      dsimp only at HSTEP
      rw [HLL.out, HRE.out] at HSTEP
      obtain ⟨g, off, rfl, hg, hc1, hc2, hc3⟩ := HA.out i _ hr
      dsimp only at hc1 hc2 hc3
      have _c1 := (HU.out.bel.cell (p := ⟨g, off + i * 3, none⟩) hg).trans hc1
      have _c2 := (HU.out.bel.cell (p := ⟨g, off + i * 3 + 1, none⟩) hg).trans hc2
      have _c3 := (HU.out.bel.cell (p := ⟨g, off + i * 3 + 2, none⟩) hg).trans hc3
      have zi : (i : Int) < m := by omega
      have HU1 := hide (HU.out.alloc (.cells #[.int .i64 len, .int .i64 dist, .int .u8 (b : Int)] 32))
      have HHB := hide (show (wr.alloc (.cells #[.int .i64 len, .int .i64 dist, .int .u8 (b : Int)] 32)).heap[wr.heap.size]? = some (.cells #[.int .i64 len, .int .i64 dist, .int .u8 (b : Int)] 32 (0, 0)) by show (wr.heap.push _)[wr.heap.size]? = _; simp)
      have ew1 := (HWR.out L hLm).1
      have ew2 := (HWR.out L hLm).2
      have HLMM := hide hLm
      have hNE := own_ne HU.out.own (Nat.le_refl _)
      have HNE := hide hNE
      clear hr hc1 hc2 hc3 hLm hi hL hNE
      by_cases c1 : len ≤ 0
      · rw [if_pos c1] at HSTEP
        by_cases c2 : limit ≤ (L : Int)
        · rw [if_pos c2] at HSTEP
          injection HSTEP.out with e1 e2
          subst e1
          subst e2
          have HB := hide HU1.out.bel
          clear HSTEP
          go_wp2
          go_ret2
          exact ⟨rfl, HB.out⟩
        · rw [if_neg c2] at HSTEP
          have X1 := hide (show L + 1 ≤ maxLen by unfold maxLen; omega)
          have X2 := hide (show (L + 1) * 1 ≤ 140737488355328 by omega)
          have HO1 := hide (show (wr.alloc (.cells #[.int .i64 len, .int .i64 dist, .int .u8 (b : Int)] 32)).ownsRow W.heap.size 5 1 (.slice a6 L c6) L (u8Cs out) by have h := HU1.out.own; rw [HLL.out] at h; exact h)
          have HB1 := hide HU1.out.bel
          have HSZ1 := hide (show (wr.alloc (.cells #[.int .i64 len, .int .i64 dist, .int .u8 (b : Int)] 32)).heap.size = wr.heap.size + 1 by show (wr.heap.push _).size = _; simp)
          generalize hw1 : wr.alloc (.cells #[.int .i64 len, .int .i64 dist, .int .u8 (b : Int)] 32) = w1 at *
          have HX := hide (show exF 5 6 limit [] l = exF 5 6 limit (out ++ [b]) (l.drop (i + 1)) by rw [HRE.out]; exact HSTEP.out)
          have HL2 := hide (show (out ++ [b]).length = L + 1 by rw [List.length_append, HLL.out]; rfl)
          have HLT2 := hide (show ((L + 1 : Nat) : Int) ≤ limit by omega)
          subst hw1
          clear HSTEP
          go_wp2_with (first
            | (at_builtin; refine wpList_append_fresh _ rfl _ _ 47 rfl W.heap.size 5 i1 (.int .u8 0) 1 1 Try.underlying47 ki kz0 kz1 kz2 rfl (by decide) (.slice a6 L c6) _ _ rfl (HO1.out.alloc _) ⟨wr.heap.size + 1, 0, none⟩ 1 1 [.int .u8 (b : Int)] rfl rfl (cell_one_at _ _ HSZ1.out _ ()) (one_u8 _) X1.out X2.out (size_alloc_le HB1.out.size) ?_; intro v3 w3 o3 g3 _f3; have HB3 := hide (Below.grownB (HB1.out.alloc HB1.out.size _) g3 (HO1.out.alloc _) (size_alloc_le HB1.out.size)); rw [show [Value.int .u8 (b : Int)] = u8Cs [b] from rfl, u8Cs_append] at o3; have HN3 := hide (ExW.next HX.out (by rw [HL2.out]; exact o3) HB3.out (by rw [HL2.out]; exact HLT2.out)); obtain ⟨gg, cc, rfl⟩ := own_slice o3 (Nat.succ_pos _); clear o3 g3 _f3))
          go_roundw
          case rel => exact ⟨i + 1, hlt, by go_num, out ++ [b], _, _, by rw [HL2.out], HN3⟩
          case measure => exact meas_oneW i m hlt
      · rw [if_neg c1] at HSTEP
        by_cases c2 : dist < 1
        · rw [if_pos (.inl c2)] at HSTEP
          injection HSTEP.out with e1 e2
          subst e1
          subst e2
          have HB := hide HU1.out.bel
          clear HSTEP
          go_wp2
          go_ret2
          exact ⟨rfl, HB.out⟩
        · have d2 : decide (dist < 1) = false := decide_eq_false c2
          by_cases c3 : (L : Int) < dist
          · rw [if_pos (.inr c3)] at HSTEP
            injection HSTEP.out with e1 e2
            subst e1
            subst e2
            have HB := hide HU1.out.bel
            clear HSTEP
            go_wp2
            go_ret2
            exact ⟨rfl, HB.out⟩
          · have d3 : decide ((L : Int) < dist) = false := decide_eq_false c3
            rw [if_neg (show ¬ (dist < 1 ∨ (L : Int) < dist) by omega)] at HSTEP
            by_cases c4 : limit - (L : Int) < len
            · rw [if_pos c4] at HSTEP
              injection HSTEP.out with e1 e2
              subst e1
              subst e2
              have HB := hide HU1.out.bel
              clear HSTEP
              go_wp2
              go_ret2
              exact ⟨rfl, HB.out⟩
            · rw [if_neg c4] at HSTEP
              obtain ⟨d, rfl⟩ := Int.eq_ofNat_of_zero_le (show 0 ≤ dist by omega)
              obtain ⟨N, rfl⟩ := Int.eq_ofNat_of_zero_le (show 0 ≤ len by omega)
              rw [Int.toNat_natCast, Int.toNat_natCast] at HSTEP
              obtain ⟨fin, hfin⟩ : ∃ fin, copyN d N out = fin := ⟨_, rfl⟩
              have HFL := hide (show fin.length = L + N by rw [← hfin, copyN_length, HLL.out])
              rw [hfin] at HSTEP
              have HX := hide (show exF 5 6 limit [] l = exF 5 6 limit fin (l.drop (i + 1)) by rw [HRE.out]; exact HSTEP.out)
              have HC0 := hide (show CopyW (wr.alloc (.cells #[.int .i64 (N : Int), .int .i64 (d : Int), .int .u8 (b : Int)] 32)) W wr.heap.size b (N : Int) (d : Int) d N out fin (.slice a6 L c6) from ⟨HU1.out.own, HU1.out.bel, HHB.out, HNE.out, hfin⟩)
              have hd1 : 1 ≤ d := by omega
              have hdL : d ≤ L := by omega
              have hN9 : N ≤ 1000000 := by
                have := HLMM.out
                have := HLM.out
                omega
              have HFT := hide (show ((L + N : Nat) : Int) ≤ limit by have := HLMM.out; omega)
              clear HSTEP hfin HHB HU1 HU c2 c3 d3 d2
              go_wp2
              obtain ⟨PB, hPB⟩ : ∃ PB, wr.heap.size = PB := ⟨_, rfl⟩
              simp only [hPB] at HC0 ⊢
              clear hPB
              rename World => wm
              go_loopw [6, 9] (fun v kv wt => ∃ (k : Nat) (cur : List Nat), k ≤ N ∧ kv = .int .i64 (k : Nat) ∧ Hid (cur.length = L + k) ∧ Hid (CopyW wt W PB b (N : Int) (d : Int) d (N - k) cur fin v)) (fun _ kv _ => N - (intOf kv).toNat)
              case atStart => exact ⟨0, out, Nat.zero_le _, rfl, HLL, HC0⟩
              case round =>
                clear HC0
                obtain ⟨k, cur, hk, rfl, HCL, HCW⟩ := hrel
                have _p0 : wr.cell? ⟨PB, 0, none⟩ = some (.int .i64 (N : Int)) := by rw [cell_of_row _ _ 0 _ _ (0, 0) HCW.out.box]; rfl
                have _p1 : wr.cell? ⟨PB, 1, none⟩ = some (.int .i64 (d : Int)) := by rw [cell_of_row _ _ 1 _ _ (0, 0) HCW.out.box]; rfl
                by_cases hkN : k < N
                · have zk : (k : Int) < N := by omega
                  obtain ⟨T, hT⟩ : ∃ T, L + k = T := ⟨_, rfl⟩
                  have HT := hide hT
                  have ho := HCW.out.own
                  rw [HCL.out, hT] at ho
                  obtain ⟨gv, cv, rfl⟩ := own_slice ho (by omega)
                  obtain ⟨x, hx⟩ : ∃ x, cur.getD (cur.length - d) 0 = x := ⟨_, rfl⟩
                  have HX9 := hide hx
                  obtain ⟨y, hy⟩ : ∃ y, T - d = y := ⟨_, rfl⟩
                  have hcy : cur[y]? = some x := by
                    rw [← hx, HCL.out, hT, hy]
                    exact getD_some cur y (by rw [HCL.out]; omega)
                  have _c := own_u8 ho (by rw [HCL.out, hT]) hcy
                  have ey : (T : Int) - (d : Int) = (y : Int) := by omega
                  have zy : (y : Int) < T := by omega
                  have HO := hide ho
                  have hT9 : T ≤ 3000000 := by omega
                  have X1 := hide (show T + 1 ≤ maxLen by unfold maxLen; omega)
                  have X2 := hide (show (T + 1) * 1 ≤ 140737488355328 by omega)
                  have HAP := hide (fun w' v' o h1 h2 h3 => (show CopyW wr W PB b (N : Int) (d : Int) d ((N - (k + 1)) + 1) cur fin (.slice (some ⟨gv, 0, none⟩) T cv) by rw [show N - (k + 1) + 1 = N - k by omega]; exact HCW.out).app (w' := w') (v' := v') x hx o h1 h2 h3)
                  rw [HCL.out, hT] at HAP
                  have HCL2 := hide (show (cur ++ [x]).length = L + (k + 1) by rw [List.length_append, HCL.out]; rfl)
                  have HBB := hide HCW.out.bel
                  clear ho hcy hx hy hT
                  go_wp2_with (first
                    | (at_builtin; refine wpList_append_fresh _ rfl _ _ 47 rfl W.heap.size 5 i1 (.int .u8 0) 1 1 Try.underlying47 ki kz0 kz1 kz2 rfl (by decide) (.slice (some ⟨gv, 0, none⟩) T cv) _ _ rfl (HO.out.alloc _) _ 1 1 [.int .u8 (x : Int)] rfl rfl (cell_one_new _ _ _) (one_u8 _) X1.out X2.out (size_alloc_le HBB.out.size) ?_; intro v3 w3 o3 g3 f3; have HN3 := hide (HAP.out w3 v3 _ o3 g3 f3); clear o3 g3 f3))
                  go_roundw
                  case rel => first | exact ⟨k + 1, cur ++ [x], hkN, by go_num, HCL2, HN3⟩ | exact ⟨_, _, _, _, _, _, _, _, _, _, _, _, _, _, _, _, _, _, ⟨k + 1, cur ++ [x], hkN, by go_num, HCL2, HN3⟩, rfl⟩
                  case measure => exact meas_oneW k N hkN
                · have hke : k = N := by omega
                  subst hke
                  have hcf : cur = fin := by have h := HCW.out.copy; rw [Nat.sub_self] at h; exact h
                  have HN3 := hide (show ExW wr W l limit (i + 1) fin u6 from ExW.next HX.out (by rw [← hcf]; exact HCW.out.own) HCW.out.bel (by rw [HFL.out]; exact HFT.out))
                  have hoo := HN3.out.own
                  obtain ⟨gv, cv, e9⟩ := own_slice hoo (by rw [HFL.out]; omega)
                  have HE9 := hide e9
                  clear hoo e9 hcf
                  go_wp2
                  go_roundw
                  case rel => exact ⟨i + 1, hlt, by go_num, fin, _, _, HE9.out, HN3⟩
                  case measure => exact meas_oneW i m hlt
    · have hie : i = m := by omega
      subst hie
      have HD := hide (show ((rt, re) : List Nat × Nat) = (out, 0) by
        rw [← HRE.out, HU.out.ex, List.drop_of_length_le (by rw [HM.out]; exact Nat.le_refl _)]
        rfl)
      injection HD.out with e1 e2
      subst e1
      subst e2
      have hst := str_own (show wr.ownsRow W.heap.size 5 1 (.slice a6 L c6) rt.length (u8Cs rt) from HU.out.own)
      have HB := hide HU.out.bel
      clear HD
      go_wp2
      go_ret2
      exact ⟨rfl, HB.out⟩

end Go.Proofs.Ytifcpaeofmkokaa
