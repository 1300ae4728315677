import Derived.Test.YtaalbaiglkadlaaGreatBCa
import Derived.Test.YtaalbaiglkadlaaGreatRB
import Derived.Test.YtaalbaiglkadlaaGreatWC
import Derived.ChangeKeysEq
import Derived.Deep.MidRow
import Derived.Deep.RegionHeld3
/- Contract of the code of layer 9: headed. -/
namespace Go.Proofs.YtaalbaiglkadlaaGreat
open Go.RowKit Go.Lib

theorem Tryz.plainInt : Tryz.prog.plainKey 3 = true := by kernel_rfl
theorem idx_order (cs : List Value) (k x : Nat) (hk : k < 19) (hx : cs[k]? = some (.int .i64 (x : Nat))) (w : World) : (Instr.index 119 (.agg cs.toArray) (.int .i64 (k : Nat))).run Tryz.prog w = .ok (.int .i64 (x : Nat)) w := by
  obtain ⟨i1, ki, kz0, kz1, kz2⟩ := info_parts Tryz.infoInt
  have h := run_part_plain (P := Tryz.prog) (w := w) Tryz.plainInt (xs := cs.toArray) (off := k) (v := .int .i64 (x : Nat)) (by rw [List.getElem?_toArray]; exact hx)
  simp [Instr.index, asIntOf, run_underlying Tryz.underlying119, sizeOf, typeInfo, ki, kz1, h]
  intro h3
  omega

/-- The lengths of the runs' code, in the order in which they are told. -/
def toldL (hl : List Nat) : List Nat := orderL.map fun o => hl.getD o 0
theorem toldL_length (hl : List Nat) : (toldL hl).length = 19 := by unfold toldL; rw [List.length_map]; rfl
theorem toldL_get (hl : List Nat) (k : Nat) (h : k < 19) : (toldL hl).getD k 0 = hl.getD (orderL.getD k 0) 0 := by
  unfold toldL
  rw [List.getD_eq_getElem?_getD, List.getElem?_map, orderL_get k h]
  rfl
theorem told_cut (hl : List Nat) : ∀ k, k ≤ 19 → cutN (toldL hl) 4 k = ordN hl k
  | 0, _ => rfl
  | k + 1, h => by
    rw [cutN, ordN, toldL_get hl k (by omega), told_cut hl k (by omega)]
theorem told_len (hl : List Nat) : (cutL (toldL hl) 4).length = ordN hl 19 := by
  rw [cutL_length, toldL_length, told_cut hl 19 (Nat.le_refl _)]

theorem alloc_size9 (w : World) (o : Obj) : (w.alloc o).heap.size = w.heap.size + 1 := by show (w.heap.push _).size = _; simp
theorem told_fill (hl : List Nat) : fillTo (fun k => hl.getD (orderL.getD k 0) 0) 19 19 = toldL hl := by
  rw [fill_end]
  rfl
theorem set_five (w : World) (p : Nat) (a b c d e x y z t u : Value) (T : TypeId) (h : w.heap[p]? = some (.cells #[a, b, c, d, e] T (0, 0))) : (((((w.setCell ⟨p, 0, none⟩ x).setCell ⟨p, 1, none⟩ y).setCell ⟨p, 2, none⟩ z).setCell ⟨p, 3, none⟩ t).setCell ⟨p, 4, none⟩ u).heap[p]? = some (.cells #[x, y, z, t, u] T (0, 0)) := by
  have h1 := heap_setCell_same w p 0 x _ _ _ h
  have h2 := heap_setCell_same _ p 1 y _ _ _ h1
  have h3 := heap_setCell_same _ p 2 z _ _ _ h2
  have h4 := heap_setCell_same _ p 3 t _ _ _ h3
  exact heap_setCell_same _ p 4 u _ _ _ h4
theorem five_cells {w : World} {p : Nat} {x y z t u : Value} {T : TypeId} (h : w.heap[p]? = some (.cells #[x, y, z, t, u] T (0, 0))) : w.cell? ⟨p, 0, none⟩ = some x ∧ w.cell? ⟨p, 1, none⟩ = some y ∧ w.cell? ⟨p, 2, none⟩ = some z ∧ w.cell? ⟨p, 3, none⟩ = some t ∧ w.cell? ⟨p, 4, none⟩ = some u :=
  ⟨by rw [cell_of_row _ _ 0 _ _ (0, 0) h]; rfl, by rw [cell_of_row _ _ 1 _ _ (0, 0) h]; rfl, by rw [cell_of_row _ _ 2 _ _ (0, 0) h]; rfl, by rw [cell_of_row _ _ 3 _ _ (0, 0) h]; rfl, by rw [cell_of_row _ _ 4 _ _ (0, 0) h]; rfl⟩
theorem load_head {w : World} {p : Nat} (n m : Int) (a b c : Option Addr) (i j k l s t : Nat) (h : w.heap[p]? = some (.cells #[.int .i64 n, .int .i64 m, .slice a i j, .slice b k l, .slice c s t] 96 (0, 0))) : (loadVar 96 ⟨p, 0, none⟩).run Tryz.prog w = .ok (.agg #[.int .i64 n, .int .i64 m, .slice a i j, .slice b k l, .slice c s t]) w := by
  obtain ⟨_c0, _c1, _c2, _c3, _c4⟩ := five_cells h
  clear h
  go_simp
/-- What lies in other blocks stays. -/
theorem ArgN.kept {w w' : World} {a : Option Addr} {l : List Nat} (h : ArgN w a l) (hs : w.heap.size ≤ w'.heap.size) (hb : ∀ b off, a = some ⟨b, off, none⟩ → w'.heap[b]? = w.heap[b]?) : ArgN w' a l := by
  intro i x hx
  obtain ⟨b, off, h1, h2, h3⟩ := h i x hx
  exact ⟨b, off, h1, Nat.lt_of_lt_of_le h2 hs, by rw [World.cell?_of_block (a := ⟨b, off + i, none⟩) (hb b off h1)]; exact h3⟩
theorem ArgR.kept {w w' : World} {a : Option Addr} {l : List (Int × Int)} (h : ArgR w a l) (hs : w.heap.size ≤ w'.heap.size) (hb : ∀ b off, a = some ⟨b, off, none⟩ → w'.heap[b]? = w.heap[b]?) : ArgR w' a l := by
  intro i x y hx
  obtain ⟨b, off, h1, h2, h3, h4⟩ := h i x y hx
  exact ⟨b, off, h1, Nat.lt_of_lt_of_le h2 hs, by rw [World.cell?_of_block (a := ⟨b, off + i * 2, none⟩) (hb b off h1)]; exact h3, by rw [World.cell?_of_block (a := ⟨b, off + i * 2 + 1, none⟩) (hb b off h1)]; exact h4⟩
/-- Five cells of one block are written. -/
structure Five (p : Nat) (w w' : World) : Prop where
  size : w.heap.size ≤ w'.heap.size
  block : ∀ b, b ≠ p → w'.heap[b]? = w.heap[b]?
theorem five_sets (w : World) (p : Nat) (x y z t u : Value) : Five p w (((((w.setCell ⟨p, 0, none⟩ x).setCell ⟨p, 1, none⟩ y).setCell ⟨p, 2, none⟩ z).setCell ⟨p, 3, none⟩ t).setCell ⟨p, 4, none⟩ u) := by
  refine ⟨by simp [World.setCell], fun b hb => ?_⟩
  rw [Below.heap_setCell _ _ _ _ hb, Below.heap_setCell _ _ _ _ hb, Below.heap_setCell _ _ _ _ hb, Below.heap_setCell _ _ _ _ hb, Below.heap_setCell _ _ _ _ hb]

/-- What a header is. -/
def HeadVal (W : World) (x y : List Nat) (n m : Nat) (e : Ending) (w' : World) : Prop := ∃ rs hl gt ct gf cf gl cl,
  e = .returned (.agg #[.int .i64 (n : Nat), .int .i64 (m : Nat), .slice gt (ordN hl 19) ct, .slice gf (rs : List (Int × Int)).length cf, .slice gl 19 cl]) ∧
  FoldRes ((x ++ y).map fun (n : Nat) => (n : Int)) rs ∧ LimTo (runWs rs) 7 hl ∧
  ArgN w' gt (cutL (toldL hl) 4) ∧ NewA W gt ∧ ArgR w' gf rs ∧ NewA W gf ∧ ArgN w' gl hl ∧ NewA W gl ∧ Below W.heap.size W w'

set_option maxRecDepth 20000 in
set_option maxHeartbeats 8000000 in
theorem headed9 (x y : List Nat) (a1 a2 : Option Addr) (n m c1 c2 : Nat) (W : World) (hn : x.length = n) (hm : y.length = m) (k1 : ArgN W a1 x) (k2 : ArgN W a2 y) (hx1 : 257 ≤ n) (hx2 : n ≤ 286) (hy1 : 1 ≤ m) (hy2 : m ≤ 30) :
    Calls Tryz.prog 48 #[.slice a1 n c1, .slice a2 m c2] W fun e w' => HeadVal W x y n m e w' := by
  have HN := hide hn
  have HM := hide hm
  have B0 := hide ((Below.refl W.heap.size W).alloc (Nat.le_refl _) (.cells #[.int .i64 0, .int .i64 0, .slice none 0 0, .slice none 0 0, .slice none 0 0] 96))
  have HX1 := hide (new_box W (.cells #[.int .i64 0, .int .i64 0, .slice none 0 0, .slice none 0 0, .slice none 0 0] 96))
  have S1 := hide (alloc_size9 W (.cells #[.int .i64 0, .int .i64 0, .slice none 0 0, .slice none 0 0, .slice none 0 0] 96))
  have K1 := hide (k1.below B0.out (Nat.le_refl _))
  have K2 := hide (k2.below B0.out (Nat.le_refl _))
  have hmk : ∀ w, (Instr.makeSlice 63 (.int .i64 19) (.int .i64 19)).run Tryz.prog w = _ := make_int 19 (by omega)
  have HOR := hide order7_any
  obtain ⟨Z, hZn, hzv⟩ := Tryz.zeroOrder
  have hcn : orderCs.length = 19 := rfl
  have HST := hide (fun w => order_store w Z orderCs hZn hcn orderCs_one)
  have HRG := hide (fun w => order_range w orderCs)
  have HOC := hide (show ∀ k, k < 19 → orderCs[k]? = some (.int .i64 ((orderL.getD k 0 : Nat) : Int)) from fun k hk => by rw [orderL_cs]; unfold natCs; rw [List.getElem?_map, orderL_get k hk]; rfl)
  have HCN := hide hcn
  clear hn hm k1 k2 hZn hcn
  generalize orderCs = cs at *
  go_enter Tryz.func48, Tryz.ntmps48
  go_wp2_with fail
  generalize (W.alloc (.cells #[.int .i64 0, .int .i64 0, .slice none 0 0, .slice none 0 0, .slice none 0 0] 96)) = W1 at *
  have S1b := S1.out
  rw [← S1b]
  have hb2 := new_box W1 (.cells #[.slice a1 n c1, .slice a2 m c2] 63)
  have BA := hide ((Below.refl W1.heap.size W1).alloc (Nat.le_refl _) (.cells #[.slice a1 n c1, .slice a2 m c2] 63))
  have HCC := hide (concat9 x y a1 a2 n m c1 c2 W1.heap.size _ HN.out HM.out (K1.out.below BA.out (Nat.le_refl _)) (K2.out.below BA.out (Nat.le_refl _)) (by omega) (by omega) hy1 (by omega) (Array.getElem?_eq_some_iff.1 hb2).1 (by rw [cell_of_row _ _ 0 _ _ (0, 0) hb2]; rfl) (by rw [cell_of_row _ _ 1 _ _ (0, 0) hb2]; rfl))
  clear hb2 K1 K2 S1b
  refine HCC.out.mono ?_
  rintro e w3 ⟨v3, rfl, ho3, b3⟩
  have HB3 := hide (BA.out.trans (b3.mono BA.out.size))
  obtain ⟨aa, cc, rfl, harg3⟩ := arg_form ho3 (by rw [List.length_append, HN.out, HM.out])
  have hcap3 := (own_capA ho3).1
  have HFO := hide (fold7_new _ aa cc w3 harg3.toZ (by rw [List.length_map, List.length_append, HN.out, HM.out]; omega) (by rw [List.length_map, List.length_append, HN.out, HM.out]; exact hcap3))
  rw [List.length_map, List.length_append, HN.out, HM.out] at HFO
  clear ho3 b3 harg3 hcap3 HCC BA
  go_wp2_with fail
  refine HFO.out.mono ?_
  rintro e w4 ⟨a6, c6, rs, rfl, hrs, ha6, _, b4, hnew⟩
  have HRS := hide hrs
  have hrl := hrs.length
  rw [List.length_map, List.length_append, HN.out, HM.out] at hrl
  have HA4 := hide ha6
  have HB4 := hide (HB3.out.trans (b4.mono HB3.out.size))
  have HNEW := hide (show NewA W1 a6 from fun b off e => by have h1 := hnew b off e; have h2 := HB3.out.size; omega)
  have HRO := hide (foldRes_ok hrs)
  clear hrs ha6 b4 hnew HFO
  obtain ⟨r, hr⟩ : ∃ r, rs.length = r := ⟨_, rfl⟩
  have HRL := hide hr
  rw [hr] at hrl ⊢
  clear hr
  go_wp2_with fail
  refine (HOR.out _).mono ?_
  rintro e w5 ⟨rfl, b5⟩
  have hst := HST.out w5
  have HB5 := hide (HB4.out.trans (b5.mono HB4.out.size))
  have HA5 := hide (HA4.out.below b5 (Nat.le_refl _))
  have B6 := hide ((Below.refl w5.heap.size w5).alloc (Nat.le_refl _) (.cells cs.toArray 119))
  have HRG6 := hide (HRG.out w5)
  have HA6 := hide (HA5.out.below B6.out (Nat.le_refl _))
  have HB6 := hide (HB5.out.trans (B6.out.mono HB5.out.size))
  have HOS := hide (new_box w5 (.cells cs.toArray 119))
  clear b5 HST HRG HOR HA4 HA5
  go_wp2
  clear hmk hst hzv
  generalize hRO : w5.heap.size = RO at *
  have S6 := hide (show (w5.alloc (.cells cs.toArray 119)).heap.size = RO + 1 by rw [← hRO]; exact alloc_size9 _ _)
  generalize (w5.alloc (.cells cs.toArray 119)) = W6 at *
  have S6b := S6.out
  rw [← S6b]
  have O0 := hide (own_made0 W6 19 (by omega))
  have B7 := hide ((Below.refl W6.heap.size W6).alloc (Nat.le_refl _) (.cells (madeCells #[.int .i64 0] 19) 3))
  rw [← runWs_nil] at O0
  have HROL := hide (show RO < W6.heap.size by omega)
  clear S6b hRO HOS B6 HB5
  generalize (W6.alloc (.cells (madeCells #[.int .i64 0] 19) 3)) = W7 at *
  go_loopw [24] (fun c wr => ∃ j : Nat, j ≤ r ∧ c = .int .i64 (j : Nat) ∧ Hid (wr.ownsRow W6.heap.size 3 1 (.slice (some ⟨W6.heap.size, 0, none⟩) 19 19) 19 (natCs (runWs (rs.take j)))) ∧ Hid (Below W6.heap.size W6 wr)) (fun c _ => r - (intOf c).toNat)
  case atStart => exact ⟨0, Nat.zero_le _, rfl, O0, B7⟩
  case round =>
    clear O0 B7
    obtain ⟨j, hj, rfl, HO, HBJ⟩ := hrel
    by_cases hlt : j < r
    · obtain ⟨⟨s, ex⟩, hs⟩ : ∃ q, rs[j]? = some q := ⟨_, List.getElem?_eq_getElem (by rw [HRL.out]; exact hlt)⟩
      obtain ⟨g, off, rfl, hg, hcs, hce⟩ := HA6.out j s ex hs
      have hso := HRO.out _ (List.mem_of_getElem? hs)
      obtain ⟨s, rfl⟩ := Int.eq_ofNat_of_zero_le hso.1
      have hs19 : s < 19 := by have := hso.2; dsimp only at this; omega
      have _c1 := (HBJ.out.cell (p := ⟨g, off + j * 2, none⟩) hg).trans hcs
      have _c2 := (HBJ.out.cell (p := ⟨g, off + j * 2 + 1, none⟩) hg).trans hce
      have HO8 := hide (HO.out.alloc (.cells #[.int .i64 (s : Int), .int .i64 ex] 122))
      have HB8 := hide (HBJ.out.alloc HBJ.out.size (.cells #[.int .i64 (s : Int), .int .i64 ex] 122))
      obtain ⟨q1, q2⟩ := own_nat (l := runWs (rs.take j)) (by rw [runWs_length]; exact HO8.out) (runWs_get (rs.take j) s hs19)
      have hw := cntR_le (rs.take j) s
      rw [List.length_take] at hw
      have HS := hide (own_set HO8.out s (cntR (rs.take j) s + 1))
      rw [← runWs_snoc (rs.take j) s ex hs19, show rs.take j ++ [((s : Int), ex)] = rs.take (j + 1) by rw [List.take_add_one, hs]; rfl] at HS
      have HB9 := hide (HB8.out.setCell (p := ⟨W6.heap.size, s, none⟩) (Nat.le_refl _) (.int .i64 ((cntR (rs.take j) s + 1 : Nat) : Int)))
      generalize cntR (rs.take j) s = wv at *
      have zj : (j : Int) < r := by omega
      have zs : (s : Int) < 19 := by omega
      clear hcs hce hso hg hs
      go_wp2
      go_roundw
      case rel => exact ⟨j + 1, hlt, by go_num, HS, HB9⟩
      case measure => exact meas_oneW j r hlt
    · have hj2 : j = r := by omega
      subst hj2
      have HO5 := hide HO.out
      rw [← HRL.out, List.take_length] at HO5
      have HWS := hide (runWs_length rs)
      have HQL := hide (lengths_any _ 7 (some ⟨W6.heap.size, 0, none⟩) 19 wr (own_argZ HO5.out HWS.out) (fun e => by cases e))
      rw [List.length_map, runWs_length] at HQL
      have HMX := hide (show ∀ z ∈ runWs rs, z ≤ 1000000 from fun z hz => by
        obtain ⟨q, _, rfl⟩ := List.mem_map.1 hz
        have := cntR_le rs q
        have := HRL.out
        omega)
      clear HO
      go_wp2_with fail
      refine HQL.out.mono ?_
      rintro e w9 ⟨rr, rfl, hres, b9⟩
      obtain ⟨g7, c7, hl, rfl, hlim, ho7⟩ := lim_res (m := 7) hres (by omega) (by omega) (by rw [HWS.out]; omega) (by rw [HWS.out]; omega) HMX.out
      rw [HWS.out] at ho7 ⊢
      obtain ⟨_, hll, hl7⟩ := halfJ_short15 hlim (by omega)
      rw [HWS.out] at hll
      have HLIM := hide hlim
      have HL7 := hide hl7
      have HLL := hide hll
      have HO7 := hide ho7
      have HB9 := hide (HBJ.out.trans (b9.mono HBJ.out.size))
      have HZ9 := hide (show W6.heap.size ≤ wr.heap.size from HBJ.out.size)
      have hmk : ∀ w, (Instr.makeSlice 63 (.int .i64 19) (.int .i64 19)).run Tryz.prog w = _ := make_int 19 (by omega)
      have O9 := hide (own_made w9 (fun k => hl.getD (orderL.getD k 0) 0) 19 (by omega))
      have B10 := hide ((Below.refl w9.heap.size w9).alloc (Nat.le_refl _) (.cells (madeCells #[.int .i64 0] 19) 3))
      have HRGA := hide (show (w9.alloc (.cells (madeCells #[.int .i64 0] 19) 3)).rangeAt RO 0 cs from fun j v hv => by
        have h := HRG6.out j v hv
        rw [← HB9.out.cell (p := ⟨RO, 0 + j, none⟩) HROL.out] at h
        rw [← h]
        exact B10.out.cell (p := ⟨RO, 0 + j, none⟩) (Nat.lt_of_lt_of_le HROL.out HB9.out.size))
      have HSZ := hide (show (Tryz.prog.info? 119).map (·.size) = some cs.length by rw [HCN.out]; exact Tryz.sizeOrder)
      clear hres hlim ho7 hll hl7 b9 HQL HO5 HMX
      go_wp2_with (first
        | (refine wpList_load_mid rfl 119 (Operand.tmp 6) rfl RO 0 rfl cs _ HRGA.out Tryz.underlying119 rfl HSZ.out ?_))
      clear hmk HRGA HSZ HRG6
      have HA7 := hide (own_arg HO7.out HLL.out)
      have HNE7 := hide (own_new HO7.out)
      have HIX := hide (fun k (hk : k < 19) => idx_order cs k (orderL.getD k 0) hk (HOC.out k hk))
      generalize (w9.alloc (.cells (madeCells #[.int .i64 0] 19) 3)) = W10 at *
      rename World => wm
      go_loopw [43] (fun c wr => ∃ k : Nat, k ≤ 19 ∧ c = .int .i64 (k : Nat) ∧ Hid (wr.ownsRow w9.heap.size 3 1 (.slice (some ⟨w9.heap.size, 0, none⟩) 19 19) 19 (natCs (fillTo (fun k => hl.getD (orderL.getD k 0) 0) 19 k))) ∧ Hid (Below w9.heap.size w9 wr)) (fun c _ => 19 - (intOf c).toNat)
      case atStart => exact ⟨0, by omega, rfl, O9, B10⟩
      case round =>
        clear O9 B10
        obtain ⟨k, hk, rfl, HO, HB⟩ := hrel
        by_cases hlt : k < 19
        · have zk : (k : Int) < 19 := by omega
          have hix := HIX.out k hlt
          have hol := orderL_lt k hlt
          have hz : (fillTo (fun k => hl.getD (orderL.getD k 0) 0) 19 k)[k]? = some 0 := by rw [fillTo_get _ _ _ k hlt, if_neg (by omega)]
          have ho := HO.out
          obtain ⟨_t1, _t2⟩ := own_nat (by rw [fillTo_length]; exact ho) hz
          have HSET := hide (own_set ho k (hl.getD (orderL.getD k 0) 0))
          rw [fillTo_set (fun k => hl.getD (orderL.getD k 0) 0) 19 k hlt] at HSET
          have HBS := hide (fun v => HB.out.setCell (p := ⟨w9.heap.size, k, none⟩) (Nat.le_refl _) v)
          obtain ⟨g, off, rfl, hg, hc⟩ := HA7.out (orderL.getD k 0) _ (getD_some hl _ (by rw [HLL.out]; exact hol))
          have _c := (HB.out.cell (p := ⟨g, off + orderL.getD k 0, none⟩) hg).trans hc
          generalize hl.getD (orderL.getD k 0) 0 = x0 at *
          generalize orderL.getD k 0 = o at *
          have zo : (o : Int) < 19 := by omega
          have HLT := hide hlt
          clear hz ho hg hc hlt
          go_wp2
          go_roundw
          case rel => exact ⟨k + 1, HLT.out, by go_num, HSET, hide (HBS.out _)⟩
          case measure => exact meas_oneW k 19 HLT.out
        · have hke : k = 19 := by omega
          subst hke
          rw [told_fill] at HO
          have HTR := hide (trimmed9 (toldL hl) (some ⟨w9.heap.size, 0, none⟩) 19 4 wr (own_arg HO.out (toldL_length hl)) (by rw [toldL_length]; omega) (by rw [toldL_length]; omega) (by omega) (by rw [toldL_length]; omega) (fun x hx => by
            obtain ⟨o, _, rfl⟩ := List.mem_map.1 hx
            have := getD_le HL7.out o
            omega))
          rw [toldL_length, told_len] at HTR
          have HT10 := hide ((own_arg HO.out (toldL_length hl)).take (cutN (toldL hl) 4 (toldL hl).length))
          have HW69 := hide (HB9.out)
          have HBB := hide (HB6.out.trans ((HB9.out.trans (HB.out.mono HB9.out.size)).mono HB6.out.size))
          have HA6b := hide ((HA6.out.below HB9.out (Nat.le_refl _)).below HB.out (Nat.le_refl _))
          have HA7b := hide (HA7.out.below HB.out (Nat.le_refl _))
          have S1b := S1.out
          have HXE := hide (show wr.heap[W.heap.size]? = _ from (HBB.out.block _ (by omega)).trans HX1.out)
          obtain ⟨_h0, _h1, _h2, _h3, _h4⟩ := five_cells HXE.out
          have _f0 := frozen_row9 HXE.out 0
          have _f1 := frozen_row9 HXE.out 1
          have _f2 := frozen_row9 HXE.out 2
          have _f3 := frozen_row9 HXE.out 3
          have _f4 := frozen_row9 HXE.out 4
          have hz1 := HB6.out.size
          have hz2 := HZ9.out
          have hz3 := HB9.out.size
          have HZ := hide (show W.heap.size + 1 ≤ W6.heap.size ∧ W.heap.size + 1 ≤ w9.heap.size by omega)
          clear S1b hz1 hz2 hz3
          go_wp2_with fail
          refine HTR.out.mono ?_
          rintro e w11 ⟨⟨ct, rfl, _⟩, rfl⟩
          go_wp2
          (try simp only [Exit.inBlock, Exit.then])
          refine bodyPost_ret (v := .agg #[.int .i64 (n : Nat), .int .i64 (m : Nat), .slice (some ⟨w9.heap.size, 0, none⟩) (ordN hl 19) ct, .slice a6 j c6, .slice g7 19 c7]) ?_ rfl ?_
          · simp [results, Tryz.results48, asAddr]
            exact load_head _ _ _ _ _ _ _ _ _ _ _ (set_five _ _ _ _ _ _ _ _ _ _ _ _ _ HXE.out)
          · have hf := five_sets w11 W.heap.size (.int .i64 (n : Nat)) (.int .i64 (m : Nat)) (.slice (some ⟨w9.heap.size, 0, none⟩) (ordN hl 19) ct) (.slice a6 j c6) (.slice g7 19 c7)
            have hS := S1.out
            have hz := HZ.out
            have hz9 := HZ9.out
            refine ⟨rs, hl, _, ct, a6, c6, g7, c7, by rw [HRL.out], HRS.out, HLIM.out, HT10.out.kept hf.size (fun b off e => hf.block b (by injection e with e; injection e with e; omega)), (fun b off e => by injection e with e; injection e with e; omega), HA6b.out.kept hf.size (fun b off e => hf.block b (by have := HNEW.out b off e; omega)), (fun b off e => by have := HNEW.out b off e; omega), HA7b.out.kept hf.size (fun b off e => hf.block b (by have := HNE7.out b off e; omega)), (fun b off e => by have := HNE7.out b off e; omega), ?_⟩
            exact (((((B0.out.trans (HBB.out.mono B0.out.size)).setCell (Nat.le_refl _) _).setCell (Nat.le_refl _) _).setCell (Nat.le_refl _) _).setCell (Nat.le_refl _) _).setCell (Nat.le_refl _) _

end Go.Proofs.YtaalbaiglkadlaaGreat

/- Contract of the code of layer 9: a header is written. -/
namespace Go.Proofs.YtaalbaiglkadlaaGreat
open Go.RowKit Go.Lib

theorem toldC_get (hl : List Nat) (i : Nat) (h : i < ordN hl 19) : (cutL (toldL hl) 4)[i]? = some (hl.getD (orderL.getD i 0) 0) := by
  have h19 := ordN_le hl 19
  have h2 := getD_some (cutL (toldL hl) 4) i (by rw [told_len]; exact h)
  rw [h2, cutL_get, toldL_get hl i (by omega)]
/-- What a header's writing comes to. -/
def HeadWPost (W : World) (n m : Nat) (rs : List (Int × Int)) (hl : List Nat) (p : Nat) (v : Value) (bs : List Bool) (e : Ending) (w' : World) : Prop := e = .returned (.tuple #[]) ∧ ∃ v', Wr w' p v' (bs ++ headBits n m rs hl) ∧ Step p v v' W w'

set_option maxRecDepth 20000 in
set_option maxHeartbeats 8000000 in
theorem headw9 (n m t ct j cf cl : Nat) (rs : List (Int × Int)) (hl : List Nat) (gt gf gl : Option Addr) (p : Nat) (v : Value) (bs : List Bool) (W : World) (hw : Wr W p v bs) (hbs : bs.length ≤ 600000) (kt : KN p v W gt (cutL (toldL hl) 4)) (kf : KR p v W gf rs) (kl : KN p v W gl hl) (ht : ordN hl 19 = t) (hj : rs.length = j) (hro : ∀ r ∈ rs, 0 ≤ r.1 ∧ r.1 ≤ 18) (hj2 : j ≤ 400) (hll : hl.length = 19) (hmk : MakesC hl) (hn : 257 ≤ n) (hn2 : n ≤ 286) (hm : 1 ≤ m) (hm2 : m ≤ 30) :
    Calls Tryz.prog 49 #[.agg #[.int .i64 (n : Nat), .int .i64 (m : Nat), .slice gt t ct, .slice gf j cf, .slice gl 19 cl], .pointer (some ⟨p, 0, none⟩)] W fun e w' => HeadWPost W n m rs hl p v bs e w' := by
  have HT := hide ht
  have HJ := hide hj
  have HRO := hide hro
  have HLL := hide hll
  have HMK := hide hmk
  have h4 := ordN_four hl 19 (by omega)
  have h19 := ordN_le hl 19
  rw [ht] at h4 h19
  obtain ⟨hp, hv⟩ := hw.old
  have hb := new_box W (.cells #[.int .i64 (n : Nat), .int .i64 (m : Nat), .slice gt t ct, .slice gf j cf, .slice gl 19 cl] 96)
  have B0 := hide ((Below.refl W.heap.size W).alloc (Nat.le_refl _) (.cells #[.int .i64 (n : Nat), .int .i64 (m : Nat), .slice gt t ct, .slice gf j cf, .slice gl 19 cl] 96))
  have FH := hide (free_new (b := W.heap.size) hp hv (Nat.le_refl _) (Array.getElem?_eq_some_iff.1 hb).1)
  have HS0 := hide (Step.ofBelow (p := p) (v := v) B0.out)
  have HW0 := hide (hw.below B0.out)
  have HKT := hide (kt.step HS0.out)
  have HKF := hide (kf.step HS0.out)
  have HKL := hide (kl.step HS0.out)
  obtain ⟨e0, e1, e2, e3, e4⟩ := five_cells hb
  have E0 := hide e0
  have E1 := hide e1
  have E2 := hide e2
  have E3 := hide e3
  have E4 := hide e4
  obtain ⟨xl, ol, rfl, _, _⟩ := kl.arg 0 _ (getD_some hl 0 (by rw [hll]; omega))
  clear hw kt kf kl ht hj hro hll hmk hp hv hb e0 e1 e2 e3 e4 B0
  go_enter Tryz.func49, Tryz.ntmps49
  go_wp2_with fail
  generalize (W.alloc (.cells #[.int .i64 (n : Nat), .int .i64 (m : Nat), .slice gt t ct, .slice gf j cf, .slice (some ⟨xl, ol, none⟩) 19 cl] 96)) = w0 at *
  generalize W.heap.size = PH at *
  have H1 := hide (wput_any p v bs ((n : Int) - 257) 5 w0 5 rfl HW0.out (by omega))
  clear HW0
  refine H1.out.mono ?_
  rintro e w1 ⟨rfl, v1, hr1, hs1⟩
  have HS1 := hide hs1
  have _h1 := (FH.out.cell hs1 1).trans E1.out
  have H2 := hide (wput_any p v1 _ ((m : Int) - 1) 5 w1 5 rfl hr1 (by rw [List.length_append, lowBits_length]; omega))
  clear hr1 hs1 H1
  go_wp2_with fail
  refine H2.out.mono ?_
  rintro e w2 ⟨rfl, v2, hr2, hs2⟩
  have HS2 := hide (HS1.out.trans hs2)
  have _h2 := (FH.out.cell HS2.out 2).trans E2.out
  have H3 := hide (wput_any p v2 _ ((t : Int) - 4) 4 w2 4 rfl hr2 (by rw [List.length_append, List.length_append, lowBits_length, lowBits_length]; omega))
  clear hr2 hs2 H2 _h1 HS1
  go_wp2_with fail
  refine H3.out.mono ?_
  rintro e w3 ⟨rfl, v3, hr3, hs3⟩
  have HS3 := hide (HS2.out.trans hs3)
  have _h3 := (FH.out.cell HS3.out 2).trans E2.out
  obtain ⟨cs1, hcs⟩ : ∃ cs1, bs ++ lowBits ((n : Int) - 257) 5 ++ lowBits ((m : Int) - 1) 5 ++ lowBits ((t : Int) - 4) 4 = cs1 := ⟨_, rfl⟩
  have hcl : cs1.length ≤ 600014 := by rw [← hcs, List.length_append, List.length_append, List.length_append, lowBits_length, lowBits_length, lowBits_length]; omega
  have HCS := hide hcs
  rw [hcs] at hr3
  have HR3 := hide hr3
  clear hr3 hs3 H3 _h2 HS2 hcs
  go_wp2
  go_loopw [28] (fun c wr => ∃ (i : Nat) (vi : Value), i ≤ t ∧ c = .int .i64 (i : Nat) ∧ Hid (Wr wr p vi (cs1 ++ ordBits hl i)) ∧ Hid (Step p v vi w0 wr)) (fun c _ => t - (intOf c).toNat)
  case atStart => exact ⟨0, v3, Nat.zero_le _, rfl, hide (by show Wr w3 p v3 (cs1 ++ []); rw [List.append_nil]; exact HR3.out), HS3⟩
  case round =>
    clear HR3 HS3
    obtain ⟨i, vi, hi, rfl, HR, HS⟩ := hrel
    have hol := ordBits_le hl i (by omega)
    by_cases hlt : i < t
    · obtain ⟨b, off, rfl, _, hc⟩ := (HKT.out.step HS.out).arg i _ (toldC_get hl i (by rw [HT.out]; exact hlt))
      have HBS := hide (ordBits_succ hl i (by omega))
      generalize hl.getD (orderL.getD i 0) 0 = x0 at *
      have H4 := hide (wput_any p vi _ (x0 : Int) 3 wr 3 rfl HR.out (by rw [List.length_append]; omega))
      have zi : (i : Int) < t := by omega
      have HLT := hide hlt
      clear hol hlt
      go_wp2_with fail
      refine H4.out.mono ?_
      rintro e w4 ⟨rfl, v4, hr4, hs4⟩
      rw [List.append_assoc, ← HBS.out] at hr4
      have HR4 := hide hr4
      have HS4 := hide (HS.out.trans hs4)
      clear hr4 hs4 H4
      go_wp2
      go_roundw
      case rel => exact ⟨i + 1, v4, HLT.out, by go_num, HR4, HS4⟩
      case measure => exact meas_oneW i t HLT.out
    · have hie : i = t := by omega
      subst hie
      have _h4 := (FH.out.cell HS.out 4).trans E4.out
      have HCD := hide (coded9 hl (some ⟨xl, ol, none⟩) 19 cl wr HLL.out (HKL.out.step HS.out).arg HMK.out (by omega) (by omega))
      obtain ⟨cs2, hcs2⟩ : ∃ cs2, cs1 ++ ordBits hl i = cs2 := ⟨_, rfl⟩
      have hcl2 : cs2.length ≤ 600071 := by rw [← hcs2, List.length_append]; omega
      have HCS2 := hide hcs2
      rw [hcs2] at HR
      obtain ⟨hp, hv⟩ := HR.out.old
      clear hcs2 hol
      go_wp2_with fail
      refine HCD.out.mono ?_
      rintro e w5 ⟨g8, k8, rfl, ho8, b5⟩
      have hb6 := new_box w5 (.cells #[.slice (some ⟨xl, ol, none⟩) 19 cl, .slice (some ⟨g8, 0, none⟩) 19 k8] 91)
      have B6 := hide (b5.trans (((Below.refl w5.heap.size w5).alloc (Nat.le_refl _) (.cells #[.slice (some ⟨xl, ol, none⟩) 19 cl, .slice (some ⟨g8, 0, none⟩) 19 k8] 91)).mono b5.size))
      have HS6 := hide (HS.out.trans (Step.ofBelow B6.out))
      have HR6 := hide (HR.out.below B6.out)
      have FB := hide (free_new (b := w5.heap.size) hp hv b5.size (Array.getElem?_eq_some_iff.1 hb6).1)
      have EB0 := hide (show (w5.alloc (.cells #[.slice (some ⟨xl, ol, none⟩) 19 cl, .slice (some ⟨g8, 0, none⟩) 19 k8] 91)).cell? ⟨w5.heap.size, 0, none⟩ = some (.slice (some ⟨xl, ol, none⟩) 19 cl) by rw [cell_of_row _ _ 0 _ _ (0, 0) hb6]; rfl)
      have EB1 := hide (show (w5.alloc (.cells #[.slice (some ⟨xl, ol, none⟩) 19 cl, .slice (some ⟨g8, 0, none⟩) 19 k8] 91)).cell? ⟨w5.heap.size, 1, none⟩ = some (.slice (some ⟨g8, 0, none⟩) 19 k8) by rw [cell_of_row _ _ 1 _ _ (0, 0) hb6]; rfl)
      have hlt8 := ho8.lt g8 rfl
      have hz5 : w5.heap.size < (w5.alloc (.cells #[.slice (some ⟨xl, ol, none⟩) 19 cl, .slice (some ⟨g8, 0, none⟩) 19 k8] 91)).heap.size := (Array.getElem?_eq_some_iff.1 hb6).1
      have HCK := hide (show CodeK p vi (w5.alloc (.cells #[.slice (some ⟨xl, ol, none⟩) 19 cl, .slice (some ⟨g8, 0, none⟩) 19 k8] 91)) hl xl ol cl g8 k8 from by
        have hkn := HKL.out.step HS6.out
        refine ⟨hkn.free xl ol rfl, free_new hp hv hlt8.1 (by omega), fun k hk => ?_, fun k hk => ?_⟩
        · obtain ⟨b', o', e1, _, h3⟩ := hkn.arg k _ (getD_some hl k hk)
          injection e1 with e1
          injection e1 with e1 e2
          subst e1 e2
          exact h3
        · have h := (own_nat (w := w5.alloc (.cells #[.slice (some ⟨xl, ol, none⟩) 19 cl, .slice (some ⟨g8, 0, none⟩) 19 k8] 91)) (l := codesL hl) (by rw [codesL_length, HLL.out]; exact ho8.alloc _) (codesL_get hl k hk)).1
          rw [Nat.zero_add]
          exact h)
      have _h3b := (FH.out.cell HS6.out 3).trans E3.out
      clear ho8 b5 hb6 hlt8 hz5 hp hv HCD HR HS B6
      go_wp2
      generalize (w5.alloc (.cells #[.slice (some ⟨xl, ol, none⟩) 19 cl, .slice (some ⟨g8, 0, none⟩) 19 k8] 91)) = w6 at *
      generalize w5.heap.size = RB at *
      have HG7 := hide (show ∀ z ∈ hl, z ≤ 15 from HMK.out.each)
      go_loopw [42] (fun c wt => ∃ (q : Nat) (vj : Value), q ≤ j ∧ c = .int .i64 (q : Nat) ∧ Hid (Wr wt p vj (cs2 ++ runsBits hl (rs.take q))) ∧ Hid (Step p vi vj w6 wt)) (fun c _ => j - (intOf c).toNat)
      case atStart => exact ⟨0, vi, Nat.zero_le _, rfl, hide (by show Wr w6 p vi (cs2 ++ []); rw [List.append_nil]; exact HR6.out), hide (Step.refl _ _ _)⟩
      case round =>
        clear HR6
        obtain ⟨q, vj, hq, rfl, HR, HS⟩ := hrel
        by_cases hlt : q < j
        · obtain ⟨⟨s, ex⟩, hs⟩ : ∃ t, rs[q]? = some t := ⟨_, List.getElem?_eq_getElem (by rw [HJ.out]; exact hlt)⟩
          obtain ⟨g, off, rfl, hg, _c1, _c2⟩ := (HKF.out.step (HS6.out.trans HS.out)).arg q s ex hs
          have hso := HRO.out _ (List.mem_of_getElem? hs)
          obtain ⟨s, rfl⟩ := Int.eq_ofNat_of_zero_le hso.1
          have hs19 : s < 19 := by have := hso.2; dsimp only at this; omega
          have hlb := runsBits_le hl (fun z hz => HG7.out z hz) (rs.take q)
          have hti : (rs.take q).length ≤ q := by rw [List.length_take]; omega
          have hbl : (cs2 ++ runsBits hl (rs.take q)).length ≤ 620000 := by rw [List.length_append]; omega
          have HSN := hide (runsBits_snoc hl (rs.take q) ((s : Int), ex))
          rw [show rs.take q ++ [((s : Int), ex)] = rs.take (q + 1) by rw [List.take_add_one, hs]; rfl] at HSN
          have HRB := hide (show runBits hl ((s : Int), ex) = highBits (codeN hl s : Int) (hl.getD s 0) ++ lowBits ex (xBits (s : Int)) by unfold runBits; rw [Int.toNat_natCast])
          have hx7 := xBits_le (s : Int)
          have hg15 := getD_le HG7.out s
          have HBT := hide (bits7_same (s : Int))
          obtain ⟨hp, hv⟩ := HR.out.old
          have hb7 := new_box wr (.cells #[.int .i64 (s : Int), .int .i64 ex] 122)
          have B7 := hide ((Below.refl wr.heap.size wr).alloc (Nat.le_refl _) (.cells #[.int .i64 (s : Int), .int .i64 ex] 122))
          have HS7 := hide (HS.out.trans (Step.ofBelow B7.out))
          have FR := hide (free_new (b := wr.heap.size) hp hv (Nat.le_refl _) (Array.getElem?_eq_some_iff.1 hb7).1)
          have ER0 := hide (show (wr.alloc (.cells #[.int .i64 (s : Int), .int .i64 ex] 122)).cell? ⟨wr.heap.size, 0, none⟩ = some (.int .i64 (s : Int)) by rw [cell_of_row _ _ 0 _ _ (0, 0) hb7]; rfl)
          have ER1 := hide (show (wr.alloc (.cells #[.int .i64 (s : Int), .int .i64 ex] 122)).cell? ⟨wr.heap.size, 1, none⟩ = some (.int .i64 ex) by rw [cell_of_row _ _ 1 _ _ (0, 0) hb7]; rfl)
          have _a0 : (wr.alloc (.cells #[.int .i64 (s : Int), .int .i64 ex] 122)).cell? ⟨RB, 0, none⟩ = some (.slice (some ⟨xl, ol, none⟩) 19 cl) := (FB.out.cell HS7.out 0).trans EB0.out
          have _a1 : (wr.alloc (.cells #[.int .i64 (s : Int), .int .i64 ex] 122)).cell? ⟨RB, 1, none⟩ = some (.slice (some ⟨g8, 0, none⟩) 19 k8) := (FB.out.cell HS7.out 1).trans EB1.out
          have HC := hide (cwriteK p vj _ hl xl ol cl g8 k8 s _ (HR.out.below B7.out) (by omega) (HCK.out.step HS7.out) (by rw [HLL.out]; exact hs19) HG7.out)
          rw [HLL.out] at HC
          generalize codeN hl s = cv at *
          generalize hl.getD s 0 = lv at *
          generalize xBits (s : Int) = xb at *
          have zi : (q : Int) < (j : Int) := by omega
          have HLT := hide hlt
          clear hso hs hlb hti hp hv hb7 hg hlt
          go_wp2_with fail
          refine HC.out.mono ?_
          rintro e w8 ⟨rfl, v8, hr8, s8⟩
          have T8 := hide s8
          have HR8 := hide hr8
          have _r0 := (FR.out.cell T8.out 0).trans ER0.out
          have _r1 := (FR.out.cell T8.out 1).trans ER1.out
          have HPT := hide (fun w' (h : Wr w' p v8 (cs2 ++ runsBits hl (rs.take q) ++ highBits (cv : Int) lv)) => wput_any p v8 _ ex (xb : Int) w' xb (takenI_nat xb (by omega)) h (by rw [List.length_append, high_len]; omega))
          have HWE := hide (HR8.out.drewN 1)
          have F8 := hide (FR.out.step T8.out)
          have K0 := hide _r0
          have K1 := hide _r1
          clear hr8 s8 HC _a0 _a1 _c1 _c2
          go_wp2_with fail
          go_region_held3 (fun w' => w'.cell? ⟨wr.heap.size, 0, none⟩ = some (.int .i64 (s : Int)) ∧ w'.cell? ⟨wr.heap.size, 1, none⟩ = some (.int .i64 ex)) (go_keep) (first
            | (go_at_call 72; refine (HBT.out _).mono ?_; rintro e wb ⟨rfl, rfl⟩)
            | (go_at_call 31; refine (HPT.out _ HWE.out).mono ?_; rintro e w9 ⟨rfl, v9, hr9, s9⟩; have hs9 : Step p v8 v9 w8 w9 := ⟨s9.os, s9.tape, s9.output, s9.size, s9.block, s9.own⟩; have k0 := (F8.out.cell hs9 0).trans K0.out; have k1 := (F8.out.cell hs9 1).trans K1.out; have HR9 := hide hr9; have HS9 := hide hs9; clear hr9 s9 hs9))
          have HRF := hide HR9.out
          rw [List.append_assoc, List.append_assoc, ← HRB.out, ← HSN.out] at HRF
          have HSF := hide (HS7.out.trans (T8.out.trans HS9.out))
          clear HR9 HS9 T8 k0 k1
          go_wp2
          go_roundw
          case rel => exact ⟨q + 1, v9, HLT.out, by go_num, HRF, HSF⟩
          case measure => exact meas_oneW q j HLT.out
        · have hqe : q = j := by omega
          subst hqe
          have HG := hide (show HeadWPost W n m rs hl p v bs (.returned (.tuple #[])) wr from by
            refine ⟨rfl, vj, ?_, HS0.out.trans (HS6.out.trans HS.out)⟩
            have hf := HR.out
            rw [← HJ.out, List.take_length, ← HCS2.out, ← HCS.out] at hf
            unfold headBits
            rw [HT.out, show ((n - 257 : Nat) : Int) = (n : Int) - 257 by omega, show ((m - 1 : Nat) : Int) = (m : Int) - 1 by omega, show ((i - 4 : Nat) : Int) = (i : Int) - 4 by omega]
            simp only [List.append_assoc] at hf ⊢
            exact hf)
          go_wp2
          go_end0
          exact HG.out

end Go.Proofs.YtaalbaiglkadlaaGreat
