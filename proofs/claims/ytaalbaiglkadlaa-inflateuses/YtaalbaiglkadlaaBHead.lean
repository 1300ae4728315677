/- Contract of the document's 'head' of layer 9. -/
import Derived.Test.YtaalbaiglkadlaaBR
import Derived.Test.YtaalbaiglkadlaaAppArg
import Derived.Deep.RegionHeld3
namespace Go.Proofs.Ytaalbaiglkadlaa
open Go.RowKit Go.Lib

theorem argN_none {w : World} {l : List Nat} {a : Option Addr} (h : ArgN w a l) (e : a = none) : l.length = 0 := by
  subst e
  cases l with
  | nil => rfl
  | cons x l =>
    obtain ⟨b, off, h1, _⟩ := h 0 x rfl
    cases h1
theorem argN_news {w : World} {l : List Nat} {a : Option Addr} (h : ArgN w a l) (ad : Addr) (e : a = some ad) : ∀ j u, (natCs l)[j]? = some u → w.cell? (ad.add j) = some u := by
  intro j u hu
  unfold natCs at hu
  rw [List.getElem?_map] at hu
  cases hx : l[j]? with
  | none => rw [hx] at hu; cases hu
  | some x =>
    rw [hx] at hu
    injection hu with hu
    subst hu
    obtain ⟨b, off, h1, _, h3⟩ := h j x hx
    rw [e] at h1
    injection h1 with h1
    subst h1
    rw [add_noneW]
    exact h3
theorem own_empty (w : World) (e : TypeId) (size : Nat) : (w.alloc (.cells #[] e)).ownsRow w.heap.size e size (.slice (some ⟨w.heap.size, 0, none⟩) 0 0) 0 [] :=
  World.ownsRow_lit (e := e) (size := size) w #[] 0 (Nat.le_refl _) (by unfold maxLen; omega) (by simp)

/-- What a header's writing comes to. -/
def HeadPost (W : World) (x y : List Nat) (p : Nat) (v : Value) (bs : List Bool) (e : Ending) (w' : World) : Prop := e = .returned (.tuple #[]) ∧ ∃ hb v', HeadRel x y hb ∧ Wq w' p v' (bs ++ hb) ∧ Step p v v' W w'

set_option maxRecDepth 20000 in
set_option maxHeartbeats 8000000 in
theorem qhead_any (x y : List Nat) (a1 a2 : Option Addr) (c1 c2 p : Nat) (v : Value) (bs : List Bool) (W : World) (h : Wq W p v bs) (hbl : bs.length ≤ 1000000) (k1 : ArgN W a1 x) (k2 : ArgN W a2 y) (hx1 : 257 ≤ x.length) (hx2 : x.length ≤ 286) (hy1 : 1 ≤ y.length) (hy2 : y.length ≤ 30) :
    Calls Try.prog 29 #[.pointer (some ⟨p, 0, none⟩), .slice a1 x.length c1, .slice a2 y.length c2] W fun e w' => HeadPost W x y p v bs e w' := by
  have H := hide h
  have HA := hide k1
  have HB := hide k2
  have B0 := hide ((Below.refl W.heap.size W).alloc (Nat.le_refl _) (.cells #[] 3))
  have HE0 := hide (own_empty W 3 1)
  obtain ⟨n, hn⟩ : ∃ n, x.length = n := ⟨_, rfl⟩
  obtain ⟨m, hm⟩ : ∃ m, y.length = m := ⟨_, rfl⟩
  have HN := hide hn
  have HM := hide hm
  rw [hn] at hx1 hx2 ⊢
  rw [hm] at hy1 hy2 ⊢
  have HA0 := hide (HA.out.below B0.out (Nat.le_refl _))
  obtain ⟨i1, ki, kz0, kz1, kz2⟩ := info_parts Try.infoInt
  have hmk : ∀ w, (Instr.makeSlice 59 (.int .i64 19) (.int .i64 19)).run Try.prog w = _ := make_int 19 (by omega)
  clear h k1 k2 hn hm
  go_enter Try.func29, Try.ntmps29
  have X1 := hide (show 0 + n ≤ maxLen by unfold maxLen; omega)
  have X2 := hide (show (0 + n) * 8 ≤ 140737488355328 by omega)
  have X3 := hide (show 0 + n + m ≤ maxLen by unfold maxLen; omega)
  have X4 := hide (show (0 + n + m) * 8 ≤ 140737488355328 by omega)
  have BS := hide (show W.heap.size ≤ (W.alloc (.cells #[] 3)).heap.size from B0.out.size)
  go_wp2_with (first
    | (at_builtin; refine wpList_append_arg rfl (Operand.tmp 17) (Operand.tmp 18) 59 rfl W.heap.size 3 i1 (.int .i64 0) 1 8 Try.underlying59 ki kz0 kz1 kz2 rfl (by decide) (.slice (some ⟨W.heap.size, 0, none⟩) 0 0) 0 [] rfl HE0.out a1 n c1 (natCs x) rfl (by rw [natCs_len, HN.out, Nat.mul_one]) (fun e => by rw [← HN.out]; exact argN_none HA0.out e) (argN_news HA0.out) (natCs_one x) X1.out X2.out BS.out ?_; intro v1 w1 o1 g1; have HB1 := hide (Below.grownB B0.out g1 HE0.out BS.out); have HO1 := hide o1; have HBY := hide (HB.out.below HB1.out (Nat.le_refl _)); clear o1 g1)
    | (at_builtin; refine wpList_append_arg rfl (Operand.tmp 19) (Operand.tmp 20) 59 rfl W.heap.size 3 i1 (.int .i64 0) 1 8 Try.underlying59 ki kz0 kz1 kz2 rfl (by decide) v1 (0 + n) ([] ++ natCs x) rfl HO1.out a2 m c2 (natCs y) rfl (by rw [natCs_len, HM.out, Nat.mul_one]) (fun e => by rw [← HM.out]; exact argN_none HBY.out e) (argN_news HBY.out) (natCs_one y) X3.out X4.out HB1.out.size ?_; intro v2 w2 o2 g2; have HB2 := hide (Below.grownB HB1.out g2 HO1.out HB1.out.size); have HO2 := hide o2; clear o2 g2; rw [List.nil_append, natCs_append, Nat.zero_add] at HO2; obtain ⟨aa, cc, ee, hz9⟩ := arg_form HO2.out (by rw [List.length_append, HN.out, HM.out]); subst ee; have HALL := hide hz9; clear hz9))
  clear HE0 HA0 X1 X2 X3 X4 BS HO1 HB1 HBY B0 ki kz0 kz1 kz2
  have HFO := hide (qfold_new _ aa cc w2 HALL.out.toZ (by rw [List.length_map, List.length_append, HN.out, HM.out]; omega))
  rw [List.length_map, List.length_append, HN.out, HM.out] at HFO
  refine HFO.out.mono ?_
  rintro e w3 ⟨a6, c6, rs, rfl, hrs, ha6, _, b3, hnew⟩
  have HRS := hide hrs
  have hrl := hrs.length
  rw [List.length_map, List.length_append, HN.out, HM.out] at hrl
  have HA6 := hide ha6
  have B3 := hide (HB2.out.trans (b3.mono HB2.out.size))
  have HNEW := hide (show ∀ b off, a6 = some ⟨b, off, none⟩ → W.heap.size ≤ b from fun b off e => Nat.le_trans HB2.out.size (hnew b off e))
  have HRO := hide (foldRes_ok hrs)
  clear hrs ha6 b3 hnew HFO
  obtain ⟨r, hr⟩ : ∃ r, rs.length = r := ⟨_, rfl⟩
  have HRL := hide hr
  rw [hr] at hrl ⊢
  clear hr
  have O0 := hide (own_made0 w3 19 (by omega))
  have B4 := hide ((Below.refl w3.heap.size w3).alloc (Nat.le_refl _) (.cells (madeCells #[.int .i64 0] 19) 3))
  rw [← runWs_nil] at O0
  go_wp2
  clear hmk
  generalize hw4 : w3.alloc (.cells (madeCells #[.int .i64 0] 19) 3) = w4 at *
  clear hw4
  go_loopw [8] (fun c wr => ∃ j : Nat, j ≤ r ∧ c = .int .i64 (j : Nat) ∧ Hid (wr.ownsRow w3.heap.size 3 1 (.slice (some ⟨w3.heap.size, 0, none⟩) 19 19) 19 (natCs (runWs (rs.take j)))) ∧ Hid (Below w3.heap.size w3 wr)) (fun c _ => r - (intOf c).toNat)
  case atStart => exact ⟨0, Nat.zero_le _, rfl, O0, B4⟩
  case round =>
    clear O0 B4
    obtain ⟨j, hj, rfl, HO, HBJ⟩ := hrel
    by_cases hlt : j < r
    · obtain ⟨⟨s, ex⟩, hs⟩ : ∃ q, rs[j]? = some q := ⟨_, List.getElem?_eq_getElem (by rw [HRL.out]; exact hlt)⟩
      obtain ⟨g, off, rfl, hg, hcs, hce⟩ := HA6.out j s ex hs
      have hso := HRO.out _ (List.mem_of_getElem? hs)
      obtain ⟨s, rfl⟩ := Int.eq_ofNat_of_zero_le hso.1
      have hs19 : s < 19 := by have := hso.2; dsimp only at this; omega
      have _c1 := (HBJ.out.cell (p := ⟨g, off + j * 2, none⟩) hg).trans hcs
      obtain ⟨q1, q2⟩ := own_nat (l := runWs (rs.take j)) (by rw [runWs_length]; exact HO.out) (runWs_get (rs.take j) s hs19)
      have hw := cntR_le (rs.take j) s
      rw [List.length_take] at hw
      have HS := hide (own_set HO.out s (cntR (rs.take j) s + 1))
      rw [← runWs_snoc (rs.take j) s ex hs19, show rs.take j ++ [((s : Int), ex)] = rs.take (j + 1) by rw [List.take_add_one, hs]; rfl] at HS
      have HB5 := hide (HBJ.out.setCell (p := ⟨w3.heap.size, s, none⟩) (Nat.le_refl _) (.int .i64 ((cntR (rs.take j) s + 1 : Nat) : Int)))
      generalize cntR (rs.take j) s = wv at *
      have zj : (j : Int) < r := by omega
      have zs : (s : Int) < 19 := by omega
      clear hcs hce hso hg hs
      go_wp2
      go_roundw
      case rel => exact ⟨j + 1, hlt, by go_num, HS, HB5⟩
      case measure => exact meas_oneW j r hlt
    · have hj2 : j = r := by omega
      subst hj2
      have hz : ¬ (j : Int) < (j : Int) := by omega
      have HO5 := hide HO.out
      rw [← HRL.out, List.take_length] at HO5
      have BW := hide (B3.out.trans (HBJ.out.mono B3.out.size))
      have hz3 := HBJ.out.size
      have HWS := hide (runWs_length rs)
      have HQL := hide (qlengths_any _ 7 (some ⟨w3.heap.size, 0, none⟩) 19 wr (own_argZ HO5.out HWS.out) (fun e => by cases e))
      rw [List.length_map, runWs_length] at HQL
      have HMX := hide (show ∀ z ∈ runWs rs, z ≤ 1000000 from fun z hz => by
        obtain ⟨q, _, rfl⟩ := List.mem_map.1 hz
        have := cntR_le rs q
        have := HRL.out
        omega)
      have HA7 := hide (HA6.out.below HBJ.out (Nat.le_refl _))
      clear HO
      go_wp2_with fail
      refine HQL.out.mono ?_
      rintro e w5 ⟨rr, rfl, hres, b5⟩
      obtain ⟨g7, c7, hl, rfl, hlim, ho7⟩ := lim_res (m := 7) hres (by omega) (by omega) (by rw [HWS.out]; omega) (by rw [HWS.out]; omega) HMX.out
      rw [HWS.out] at ho7 ⊢
      obtain ⟨hmk7, hll, hl7⟩ := halfJ_short15 hlim (by omega)
      rw [HWS.out] at hll
      have HLIM := hide hlim
      have HMK := hide hmk7
      have HL7 := hide hl7
      have HLL := hide hll
      have HO7 := hide ho7
      have B5 := hide (BW.out.trans (b5.mono BW.out.size))
      have B5s := hide b5
      have HA8 := hide (HA7.out.below b5 (Nat.le_refl _))
      have HQC := hide (qcodes_any _ g7 c7 w5 (own_argZ ho7 hll) (by rw [List.length_map, hll]; omega))
      rw [List.length_map, hll] at HQC
      clear hres hlim ho7 hmk7 hll hl7 b5 HQL HO5 HMX HA6 HA7
      go_wp2_with fail
      refine HQC.out.mono ?_
      rintro e w6 ⟨rr, rfl, hres, b6⟩
      obtain ⟨g8, c8, rfl, ho8⟩ := codes_res hres HMK.out
      rw [HLL.out] at ho8 ⊢
      have HO8 := hide ho8
      have B6 := hide (B5.out.trans (b6.mono B5.out.size))
      have HO7b := hide (own_below HO7.out b6 (Nat.le_refl _))
      have HA9 := hide (HA8.out.below b6 (Nat.le_refl _))
      have HS6 := hide (show w5.heap.size ≤ w6.heap.size from b6.size)
      have HOR := hide qorder_any
      obtain ⟨Z, hZn, hzv⟩ := Try.zeroOrder
      have hcn : orderCs.length = 19 := rfl
      have HST := hide (fun w => order_store w Z orderCs hZn hcn orderCs_one)
      have HRG := hide (fun w => order_range w orderCs)
      have HOC := hide (show ∀ k, k < 19 → orderCs[k]? = some (.int .i64 ((orderL.getD k 0 : Nat) : Int)) from fun k hk => by rw [orderL_cs]; unfold natCs; rw [List.getElem?_map, orderL_get k hk]; rfl)
      generalize orderCs = cs at *
      clear hres b6 ho8 HQC HA8
      go_wp2_with fail
      refine (HOR.out _).mono ?_
      rintro e w7 ⟨rfl, b7⟩
      have hst := HST.out w7
      have B7 := hide (B6.out.trans (b7.mono B6.out.size))
      have HO7c := hide (own_below HO7b.out b7 (Nat.le_refl _))
      have HO8c := hide (own_below HO8.out b7 (Nat.le_refl _))
      have HA10 := hide (HA9.out.below b7 (Nat.le_refl _))
      have B8 := hide (B7.out.alloc B7.out.size (.cells cs.toArray 87))
      have HO7d := hide (HO7c.out.alloc (.cells cs.toArray 87))
      have HO8d := hide (HO8c.out.alloc (.cells cs.toArray 87))
      have HA11 := hide (HA10.out.below ((Below.refl _ w7).alloc (Nat.le_refl _) (.cells cs.toArray 87)) (Nat.le_refl _))
      have HRG8 := hide (HRG.out w7)
      have HSZ := hide (show w7.heap.size < (w7.alloc (.cells cs.toArray 87)).heap.size by simp)
      have HS7 := hide (show W.heap.size ≤ w7.heap.size from B7.out.size)
      clear b7 HST HRG HOR HO7 HO7b HO7c HO8 HO8c HA9 HA10
      go_wp2_with fail
      clear hst hzv
      generalize hw8 : w7.alloc (.cells cs.toArray 87) = w8 at *
      clear hw8
      have HPO := hide (show ∀ k, k < 19 → w8.cell? ⟨w7.heap.size, k, none⟩ = some (.int .i64 ((orderL.getD k 0 : Nat) : Int)) from fun k hk => by
        have h := HRG8.out k _ (HOC.out k hk)
        rw [Nat.zero_add] at h
        exact h)
      obtain ⟨hold1, hold2⟩ := H.out.old
      have HOLD := hide (And.intro hold1 hold2)
      have FPO := hide (free_new (w := w8) HOLD.out.1 HOLD.out.2 HS7.out HSZ.out)
      obtain ⟨g7, cq7, e7⟩ := own_slice HO7d.out (by omega)
      injection e7 with e7 _ e7c
      subst e7 e7c
      obtain ⟨g8, cq8, e8⟩ := own_slice HO8d.out (by omega)
      injection e8 with e8 _ e8c
      subst e8 e8c
      have F7 := hide (free_new (w := w8) (b := g7) HOLD.out.1 HOLD.out.2 (Nat.le_trans BW.out.size (HO7d.out.lt g7 rfl).1) (HO7d.out.lt g7 rfl).2)
      have F8 := hide (free_new (w := w8) (b := g8) HOLD.out.1 HOLD.out.2 (Nat.le_trans B5.out.size (HO8d.out.lt g8 rfl).1) (HO8d.out.lt g8 rfl).2)
      have HC7 := hide (show ∀ k, k < 19 → w8.cell? ⟨g7, k, none⟩ = some (.int .i64 ((hl.getD k 0 : Nat) : Int)) from fun k hk => (own_nat (l := hl) (by rw [HLL.out]; exact HO7d.out) (getD_some hl k (by rw [HLL.out]; exact hk))).1)
      have HC8 := hide (show ∀ k, k < 19 → w8.cell? ⟨g8, k, none⟩ = some (.int .i64 ((codeN hl k : Nat) : Int)) from fun k hk => (own_nat (l := codesL hl) (by rw [codesL_length, HLL.out]; exact HO8d.out) (codesL_get hl k (by rw [HLL.out]; exact hk))).1)
      have HG7 := hide (show ∀ k, hl.getD k 0 ≤ 7 from fun k => by
        rw [List.getD_eq_getElem?_getD]
        cases hq : hl[k]? with
        | none => exact Nat.zero_le _
        | some z => exact HL7.out z (List.mem_of_getElem? hq))
      have F6 := hide (show ∀ b off, a6 = some ⟨b, off, none⟩ → b < w8.heap.size → FreeB p v w8 b from fun b off e hb => free_new HOLD.out.1 HOLD.out.2 (HNEW.out b off e) hb)
      have HWQ := hide (H.out.below B8.out)
      have HST0 := hide (Step.ofBelow (p := p) (v := v) B8.out)
      generalize w7.heap.size = PO at *
      clear hold1 hold2 HRG8 HOC HO7d HO8d HNEW HS7 HSZ B7 HS6 B6 B5s hz3
      go_loop [14] (fun c => ∃ k : Nat, 4 ≤ k ∧ k ≤ 19 ∧ c = .int .i64 (k : Nat) ∧ Hid (ordN hl k = ordN hl 19)) (fun c => (intOf c).toNat)
      case atStart => exact ⟨19, by omega, Nat.le_refl _, rfl, rfl⟩
      case round =>
        obtain ⟨k, hk1, hk2, rfl, HK⟩ := hrel
        obtain ⟨q, rfl⟩ : ∃ q, k = q + 1 := ⟨k - 1, by omega⟩
        have _p1 := HPO.out q (by omega)
        have hol := orderL_lt q (by omega)
        have _p2 := HC7.out (orderL.getD q 0) hol
        have HSTEP := hide (ordN_step hl q)
        have HSTOP := hide (ordN_stop hl q)
        have hg7 := HG7.out (orderL.getD q 0)
        generalize orderL.getD q 0 = o at _p1 _p2 hol HSTEP HSTOP hg7 ⊢
        have hcases : (4 < q + 1 ∧ hl.getD o 0 = 0) ∨ (4 < q + 1 ∧ hl.getD o 0 ≠ 0) ∨ ¬ 4 < q + 1 := by
          by_cases h4 : 4 < q + 1
          · by_cases h0 : hl.getD o 0 = 0
            · exact .inl ⟨h4, h0⟩
            · exact .inr (.inl ⟨h4, h0⟩)
          · exact .inr (.inr h4)
        rcases hcases with ⟨h4, h0⟩ | ⟨h4, h0⟩ | h4
        · have z4 : (4 : Int) < (q : Int) + 1 := by omega
          have HST1 := hide (HSTEP.out h4 h0)
          rw [h0] at _p2
          have _p2 : w8.cell? ⟨g7, o, none⟩ = some (.int .i64 0) := _p2
          clear HSTEP HSTOP h0 hg7
          go_wp2
          go_round
          case rel => exact ⟨q, by omega, by omega, by go_num, hide (HST1.out.symm.trans HK.out)⟩
          case measure => first | (simp [intOf]; done) | (simp [intOf]; omega)
        case' inr.inl =>
          have HST1 := hide (HSTOP.out (fun g => h0 g.2))
          generalize hl.getD o 0 = lv at _p2 h0 hg7
          have zb : ((lv : Int) == 0) = false := by simp; omega
          have z4 : (4 : Int) < (q : Int) + 1 := by omega
          clear HSTEP HSTOP
          go_wp2_with fail
          clear zb z4 h0 h4
        case' inr.inr =>
          have HST1 := hide (HSTOP.out (fun g => h4 g.1))
          generalize hl.getD o 0 = lv at _p2 hg7
          have z4 : ¬ (4 : Int) < (q : Int) + 1 := by omega
          clear HSTEP HSTOP
          go_wp2_with fail
          clear z4 h4
        all_goals (
          have HQ := hide (show ordN hl 19 = q + 1 from HK.out.symm.trans HST1.out)
          clear _p1 _p2 hg7 hol HK HST1
          have HP1 := hide (qwput_any p v bs ((n : Int) - 257) 5 w8 (by omega) HWQ.out (by omega))
          refine HP1.out.mono ?_
          rintro e w9 ⟨rfl, v9, hr9, hs9⟩
          have HR9 := hide hr9
          have HS9 := hide hs9
          clear hr9 hs9 HP1
          have HP2 := hide (qwput_any p v9 _ ((m : Int) - 1) 5 w9 (by omega) HR9.out (by rw [List.length_append, lowBits_length]; omega))
          go_wp2_with fail
          refine HP2.out.mono ?_
          rintro e w10 ⟨rfl, v10, hr10, hs10⟩
          have HR10 := hide hr10
          have HS10 := hide (HS9.out.trans hs10)
          clear hr10 hs10 HP2 HR9 HS9
          have HP3 := hide (qwput_any p v10 _ ((q : Int) + 1 - 4) 4 w10 (by omega) HR10.out (by rw [List.length_append, List.length_append, lowBits_length, lowBits_length]; omega))
          go_wp2_with fail
          refine HP3.out.mono ?_
          rintro e w11 ⟨rfl, v11, hr11, hs11⟩
          have HS11 := hide (HS10.out.trans hs11)
          obtain ⟨cs1, hcs1⟩ : ∃ cs1, bs ++ lowBits ((n : Int) - 257) 5 ++ lowBits ((m : Int) - 1) 5 ++ lowBits ((q : Int) + 1 - 4) 4 = cs1 := ⟨_, rfl⟩
          have hcl : cs1.length ≤ 1000014 := by rw [← hcs1]; simp only [List.length_append, lowBits_length]; omega
          have HCS := hide hcs1
          rw [hcs1] at hr11
          have HR11 := hide hr11
          clear hr11 hs11 HP3 HR10 HS10 hcs1
          go_wp2
          go_loopw [15] (fun c wq => ∃ (i : Nat) (vi : Value), i ≤ q + 1 ∧ c = .int .i64 (i : Nat) ∧ Hid (Wq wq p vi (cs1 ++ ordBits hl i)) ∧ Hid (Step p v vi w8 wq)) (fun c _ => q + 1 - (intOf c).toNat)
          case atStart => exact ⟨0, v11, Nat.zero_le _, rfl, hide (by show Wq w11 p v11 (cs1 ++ []); rw [List.append_nil]; exact HR11.out), HS11⟩
          case round =>
            clear HR11 HS11
            rename World => wq
            obtain ⟨i, vi, hi, rfl, HR, HS⟩ := hrel
            by_cases hlt : i < q + 1
            · have hi19 : i < 19 := by omega
              have _p1 := (FPO.out.cell HS.out i).trans (HPO.out i hi19)
              have hol := orderL_lt i hi19
              have _p2 := (F7.out.cell HS.out (orderL.getD i 0)).trans (HC7.out _ hol)
              have HBS := hide (ordBits_succ hl i hi19)
              have hob := ordBits_le hl i (by omega)
              generalize orderL.getD i 0 = o2 at _p1 _p2 hol HBS
              generalize hl.getD o2 0 = lv2 at _p2 HBS
              have HP := hide (qwput_any p vi _ (lv2 : Int) 3 wq (by omega) HR.out (by rw [List.length_append]; omega))
              have zi : (i : Int) < (q : Int) + 1 := by omega
              have zo : (o2 : Int) < 19 := by omega
              clear hob
              go_wp2_with fail
              refine HP.out.mono ?_
              rintro e w12 ⟨rfl, v12, hr12, hs12⟩
              rw [List.append_assoc, ← HBS.out] at hr12
              have HR12 := hide hr12
              have HS12 := hide (HS.out.trans hs12)
              clear hr12 hs12 HP _p1 _p2
              go_wp2
              go_roundw
              case rel => exact ⟨i + 1, v12, hlt, by go_num, HR12, HS12⟩
              case measure => exact meas_oneW i (q + 1) hlt
            · have hi2 : i = q + 1 := by omega
              subst hi2
              have zi : ¬ ((q + 1 : Nat) : Int) < (q : Int) + 1 := by omega
              obtain ⟨cs2, hcs2⟩ : ∃ cs2, cs1 ++ ordBits hl (q + 1) = cs2 := ⟨_, rfl⟩
              have hcl2 : cs2.length ≤ 1000071 := by
                have := ordBits_le hl (q + 1) (by omega)
                rw [← hcs2, List.length_append]
                omega
              have HCS2 := hide hcs2
              rw [hcs2] at HR
              clear hcs2
              go_wp2
              go_loopw [16] (fun c wq => ∃ (i : Nat) (vi : Value), i ≤ j ∧ c = .int .i64 (i : Nat) ∧ Hid (Wq wq p vi (cs2 ++ runsBits hl (rs.take i))) ∧ Hid (Step p v vi w8 wq)) (fun c _ => j - (intOf c).toNat)
              case atStart => exact ⟨0, vi, Nat.zero_le _, rfl, hide (by show Wq wq p vi (cs2 ++ []); rw [List.append_nil]; exact HR.out), HS⟩
              case round =>
                clear HR HS
                rename World => wz
                obtain ⟨i, vj, hi, rfl, HR, HS⟩ := hrel
                by_cases hlt : i < j
                · obtain ⟨⟨s, ex⟩, hs⟩ : ∃ t, rs[i]? = some t := ⟨_, List.getElem?_eq_getElem (by rw [HRL.out]; exact hlt)⟩
                  obtain ⟨g, off, rfl, hg, hcs, hce⟩ := HA11.out i s ex hs
                  have hso := HRO.out _ (List.mem_of_getElem? hs)
                  obtain ⟨s, rfl⟩ := Int.eq_ofNat_of_zero_le hso.1
                  have hs19 : s < 19 := by have := hso.2; dsimp only at this; omega
                  have F6b := hide (F6.out g off rfl hg)
                  have _c1 := (F6b.out.cell HS.out (off + i * 2)).trans hcs
                  have _c2 := (F6b.out.cell HS.out (off + i * 2 + 1)).trans hce
                  have _c3 := (F7.out.cell HS.out s).trans (HC7.out s hs19)
                  have _c4 := (F8.out.cell HS.out s).trans (HC8.out s hs19)
                  have hlb := runsBits_le hl (fun z hz => by have := HL7.out z hz; omega) (rs.take i)
                  have hti : (rs.take i).length ≤ i := by rw [List.length_take]; omega
                  have HSN := hide (runsBits_snoc hl (rs.take i) ((s : Int), ex))
                  rw [show rs.take i ++ [((s : Int), ex)] = rs.take (i + 1) by rw [List.take_add_one, hs]; rfl] at HSN
                  have HRB := hide (show runBits hl ((s : Int), ex) = highBits (codeN hl s : Int) (hl.getD s 0) ++ lowBits ex (xBits (s : Int)) by unfold runBits; rw [Int.toNat_natCast])
                  have hg7 := HG7.out s
                  have hx7 := xBits_le (s : Int)
                  have HBT := hide (qbits_any (s : Int))
                  have HC7s := hide (HC7.out s hs19)
                  have HC8s := hide (HC8.out s hs19)
                  generalize codeN hl s = cv at _c4 HRB HC8s
                  generalize hl.getD s 0 = lv3 at _c3 HRB hg7 HC7s
                  generalize xBits (s : Int) = xb at HRB hx7 HBT
                  have HT := hide (fun w' (h : Wq w' p vj (cs2 ++ runsBits hl (rs.take i))) => qwturn_any p vj _ (cv : Int) lv3 w' (by omega) h (by rw [List.length_append]; omega))
                  have zi : (i : Int) < (j : Int) := by omega
                  have zs : (s : Int) < 19 := by omega
                  have HWD := hide (HR.out.drewN 1)
                  have HCS1 := hide hcs
                  have HCE1 := hide hce
                  clear hcs hce hso hg hs hlb hti
                  go_wp2_with fail
                  go_region_held3 (fun w' => w'.cell? ⟨g, off + i * 2, none⟩ = some (.int .i64 (s : Int)) ∧ w'.cell? ⟨g7, s, none⟩ = some (.int .i64 (lv3 : Int)) ∧ w'.cell? ⟨g8, s, none⟩ = some (.int .i64 (cv : Int))) (go_keep) (first
                    | (go_at_call 31; refine (HT.out _ HWD.out).mono ?_; rintro e w13 ⟨rfl, v13, hr13, s13⟩; have hs13 : Step p vj v13 wz w13 := ⟨s13.os, s13.tape, s13.output, s13.size, s13.block, s13.own⟩; have hs14 : Step p v v13 w8 w13 := HS.out.trans hs13; have k1 := (F6b.out.cell hs14 (off + i * 2)).trans HCS1.out; have k2 := (F7.out.cell hs14 s).trans HC7s.out; have k3 := (F8.out.cell hs14 s).trans HC8s.out; have HR13 := hide hr13; have HS13 := hide hs14; clear hr13 s13 hs13 hs14))
                  have _d2 := (F6b.out.cell HS13.out (off + i * 2 + 1)).trans HCE1.out
                  have hlb := runsBits_le hl (fun z hz => by have := HL7.out z hz; omega) (rs.take i)
                  have hti : (rs.take i).length ≤ i := by rw [List.length_take]; omega
                  have HPT := hide (fun w' (h : Wq w' p v13 (cs2 ++ runsBits hl (rs.take i) ++ highBits (cv : Int) lv3)) => qwput_any p v13 _ ex xb w' (by omega) h (by unfold highBits; rw [List.length_append, List.length_append, List.length_reverse, lowBits_length]; omega))
                  have HWE := hide (HR13.out.drewN 1)
                  clear hlb hti _c1 _c2 _c3 _c4 k2 k3 HT HWD
                  go_wp2_with fail
                  go_region_held3 (fun w' => w'.cell? ⟨g, off + i * 2, none⟩ = some (.int .i64 (s : Int)) ∧ w'.cell? ⟨g, off + i * 2 + 1, none⟩ = some (.int .i64 ex)) (go_keep) (first
                    | (go_at_call 50; refine (HBT.out _).mono ?_; rintro e wb ⟨rfl, rfl⟩)
                    | (go_at_call 27; refine (HPT.out _ HWE.out).mono ?_; rintro e w15 ⟨rfl, v15, hr15, s15⟩; have hs15 : Step p v13 v15 w13 w15 := ⟨s15.os, s15.tape, s15.output, s15.size, s15.block, s15.own⟩; have hs16 : Step p v v15 w8 w15 := HS13.out.trans hs15; have m1 := (F6b.out.cell hs16 (off + i * 2)).trans HCS1.out; have m2 := (F6b.out.cell hs16 (off + i * 2 + 1)).trans HCE1.out; have HR15 := hide hr15; have HS15 := hide hs16; clear hr15 s15 hs15 hs16))
                  have HRF := hide HR15.out
                  rw [List.append_assoc, List.append_assoc, ← HRB.out, ← HSN.out] at HRF
                  clear HR15 m1 m2 k1 _d2
                  go_wp2
                  go_roundw
                  case rel => exact ⟨i + 1, v15, hlt, by go_num, HRF, HS15⟩
                  case measure => exact meas_oneW i j hlt
                · have hi2 : i = j := by omega
                  subst hi2
                  have zi : ¬ (i : Int) < (i : Int) := by omega
                  go_wp2
                  go_end0
                  refine ⟨rfl, _, vj, ⟨rs, hl, HRS.out, HLIM.out, rfl⟩, ?_, HST0.out.trans HS.out⟩
                  have hf := HR.out
                  rw [← HRL.out, List.take_length, ← HCS2.out, ← HCS.out] at hf
                  unfold headBits
                  rw [HN.out, HM.out, HQ.out, show ((n - 257 : Nat) : Int) = (n : Int) - 257 by omega, show ((m - 1 : Nat) : Int) = (m : Int) - 1 by omega, show ((q + 1 - 4 : Nat) : Int) = (q : Int) + 1 - 4 by omega]
                  simp only [List.append_assoc] at hf ⊢
                  exact hf)

end Go.Proofs.Ytaalbaiglkadlaa
