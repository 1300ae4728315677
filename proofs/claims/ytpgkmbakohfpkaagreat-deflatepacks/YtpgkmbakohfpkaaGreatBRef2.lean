/- Contracts of the document's layer 9: Weights, cut, Own. -/
import Derived.Test.YtpgkmbakohfpkaaGreatBRef
import Derived.Test.YtpgkmbakohfpkaaGreatMA
namespace Go.Proofs.YtpgkmbakohfpkaaGreat
open Go.RowKit Go.Lib

theorem ln_val (n : Int) (h : 3 ≤ n ∧ n ≤ 258) : lnV n = .tuple #[.int .i64 ((257 + lnT n : Nat) : Int), .int .i64 (lenBits (lnT n) : Int), .int .i64 (n - (lenBase (lnT n) : Int)), .bool true] := by
  have h1 : lnOk n = true := by unfold lnOk; rw [decide_eq_true h.1, decide_eq_true h.2]; rfl
  unfold lnV lnS lnX lnE
  rw [h1, if_pos rfl, if_pos rfl, if_pos rfl, Int.natCast_add]
  rfl
theorem ds_val (n : Int) (h : 1 ≤ n ∧ n ≤ 32768) : dsV n = .tuple #[.int .i64 (dsT n : Int), .int .i64 (distBits (dsT n) : Int), .int .i64 (n - (distBase (dsT n) : Int)), .bool true] := by
  have h1 : dsOk n = true := by unfold dsOk; rw [decide_eq_true h.1, decide_eq_true h.2]; rfl
  unfold dsV dsS dsX dsE
  rw [h1, if_pos rfl, if_pos rfl, if_pos rfl]
theorem take_snocT (l : List (Nat × Int × Int)) (k : Nat) (t : Nat × Int × Int) (h : l[k]? = some t) : l.take (k + 1) = l.take k ++ [t] := by
  rw [List.take_add_one, h]
  rfl

set_option maxHeartbeats 4000000 in
theorem qweights_any (l : List (Nat × Int × Int)) (a : Option Addr) (cap : Nat) (W : World) (harg : ArgT W a l) (hr : ∀ t ∈ l, RightT t) (hl : l.length ≤ 2000) :
    Calls Tryz.prog 46 #[.slice a l.length cap] W fun e w' => TwoNew W (litWs l) (distWs l) e w' := by
  have hm1 : ∀ w, (Instr.makeSlice 60 (.int .i64 286) (.int .i64 286)).run Tryz.prog w = _ := make_int 286 (by omega)
  have hm2 : ∀ w, (Instr.makeSlice 60 (.int .i64 30) (.int .i64 30)).run Tryz.prog w = _ := make_int 30 (by omega)
  have HA := hide (TwoRows.made W 286 30 (by omega) (by omega))
  have HB := hide (TwoRows.made' W 286 30 (by omega) (by omega))
  have HARG := hide harg
  have HR := hide hr
  obtain ⟨n, hn⟩ : ∃ n, l.length = n := ⟨_, rfl⟩
  have HN := hide hn
  rw [hn] at hl ⊢
  clear harg hr hn
  go_enter Tryz.func46, Tryz.ntmps46
  go_wp2
  go_region
  case' _ => clear HB; generalize W.heap.size + 1 = P2 at HA ⊢; generalize W.heap.size = P1 at HA ⊢; generalize ((W.alloc (.cells (madeCells #[.int .i64 0] 286) 3)).alloc (.cells (madeCells #[.int .i64 0] 30) 3)).drew = w1 at HA ⊢
  rotate_left
  case' _ => clear HA; have HA := hide HB.out; clear HB; generalize W.heap.size + 1 = P1 at HA ⊢; generalize W.heap.size = P2 at HA ⊢; generalize ((W.alloc (.cells (madeCells #[.int .i64 0] 30) 3)).alloc (.cells (madeCells #[.int .i64 0] 286) 3)).drew = w1 at HA ⊢
  all_goals clear hm1 hm2
  all_goals (
    have hc := HA.out.c1 (j := 256) (z := 0) (by rw [List.length_replicate]) (by rw [List.getElem?_replicate, if_pos (by decide)])
    obtain ⟨hc1, hc2⟩ := hc
    have hc1 : w1.cell? ⟨P1, 256, none⟩ = some (.int .i64 0) := hc1
    have HS := hide (HA.out.set1 256 1)
    rw [← litWs_nil, ← distWs_nil] at HS
    go_wp2
    clear hc1 hc2 HA
    go_loopw [6] (fun c wr => ∃ j : Nat, j ≤ n ∧ c = .int .i64 (j : Nat) ∧ Hid (TwoRows wr W P1 P2 286 30 (litWs (l.take j)) (distWs (l.take j)))) (fun c _ => n - (intOf c).toNat)
    case atStart => exact ⟨0, Nat.zero_le _, rfl, HS⟩
    case round =>
      clear HS
      obtain ⟨j, hj, rfl, HT⟩ := hrel
      by_cases hlt : j < n
      · obtain ⟨⟨b, ln, d⟩, ht⟩ : ∃ r, l[j]? = some r := ⟨_, List.getElem?_eq_getElem (by rw [HN.out]; exact hlt)⟩
        obtain ⟨x, offx, rfl, hx, hcx, hdx, hex⟩ := HARG.out j _ ht
        have BB := hide HT.out.bel
        have _c1 := (BB.out.cell (p := ⟨x, offx + j * 3, none⟩) hx).trans hcx
        have _d1 := (BB.out.cell (p := ⟨x, offx + j * 3 + 1, none⟩) hx).trans hdx
        have _e1 := (BB.out.cell (p := ⟨x, offx + j * 3 + 2, none⟩) hx).trans hex
        dsimp only at _c1 _d1 _e1
        have hrt := HR.out _ (List.mem_of_getElem? ht)
        have hne := HT.out.ne
        have hb8 : b < 256 := hrt.1
        have zj : (j : Int) < n := by omega
        have HTK := hide (take_snocT l j _ ht)
        clear hx hcx hdx hex
        by_cases hm : ln ≤ 0
        · have hs : symT (b, ln, d) = b := by unfold symT; rw [if_pos hm]
          obtain ⟨q1, q2⟩ := HT.out.c1 (litWs_length _) (litWs_get (l.take j) b (by omega))
          have hw := wL_le (l.take j) b
          rw [List.length_take] at hw
          have HS := hide (HT.out.set1 b (wL (l.take j) b + 1))
          have e1 := litWs_snoc (l.take j) (b, ln, d) (by rw [hs]; omega)
          rw [hs] at e1
          rw [← e1, ← distWs_lit (l.take j) (b, ln, d) hm, ← HTK.out] at HS
          generalize wL (l.take j) b = wv at *
          have zb : (b : Int) < 286 := by omega
          have zb2 : (b : Int) ≤ 255 := by omega
          clear e1 hrt ht hs
          go_wp2
          go_roundw
          case rel => exact ⟨j + 1, hlt, by go_num, HS⟩
          case measure => exact meas_oneW j n hlt
        · have hm : 0 < ln := by omega
          obtain ⟨hr1, hr2⟩ := hrt.2 hm
          have hs : symT (b, ln, d) = 257 + lnT ln := by unfold symT; rw [if_neg (by dsimp only; omega)]
          have hs2 : farT (b, ln, d) = dsT d := rfl
          have hk := lnT_le ln
          have hk2 := dsT_le d
          obtain ⟨q1, q2⟩ := HT.out.c1 (litWs_length _) (litWs_get (l.take j) (257 + lnT ln) (by omega))
          obtain ⟨q3, q4⟩ := HT.out.c2 (distWs_length _) (distWs_get (l.take j) (dsT d) (by omega))
          have hw := wL_le (l.take j) (257 + lnT ln)
          have hw2 := wD_le (l.take j) (dsT d)
          rw [List.length_take] at hw hw2
          have HS := hide ((HT.out.set1 (257 + lnT ln) (wL (l.take j) (257 + lnT ln) + 1)).set2 (dsT d) (wD (l.take j) (dsT d) + 1))
          have e1 := litWs_snoc (l.take j) (b, ln, d) (by rw [hs]; omega)
          have e2 := distWs_mat (l.take j) (b, ln, d) hm
          rw [hs] at e1
          rw [hs2] at e2
          rw [← e1, ← e2, ← HTK.out] at HS
          have HC1 := hide (qlen_any ln)
          have HC2 := hide (qdist_any d)
          rw [ln_val ln hr1] at HC1
          rw [ds_val d hr2] at HC2
          clear e1 e2 hrt ht hs hs2 hr1 hr2
          generalize wL (l.take j) (257 + lnT ln) = wv at *
          generalize wD (l.take j) (dsT d) = wv2 at *
          generalize lenBits (lnT ln) = x1 at *
          generalize ln - (lenBase (lnT ln) : Int) = x2 at *
          generalize distBits (dsT d) = x3 at *
          generalize d - (distBase (dsT d) : Int) = x4 at *
          generalize lnT ln = kk at *
          generalize dsT d = kd at *
          obtain ⟨K, hK⟩ : ∃ K, 257 + kk = K := ⟨_, rfl⟩
          rw [hK] at q1 q2 HS HC1
          have hK2 : K < 286 := by omega
          have zK : (K : Int) < 286 := by omega
          have zk : (kd : Int) < 30 := by omega
          have zm : ¬ ln ≤ 0 := by omega
          clear hK
          go_wp2_with fail
          refine (HC1.out _).mono ?_
          rintro e w2 ⟨rfl, rfl⟩
          go_wp2_with fail
          refine (HC2.out _).mono ?_
          rintro e w2 ⟨rfl, rfl⟩
          go_wp2
          go_roundw
          case rel => exact ⟨j + 1, hlt, by go_num, HS⟩
          case measure => exact meas_oneW j n hlt
      · have hj2 : j = n := by omega
        subst hj2
        have hz : ¬ (j : Int) < (j : Int) := by omega
        have HD := hide (HT.out.done (litWs_length _) (distWs_length _))
        rw [← HN.out, List.take_length] at HD
        go_wp2
        go_ret2
        exact HD.out)

set_option maxHeartbeats 4000000 in
theorem qcut_any (l : List Nat) (a : Option Addr) (cap least : Nat) (W : World) (harg : ArgN W a l) (hl : l.length ≤ 2000) (hle : least ≤ l.length) (h1 : 1 ≤ least) (hcap : l.length ≤ cap) (hv : ∀ x ∈ l, x ≤ 1000) :
    Calls Tryz.prog 48 #[.slice a l.length cap, .int .i64 (least : Int)] W fun e w' => (∃ c, e = .returned (.slice a (cutL l least).length c)) ∧ w' = W := by
  have HARG := hide harg
  have HV := hide hv
  obtain ⟨n, hn⟩ : ∃ n, l.length = n := ⟨_, rfl⟩
  have HN := hide hn
  have HCL := hide (cutL_length l least)
  rw [hn] at hl hle hcap HCL ⊢
  clear harg hn hv
  go_enter Tryz.func48, Tryz.ntmps48
  go_wp2
  go_loop [0] (fun v => ∃ m : Nat, least ≤ m ∧ m ≤ n ∧ Hid (cutN l least m = cutN l least n) ∧ v = .slice a m cap) (fun v => match v with | .slice _ m _ => m | _ => 0)
  case atStart => exact ⟨n, hle, Nat.le_refl _, rfl, rfl⟩
  case round =>
    obtain ⟨m, hm1, hm2, HM, rfl⟩ := hrel
    obtain ⟨k, rfl⟩ : ∃ k, m = k + 1 := ⟨m - 1, by omega⟩
    obtain ⟨z, hz⟩ : ∃ z, l[k]? = some z := ⟨_, List.getElem?_eq_getElem (by rw [HN.out]; omega)⟩
    have hgd : l.getD k 0 = z := by rw [List.getD_eq_getElem?_getD, hz]; rfl
    have hz9 := HV.out z (List.mem_of_getElem? hz)
    obtain ⟨x, offx, rfl, hx, hcx⟩ := HARG.out k _ hz
    clear hx
    by_cases hlt : least < k + 1
    · have zl : (least : Int) < (k : Int) + 1 := by omega
      by_cases h0 : z = 0
      · subst h0
        have HST := hide (cutN_step l least k hlt hgd)
        have hcx : W.cell? ⟨x, offx + k, none⟩ = some (.int .i64 0) := hcx
        have hk1 : 1 ≤ k := by omega
        clear hgd hz
        go_wp2
        go_round
        case rel => exact ⟨k, by omega, by omega, hide (HST.out.symm.trans HM.out), rfl⟩
        case measure => exact Nat.lt_succ_self k
      · have HST := hide (cutN_stop l least (k + 1) (fun g => h0 (by rw [Nat.add_sub_cancel, hgd] at g; exact g.2)))
        have hzb : ((z : Int) == 0) = false := by simp; omega
        clear hgd hz
        go_wp2
        go_ret
        refine ⟨⟨cap, ?_⟩, rfl⟩
        rw [HCL.out, ← HM.out, HST.out]
        rfl
    · have HST := hide (cutN_stop l least (k + 1) (fun g => hlt g.1))
      have zl : ¬ (least : Int) < (k : Int) + 1 := by omega
      clear hgd hz
      go_wp2
      go_ret
      refine ⟨⟨cap, ?_⟩, rfl⟩
      rw [HCL.out, ← HM.out, HST.out]
      rfl

theorem ArgN.take {w : World} {a : Option Addr} {l : List Nat} (h : ArgN w a l) (k : Nat) : ArgN w a (l.take k) := by
  intro i x hx
  rw [List.getElem?_take] at hx
  split at hx
  · exact h i x hx
  · cases hx

/-- A dynamic block's lengths. -/
def ownLit (l : List (Nat × Int × Int)) : List Nat := cutL (lens (litWs l)) 257
def ownDist (l : List (Nat × Int × Int)) : List Nat := cutL (lens (distWs l)) 1

theorem nat_back (l : List Nat) : (l.map fun (x : Nat) => (x : Int)).map Int.toNat = l := by
  rw [List.map_map]
  exact List.map_id'' (fun x => by simp) l
theorem goodW_nat (l : List Nat) (m : Nat) (h1 : 1 ≤ m) (h2 : m ≤ 15) (hl : l.length ≤ 512) (hx : ∀ x ∈ l, x ≤ 1000000) (hc : l.length ≤ 2 ^ m) : GoodW (l.map fun (x : Nat) => (x : Int)) (m : Int) := by
  refine ⟨by omega, by omega, by rw [List.length_map]; exact hl, ?_, ?_⟩
  · intro x hm
    obtain ⟨y, hy, rfl⟩ := List.mem_map.1 hm
    have := hx y hy
    omega
  · rw [nat_back, Int.toNat_natCast]
    exact Nat.le_trans (cntL_le l) hc

theorem litWs_mem (l : List (Nat × Int × Int)) (h : l.length ≤ 2000) : ∀ x ∈ litWs l, x ≤ 1000000 := by
  intro x hx
  obtain ⟨s, _, rfl⟩ := List.mem_map.1 hx
  have := wL_le l s
  omega
theorem distWs_mem (l : List (Nat × Int × Int)) (h : l.length ≤ 2000) : ∀ x ∈ distWs l, x ≤ 1000000 := by
  intro x hx
  obtain ⟨s, _, rfl⟩ := List.mem_map.1 hx
  have := wD_le l s
  omega
/-- What Lengths gives of weights that are few. -/
theorem lens_res {W w' : World} {ws : List Nat} {r : Value} (h : LenRes W (ws.map fun (x : Nat) => (x : Int)) 15 r w') (hs : ws.sum < 2584) (hl : ws.length ≤ 512) (hx : ∀ x ∈ ws, x ≤ 1000000) :
    ∃ g c, r = .tuple #[.slice g ws.length c, .int .i64 0] ∧ w'.ownsRow W.heap.size 3 1 (.slice g ws.length c) ws.length (natCs (lens ws)) := by
  have hg : GoodW (ws.map fun (x : Nat) => (x : Int)) 15 := goodW_nat ws 15 (by omega) (by omega) hl hx (by omega)
  rcases h with ⟨h1, _⟩ | ⟨_, v, out, rfl, h2, h3⟩
  · exact absurd hg h1
  · rw [nat_back] at h2
    have h2 : LimTo ws 15 out := h2
    rw [lim_lens hs h2, List.length_map] at h3
    rcases len_form h3 with ⟨e1, e2⟩ | ⟨g, c, e1⟩
    · rw [e1, ← e2] at h3 ⊢
      exact ⟨none, 0, by rw [e2], by rw [e2] at h3 ⊢; exact h3⟩
    · rw [e1] at h3 ⊢
      exact ⟨_, c, rfl, h3⟩
theorem lens_short (ws : List Nat) (h : ws.sum < 2584) : ∀ x ∈ lens ws, x ≤ 1000 := by
  intro x hx
  obtain ⟨s, _, rfl⟩ := List.mem_map.1 hx
  have := lens_fib ws h s
  omega
theorem own_new {w : World} {B n c : Nat} {a : Option Addr} {e : TypeId} {size : Nat} {xs : List Value} (h : w.ownsRow B e size (.slice a n c) n xs) : ∀ b off, a = some ⟨b, off, none⟩ → B ≤ b := by
  intro b off e1
  subst e1
  exact (h.lt b rfl).1
theorem own_capA {w : World} {B n c : Nat} {a : Option Addr} {e : TypeId} {size : Nat} {xs : List Value} (h : w.ownsRow B e size (.slice a n c) n xs) : n ≤ c ∧ (a = none → c = 0) := by
  rcases h.2 with ⟨e1, e2⟩ | ⟨g, cap, cur, e1, _, _, hn, _⟩
  · injection e1 with e3 e4 e5
    exact ⟨by omega, fun _ => e5⟩
  · injection e1 with e3 e4 e5
    subst e3 e5
    exact ⟨hn, fun e => by cases e⟩

set_option maxHeartbeats 4000000 in
theorem qown_any (l : List (Nat × Int × Int)) (a : Option Addr) (cap : Nat) (W : World) (harg : ArgT W a l) (hr : ∀ t ∈ l, RightT t) (hl : l.length ≤ 2000) :
    Calls Tryz.prog 32 #[.slice a l.length cap] W fun e w' => TwoNew W (ownLit l) (ownDist l) e w' := by
  have HW := hide (qweights_any l a cap W harg hr hl)
  have hs1 := litWs_sum l
  have hs2 := distWs_sum l
  have HS1 := hide (show (litWs l).sum < 2584 by omega)
  have HS2 := hide (show (distWs l).sum < 2584 by omega)
  have HM1 := hide (litWs_mem l hl)
  have HM2 := hide (distWs_mem l hl)
  clear harg hr hl hs1 hs2
  go_enter Tryz.func32, Tryz.ntmps32
  go_wp2_with fail
  refine HW.out.mono ?_
  rintro e w1 ⟨a1, c1, b1, d1, rfl, hA, hB, hn1, hn2, hb, _, _⟩
  have HA := hide hA
  have HB := hide hB
  have HBE := hide hb
  have HL1 := hide (qlengths_any _ 15 a1 c1 w1 hA.toZ hn1)
  rw [List.length_map] at HL1
  have HN2 := hide hn2
  rw [litWs_length] at HL1
  clear hA hB hb hn1 hn2
  simp only [litWs_length, distWs_length]
  go_wp2_with fail
  refine HL1.out.mono ?_
  rintro e w2 ⟨r, rfl, hres, hb⟩
  obtain ⟨g1, k1, rfl, ho1⟩ := lens_res hres HS1.out (by rw [litWs_length]; omega) HM1.out
  rw [litWs_length] at ho1 ⊢
  have HO1 := hide ho1
  have HB2 := hide hb
  have HL2 := hide (qlengths_any _ 15 b1 d1 w2 (HB.out.below hb (Nat.le_refl _)).toZ HN2.out)
  rw [List.length_map, distWs_length] at HL2
  clear hres hb ho1
  go_wp2_with fail
  refine HL2.out.mono ?_
  rintro e w3 ⟨r, rfl, hres, hb⟩
  obtain ⟨g2, k2, rfl, ho2⟩ := lens_res hres HS2.out (by rw [distWs_length]; omega) HM2.out
  rw [distWs_length] at ho2 ⊢
  have HO2 := hide ho2
  have HO3 := hide (own_below HO1.out hb (Nat.le_refl _))
  have HB3 := hide hb
  have HC1 := hide (qcut_any (lens (litWs l)) g1 k1 257 w3 (own_arg HO3.out (by rw [lens_length, litWs_length])) (by rw [lens_length, litWs_length]; omega) (by rw [lens_length, litWs_length]; omega) (by omega) (by rw [lens_length, litWs_length]; exact (own_capA HO3.out).1) (lens_short _ HS1.out))
  have HC2 := hide (qcut_any (lens (distWs l)) g2 k2 1 w3 (own_arg HO2.out (by rw [lens_length, distWs_length])) (by rw [lens_length, distWs_length]; omega) (by rw [lens_length, distWs_length]; omega) (by omega) (by rw [lens_length, distWs_length]; exact (own_capA HO2.out).1) (lens_short _ HS2.out))
  rw [lens_length, litWs_length] at HC1
  rw [lens_length, distWs_length] at HC2
  clear hres hb ho2
  go_wp2_with fail
  refine HC1.out.mono ?_
  rintro e w4 ⟨⟨c5, rfl⟩, rfl⟩
  go_wp2_with fail
  refine HC2.out.mono ?_
  rintro e w4 ⟨⟨c6, rfl⟩, rfl⟩
  go_wp2
  go_ret2
  have n1 : g1 ≠ none := fun e => by
    obtain ⟨g, c, h⟩ := own_slice HO3.out (by omega)
    rw [e] at h
    cases h
  have n2 : g2 ≠ none := fun e => by
    obtain ⟨g, c, h⟩ := own_slice HO2.out (by omega)
    rw [e] at h
    cases h
  have z1 := HBE.out.size
  have z2 := HB2.out.size
  refine ⟨g1, c5, g2, c6, rfl, (own_arg HO3.out (by rw [lens_length, litWs_length])).take _, (own_arg HO2.out (by rw [lens_length, distWs_length])).take _, fun e => absurd e n1, fun e => absurd e n2, HBE.out.trans ((HB2.out.mono z1).trans (HB3.out.mono (Nat.le_trans z1 z2))), ?_, ?_⟩
  · intro b off e
    have := own_new HO3.out b off e
    omega
  · intro b off e
    have := own_new HO2.out b off e
    omega

end Go.Proofs.YtpgkmbakohfpkaaGreat
