/- Contracts of the code of layer 9: Weights, Own. -/
import Derived.Test.YtpgkmbakohfpkaaBCodeA
namespace Go.Proofs.Ytpgkmbakohfpkaa
open Go.RowKit Go.Lib

/-- How often, without the end. -/
def litW0 (l : List (Nat × Int × Int)) : List Nat := (List.range 286).map fun s => l.countP (fun t => symT t == s)
theorem litW0_length (l : List (Nat × Int × Int)) : (litW0 l).length = 286 := by simp [litW0]
theorem litW0_get (l : List (Nat × Int × Int)) (i : Nat) (h : i < 286) : (litW0 l)[i]? = some (l.countP (fun t => symT t == i)) := by
  unfold litW0
  rw [List.getElem?_map, List.getElem?_range h]
  rfl
theorem litW0_nil : litW0 [] = List.replicate 286 0 := by decide +kernel
theorem litW0_snoc (l : List (Nat × Int × Int)) (t : Nat × Int × Int) (h : symT t < 286) : litW0 (l ++ [t]) = (litW0 l).set (symT t) (l.countP (fun u => symT u == symT t) + 1) := by
  refine set_map_range (fun s => l.countP (fun u => symT u == s)) (fun s => (l ++ [t]).countP (fun u => symT u == s)) 286 (symT t) _ h ?_ ?_
  · rw [List.countP_append, List.countP_singleton]
    simp
  · intro i hi
    have hb : (symT t == i) = false := by simp; exact fun e => hi e.symm
    rw [List.countP_append, List.countP_singleton, hb]
    simp
theorem litW0_end (l : List (Nat × Int × Int)) : litWs l = (litW0 l).set 256 (l.countP (fun u => symT u == 256) + 1) := by
  refine set_map_range (fun s => l.countP (fun u => symT u == s)) (wL l) 286 256 _ (by omega) ?_ ?_
  · unfold wL
    rw [if_pos rfl, Nat.add_comm]
  · intro i hi
    unfold wL
    rw [if_neg hi, Nat.zero_add]
theorem cnt_le (f : Nat × Int × Int → Bool) (l : List (Nat × Int × Int)) : l.countP f ≤ l.length := List.countP_le_length

set_option maxHeartbeats 8000000 in
theorem weights9 (l : List (Nat × Int × Int)) (a : Option Addr) (cap : Nat) (W : World) (harg : ArgT W a l) (hr : ∀ t ∈ l, RightT t) (hl : l.length ≤ 2000) :
    Calls Try.prog 36 #[.slice a l.length cap] W fun e w' => TwoNew W (litWs l) (distWs l) e w' := by
  have hm1 : ∀ w, (Instr.makeSlice 62 (.int .i64 286) (.int .i64 286)).run Try.prog w = _ := make_int 286 (by omega)
  have hm2 : ∀ w, (Instr.makeSlice 62 (.int .i64 30) (.int .i64 30)).run Try.prog w = _ := make_int 30 (by omega)
  have HA := hide (TwoRows.made W 286 30 (by omega) (by omega))
  have HB := hide (TwoRows.made' W 286 30 (by omega) (by omega))
  rw [← litW0_nil, ← distWs_nil] at HA HB
  have HARG := hide harg
  have HR := hide hr
  obtain ⟨n, hn⟩ : ∃ n, l.length = n := ⟨_, rfl⟩
  have HN := hide hn
  rw [hn] at hl ⊢
  clear harg hr hn
  go_enter Try.func36, Try.ntmps36
  go_wp2
  go_region
  case' _ => clear HB; generalize W.heap.size + 1 = P2 at HA ⊢; generalize W.heap.size = P1 at HA ⊢; generalize ((W.alloc (.cells (madeCells #[.int .i64 0] 286) 3)).alloc (.cells (madeCells #[.int .i64 0] 30) 3)).drew = w1 at HA ⊢
  rotate_left
  case' _ => clear HA; have HA := hide HB.out; clear HB; generalize W.heap.size + 1 = P1 at HA ⊢; generalize W.heap.size = P2 at HA ⊢; generalize ((W.alloc (.cells (madeCells #[.int .i64 0] 30) 3)).alloc (.cells (madeCells #[.int .i64 0] 286) 3)).drew = w1 at HA ⊢
  all_goals clear hm1 hm2
  all_goals (
    have HS := HA
    clear HA
    go_wp2
    go_loopw [16] (fun c wr => ∃ j : Nat, j ≤ n ∧ c = .int .i64 (j : Nat) ∧ Hid (TwoRows wr W P1 P2 286 30 (litW0 (l.take j)) (distWs (l.take j)))) (fun c _ => n - (intOf c).toNat)
    case atStart => exact ⟨0, Nat.zero_le _, rfl, HS⟩
    case round =>
      clear HS
      obtain ⟨j, hj, rfl, HT⟩ := hrel
      by_cases hlt : j < n
      · obtain ⟨⟨b, ln, d⟩, ht⟩ : ∃ r, l[j]? = some r := ⟨_, List.getElem?_eq_getElem (by rw [HN.out]; exact hlt)⟩
        obtain ⟨x, offx, rfl, hx, hcx, hdx, hex⟩ := HARG.out j _ ht
        have BB := hide HT.out.bel
        have _c1 := (BB.out.cell (p := ⟨x, offx + j * 3, none⟩) hx).trans hcx
        have _d1 := (BB.out.cell (p := ⟨x, offx + j * 3 + 1, none⟩) hx).trans hdx
        have _e1 := (BB.out.cell (p := ⟨x, offx + j * 3 + 2, none⟩) hx).trans hex
        dsimp only at _c1 _d1 _e1
        have hrt := HR.out _ (List.mem_of_getElem? ht)
        have hb8 : b < 256 := hrt.1
        have zj : (j : Int) < n := by omega
        have HTK := hide (take_snocT l j _ ht)
        have HP1 := hide (HT.out.o1.lt P1 rfl).2
        have HT1 := hide (HT.out.below ((Below.refl _ _).alloc (Nat.le_refl _) (.cells #[.int .i64 ln, .int .i64 d, .int .u8 (b : Int)] 45)))
        have HTB := hide (show (wr.alloc (.cells #[.int .i64 ln, .int .i64 d, .int .u8 (b : Int)] 45)).heap[wr.heap.size]? = some (.cells #[.int .i64 ln, .int .i64 d, .int .u8 (b : Int)] 45 (0, 0)) by show (wr.heap.push _)[wr.heap.size]? = _; simp)
        clear hx hcx hdx hex
        by_cases hm : ln ≤ 0
        · have hs : symT (b, ln, d) = b := by unfold symT; rw [if_pos hm]
          obtain ⟨q1, q2⟩ := HT1.out.c1 (litW0_length _) (litW0_get (l.take j) b (by omega))
          have hw := cnt_le (fun u => symT u == b) (l.take j)
          rw [List.length_take] at hw
          have HS := hide (HT1.out.set1 b ((l.take j).countP (fun u => symT u == b) + 1))
          have e1 := litW0_snoc (l.take j) (b, ln, d) (by rw [hs]; omega)
          rw [hs] at e1
          rw [← e1, ← distWs_lit (l.take j) (b, ln, d) hm, ← HTK.out] at HS
          generalize (l.take j).countP (fun u => symT u == b) = wv at *
          have zb : (b : Int) < 286 := by omega
          have zb2 : (b : Int) ≤ 255 := by omega
          clear e1 hrt ht hs
          go_wp2
          go_roundw
          case rel => exact ⟨j + 1, hlt, by go_num, HS⟩
          case measure => exact meas_oneW j n hlt
        · have hm : 0 < ln := by omega
          obtain ⟨hr1, hr2⟩ := hrt.2 hm
          have hs : symT (b, ln, d) = 257 + lnT ln := by unfold symT; rw [if_neg (by dsimp only; omega)]
          have hs2 : farT (b, ln, d) = dsT d := rfl
          have hk := lnT_le ln
          have hk2 := dsT_le d
          have HQ1 := hide (fun w' (h : TwoRows w' W P1 P2 286 30 (litW0 (l.take j)) (distWs (l.take j))) => h.c1 (litW0_length _) (litW0_get (l.take j) (257 + lnT ln) (by omega)))
          have HQ2 := hide (fun w' (z : List Nat) (h : TwoRows w' W P1 P2 286 30 z (distWs (l.take j))) => h.c2 (distWs_length _) (distWs_get (l.take j) (dsT d) (by omega)))
          have hw := cnt_le (fun u => symT u == 257 + lnT ln) (l.take j)
          have hw2 := wD_le (l.take j) (dsT d)
          rw [List.length_take] at hw hw2
          have e1 := litW0_snoc (l.take j) (b, ln, d) (by rw [hs]; omega)
          have e2 := distWs_mat (l.take j) (b, ln, d) hm
          rw [hs] at e1
          rw [hs2] at e2
          rw [← HTK.out] at e1 e2
          have HE1 := hide e1
          have HE2 := hide e2
          have HC1 := hide (slen_any ln)
          have HC2 := hide (sdist_any d)
          rw [ln_val ln hr1] at HC1
          rw [ds_val d hr2] at HC2
          clear e1 e2 hrt ht hs hs2 hr1 hr2
          generalize (l.take j).countP (fun u => symT u == 257 + lnT ln) = wv at *
          generalize wD (l.take j) (dsT d) = wv2 at *
          generalize lenBits (lnT ln) = x1 at *
          generalize ln - (lenBase (lnT ln) : Int) = x2 at *
          generalize distBits (dsT d) = x3 at *
          generalize d - (distBase (dsT d) : Int) = x4 at *
          generalize lnT ln = kk at *
          generalize dsT d = kd at *
          obtain ⟨K, hK⟩ : ∃ K, 257 + kk = K := ⟨_, rfl⟩
          rw [hK] at HQ1 HE1 HC1
          have hK2 : K < 286 := by omega
          have zK : (K : Int) < 286 := by omega
          have zk : (kd : Int) < 30 := by omega
          have zm : ¬ ln ≤ 0 := by omega
          clear hK
          go_wp2_with fail
          refine (HC1.out _).mono ?_
          rintro e w2 ⟨rfl, b2⟩
          have HT2 := hide (HT1.out.below b2)
          obtain ⟨q1, q2⟩ := HQ1.out _ HT2.out
          have HT3 := hide (HT2.out.set1 K (wv + 1))
          have HTB2 := hide (show w2.heap[wr.heap.size]? = some (.cells #[.int .i64 ln, .int .i64 d, .int .u8 (b : Int)] 45 (0, 0)) by rw [b2.block _ (Array.getElem?_eq_some_iff.1 HTB.out).1]; exact HTB.out)
          have _t1 : ∀ u, (w2.setCell ⟨P1, K, none⟩ u).cell? ⟨wr.heap.size, 1, none⟩ = some (.int .i64 d) := fun u => by
            have h := HTB2.out
            rw [← Below.heap_setCell w2 ⟨P1, K, none⟩ u wr.heap.size (by have := HP1.out; show wr.heap.size ≠ P1; omega)] at h
            rw [cell_of_row _ _ 1 _ _ (0, 0) h]
            rfl
          clear b2 HT1 HTB
          go_wp2_with fail
          refine (HC2.out _).mono ?_
          rintro e w4 ⟨rfl, b4⟩
          have HT4 := hide (HT3.out.below b4)
          obtain ⟨q3, q4⟩ := HQ2.out _ _ HT4.out
          have HS := hide (HT4.out.set2 kd (wv2 + 1))
          rw [← HE1.out, ← HE2.out] at HS
          clear b4 _t1 q1 q2
          go_wp2
          go_roundw
          case rel => exact ⟨j + 1, hlt, by go_num, HS⟩
          case measure => exact meas_oneW j n hlt
      · have hj2 : j = n := by omega
        subst hj2
        have hz : ¬ (j : Int) < (j : Int) := by omega
        have htk : l.take j = l := by rw [← HN.out]; exact List.take_length
        rw [htk] at HT
        obtain ⟨q1, q2⟩ := HT.out.c1 (litW0_length _) (litW0_get l 256 (by omega))
        have hw := cnt_le (fun u => symT u == 256) l
        rw [HN.out] at hw
        have HD := hide ((HT.out.set1 256 (l.countP (fun u => symT u == 256) + 1)).done (by rw [List.length_set]; exact litW0_length _) (distWs_length _))
        rw [← litW0_end] at HD
        generalize l.countP (fun u => symT u == 256) = wv at *
        clear htk HT
        go_wp2
        go_ret2
        exact HD.out)

set_option maxHeartbeats 4000000 in
theorem fitted9 (l : List (Nat × Int × Int)) (a1 b1 : Option Addr) (c1 d1 : Nat) (W : World) (hA : ArgN W a1 (litWs l)) (hB : ArgN W b1 (distWs l)) (hn1 : a1 = none → c1 = 0) (hn2 : b1 = none → d1 = 0) (hl : l.length ≤ 2000) :
    Calls Try.prog 38 #[.slice a1 286 c1, .slice b1 30 d1] W fun e w' => TwoNew W (ownLit l) (ownDist l) e w' := by
  have hs1 := litWs_sum l
  have hs2 := distWs_sum l
  have HS1 := hide (show (litWs l).sum < 2584 by omega)
  have HS2 := hide (show (distWs l).sum < 2584 by omega)
  have HM1 := hide (litWs_mem l hl)
  have HM2 := hide (distWs_mem l hl)
  have HB := hide hB
  have HL1 := hide (lengths_any _ 15 a1 c1 W hA.toZ hn1)
  rw [List.length_map] at HL1
  have HN2 := hide hn2
  rw [litWs_length] at HL1
  clear hA hB hn1 hn2 hl hs1 hs2
  go_enter Try.func38, Try.ntmps38
  go_wp2_with fail
  refine HL1.out.mono ?_
  rintro e w2 ⟨r, rfl, hres, hb⟩
  obtain ⟨g1, k1, rfl, ho1⟩ := lens_res hres HS1.out (by rw [litWs_length]; omega) HM1.out
  rw [litWs_length] at ho1 ⊢
  have HO1 := hide ho1
  have HB2 := hide hb
  have HL2 := hide (lengths_any _ 15 b1 d1 w2 (HB.out.below hb (Nat.le_refl _)).toZ HN2.out)
  rw [List.length_map, distWs_length] at HL2
  clear hres hb ho1
  go_wp2_with fail
  refine HL2.out.mono ?_
  rintro e w3 ⟨r, rfl, hres, hb⟩
  obtain ⟨g2, k2, rfl, ho2⟩ := lens_res hres HS2.out (by rw [distWs_length]; omega) HM2.out
  rw [distWs_length] at ho2 ⊢
  have HO2 := hide ho2
  have HO3 := hide (own_below HO1.out hb (Nat.le_refl _))
  have HB3 := hide hb
  have HC1 := hide (trimmed9 (lens (litWs l)) g1 k1 257 w3 (own_arg HO3.out (by rw [lens_length, litWs_length])) (by rw [lens_length, litWs_length]; omega) (by rw [lens_length, litWs_length]; omega) (by omega) (by rw [lens_length, litWs_length]; exact (own_capA HO3.out).1) (lens_short _ HS1.out))
  have HC2 := hide (trimmed9 (lens (distWs l)) g2 k2 1 w3 (own_arg HO2.out (by rw [lens_length, distWs_length])) (by rw [lens_length, distWs_length]; omega) (by rw [lens_length, distWs_length]; omega) (by omega) (by rw [lens_length, distWs_length]; exact (own_capA HO2.out).1) (lens_short _ HS2.out))
  rw [lens_length, litWs_length] at HC1
  rw [lens_length, distWs_length] at HC2
  clear hres hb ho2
  go_wp2_with fail
  refine HC1.out.mono ?_
  rintro e w4 ⟨⟨c5, rfl, _⟩, rfl⟩
  go_wp2_with fail
  refine HC2.out.mono ?_
  rintro e w4 ⟨⟨c6, rfl, _⟩, rfl⟩
  go_wp2
  go_ret2
  have n1 : g1 ≠ none := fun e => by
    obtain ⟨g, c, h⟩ := own_slice HO3.out (by omega)
    rw [e] at h
    cases h
  have n2 : g2 ≠ none := fun e => by
    obtain ⟨g, c, h⟩ := own_slice HO2.out (by omega)
    rw [e] at h
    cases h
  have z2 := HB2.out.size
  refine ⟨g1, c5, g2, c6, rfl, (own_arg HO3.out (by rw [lens_length, litWs_length])).take _, (own_arg HO2.out (by rw [lens_length, distWs_length])).take _, fun e => absurd e n1, fun e => absurd e n2, HB2.out.trans (HB3.out.mono z2), ?_, ?_⟩
  · intro b off e
    exact own_new HO3.out b off e
  · intro b off e
    have := own_new HO2.out b off e
    omega

set_option maxHeartbeats 4000000 in
theorem own9 (l : List (Nat × Int × Int)) (a : Option Addr) (cap : Nat) (W : World) (harg : ArgT W a l) (hr : ∀ t ∈ l, RightT t) (hl : l.length ≤ 2000) :
    Calls Try.prog 32 #[.slice a l.length cap] W fun e w' => TwoNew W (ownLit l) (ownDist l) e w' := by
  have HW := hide (weights9 l a cap W harg hr hl)
  have HLL := hide hl
  clear harg hr hl
  go_enter Try.func32, Try.ntmps32
  go_wp2_with fail
  refine HW.out.mono ?_
  rintro e w1 ⟨a1, c1, b1, d1, rfl, hA, hB, hn1, hn2, hb, _, _⟩
  have HF := hide (fitted9 l a1 b1 c1 d1 w1 hA hB hn1 hn2 HLL.out)
  have HBE := hide hb
  simp only [litWs_length, distWs_length]
  clear hA hB hn1 hn2 hb
  go_wp2_with fail
  refine HF.out.mono ?_
  rintro e w2 ⟨a2, c2, b2, d2, rfl, hA, hB, hn1, hn2, hb, hx, hy⟩
  have HD := hide (show TwoNew W (ownLit l) (ownDist l) (.returned (.tuple #[.slice a2 (ownLit l).length c2, .slice b2 (ownDist l).length d2])) w2 from
    ⟨a2, c2, b2, d2, rfl, hA, hB, hn1, hn2, HBE.out.trans (hb.mono HBE.out.size), fun g off e => Nat.le_trans HBE.out.size (hx g off e), fun g off e => Nat.le_trans HBE.out.size (hy g off e)⟩)
  clear hA hB hn1 hn2 hb hx hy
  go_wp2
  go_ret2
  exact HD.out

end Go.Proofs.Ytpgkmbakohfpkaa
