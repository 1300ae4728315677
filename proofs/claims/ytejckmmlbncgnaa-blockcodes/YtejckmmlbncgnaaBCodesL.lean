/- BlockCodes, the walk: a dynamic block's lengths make codes in which all that stands has a code. -/
import Derived.Test.YtejckmmlbncgnaaBAwake
import Derived.Test.YtejckmmlbncgnaaBOpen
import Derived.Test.YtejckmmlbncgnaaKB
namespace Go.Proofs.Ytejckmmlbncgnaa
open Go.RowKit Go.Lib

theorem chk_ok {ls : List Nat} (h : MakesC ls) : chkI (ls.map fun (x : Nat) => (x : Int)) = 0 := by
  unfold chkI
  rw [if_pos ((goodB_iff _).2 ⟨fun x hx => by
    obtain ⟨y, hy, rfl⟩ := List.mem_map.1 hx
    have := h.each y hy
    omega, by rw [nat_back]; exact h⟩)]
theorem lit_has (l : List (Nat × Int × Int)) (hl : l.length ≤ 2000) (i : Nat) (hi : i < 286) : (i < (ownLit l).length → (0 < (ownLit l).getD i 0 ↔ 0 < wL l i)) ∧ (¬ i < (ownLit l).length → wL l i = 0) := by
  have h1 := lit_stands l hl i hi
  have h2 : (ownLit l).getD i 0 = (lens (litWs l)).getD i 0 := cutL_get _ _ _
  constructor
  · intro _
    rw [h2, ← h1]
    omega
  · intro h
    refine Classical.byContradiction fun hn => h (cut_has _ _ _ (h1.2 (by omega)))
theorem dist_has (l : List (Nat × Int × Int)) (hl : l.length ≤ 2000) (i : Nat) (hi : i < 30) : (i < (ownDist l).length → (0 < (ownDist l).getD i 0 ↔ 0 < wD l i)) ∧ (¬ i < (ownDist l).length → wD l i = 0) := by
  have h1 := dist_stands l hl i hi
  have h2 : (ownDist l).getD i 0 = (lens (distWs l)).getD i 0 := cutL_get _ _ _
  constructor
  · intro _
    rw [h2, ← h1]
    omega
  · intro h
    refine Classical.byContradiction fun hn => h (cut_has _ _ _ (h1.2 (by omega)))

set_option maxRecDepth 20000 in
set_option maxHeartbeats 8000000 in
theorem codes_small (C : BSpec) (l : List (Nat × Int × Int)) (a : Option Addr) (cap : Nat) (W : World) (harg : ArgT W a l) (hnil : a = none → cap = 0) (hb : ∀ t ∈ l, t.1 < 256) (hl9 : l.length ≤ 9223372036854775807) :
    Calls Try.prog 5 #[.slice a l.length cap] W fun e w' => e = .returned (.bool true) ∧ Below W.heap.size W w' := by
  have HC := hide C
  have HA := hide harg
  have HRT := hide (right_any l a cap _ harg hl9)
  have HNIL := hide hnil
  obtain ⟨n, hn⟩ : ∃ n, l.length = n := ⟨_, rfl⟩
  have HN := hide hn
  rw [hn] at HRT ⊢
  have HHB := hide hb
  obtain ⟨R, hR⟩ : ∃ R, rightB l = R := ⟨_, rfl⟩
  have HRB := hide hR
  rw [hR] at HRT
  clear C harg hn hl9 hb hR hnil
  go_enter Try.func5, Try.ntmps5
  go_wp2_with fail
  refine HRT.out.mono ?_
  rintro e w0 ⟨rfl, rfl⟩
  cases R with
  | false =>
    go_wp2_with fail
    refine (awake9_any HC.out _).mono ?_
    rintro e w9 ⟨rfl, b9⟩
    have B9 := hide b9
    clear b9
    go_wp2
    go_ret
    exact ⟨rfl, B9.out⟩
  | true =>
    obtain ⟨hr, hl200⟩ := right_all HRB.out HHB.out
    have HR := hide hr
    have HL2 := hide (show l.length ≤ 2000 by omega)
    have HOK := hide (own_ok l hr (by omega))
    have HW1 := hide (fun w (h : ArgT w a l) => HC.out.weights l a cap w h HNIL.out HR.out HL2.out)
    have HO1 := hide (fun w (h : ArgT w a l) => HC.out.own l a cap w h HNIL.out HR.out HL2.out)
    simp only [HN.out] at HW1 HO1
    clear hr hl200
    go_wp2_with fail
    refine (HO1.out _ HA.out).mono ?_
    rintro e w1 ⟨p1, c1, p2, c2, rfl, k1, k2, _, _, b1⟩
    have B1 := hide b1
    have HA1 := hide (HA.out.below b1 (Nat.le_refl _))
    have K1 := hide k1
    have K2 := hide k2
    have hol := ownLit_len l
    have hod := ownDist_len l
    obtain ⟨na, hna⟩ : ∃ na, (ownLit l).length = na := ⟨_, rfl⟩
    obtain ⟨nb, hnb⟩ : ∃ nb, (ownDist l).length = nb := ⟨_, rfl⟩
    have HNA := hide hna
    have HNB := hide hnb
    simp only [hna, hnb] at hol hod ⊢
    clear b1 k1 k2 hna hnb
    go_wp2_with fail
    refine (HW1.out _ HA1.out).mono ?_
    rintro e w2 ⟨p3, c3, p4, c4, rfl, k3, k4, _, _, b2⟩
    have B2 := hide (B1.out.trans (b2.mono B1.out.size))
    have K3 := hide k3
    have K4 := hide k4
    have K1b := hide (K1.out.below b2 (Nat.le_refl _))
    have K2b := hide (K2.out.below b2 (Nat.le_refl _))
    clear b2 k3 k4 K1 K2
    simp only [litWs_length, distWs_length]
    have Q1 := hide (check_any _ p1 c1 w2 K1b.out.toZ (by rw [List.length_map, HNA.out]; omega))
    rw [List.length_map, HNA.out, chk_ok HOK.out.ma] at Q1
    go_wp2_with fail
    refine Q1.out.mono ?_
    rintro e w3 ⟨rfl, S3⟩
    have Q2 := hide (check_any _ p2 c2 w3 (K2b.out.below S3.out (Nat.le_refl _)).toZ (by rw [List.length_map, HNB.out]; omega))
    rw [List.length_map, HNB.out, chk_ok HOK.out.mb] at Q2
    have zc1 : ¬ (na : Int) < 257 := by omega
    have zc2 : ¬ (286 : Int) < (na : Int) := by omega
    have zc3 : ¬ (nb : Int) < 1 := by omega
    have zc4 : ¬ (30 : Int) < (nb : Int) := by omega
    go_wp2_with fail
    refine Q2.out.mono ?_
    rintro e w4 ⟨rfl, T4⟩
    have S4 := hide (S3.out.trans (T4.out.mono S3.out.size))
    clear Q1 Q2
    go_wp2
    obtain ⟨q1, o1, rfl, hq1, _⟩ := K1b.out 0 _ (getD_some (ownLit l) 0 (by rw [HNA.out]; omega))
    obtain ⟨q2, o2, rfl, hq2, _⟩ := K2b.out 0 _ (getD_some (ownDist l) 0 (by rw [HNB.out]; omega))
    obtain ⟨q3, o3, rfl, hq3, _⟩ := K3.out 0 _ (litWs_get l 0 (by omega))
    obtain ⟨q4, o4, rfl, hq4, _⟩ := K4.out 0 _ (distWs_get l 0 (by omega))
    have C1 := hide (show ∀ (w : World), Below w2.heap.size w2 w → ∀ k, k < na → w.cell? ⟨q1, o1 + k, none⟩ = some (.int .i64 (((ownLit l).getD k 0 : Nat) : Int)) from fun w h k hk => by
      obtain ⟨b', o', e1, h2, h3⟩ := K1b.out k _ (getD_some (ownLit l) k (by rw [HNA.out]; exact hk))
      injection e1 with e1
      injection e1 with e1 e2
      subst e1 e2
      rw [h.cell (p := ⟨q1, o1 + k, none⟩) h2]
      exact h3)
    have C2 := hide (show ∀ (w : World), Below w2.heap.size w2 w → ∀ k, k < nb → w.cell? ⟨q2, o2 + k, none⟩ = some (.int .i64 (((ownDist l).getD k 0 : Nat) : Int)) from fun w h k hk => by
      obtain ⟨b', o', e1, h2, h3⟩ := K2b.out k _ (getD_some (ownDist l) k (by rw [HNB.out]; exact hk))
      injection e1 with e1
      injection e1 with e1 e2
      subst e1 e2
      rw [h.cell (p := ⟨q2, o2 + k, none⟩) h2]
      exact h3)
    have C3 := hide (show ∀ (w : World), Below w2.heap.size w2 w → ∀ k, k < 286 → w.cell? ⟨q3, o3 + k, none⟩ = some (.int .i64 ((wL l k : Nat) : Int)) from fun w h k hk => by
      obtain ⟨b', o', e1, h2, h3⟩ := K3.out k _ (litWs_get l k hk)
      injection e1 with e1
      injection e1 with e1 e2
      subst e1 e2
      rw [h.cell (p := ⟨q3, o3 + k, none⟩) h2]
      exact h3)
    have C4 := hide (show ∀ (w : World), Below w2.heap.size w2 w → ∀ k, k < 30 → w.cell? ⟨q4, o4 + k, none⟩ = some (.int .i64 ((wD l k : Nat) : Int)) from fun w h k hk => by
      obtain ⟨b', o', e1, h2, h3⟩ := K4.out k _ (distWs_get l k hk)
      injection e1 with e1
      injection e1 with e1 e2
      subst e1 e2
      rw [h.cell (p := ⟨q4, o4 + k, none⟩) h2]
      exact h3)
    clear hq1 hq2 hq3 hq4 HA HA1 HW1 HO1 K1b K2b K3 K4 HR HHB HRB HRT HNIL S3 T4 B1 zc1 zc2 zc3 zc4
    go_loopw [7] (fun c wr => ∃ j : Nat, j ≤ 286 ∧ c = .int .i64 (j : Nat) ∧ Hid (Below w2.heap.size w2 wr)) (fun c _ => 286 - (intOf c).toNat)
    case atStart => exact ⟨0, by omega, rfl, S4⟩
    case round =>
      obtain ⟨j, hj, rfl, HBJ⟩ := hrel
      by_cases hlt : j < 286
      · have zj : (j : Int) < 286 := by omega
        have _x := C3.out _ HBJ.out j hlt
        have hh := lit_has l HL2.out j hlt
        have hwl := wL_le l j
        have hwl2 := HL2.out
        rw [HNA.out] at hh
        by_cases hja : j < na
        · have _y := C1.out _ HBJ.out j hja
          have hiff := hh.1 hja
          have hg := getD_le HOK.out.ma.each j
          have zja : (j : Int) < (na : Int) := by omega
          have dja : decide ((j : Int) < (na : Int)) = true := decide_eq_true zja
          have dja2 : decide (j < na) = true := decide_eq_true hja
          generalize (ownLit l).getD j 0 = av at _y hiff hg
          generalize wL l j = bv at _x hiff hwl
          by_cases hv : 0 < av
          · have hv2 := hiff.1 hv
            have d1 : decide ((0 : Int) < (av : Int)) = true := decide_eq_true (by omega)
            have d2 : decide ((0 : Int) < (bv : Int)) = true := decide_eq_true (by omega)
            have d3 : decide (0 < av) = true := decide_eq_true hv
            have d4 : decide (0 < bv) = true := decide_eq_true hv2
            clear hiff hh hwl hwl2
            go_wp2_with fail
            go_quiet (fail)
            go_wp2
            go_roundw
            case rel => exact ⟨j + 1, hlt, by go_num, hide (below_drewN HBJ.out _)⟩
            case measure => exact meas_oneW j 286 hlt
          · have hv2 : ¬ 0 < bv := fun h => hv (hiff.2 h)
            have d1 : decide ((0 : Int) < (av : Int)) = false := decide_eq_false (by omega)
            have d2 : decide ((0 : Int) < (bv : Int)) = false := decide_eq_false (by omega)
            have d3 : decide (0 < av) = false := decide_eq_false hv
            have d4 : decide (0 < bv) = false := decide_eq_false hv2
            clear hiff hh hwl hwl2
            go_wp2_with fail
            go_quiet (fail)
            go_wp2
            go_roundw
            case rel => exact ⟨j + 1, hlt, by go_num, hide (below_drewN HBJ.out _)⟩
            case measure => exact meas_oneW j 286 hlt
        · have hz := hh.2 hja
          rw [hz] at _x
          have _x : wr.cell? ⟨q3, o3 + j, none⟩ = some (.int .i64 0) := _x
          have zja : ¬ (j : Int) < (na : Int) := by omega
          have dja : decide ((j : Int) < (na : Int)) = false := decide_eq_false zja
          have dja2 : decide (j < na) = false := decide_eq_false hja
          clear hh hwl hwl2 hz
          go_wp2_with fail
          go_quiet (fail)
          go_wp2
          go_roundw
          case rel => exact ⟨j + 1, hlt, by go_num, hide (below_drewN HBJ.out _)⟩
          case measure => exact meas_oneW j 286 hlt
      · have hj2 : j = 286 := by omega
        subst hj2
        go_wp2
        rename World => wm
        go_loopw [8] (fun c wr => ∃ j : Nat, j ≤ 30 ∧ c = .int .i64 (j : Nat) ∧ Hid (Below w2.heap.size w2 wr)) (fun c _ => 30 - (intOf c).toNat)
        case atStart => exact ⟨0, by omega, rfl, HBJ⟩
        case round =>
          clear HBJ
          obtain ⟨j, hj, rfl, HBJ⟩ := hrel
          by_cases hlt : j < 30
          · have zj : (j : Int) < 30 := by omega
            have _x := C4.out _ HBJ.out j hlt
            have hh := dist_has l HL2.out j hlt
            have hwl := wD_le l j
            have hwl2 := HL2.out
            rw [HNB.out] at hh
            by_cases hja : j < nb
            · have _y := C2.out _ HBJ.out j hja
              have hiff := hh.1 hja
              have hg := getD_le HOK.out.mb.each j
              have zja : (j : Int) < (nb : Int) := by omega
              have dja : decide ((j : Int) < (nb : Int)) = true := decide_eq_true zja
              have dja2 : decide (j < nb) = true := decide_eq_true hja
              generalize (ownDist l).getD j 0 = av at _y hiff hg
              generalize wD l j = bv at _x hiff hwl
              by_cases hv : 0 < av
              · have hv2 := hiff.1 hv
                have d1 : decide ((0 : Int) < (av : Int)) = true := decide_eq_true (by omega)
                have d2 : decide ((0 : Int) < (bv : Int)) = true := decide_eq_true (by omega)
                have d3 : decide (0 < av) = true := decide_eq_true hv
                have d4 : decide (0 < bv) = true := decide_eq_true hv2
                clear hiff hh hwl hwl2
                go_wp2_with fail
                go_quiet (fail)
                go_wp2
                go_roundw
                case rel => exact ⟨j + 1, hlt, by go_num, hide (below_drewN HBJ.out _)⟩
                case measure => exact meas_oneW j 30 hlt
              · have hv2 : ¬ 0 < bv := fun h => hv (hiff.2 h)
                have d1 : decide ((0 : Int) < (av : Int)) = false := decide_eq_false (by omega)
                have d2 : decide ((0 : Int) < (bv : Int)) = false := decide_eq_false (by omega)
                have d3 : decide (0 < av) = false := decide_eq_false hv
                have d4 : decide (0 < bv) = false := decide_eq_false hv2
                clear hiff hh hwl hwl2
                go_wp2_with fail
                go_quiet (fail)
                go_wp2
                go_roundw
                case rel => exact ⟨j + 1, hlt, by go_num, hide (below_drewN HBJ.out _)⟩
                case measure => exact meas_oneW j 30 hlt
            · have hz := hh.2 hja
              rw [hz] at _x
              have _x : wr.cell? ⟨q4, o4 + j, none⟩ = some (.int .i64 0) := _x
              have zja : ¬ (j : Int) < (nb : Int) := by omega
              have dja : decide ((j : Int) < (nb : Int)) = false := decide_eq_false zja
              have dja2 : decide (j < nb) = false := decide_eq_false hja
              clear hh hwl hwl2 hz
              go_wp2_with fail
              go_quiet (fail)
              go_wp2
              go_roundw
              case rel => first | exact ⟨j + 1, hlt, by go_num, hide (below_drewN HBJ.out _)⟩ | ((repeat apply Exists.intro); exact ⟨⟨j + 1, hlt, by go_num, hide (below_drewN HBJ.out _)⟩, rfl⟩)
              case measure => exact meas_oneW j 30 hlt
          · have hj2 : j = 30 := by omega
            subst hj2
            have h256 := (lit_has l HL2.out 256 (by omega)).1 (by rw [HNA.out]; omega)
            have hp256 : 0 < (ownLit l).getD 256 0 := h256.2 (by unfold wL; simp; omega)
            have hg := getD_le HOK.out.ma.each 256
            clear h256
            go_wp2_with fail
            refine (HC.out.plain wr).mono ?_
            rintro e w5 ⟨p5, c5, p6, c6, rfl, k5, k6, _, _, b5⟩
            have S5 := hide (HBJ.out.trans (b5.mono HBJ.out.size))
            have K5 := hide k5
            have K6 := hide k6
            clear b5 k5 k6
            simp only [plainL_length, plainD_length]
            go_wp2_with fail
            refine (awake9_any HC.out w5).mono ?_
            rintro e w6 ⟨rfl, b6⟩
            have S6 := hide (S5.out.trans (b6.mono S5.out.size))
            have K5b := hide (K5.out.below b6 (Nat.le_refl _))
            have K6b := hide (K6.out.below b6 (Nat.le_refl _))
            have _y := C1.out _ S6.out 256 (by omega)
            generalize (ownLit l).getD 256 0 = av at _y hp256 hg
            have d1 : decide ((0 : Int) < (av : Int)) = true := decide_eq_true (by omega)
            have zna : (256 : Int) < (na : Int) := by omega
            have Q1 := hide (check_any _ p5 c5 w6 K5b.out.toZ (by rw [List.length_map, plainL_length]; omega))
            rw [List.length_map, plainL_length, chk_ok makes_plainL] at Q1
            clear b6 K5 K6
            go_wp2_with fail
            refine Q1.out.mono ?_
            rintro e w7 ⟨rfl, T7⟩
            have S7 := hide (S6.out.trans (T7.out.mono S6.out.size))
            have Q2 := hide (check_any _ p6 c6 w7 (K6b.out.below T7.out (Nat.le_refl _)).toZ (by rw [List.length_map, plainD_length]; omega))
            rw [List.length_map, plainD_length, chk_ok makes_plainD] at Q2
            go_wp2_with fail
            refine Q2.out.mono ?_
            rintro e w8 ⟨rfl, T8⟩
            have S8 := hide (S7.out.trans (T8.out.mono S7.out.size))
            have BF := hide (B2.out.trans (S8.out.mono B2.out.size))
            go_wp2
            go_ret
            exact ⟨rfl, BF.out⟩

set_option maxRecDepth 20000 in
theorem codes_law (C : BSpec) (w : World) (v0 : Value) {b0 : Nat} {H : Type} {enc : TypeId × Value → H} {d0 : DataW H} {p0 : List MemPlace}
    (o0 : Value.okWide Try.prog w .any b0 22 v0) (k0 : DataW.Trod enc Try.prog w 0 (fun _ => true) true 22 v0 d0 p0) :
    Calls Try.prog 5 #[v0] w fun e w' => e = .returned (.bool true) ∧ Below w.heap.size w w' := by
  obtain ⟨a, cap, l, rfl, ha, hl, hn, hb⟩ := open_argT9 o0 k0
  exact codes_small C l a cap w ha hn hb hl

end Go.Proofs.Ytejckmmlbncgnaa
