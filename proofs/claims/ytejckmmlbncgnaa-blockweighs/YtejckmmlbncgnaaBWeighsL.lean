/- BlockWeighs, the walk: weights, lengths, sizes and the choice are the document's. -/
import Derived.Test.YtejckmmlbncgnaaBAwake
import Derived.Test.YtejckmmlbncgnaaBOpen
namespace Go.Proofs.Ytejckmmlbncgnaa
open Go.RowKit Go.Lib

set_option maxRecDepth 20000 in
set_option maxHeartbeats 8000000 in
theorem weighs_small (C : BSpec) (l : List (Nat × Int × Int)) (a : Option Addr) (cap : Nat) (raw k : Int) (W : World) (harg : ArgT W a l) (hnil : a = none → cap = 0) (hb : ∀ t ∈ l, t.1 < 256) (hl9 : l.length ≤ 9223372036854775807) :
    Calls Try.prog 4 #[.slice a l.length cap, .int .i64 raw, .int .i64 k] W fun e w' => e = .returned (.bool true) ∧ Below W.heap.size W w' := by
  have HC := hide C
  have HA := hide harg
  have HRT := hide (right_any l a cap _ harg hl9)
  have HNIL := hide hnil
  obtain ⟨n, hn⟩ : ∃ n, l.length = n := ⟨_, rfl⟩
  have HN := hide hn
  rw [hn] at HRT ⊢
  have HHB := hide hb
  obtain ⟨R, hR⟩ : ∃ R, rightB l = R := ⟨_, rfl⟩
  have HRB := hide hR
  rw [hR] at HRT
  have HOUT := hide (show ∀ w, Below W.heap.size W w → Calls Try.prog 9 #[] w fun e w' => e = .returned (.bool true) ∧ Below W.heap.size W w' from fun w h => (awake9_any HC.out w).mono fun e w' ⟨h1, h2⟩ => ⟨h1, h.trans (h2.mono h.size)⟩)
  clear C harg hn hl9 hb hR hnil
  go_enter Try.func4, Try.ntmps4
  go_wp2_with fail
  refine HRT.out.mono ?_
  rintro e w0 ⟨rfl, rfl⟩
  cases R with
  | false =>
    go_wp2_with fail
    refine (HOUT.out _ (Below.refl _ _)).mono ?_
    rintro e w9 ⟨rfl, b9⟩
    have B9 := hide b9
    clear b9
    go_wp2
    go_ret
    exact ⟨rfl, B9.out⟩
  | true =>
    by_cases h1 : k < 0
    · go_wp2_with fail
      refine (HOUT.out _ (Below.refl _ _)).mono ?_
      rintro e w9 ⟨rfl, b9⟩
      have B9 := hide b9
      clear b9
      go_wp2
      go_ret
      exact ⟨rfl, B9.out⟩
    have h1d : decide (k < 0) = false := decide_eq_false h1
    by_cases h2 : 1099511627776 < k
    · go_wp2_with fail
      refine (HOUT.out _ (Below.refl _ _)).mono ?_
      rintro e w9 ⟨rfl, b9⟩
      have B9 := hide b9
      clear b9
      go_wp2
      go_ret
      exact ⟨rfl, B9.out⟩
    have h2d : decide (1099511627776 < k) = false := decide_eq_false h2
    by_cases h3 : 1099511627776 < raw
    · go_wp2_with fail
      refine (HOUT.out _ (Below.refl _ _)).mono ?_
      rintro e w9 ⟨rfl, b9⟩
      have B9 := hide b9
      clear b9
      go_wp2
      go_ret
      exact ⟨rfl, B9.out⟩
    have h3d : decide (1099511627776 < raw) = false := decide_eq_false h3
    obtain ⟨hr, hl200⟩ := right_all HRB.out HHB.out
    have HR := hide hr
    have HL2 := hide (show l.length ≤ 2000 by omega)
    have HSZ := hide (fun w kind (h : ArgT w a l) (g1 : 0 ≤ kind) (g2 : kind ≤ 2) => HC.out.size l a cap raw kind k w h HNIL.out HR.out HL2.out (by omega) (by omega) g1 g2)
    have HSQ := hide (fun w kind (h : ArgT w a l) => qsize_any l a cap raw kind k w h HR.out HL2.out (by omega) (by omega))
    have HCZ := hide (fun w (h : ArgT w a l) => HC.out.choose l a cap raw k w h HNIL.out HR.out HL2.out (by omega) (by omega))
    have HCQ := hide (fun w (h : ArgT w a l) => qchoose_any l a cap raw k w h HR.out HL2.out (by omega) (by omega))
    have HW1 := hide (fun w (h : ArgT w a l) => HC.out.weights l a cap w h HNIL.out HR.out HL2.out)
    have HW2 := hide (fun w (h : ArgT w a l) => qweights_any l a cap w h HR.out HL2.out)
    have HO1 := hide (fun w (h : ArgT w a l) => HC.out.own l a cap w h HNIL.out HR.out HL2.out)
    have HO2 := hide (fun w (h : ArgT w a l) => qown_any l a cap w h HR.out HL2.out)
    simp only [HN.out] at HSZ HSQ HCZ HCQ HW1 HW2 HO1 HO2
    clear hr hl200
    go_wp2_with fail
    refine (HW1.out _ HA.out).mono ?_
    rintro e w1 ⟨p1, c1, p2, c2, rfl, k1, k2, _, _, b1⟩
    have B1 := hide b1
    have HA1 := hide (HA.out.below b1 (Nat.le_refl _))
    have K1 := hide k1
    have K2 := hide k2
    clear b1 k1 k2
    simp only [litWs_length, distWs_length]
    go_wp2_with fail
    refine (HW2.out _ HA1.out).mono ?_
    rintro e w2 ⟨p3, c3, p4, c4, rfl, k3, k4, _, _, b2, _, _⟩
    have B2 := hide (B1.out.trans (b2.mono B1.out.size))
    have HA2 := hide (HA1.out.below b2 (Nat.le_refl _))
    have K3 := hide k3
    have K4 := hide k4
    have K1b := hide (K1.out.below b2 (Nat.le_refl _))
    have K2b := hide (K2.out.below b2 (Nat.le_refl _))
    clear b2 k3 k4 K1 K2
    simp only [litWs_length, distWs_length]
    go_wp2_with fail
    refine (HO1.out _ HA2.out).mono ?_
    rintro e w3 ⟨p5, c5, p6, c6, rfl, k5, k6, _, _, b3⟩
    have B3 := hide (B2.out.trans (b3.mono B2.out.size))
    have HA3 := hide (HA2.out.below b3 (Nat.le_refl _))
    have K5 := hide k5
    have K6 := hide k6
    have K1c := hide (K1b.out.below b3 (Nat.le_refl _))
    have K2c := hide (K2b.out.below b3 (Nat.le_refl _))
    have K3c := hide (K3.out.below b3 (Nat.le_refl _))
    have K4c := hide (K4.out.below b3 (Nat.le_refl _))
    clear b3 k5 k6 K1b K2b K3 K4
    go_wp2_with fail
    refine (HO2.out _ HA3.out).mono ?_
    rintro e w4 ⟨p7, c7, p8, c8, rfl, k7, k8, _, _, b4, _, _⟩
    have B4 := hide (B3.out.trans (b4.mono B3.out.size))
    have HA4 := hide (HA3.out.below b4 (Nat.le_refl _))
    have K7 := hide k7
    have K8 := hide k8
    have K1d := hide (K1c.out.below b4 (Nat.le_refl _))
    have K2d := hide (K2c.out.below b4 (Nat.le_refl _))
    have K3d := hide (K3c.out.below b4 (Nat.le_refl _))
    have K4d := hide (K4c.out.below b4 (Nat.le_refl _))
    have K5d := hide (K5.out.below b4 (Nat.le_refl _))
    have K6d := hide (K6.out.below b4 (Nat.le_refl _))
    have hol := (ownLit_len l).2
    have hod := (ownDist_len l).2
    clear b4 k7 k8 K1c K2c K3c K4c K5 K6 HA HA1 HA2 HA3
    obtain ⟨na, hna⟩ : ∃ na, (ownLit l).length = na := ⟨_, rfl⟩
    obtain ⟨nb, hnb⟩ : ∃ nb, (ownDist l).length = nb := ⟨_, rfl⟩
    have HNA := hide hna
    have HNB := hide hnb
    simp only [hna, hnb] at hol hod ⊢
    clear hna hnb
    go_wp2
    go_loopw [15] (fun c wr => ∃ j : Nat, j ≤ 3 ∧ c = .int .i64 (j : Nat) ∧ Hid (Below w4.heap.size w4 wr)) (fun c _ => 3 - (intOf c).toNat)
    case atStart => exact ⟨0, by omega, rfl, hide (Below.refl _ _)⟩
    case round =>
      obtain ⟨j, hj, rfl, HBJ⟩ := hrel
      by_cases hlt : j < 3
      · have zj : (j : Int) < 3 := by omega
        have HA5 := hide (HA4.out.below HBJ.out (Nat.le_refl _))
        go_wp2_with fail
        refine (HSZ.out _ (j : Int) HA5.out (by omega) (by omega)).mono ?_
        rintro e w5 ⟨z, rfl, hz, b5⟩
        have HZ := hide hz
        have B5 := hide (HBJ.out.trans (b5.mono HBJ.out.size))
        have HA6 := hide (HA5.out.below b5 (Nat.le_refl _))
        clear hz b5
        go_wp2_with fail
        refine (HSQ.out _ (j : Int) HA6.out).mono ?_
        rintro e w6 ⟨z2, rfl, hz, b6⟩
        have ez := hz.uniq HZ.out
        subst ez
        have B6 := hide (B5.out.trans (b6.mono B5.out.size))
        clear hz b6 HZ
        go_wp2
        go_roundw
        case rel => exact ⟨j + 1, hlt, by go_num, B6⟩
        case measure => exact meas_oneW j 3 hlt
      · have hj3 : j = 3 := by omega
        subst hj3
        have BW := hide (B4.out.trans (HBJ.out.mono B4.out.size))
        have HA5 := hide (HA4.out.below HBJ.out (Nat.le_refl _))
        go_wp2_with fail
        refine (awake9_any HC.out _).mono ?_
        rintro e w7 ⟨rfl, b7⟩
        have S7 := hide (HBJ.out.trans (b7.mono HBJ.out.size))
        clear b7
        have Q1 := hide (same_any9 (litWs l) 286 p1 p3 c1 c3 w7 (litWs_length l) (K1d.out.below S7.out (Nat.le_refl _)) (K3d.out.below S7.out (Nat.le_refl _)) (by omega))
        go_wp2_with fail
        refine Q1.out.mono ?_
        rintro e w8 ⟨rfl, b8⟩
        have S8 := hide (S7.out.trans (b8.mono S7.out.size))
        clear b8 Q1
        have Q2 := hide (same_any9 (distWs l) 30 p2 p4 c2 c4 w8 (distWs_length l) (K2d.out.below S8.out (Nat.le_refl _)) (K4d.out.below S8.out (Nat.le_refl _)) (by omega))
        go_wp2_with fail
        refine Q2.out.mono ?_
        rintro e w9 ⟨rfl, b9⟩
        have S9 := hide (S8.out.trans (b9.mono S8.out.size))
        clear b9 Q2
        have Q3 := hide (same_any9 (ownLit l) na p5 p7 c5 c7 w9 HNA.out (K5d.out.below S9.out (Nat.le_refl _)) (K7.out.below S9.out (Nat.le_refl _)) (by omega))
        go_wp2_with fail
        refine Q3.out.mono ?_
        rintro e w10 ⟨rfl, b10⟩
        have S10 := hide (S9.out.trans (b10.mono S9.out.size))
        clear b10 Q3
        have Q4 := hide (same_any9 (ownDist l) nb p6 p8 c6 c8 w10 HNB.out (K6d.out.below S10.out (Nat.le_refl _)) (K8.out.below S10.out (Nat.le_refl _)) (by omega))
        go_wp2_with fail
        refine Q4.out.mono ?_
        rintro e w11 ⟨rfl, b11⟩
        have S11 := hide (S10.out.trans (b11.mono S10.out.size))
        clear b11 Q4
        go_wp2_with fail
        refine (HCZ.out _ (HA4.out.below S11.out (Nat.le_refl _))).mono ?_
        rintro e w12 ⟨z, rfl, hz, b12⟩
        have HZ := hide hz
        have S12 := hide (S11.out.trans (b12.mono S11.out.size))
        clear hz b12
        go_wp2_with fail
        refine (HCQ.out _ (HA4.out.below S12.out (Nat.le_refl _))).mono ?_
        rintro e w13 ⟨z2, rfl, hz, b13⟩
        have ez := hz.uniq HZ.out
        subst ez
        have S13 := hide (S12.out.trans (b13.mono S12.out.size))
        have BF := hide (B4.out.trans (S13.out.mono B4.out.size))
        clear hz b13
        go_wp2
        go_ret
        exact ⟨rfl, BF.out⟩

set_option maxRecDepth 20000 in
theorem weighs_law (C : BSpec) (w : World) (v0 : Value) {b0 : Nat} {H : Type} {enc : TypeId × Value → H} {d0 : DataW H} {p0 : List MemPlace}
    (o0 : Value.okWide Try.prog w .any b0 22 v0) (k0 : DataW.Trod enc Try.prog w 0 (fun _ => true) true 22 v0 d0 p0) (raw : Int) (_wr : (Lit.int .i64 raw).wf = true) (k : Int) (_wk : (Lit.int .i64 k).wf = true) :
    Calls Try.prog 4 #[v0, .int .i64 raw, .int .i64 k] w fun e w' => e = .returned (.bool true) ∧ Below w.heap.size w w' := by
  obtain ⟨a, cap, l, rfl, ha, hl, hn, hb⟩ := open_argT9 o0 k0
  exact weighs_small C l a cap raw k w ha hn hb hl

end Go.Proofs.Ytejckmmlbncgnaa
