/- Contracts of the code of layer 9: tokensSize, storedSize. -/
import Derived.Test.YtpgkmbakohfpkaaBCodeH
namespace Go.Proofs.Ytpgkmbakohfpkaa
open Go.RowKit Go.Lib

theorem litWs_getD (l : List (Nat × Int × Int)) (hl : l.length ≤ 2000) (i : Nat) : (litWs l).getD i 0 ≤ 2001 := by
  rw [List.getD_eq_getElem?_getD]
  by_cases h : i < 286
  · rw [litWs_get l i h]
    have := wL_le l i
    show wL l i ≤ 2001
    omega
  · rw [List.getElem?_eq_none (by rw [litWs_length]; omega)]
    exact Nat.zero_le _
theorem distWs_getD (l : List (Nat × Int × Int)) (hl : l.length ≤ 2000) (i : Nat) : (distWs l).getD i 0 ≤ 2001 := by
  rw [List.getD_eq_getElem?_getD]
  by_cases h : i < 30
  · rw [distWs_get l i h]
    have := wD_le l i
    show wD l i ≤ 2001
    omega
  · rw [List.getElem?_eq_none (by rw [distWs_length]; omega)]
    exact Nat.zero_le _
theorem cost_lit (l : List (Nat × Int × Int)) (la : List Nat) (hl : l.length ≤ 2000) (ha : ∀ z ∈ la, z ≤ 15) : costW ((litWs l).map fun (x : Nat) => (x : Int)) (la.map fun (x : Nat) => (x : Int)) (min 286 la.length) = ((dotN (wL l) (fun i => la.getD i 0) 286 : Nat) : Int) := by
  have h : dotN (fun i => (litWs l).getD i 0) (fun i => la.getD i 0) 286 = dotN (wL l) (fun i => la.getD i 0) 286 := dot_congr _ _ _ _ 286 (fun i hi => by rw [List.getD_eq_getElem?_getD (l := litWs l), litWs_get l i hi]; rfl)
  rw [cost_dot (litWs l) la (litWs_getD l hl) (getD_le ha) _ (by omega), dot_cut, h]
theorem cost_dist (l : List (Nat × Int × Int)) (lb : List Nat) (hl : l.length ≤ 2000) (hb : ∀ z ∈ lb, z ≤ 15) : costW ((distWs l).map fun (x : Nat) => (x : Int)) (lb.map fun (x : Nat) => (x : Int)) (min 30 lb.length) = ((dotN (wD l) (fun i => lb.getD i 0) 30 : Nat) : Int) := by
  have h : dotN (fun i => (distWs l).getD i 0) (fun i => lb.getD i 0) 30 = dotN (wD l) (fun i => lb.getD i 0) 30 := dot_congr _ _ _ _ 30 (fun i hi => by rw [List.getD_eq_getElem?_getD (l := distWs l), distWs_get l i hi]; rfl)
  rw [cost_dot (distWs l) lb (distWs_getD l hl) (getD_le hb) _ (by omega), dot_cut, h]

set_option maxRecDepth 20000 in
set_option maxHeartbeats 400000 in
theorem toksize9 (l : List (Nat × Int × Int)) (la lb : List Nat) (a1 b1 a2 b2 : Option Addr) (c1 d1 c2 d2 na nb : Nat) (W : World) (hA : ArgN W a1 (litWs l)) (hB : ArgN W b1 (distWs l)) (kA : ArgN W a2 la) (kB : ArgN W b2 lb) (hna : la.length = na) (hnb : lb.length = nb) (h15 : ∀ z ∈ la, z ≤ 15) (k15 : ∀ z ∈ lb, z ≤ 15) (hl : l.length ≤ 2000) (hr : ∀ t ∈ l, RightT t) (hna2 : na ≤ 300) (hnb2 : nb ≤ 300) :
    Calls Try.prog 37 #[.slice a1 286 c1, .slice b1 30 d1, .slice a2 na c2, .slice b2 nb d2] W fun e w' => e = .returned (.int .i64 ((bodyBits la lb l).length : Nat)) ∧ Below W.heap.size W w' := by
  have HA := hide hA
  have HB := hide hB
  have HC1 := hide (cost_any (((litWs l).map fun (x : Nat) => (x : Int))) (la.map fun (x : Nat) => (x : Int)) a1 a2 c1 c2 W hA.toZ kA.toZ (by rw [List.length_map, litWs_length]; omega) (by rw [List.length_map]; omega))
  rw [List.length_map, List.length_map, litWs_length, cost_lit l la hl h15, hna] at HC1
  have HC2 := hide (fun w' (b : Below W.heap.size W w') => cost_any (((distWs l).map fun (x : Nat) => (x : Int))) (lb.map fun (x : Nat) => (x : Int)) b1 b2 d1 d2 w' (hB.below b (Nat.le_refl _)).toZ (kB.below b (Nat.le_refl _)).toZ (by rw [List.length_map, distWs_length]; omega) (by rw [List.length_map]; omega))
  have hcd := cost_dist l lb hl k15
  rw [hnb] at hcd
  simp only [List.length_map, distWs_length, hnb, hcd] at HC2
  clear hcd
  have HBL := hide (body_len la lb l hr)
  have hd1 := dot_le (wL l) (fun i => la.getD i 0) 2001 15 (fun i => by have := wL_le l i; omega) (getD_le h15) 286
  have hd2 := dot_le (wD l) (fun i => lb.getD i 0) 2001 15 (fun i => by have := wD_le l i; omega) (getD_le k15) 30
  have HW1 := hide (fun i => (show wL l i ≤ 2001 by have := wL_le l i; omega))
  have HW2 := hide (fun i => (show wD l i ≤ 2001 by have := wD_le l i; omega))
  have HG1 := hide (fun i (h : i < 286) => litWs_get l i h)
  have HG2 := hide (fun i (h : i < 30) => distWs_get l i h)
  generalize dotN (wL l) (fun i => la.getD i 0) 286 = D1 at *
  generalize dotN (wD l) (fun i => lb.getD i 0) 30 = D2 at *
  have HZ0 := hide (show D1 + D2 = D1 + D2 + dotN (wL l) xlF 0 by rw [show dotN (wL l) xlF 0 = 0 from rfl, Nat.add_zero])
  have HZ1 := hide (show dotN (wD l) distBits 0 = 0 from rfl)
  have HSB := hide (show D1 + D2 ≤ 20000000 + 26013 * 0 by omega)
  have HEW := hide (show Value.int .i64 (wrap64 ((D1 : Int) + (D2 : Int))) = Value.int .i64 ((D1 + D2 : Nat) : Int) by rw [show wrap64 ((D1 : Int) + (D2 : Int)) = (D1 : Int) + (D2 : Int) by unfold wrap64; omega, Int.natCast_add])
  clear hd1 hd2
  clear hA hB kA kB h15 k15 hr hna hnb
  go_enter Try.func37, Try.ntmps37
  go_wp2_with fail
  refine HC1.out.mono ?_
  rintro e w1 ⟨rfl, b1'⟩
  have HB1 := hide b1'
  have HC2b := hide (HC2.out w1 b1')
  clear b1' HC1 HC2
  go_wp2_with fail
  refine HC2b.out.mono ?_
  rintro e w2 ⟨rfl, b2'⟩
  have HB2 := hide (HB1.out.trans (b2'.mono HB1.out.size))
  clear b2' HC2b HB1
  go_wp2
  go_loopw [9, 29] (fun nv c wr => ∃ i : Nat, i ≤ 286 ∧ c = .int .i64 (i : Nat) ∧ ∃ S : Nat, nv = .int .i64 (S : Nat) ∧ S ≤ 20000000 + 26013 * i ∧ Hid (S = D1 + D2 + dotN (wL l) xlF i) ∧ Hid (Below W.heap.size W wr)) (fun _ c _ => 286 - (intOf c).toNat)
  case atStart => exact ⟨0, Nat.zero_le _, rfl, D1 + D2, HEW.out, HSB.out, HZ0.out, HB2⟩
  case round =>
    clear HB2
    obtain ⟨i, hi, rfl, S, rfl, hS, HS, HBR⟩ := hrel
    by_cases hlt : i < 286
    · obtain ⟨g, off, rfl, hg, hc⟩ := HA.out i _ (HG1.out i hlt)
      have _c := (HBR.out.cell (p := ⟨g, off + i, none⟩) hg).trans hc
      have HLB := hide (lenbase_any (i : Int))
      rw [lb_xl i hlt] at HLB
      have hw := HW1.out i
      have hx := xl_le i hlt
      have HST := hide (show dotN (wL l) xlF (i + 1) = dotN (wL l) xlF i + wL l i * xlF i from rfl)
      obtain ⟨p1, p2, p3⟩ := prod_wrap (wL l i) (xlF i) hw hx
      generalize wL l i * xlF i = P at *
      generalize wL l i = wv at *
      generalize xlF i = xv at *
      generalize lbI (i : Int) = q1 at *
      generalize lbOk (i : Int) = q2 at *
      have zi : (i : Int) < 286 := by omega
      clear hg hc
      go_wp2_with fail
      refine (HLB.out _).mono ?_
      rintro e w3 ⟨rfl, b3⟩
      have HB3 := hide (HBR.out.trans (b3.mono HBR.out.size))
      clear b3
      go_wp2
      go_roundw
      case rel => exact ⟨i + 1, hlt, by go_num, S + P, by go_num, by omega, hide (by rw [HST.out, HS.out]; omega), HB3⟩
      case measure => exact meas_oneW i 286 hlt
    · have hie : i = 286 := by omega
      subst hie
      generalize dotN (wL l) xlF 286 = E1 at *
      go_wp2
      go_loopw [9, 48] (fun nv c wt => ∃ i : Nat, i ≤ 30 ∧ c = .int .i64 (i : Nat) ∧ ∃ S : Nat, nv = .int .i64 (S : Nat) ∧ S ≤ 40000000 + 26013 * i ∧ Hid (S = D1 + D2 + E1 + dotN (wD l) distBits i) ∧ Hid (Below W.heap.size W wt)) (fun _ c _ => 30 - (intOf c).toNat)
      case atStart => exact ⟨0, Nat.zero_le _, rfl, S, rfl, by omega, hide (by rw [HZ1.out, Nat.add_zero]; exact HS.out), HBR⟩
      case round =>
        clear HS HBR hS
        obtain ⟨i, hi, rfl, S, rfl, hS, HS, HBR⟩ := hrel
        by_cases hlt : i < 30
        · obtain ⟨g, off, rfl, hg, hc⟩ := HB.out i _ (HG2.out i hlt)
          have _c := (HBR.out.cell (p := ⟨g, off + i, none⟩) hg).trans hc
          have HLB := hide (distbase_any (i : Int))
          rw [db_xl i hlt] at HLB
          have hw := HW2.out i
          have hx := (dist_small i (by omega)).2.2
          have HST := hide (show dotN (wD l) distBits (i + 1) = dotN (wD l) distBits i + wD l i * distBits i from rfl)
          obtain ⟨p1, p2, p3⟩ := prod_wrap (wD l i) (distBits i) hw hx
          generalize wD l i * distBits i = P at *
          generalize wD l i = wv at *
          generalize distBits i = xv at *
          generalize dbI (i : Int) = q1 at *
          generalize dbOk (i : Int) = q2 at *
          have zi : (i : Int) < 30 := by omega
          clear hg hc
          go_wp2_with fail
          refine (HLB.out _).mono ?_
          rintro e w3 ⟨rfl, b3⟩
          have HB3 := hide (HBR.out.trans (b3.mono HBR.out.size))
          clear b3
          go_wp2
          go_roundw
          case rel => first | exact ⟨i + 1, hlt, by go_num, S + P, by go_num, by omega, hide (by rw [HST.out, HS.out]; omega), HB3⟩ | exact ⟨_, _, _, _, _, _, _, _, _, _, _, _, _, _, _, _, _, _, _, _, _, _, _, ⟨i + 1, hlt, by go_num, S + P, by go_num, by omega, hide (by rw [HST.out, HS.out]; omega), HB3⟩, rfl⟩
          case measure => exact meas_oneW i 30 hlt
        · have hie : i = 30 := by omega
          subst hie
          have HF := hide (show S = (bodyBits la lb l).length by rw [← HBL.out, HS.out])
          go_wp2
          go_ret
          exact ⟨by rw [← HF.out]; rfl, HBR.out⟩

theorem and7 (k : Int) : bits .and .i64 (-(k + 3)) 7 = (8 - (k + 3) % 8) % 8 := by
  rw [and7_i64]
  omega
set_option maxHeartbeats 1000000 in
theorem stored9 (raw k : Int) (w : World) (h1 : 0 ≤ k) (h2 : k ≤ 1099511627776) :
    Calls Try.prog 35 #[.int .i64 raw, .int .i64 k] w fun e w' => e = .returned (.int .i64 (rawSize raw k)) ∧ w = w' := by
  by_cases c1 : raw < 0
  · have e : rawSize raw k = -1 := by unfold rawSize; rw [if_pos (.inl c1)]
    rw [e]
    go_enter Try.func35, Try.ntmps35
    go_wp2
    go_ret
    exact ⟨rfl, rfl⟩
  · have d1 : decide (raw < 0) = false := decide_eq_false c1
    by_cases c2 : 65535 < raw
    · have e : rawSize raw k = -1 := by unfold rawSize; rw [if_pos (.inr c2)]
      have d2 : decide (65535 < raw) = true := decide_eq_true c2
      rw [e]
      clear e c2
      go_enter Try.func35, Try.ntmps35
      go_wp2
      go_ret
      exact ⟨rfl, rfl⟩
    · have d2 : decide (65535 < raw) = false := decide_eq_false c2
      have HE := hide (show rawSize raw k = 3 + (8 - (k + 3) % 8) % 8 + 32 + 8 * raw by unfold rawSize; rw [if_neg (by omega)])
      have h7 := and7 k
      rw [HE.out]
      obtain ⟨z, hz⟩ : ∃ z, (8 - (k + 3) % 8) % 8 = z := ⟨_, rfl⟩
      have hz8 : 0 ≤ z ∧ z ≤ 7 := by omega
      rw [hz] at h7 ⊢
      obtain ⟨hz1, hz2⟩ := hz8
      clear hz
      go_enter Try.func35, Try.ntmps35
      go_wp2
      go_ret
      exact ⟨rfl, rfl⟩

end Go.Proofs.Ytpgkmbakohfpkaa
