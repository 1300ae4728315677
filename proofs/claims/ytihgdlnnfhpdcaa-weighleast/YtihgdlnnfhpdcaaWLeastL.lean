/- Whatever weights of 2,500 at most in all: no code of other weights costs less, and a greater weight has no longer code: 'WeighLeast' answers true. No condition. -/
import Derived.Test.YtihgdlnnfhpdcaaWLMath
namespace Go.Proofs.Ytihgdlnnfhpdcaa
open Go.RowKit Go.Lib

/-- The weights, 3,000 at most each, summed. -/
def sumM (l : List Int) : Nat → Nat
  | 0 => 0
  | j + 1 => sumM l j + min (l.getD j 0).toNat 3000

theorem sumM_le (l : List Int) : ∀ j, sumM l j ≤ j * 3000
  | 0 => Nat.le_refl _
  | j + 1 => by
    have h := sumM_le l j
    show sumM l j + min _ 3000 ≤ _
    omega
theorem sumM_mono (l : List Int) (j : Nat) : sumM l j ≤ sumM l (j + 1) := Nat.le_add_right _ _
theorem sumM_each (l : List Int) : ∀ (j i : Nat), i < j → min (l.getD i 0).toNat 3000 ≤ sumM l j
  | 0, i, h => by omega
  | j + 1, i, h => by
    by_cases e : i = j
    · subst e; show _ ≤ sumM l i + _; omega
    · exact Nat.le_trans (sumM_each l j i (by omega)) (sumM_mono l j)
theorem sumM_sum (l : List Int) : ∀ j, j ≤ l.length → sumM l j ≤ 2500 → sumZ l j = sumM l j
  | 0, _, _ => rfl
  | j + 1, hj, h => by
    have h1 := sumM_each l (j + 1) j (by omega)
    have h2 := sumM_sum l j (by omega) (Nat.le_trans (sumM_mono l j) h)
    rw [sumZ_succ l j _ (getZ l j (by omega)), h2]
    show _ = sumM l j + min _ 3000
    omega

theorem min_add (s : Nat) (x : Int) (hs : s ≤ 200000) (hx : 0 ≤ x) : wrap64 ((s : Int) + if 3000 < x then 3000 else x) = ((s + min x.toNat 3000 : Nat) : Int) := by
  split <;> (unfold wrap64; omega)

theorem two_mem (l : List Nat) (i k : Nat) (hi : i ∈ l) (hk : k ∈ l) (h : i ≠ k) : 2 ≤ l.length := by
  match l, hi, hk with
  | [x], hi, hk =>
    have e1 := List.mem_singleton.1 hi
    have e2 := List.mem_singleton.1 hk
    omega
  | _ :: _ :: _, _, _ => simp

theorem mono_at (ws : List Nat) (i k : Nat) (hi : i < ws.length) (hk : k < ws.length) (h0 : 0 < ws.getD k 0) (h : ws.getD k 0 < ws.getD i 0) : lenF ws i ≤ lenF ws k := by
  have h1 : i ∈ stand ws 0 := (stand0 ws i).2 ⟨hi, by omega⟩
  have h2 : k ∈ stand ws 0 := (stand0 ws k).2 ⟨hk, by omega⟩
  exact lens_mono ws (two_mem _ i k h1 h2 (fun e => by rw [e] at h; omega)) i k h1 h2 h

theorem lens_at (ws : List Nat) (j : Nat) (h : j < ws.length) : (lens ws)[j]? = some (lenF ws j) := by
  unfold lens
  rw [List.getElem?_map, List.getElem?_range h]
  rfl

theorem toNat_at (l : List Int) (j : Nat) (h : j < l.length) : (l.map Int.toNat).getD j 0 = (l.getD j 0).toNat := by
  rw [List.getD_eq_getElem?_getD, List.getElem?_map, getZ l j h]
  rfl

theorem fill_same (f : Nat → Nat) (n j : Nat) (h : j < n) (h0 : f j = 0) : fillTo f n (j + 1) = fillTo f n j := by
  rw [← fillTo_set f n j h, h0]
  apply List.ext_getElem?
  intro i
  rw [List.getElem?_set]
  by_cases e : j = i
  · subst e
    rw [if_pos rfl, if_pos (by rw [fillTo_length]; exact h), fillTo_get f n j j h, if_neg (by omega)]
  · rw [if_neg e]

/-- Another code's weights. -/
def otherW (l o : List Int) (i : Nat) : Nat := if (l.getD i 0).toNat = 0 then 0 else if i < o.length then 1 + (o.getD i 0 % 18446744073709551616 % 1000).toNat else 1

theorem rem_form (y : Int) : wrap64 (1 + wrap64 ((IntKind.u64.wrap y).tmod 1000)) = ((1 + (y % 18446744073709551616 % 1000).toNat : Nat) : Int) := by
  have h0 : 0 ≤ y % 18446744073709551616 := Int.emod_nonneg _ (by decide)
  rw [IntKind.wrap_u64, Int.tmod_eq_emod_of_nonneg h0]
  unfold wrap64
  omega

theorem otherW_zero (l o : List Int) (i : Nat) : otherW l o i = 0 ↔ (l.getD i 0).toNat = 0 := by
  unfold otherW
  split
  · rename_i h; exact ⟨fun _ => h, fun _ => rfl⟩
  · rename_i h
    split
    · exact ⟨fun e => by omega, fun e => absurd e h⟩
    · exact ⟨fun e => by omega, fun e => absurd e h⟩
theorem otherW_le (l o : List Int) (i : Nat) : otherW l o i ≤ 1000 := by
  unfold otherW
  split
  · omega
  · split <;> omega

theorem cast_back (l : List Int) (h : ∀ x ∈ l, 0 ≤ x ∧ x ≤ 1099511627776) : (l.map Int.toNat).map (fun (x : Nat) => (x : Int)) = l := by
  rw [List.map_map]
  refine (List.map_congr_left (g := id) fun x hx => ?_).trans (List.map_id _)
  exact Int.toNat_of_nonneg (h x hx).1

/-- The costs of the two codes, as the walk spells them. -/
theorem cost_two (ws vs : List Nat) (n : Nat) (hn : ws.length = n) (h40 : n ≤ 40) (hw : ws.sum ≤ 2500) (hlen : vs.length = ws.length) (hz : ∀ i, vs.getD i 0 = 0 ↔ ws.getD i 0 = 0) (hle : ∀ i, lenF vs i ≤ 15) :
    costW (ws.map fun (x : Nat) => (x : Int)) ((lens ws).map fun (x : Nat) => (x : Int)) n ≤ costW (ws.map fun (x : Nat) => (x : Int)) ((lens vs).map fun (x : Nat) => (x : Int)) n := by
  subst hn
  have ha : ∀ i, ws.getD i 0 ≤ 2500 := by
    intro i
    rw [List.getD_eq_getElem?_getD]
    cases he : ws[i]? with
    | none => decide
    | some x => exact Nat.le_trans (mem_le_sum ws x (List.mem_of_getElem? he)) hw
  have hb : ∀ us : List Nat, (∀ i, lenF us i ≤ 15) → ∀ i, (lens us).getD i 0 ≤ 15 := by
    intro us hu i
    by_cases hi : i < us.length
    · rw [List.getD_eq_getElem?_getD, lens_at us i hi]
      exact hu i
    · rw [List.getD_eq_getElem?_getD, List.getElem?_eq_none (by rw [lens_length]; omega)]
      decide
  rw [costW_nat ws (lens ws) ha (hb ws fun i => lens_fib ws (by omega) i) _ h40, costW_nat ws (lens vs) ha (hb vs hle) _ h40]
  exact Int.ofNat_le.2 (least_costT ws vs hlen hz hle)

set_option maxRecDepth 20000 in
set_option maxHeartbeats 4000000 in
theorem least_walk (l o : List Int) (a ao : Option Addr) (cap co : Nat) (W : World) (harg : ArgZ W a l) (hnil : a = none → cap = 0) (hargo : ArgZ W ao o) (hob : ∀ x ∈ o, -9223372036854775808 ≤ x ∧ x ≤ 9223372036854775807) :
    Calls Try.prog 5 #[.slice a l.length cap, .slice ao o.length co] W fun e w' => e = .returned (.bool true) ∧ Below W.heap.size W w' := by
  have HA := hide harg
  have HN := hide hnil
  have HAO := hide hargo
  have HOB := hide hob
  clear harg hnil hargo hob
  by_cases h1 : 40 < l.length
  · have z1 : (40 : Int) < l.length := by omega
    go_enter Try.func5, Try.ntmps5
    go_wp2_with fail
    refine (wawake_any _).mono ?_
    rintro e w1 ⟨rfl, b1⟩
    have B1 := hide b1
    clear b1
    go_wp2
    go_ret
    exact ⟨rfl, B1.out⟩
  · have z1 : ¬ (40 : Int) < l.length := by omega
    by_cases h2 : 40 < o.length
    · have z2 : (40 : Int) < o.length := by omega
      go_enter Try.func5, Try.ntmps5
      go_wp2_with fail
      refine (wawake_any _).mono ?_
      rintro e w1 ⟨rfl, b1⟩
      have B1 := hide b1
      clear b1
      go_wp2
      go_ret
      exact ⟨rfl, B1.out⟩
    · have z2 : ¬ (40 : Int) < o.length := by omega
      have hl40 : l.length ≤ 40 := by omega
      have ho40 : o.length ≤ 40 := by omega
      go_enter Try.func5, Try.ntmps5
      go_wp2_with fail
      refine (lengths_any l 15 a cap W HA.out HN.out).mono ?_
      rintro e w1 ⟨r, rfl, hr, b1⟩
      rcases hr with ⟨hb, rfl⟩ | ⟨hg, v1, out, rfl, hl1, o1⟩
      · have B1 := hide b1
        clear b1 hb
        go_wp2_with fail
        refine (wawake_any _).mono ?_
        rintro e w2 ⟨rfl, b2⟩
        have B2 := hide (B1.out.trans (b2.mono B1.out.size))
        clear b2
        go_wp2
        go_ret
        exact ⟨rfl, B2.out⟩
      · obtain ⟨a1, c1, rfl⟩ : ∃ a1 c1, v1 = .slice a1 l.length c1 := by
          rcases len_form o1 with ⟨e1, e2⟩ | ⟨g, cc, e1⟩
          · exact ⟨none, 0, by rw [e1, e2]⟩
          · exact ⟨_, _, e1⟩
        have HE := hide hg.each
        have HG := hide hg
        have HLT := hide hl1
        have HO := hide o1
        have B1 := hide b1
        have HA1 := hide (HA.out.below b1)
        clear hg hl1 o1 b1
        go_wp2
        go_loop [7, 8] (fun s i => ∃ j : Nat, j ≤ l.length ∧ i = .int .i64 j ∧ s = .int .i64 (sumM l j : Nat)) (fun _ i => l.length - (intOf i).toNat)
        case atStart => exact ⟨0, Nat.zero_le _, rfl, rfl⟩
        case round =>
          obtain ⟨j, hj, rfl, rfl⟩ := hrel
          by_cases hlt : j < l.length
          · obtain ⟨b, off, rfl, hb, _c⟩ := HA1.out j _ (getZ l j hlt)
            have hx := HE.out _ (mem_of_get (getZ l j hlt))
            have zj : (j : Int) < l.length := by omega
            have hs := sumM_le l j
            have HS := hide (show sumM l (j + 1) = sumM l j + min (l.getD j 0).toNat 3000 from rfl)
            have HM := hide (min_add (sumM l j) (l.getD j 0) (by omega) hx.1)
            generalize l.getD j 0 = x at *
            clear hx hs hb
            go_wp2
            go_round
            case rel => exact ⟨j + 1, hlt, by go_num, by rw [HM.out, HS.out]⟩
            case measure => exact meas_oneW j l.length hlt
          · have hje : j = l.length := by omega
            subst hje
            by_cases q3 : 2500 < sumM l l.length
            · have z3 : (2500 : Int) < ((sumM l l.length : Nat) : Int) := by omega
              clear q3
              generalize sumM l l.length = s at *
              go_wp2_with fail
              refine (wawake_any _).mono ?_
              rintro e w2 ⟨rfl, b2⟩
              have B2 := hide (B1.out.trans (b2.mono B1.out.size))
              clear b2
              go_wp2
              go_ret
              exact ⟨rfl, B2.out⟩
            · have z3 : ¬ (2500 : Int) < ((sumM l l.length : Nat) : Int) := by omega
              have hsum : (l.map Int.toNat).sum ≤ 2500 := by
                have h := sumM_sum l l.length (Nat.le_refl _) (by omega)
                unfold sumZ at h
                rw [List.take_of_length_le (Nat.le_refl _)] at h
                omega
              have hout : out = lens (l.map Int.toNat) := HLT.out.uniq (small_lim _ (by omega))
              subst hout
              have HSUM := hide hsum
              clear q3 hsum
              generalize sumM l l.length = s at *
              obtain ⟨ws, hws⟩ : ∃ ws, l.map Int.toNat = ws := ⟨_, rfl⟩
              have hwl : ws.length = l.length := by rw [← hws, List.length_map]
              rw [hws] at HO HLT HSUM
              have HWS := hide hws
              have HWL := hide hwl
              clear hws hwl
              go_wp2
              go_loopw [9] (fun i wr => ∃ j : Nat, j ≤ l.length ∧ i = .int .i64 j ∧ Hid (wr.ownsRow W.heap.size 3 1 (.slice a1 l.length c1) l.length (natCs (lens ws))) ∧ Hid (Below W.heap.size W wr)) (fun i _ => l.length - (intOf i).toNat)
              case atStart => exact ⟨0, Nat.zero_le _, rfl, HO, B1⟩
              case round =>
                obtain ⟨j, hj, rfl, HO2, HB2⟩ := hrel
                by_cases hlt : j < l.length
                · have hll : (lens ws).length = l.length := by rw [lens_length, HWL.out]
                  have hjw : j < ws.length := by rw [HWL.out]; exact hlt
                  obtain ⟨g1, cc1, e1⟩ := own_slice HO2.out (by omega)
                  injection e1 with e2 e3 e4
                  subst e2
                  subst e4
                  obtain ⟨b, off, rfl, hb, hc⟩ := HA.out j _ (getZ l j hlt)
                  have HC := hide hc
                  have HBB := hide hb
                  have hxj := toNat_at l j hlt
                  rw [HWS.out] at hxj
                  have HXJ := hide hxj
                  have hxe := HE.out _ (mem_of_get (getZ l j hlt))
                  have HXE := hide hxe.1
                  have zj : (j : Int) < l.length := by omega
                  clear e3 hc hb hxj hxe
                  rename World => wi
                  go_wp2
                  go_loopw [10] (fun c wr => ∃ q : Nat, q ≤ l.length ∧ c = .int .i64 q ∧ Hid (wr.ownsRow W.heap.size 3 1 (.slice (some ⟨g1, 0, none⟩) l.length c1) l.length (natCs (lens ws))) ∧ Hid (Below W.heap.size W wr)) (fun c _ => l.length - (intOf c).toNat)
                  case atStart => exact ⟨0, Nat.zero_le _, rfl, HO2, HB2⟩
                  case round =>
                    obtain ⟨q, hq, rfl, HO3, HB3⟩ := hrel
                    by_cases hlq : q < l.length
                    · have hqw : q < ws.length := by rw [HWL.out]; exact hlq
                      obtain ⟨b', off', e5, hb', hc'⟩ := HA.out q _ (getZ l q hlq)
                      injection e5 with e5
                      injection e5 with e6 e7
                      subst e6
                      subst e7
                      have _c1 := (HB3.out.cell (p := ⟨b, off + j, none⟩) HBB.out).trans HC.out
                      have _c2 := (HB3.out.cell (p := ⟨b, off + q, none⟩) hb').trans hc'
                      have ho3 := HO3.out
                      rw [← hll] at ho3
                      obtain ⟨_c3, _⟩ := own_nat ho3 (lens_at ws j hjw)
                      obtain ⟨_c4, _⟩ := own_nat ho3 (lens_at ws q hqw)
                      have zq : (q : Int) < l.length := by omega
                      have hyq := toNat_at l q hlq
                      rw [HWS.out] at hyq
                      have hyo := (HE.out _ (mem_of_get (getZ l q hlq))).1
                      have hxo := HXE.out
                      have hmo := mono_at ws j q hjw hqw
                      rw [hyq, HXJ.out] at hmo
                      have HMO := hide hmo
                      generalize l.getD q 0 = y at *
                      generalize l.getD j 0 = x at *
                      generalize lenF ws j = p at *
                      generalize lenF ws q = r at *
                      clear hb' hc' hyq hmo hqw ho3
                      by_cases t1 : y < x
                      · have d1 : decide (y < x) = true := by simp; omega
                        by_cases t2 : 0 < y
                        · have d2 : decide (0 < y) = true := by simp; omega
                          have hpr := HMO.out (by omega) (by omega)
                          have d3 : decide ((r : Int) < (p : Int)) = false := by simp; omega
                          have d4 : decide (r < p) = false := by simp; omega
                          go_wp2
                          go_quiet (fail)
                          go_wp2
                          go_roundw
                          case rel => exact ⟨q + 1, hlq, by go_num, HO3, hide (below_drewN HB3.out _)⟩
                          case measure => exact meas_oneW q l.length hlq
                        · have d2 : decide (0 < y) = false := by simp; omega
                          go_wp2
                          go_quiet (fail)
                          go_wp2
                          go_roundw
                          case rel => exact ⟨q + 1, hlq, by go_num, HO3, hide (below_drewN HB3.out _)⟩
                          case measure => exact meas_oneW q l.length hlq
                      · have d1 : decide (y < x) = false := by simp; omega
                        go_wp2
                        go_quiet (fail)
                        go_wp2
                        go_roundw
                        case rel => exact ⟨q + 1, hlq, by go_num, HO3, hide (below_drewN HB3.out _)⟩
                        case measure => exact meas_oneW q l.length hlq
                    · have hqe : q = l.length := by omega
                      subst hqe
                      go_wp2
                      go_roundw
                      case rel => exact ⟨j + 1, hlt, by go_num, HO3, HB3⟩
                      case measure => exact meas_oneW j l.length hlt
                · have hje : j = l.length := by omega
                  subst hje
                  have hmk := run_make_row' (P := Try.prog) 22 3 (.int .i64 0) 8 Try.underlying22 Try.infoInt rfl .i64 .i64 l.length (by omega) (by omega)
                  have hbw := HB2.out.size
                  have O5 := hide (ownsRow_base (own_made wr (otherW l o) l.length (by omega)) hbw)
                  have b5 : Below W.heap.size W (wr.alloc (.cells (madeCells #[.int .i64 0] l.length) 3)) := HB2.out.alloc hbw _
                  have B5 := hide b5
                  have O2 := hide (HO2.out.alloc (.cells (madeCells #[.int .i64 0] l.length) 3))
                  clear b5 hbw hlt
                  rename World => wv
                  have HNE := hide (own_ne HO2.out (Nat.le_refl _))
                  go_wp2
                  clear hmk
                  go_loopw [12] (fun c wr => ∃ j : Nat, j ≤ l.length ∧ c = .int .i64 j ∧ Hid (wr.ownsRow W.heap.size 3 1 (.slice (some ⟨wv.heap.size, 0, none⟩) l.length l.length) l.length (natCs (fillTo (otherW l o) l.length j))) ∧ Hid (wr.ownsRow W.heap.size 3 1 (.slice a1 l.length c1) l.length (natCs (lens ws))) ∧ Hid (Below W.heap.size W wr)) (fun c _ => l.length - (intOf c).toNat)
                  case atStart => exact ⟨0, Nat.zero_le _, rfl, O5, O2, B5⟩
                  case round =>
                    obtain ⟨j, hj, rfl, HV, HO4, HB4⟩ := hrel
                    by_cases hlt : j < l.length
                    · obtain ⟨b, off, rfl, hb, hc⟩ := HA.out j _ (getZ l j hlt)
                      have _c1 := (HB4.out.cell (p := ⟨b, off + j, none⟩) hb).trans hc
                      have hxo := (HE.out _ (mem_of_get (getZ l j hlt))).1
                      have hot : otherW l o j = if (l.getD j 0).toNat = 0 then 0 else if j < o.length then 1 + (o.getD j 0 % 18446744073709551616 % 1000).toNat else 1 := rfl
                      have zj : (j : Int) < l.length := by omega
                      have hv := HV.out
                      have hvl : (fillTo (otherW l o) l.length j).length = l.length := fillTo_length _ _ _
                      have hz : (fillTo (otherW l o) l.length j)[j]? = some 0 := by rw [fillTo_get _ _ _ j hlt, if_neg (by omega)]
                      obtain ⟨_c2, _f2⟩ := own_nat (by rw [hvl]; exact hv) hz
                      have hgW : W.heap.size ≤ wv.heap.size := HB2.out.size
                      by_cases hx0 : l.getD j 0 = 0
                      · rw [hx0] at _c1 hot
                        have HOT := hide (fill_same (otherW l o) l.length j hlt (by rw [hot]; rfl))
                        clear hot hv hvl hz hx0 hxo hb hc
                        go_wp2
                        go_roundw
                        case rel => exact ⟨j + 1, hlt, by go_num, by rw [HOT.out]; exact HV, HO4, HB4⟩
                        case measure => exact meas_oneW j l.length hlt
                      · have hx1 : 0 < l.getD j 0 := by omega
                        rw [if_neg (by omega)] at hot
                        have HFS := hide (fillTo_set (otherW l o) l.length j hlt)
                        generalize l.getD j 0 = x at *
                        clear hvl hz hxo hb hc hx0
                        by_cases hjo : j < o.length
                        · rw [if_pos hjo] at hot
                          obtain ⟨b', off', rfl, hb', hc'⟩ := HAO.out j _ (getZ o j hjo)
                          have _c3 := (HB4.out.cell (p := ⟨b', off' + j, none⟩) hb').trans hc'
                          have _c4 := ((HB4.out.setCell (p := ⟨wv.heap.size, j, none⟩) hgW (.int .i64 1)).cell (p := ⟨b', off' + j, none⟩) hb').trans hc'
                          have hyo := HOB.out _ (mem_of_get (getZ o j hjo))
                          have zo : (j : Int) < o.length := by omega
                          have hs1 := own_set (own_set hv j 1) j (1 + (o.getD j 0 % 18446744073709551616 % 1000).toNat)
                          rw [List.set_set, ← hot, HFS.out, hot] at hs1
                          have HSET := hide hs1
                          have HRF := hide (rem_form (o.getD j 0))
                          generalize o.getD j 0 = y at *
                          clear hot hb' hc' hyo hs1 hv
                          go_wp2
                          go_roundw
                          case rel => exact ⟨j + 1, hlt, by go_num, by rw [HRF.out]; exact HSET, hide (ownsRow_setCell_other (ownsRow_setCell_other HO4.out HNE.out _) HNE.out _), hide ((HB4.out.setCell (p := ⟨wv.heap.size, j, none⟩) hgW _).setCell (p := ⟨wv.heap.size, j, none⟩) hgW _)⟩
                          case measure => exact meas_oneW j l.length hlt
                        · rw [if_neg hjo] at hot
                          have zo : ¬ (j : Int) < o.length := by omega
                          have HS1 := own_set hv j 1
                          have HFS2 := HFS.out
                          rw [hot] at HFS2
                          rw [HFS2] at HS1
                          have HSET := hide HS1
                          clear hot HS1 HFS2 hv
                          go_wp2
                          go_roundw
                          case rel => exact ⟨j + 1, hlt, by go_num, HSET, hide (ownsRow_setCell_other HO4.out HNE.out _), hide (HB4.out.setCell (p := ⟨wv.heap.size, j, none⟩) hgW _)⟩
                          case measure => exact meas_oneW j l.length hlt
                    · have hje : j = l.length := by omega
                      subst hje
                      obtain ⟨vv, hvv⟩ : ∃ vv, fillTo (otherW l o) l.length l.length = vv := ⟨_, rfl⟩
                      have hvl : vv.length = l.length := by rw [← hvv, fillTo_length]
                      have hvz : ∀ i, vv.getD i 0 = 0 ↔ ws.getD i 0 = 0 := by
                        intro i
                        by_cases hi : i < l.length
                        · have e1 : vv.getD i 0 = otherW l o i := by rw [← hvv, List.getD_eq_getElem?_getD, fillTo_get _ _ _ i hi, if_pos hi]; rfl
                          have e2 : ws.getD i 0 = (l.getD i 0).toNat := by rw [← HWS.out]; exact toNat_at l i hi
                          rw [e1, e2]
                          exact otherW_zero l o i
                        · have g : ∀ us : List Nat, us.length = l.length → us.getD i 0 = 0 := fun us hu => by
                            rw [List.getD_eq_getElem?_getD, List.getElem?_eq_none (by omega)]
                            rfl
                          rw [g vv hvl, g ws HWL.out]
                      have hvm : ∀ x ∈ vv, x ≤ 1000 := by
                        intro x hx
                        rw [← hvv] at hx
                        obtain ⟨i, _, rfl⟩ := List.mem_map.1 hx
                        show (if i < l.length then otherW l o i else 0) ≤ 1000
                        split
                        · exact otherW_le l o i
                        · omega
                      have HGV := hide (show GoodW (vv.map fun (x : Nat) => (x : Int)) 15 from by
                        refine ⟨by decide, by decide, by rw [List.length_map]; omega, fun x hx => ?_, ?_⟩
                        · obtain ⟨y, hy, rfl⟩ := List.mem_map.1 hx
                          have := hvm y hy
                          omega
                        · rw [cast_nat]
                          have h := cntL_le vv
                          exact Nat.le_trans (Nat.le_trans h (show vv.length ≤ 40 by omega)) (by decide))
                      rw [hvv] at HV
                      have HVL := hide hvl
                      have HVZ := hide hvz
                      have hcl := qlengths_any (vv.map fun (x : Nat) => (x : Int)) 15 (some ⟨wv.heap.size, 0, none⟩) l.length wr (own_argZ HV.out hvl) (fun h => by cases h)
                      rw [List.length_map, hvl] at hcl
                      have HCL := hide hcl
                      have H40 := hide hl40
                      clear hvv hvl hvz hvm hcl
                      rename World => w4
                      go_wp2_with fail
                      refine HCL.out.mono ?_
                      rintro e w5 ⟨r, rfl, hr, b5⟩
                      rcases hr with ⟨hb, _⟩ | ⟨_, v2, out2, rfl, hl2, o2⟩
                      · exact absurd HGV.out hb
                      · rw [cast_nat] at hl2
                        obtain ⟨vs, rfl, hf⟩ := hl2.fill
                        have hf15 : FillOut vv 15 vs := hf
                        rw [List.length_map, HVL.out] at o2
                        obtain ⟨a2, c2, rfl⟩ : ∃ a2 c2, v2 = .slice a2 l.length c2 := by
                          rcases len_form o2 with ⟨e1, e2⟩ | ⟨g, cc, e1⟩
                          · exact ⟨none, 0, by rw [e1, e2]⟩
                          · exact ⟨_, _, e1⟩
                        have HO5 := hide (own_below HO4.out b5 (Nat.le_refl _))
                        have HQ5 := hide o2
                        have HB5 := hide (HB4.out.trans (b5.mono HB4.out.size))
                        have hvs : vs.length = ws.length := by rw [hf15.len, HVL.out, HWL.out]
                        have hco := cost_two ws vs l.length HWL.out H40.out HSUM.out hvs (fun i => (hf15.zero i).trans (HVZ.out i)) hf15.le
                        have HVS := hide hvs
                        have HCO := hide hco
                        clear hl2 hf hf15 o2 b5 hvs hco
                        go_wp2_with fail
                        refine (wawake_any _).mono ?_
                        rintro e w6 ⟨rfl, b6⟩
                        have HO6 := hide (own_below HO5.out b6 (Nat.le_refl _))
                        have HQ6 := hide (own_below HQ5.out b6 (Nat.le_refl _))
                        have HB6 := hide (HB5.out.trans (b6.mono HB5.out.size))
                        have hcb := cast_back l HE.out
                        rw [HWS.out] at hcb
                        have hl1 : (lens ws).length = l.length := by rw [lens_length, HWL.out]
                        have hl2 : (lens vs).length = l.length := by rw [lens_length, HVS.out, HWL.out]
                        have hcA := cost_any l ((lens ws).map fun (x : Nat) => (x : Int)) a a1 cap c1 w6 (HA.out.below HB6.out) (own_argZ HO6.out hl1) (by omega) (by rw [List.length_map, hl1]; omega)
                        rw [List.length_map, hl1, Nat.min_self] at hcA
                        have HCA := hide hcA
                        have HL2 := hide hl2
                        have HCB := hide hcb
                        clear b6 hcA hl1 hl2 hcb
                        go_wp2_with fail
                        refine HCA.out.mono ?_
                        rintro e w7 ⟨rfl, b7⟩
                        have HQ7 := hide (own_below HQ6.out b7 (Nat.le_refl _))
                        have HB7 := hide (HB6.out.trans (b7.mono HB6.out.size))
                        have hcB := cost_any l ((lens vs).map fun (x : Nat) => (x : Int)) a a2 cap c2 w7 (HA.out.below HB7.out) (own_argZ HQ7.out HL2.out) (by omega) (by rw [List.length_map, HL2.out]; omega)
                        rw [List.length_map, HL2.out, Nat.min_self] at hcB
                        have HCB2 := hide hcB
                        clear b7 hcB
                        go_wp2_with fail
                        refine HCB2.out.mono ?_
                        rintro e w8 ⟨rfl, b8⟩
                        have HB8 := hide (HB7.out.trans (b8.mono HB7.out.size))
                        have hfin := HCO.out
                        rw [HCB.out] at hfin
                        clear b8
                        generalize costW l ((lens ws).map fun (x : Nat) => (x : Int)) l.length = k1 at *
                        generalize costW l ((lens vs).map fun (x : Nat) => (x : Int)) l.length = k2 at *
                        go_wp2
                        go_ret
                        exact ⟨rfl, HB8.out⟩

theorem least_law (w : World) (v0 : Value) {b0 : Nat} {H : Type} {enc : TypeId × Value → H} {d0 d1 : DataW H} {p0 p1 : List MemPlace}
    (o0 : Value.okWide Try.prog w .any b0 22 v0) (k0 : DataW.Trod enc Try.prog w 0 (fun _ => true) true 22 v0 d0 p0) (v1 : Value)
    (o1 : Value.okWide Try.prog w .any b0 22 v1) (k1 : DataW.Trod enc Try.prog w 0 (fun _ => true) true 22 v1 d1 p1) :
    Calls Try.prog 5 #[v0, v1] w fun e w' => e = .returned (.bool true) ∧ Below w.heap.size w w' := by
  obtain ⟨pa, ca, a, rfl, ha, hn, _⟩ := open_argZ o0 k0
  obtain ⟨pb, cb, b, rfl, hb, _, hbb⟩ := open_argZ o1 k1
  exact least_walk a b pa pb ca cb w ha hn hb hbb

end Go.Proofs.Ytihgdlnnfhpdcaa
