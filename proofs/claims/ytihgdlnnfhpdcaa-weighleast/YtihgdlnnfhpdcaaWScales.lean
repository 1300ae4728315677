/- Whatever weights of 2,500 at most in all, and these so many times: they make the same lengths: 'WeighScales' answers true. No condition. -/
import Derived.Test.YtihgdlnnfhpdcaaWLengths
namespace Go.Proofs.Ytihgdlnnfhpdcaa
open Go.RowKit Go.Lib

/-- The sum of the first j. -/
def sumZ (l : List Int) (j : Nat) : Nat := ((l.take j).map Int.toNat).sum
theorem sumZ_succ (l : List Int) (j : Nat) (x : Int) (h : l[j]? = some x) : sumZ l (j + 1) = sumZ l j + x.toNat := by
  unfold sumZ
  rw [List.take_add_one, h, List.map_append, List.sum_append]
  simp
theorem sumZ_le (l : List Int) (j : Nat) (h : ∀ x ∈ l.take j, 0 ≤ x ∧ x ≤ 2500) (hl : l.length ≤ 100) : sumZ l j ≤ 250000 := by
  have h1 := sum_le ((l.take j).map Int.toNat) 2500 (fun x hx => by
    obtain ⟨y, hy, rfl⟩ := List.mem_map.1 hx
    have := h y hy
    omega)
  rw [List.length_map, List.length_take] at h1
  unfold sumZ
  have h2 : min j l.length * 2500 ≤ 100 * 2500 := Nat.mul_le_mul_right _ (by omega)
  omega

theorem small_lim (ws : List Nat) (h : ws.sum < 2584) : LimTo ws 15 (lens ws) := ⟨0, rfl, (shortL_iff _ _).2 (fun s => lens_fib ws h s), fun i hi => by omega⟩

theorem times_lim (ws : List Nat) (c : Nat) (hc : 0 < c) (h : ws.sum < 2584) : LimTo (ws.map (· * c)) 15 (lens ws) := by
  refine ⟨0, (lens_times c hc ws).symm, ?_, fun i hi => by omega⟩
  show shortL (ws.map (· * c)) 15
  unfold shortL
  rw [lens_times c hc]
  exact (shortL_iff _ _).2 (fun s => lens_fib ws h s)

theorem cast_nat (ws : List Nat) : (ws.map fun (x : Nat) => (x : Int)).map Int.toNat = ws := by
  rw [List.map_map]
  exact (List.map_congr_left (fun x _ => by simp)).trans (List.map_id _)

theorem scaled_fill (l : List Int) (c : Nat) : fillTo (fun i => (l.getD i 0).toNat * c) l.length l.length = (l.map Int.toNat).map (· * c) := by
  apply List.ext_getElem?
  intro i
  by_cases hi : i < l.length
  · rw [fillTo_get _ _ _ i hi, if_pos hi, List.getElem?_map, List.getElem?_map, getZ l i hi]
    rfl
  · rw [List.getElem?_eq_none (by rw [fillTo_length]; omega), List.getElem?_eq_none (by simp; omega)]

theorem mul_wrap (x c : Nat) (hx : x ≤ 2500) (hc : c ≤ 256) : wrap64 ((x : Int) * (c : Int)) = ((x * c : Nat) : Int) := by
  have h : x * c ≤ 2500 * 256 := Nat.mul_le_mul hx hc
  rw [← Int.natCast_mul]
  unfold wrap64
  omega

theorem times_wrap (y bn : Nat) (hy : y ≤ 2500) (hb : bn ≤ 255) : wrap64 ((y : Int) * wrap64 (1 + wrap64 (bn : Int))) = ((y * (1 + bn) : Nat) : Int) := by
  have e1 : wrap64 (bn : Int) = bn := by unfold wrap64; omega
  have e2 : wrap64 (1 + (bn : Int)) = ((1 + bn : Nat) : Int) := by unfold wrap64; omega
  rw [e1, e2]
  exact mul_wrap y (1 + bn) hy (by omega)

set_option maxRecDepth 20000 in
set_option maxHeartbeats 4000000 in
theorem scales_walk (l : List Int) (bn : Nat) (hbn : bn ≤ 255) (a : Option Addr) (cap : Nat) (W : World) (harg : ArgZ W a l) (hnil : a = none → cap = 0) :
    Calls Try.prog 7 #[.slice a l.length cap, .int .u8 bn] W fun e w' => e = .returned (.bool true) ∧ Below W.heap.size W w' := by
  have HA := hide harg
  have HN := hide hnil
  clear harg hnil
  by_cases h1 : 100 < l.length
  · have z1 : (100 : Int) < l.length := by omega
    go_enter Try.func7, Try.ntmps7
    go_wp2_with fail
    refine (wawake_any _).mono ?_
    rintro e w1 ⟨rfl, b1⟩
    have B1 := hide b1
    clear b1
    go_wp2
    go_ret
    exact ⟨rfl, B1.out⟩
  · have z1 : ¬ (100 : Int) < l.length := by omega
    have hl100 : l.length ≤ 100 := by omega
    have HL := hide hl100
    have hmk := run_make_row' (P := Try.prog) 22 3 (.int .i64 0) 8 Try.underlying22 Try.infoInt rfl .i64 .i64 l.length (by omega) (by omega)
    have O0 := hide (own_made W (fun i => (l.getD i 0).toNat * (1 + bn)) l.length (by omega))
    have B0 := hide ((Below.refl W.heap.size W).alloc (Nat.le_refl _) (.cells (madeCells #[.int .i64 0] l.length) 3))
    have HBN := hide hbn
    clear hbn
    go_enter Try.func7, Try.ntmps7
    go_wp2
    clear hmk
    go_loopw [5, 7] (fun s i wr => ∃ j : Nat, j ≤ l.length ∧ i = .int .i64 j ∧ s = .int .i64 (sumZ l j : Nat) ∧ Hid (∀ x ∈ l.take j, 0 ≤ x ∧ x ≤ 2500) ∧ Hid (wr.ownsRow W.heap.size 3 1 (.slice (some ⟨W.heap.size, 0, none⟩) l.length l.length) l.length (natCs (fillTo (fun i => (l.getD i 0).toNat * (1 + bn)) l.length j))) ∧ Hid (Below W.heap.size W wr)) (fun _ i _ => l.length - (intOf i).toNat)
    case atStart => exact ⟨0, Nat.zero_le _, rfl, rfl, hide (fun x hx => by simp at hx), O0, B0⟩
    case round =>
      obtain ⟨j, hj, rfl, rfl, HE, HO, HB⟩ := hrel
      have hs := sumZ_le l j HE.out HL.out
      by_cases hlt : j < l.length
      · obtain ⟨x, hx⟩ : ∃ x, l[j]? = some x := ⟨_, List.getElem?_eq_getElem hlt⟩
        obtain ⟨b, off, rfl, hb, hc⟩ := HA.out j x hx
        have _c := (HB.out.cell (p := ⟨b, off + j, none⟩) hb).trans hc
        have zj : (j : Int) < l.length := by omega
        have HX := hide hx
        clear hx hc
        by_cases q1 : x < 0
        · go_wp2_with fail
          refine (wawake_any _).mono ?_
          rintro e w1 ⟨rfl, b1⟩
          have B1 := hide (HB.out.trans (b1.mono HB.out.size))
          clear b1
          go_wp2
          go_ret
          exact ⟨rfl, B1.out⟩
        · have q1d : decide (x < 0) = false := by simp; omega
          by_cases q2 : 2500 < x
          · go_wp2_with fail
            refine (wawake_any _).mono ?_
            rintro e w1 ⟨rfl, b1⟩
            have B1 := hide (HB.out.trans (b1.mono HB.out.size))
            clear b1
            go_wp2
            go_ret
            exact ⟨rfl, B1.out⟩
          · have q2d : decide (2500 < x) = false := by simp; omega
            obtain ⟨y, rfl⟩ := Int.eq_ofNat_of_zero_le (show 0 ≤ x by omega)
            have hy : y ≤ 2500 := by omega
            have HE2 := hide (show ∀ z ∈ l.take (j + 1), 0 ≤ z ∧ z ≤ 2500 from fun z hz => by
              rw [List.take_add_one, HX.out] at hz
              rcases List.mem_append.1 hz with e | e
              · exact HE.out z e
              · have e2 : z = (y : Int) := by simpa using e
                rw [e2]; omega)
            have HS2 := hide (show sumZ l (j + 1) = sumZ l j + y by rw [sumZ_succ l j _ HX.out, Int.toNat_natCast])
            have ho := HO.out
            have hz : (fillTo (fun i => (l.getD i 0).toNat * (1 + bn)) l.length j)[j]? = some 0 := by rw [fillTo_get _ _ _ j hlt, if_neg (by omega)]
            obtain ⟨_c2, _f2⟩ := own_nat (by rw [fillTo_length]; exact ho) hz
            have hset := own_set ho j (y * (1 + bn))
            have hg : (l.getD j 0).toNat = y := by rw [List.getD_eq_getElem?_getD, HX.out]; rfl
            have hfs := fillTo_set (fun i => (l.getD i 0).toNat * (1 + bn)) l.length j hlt
            simp only [hg] at hfs
            rw [hfs] at hset
            have HSET := hide hset
            have HV := hide (times_wrap y bn hy HBN.out)
            have zs : wrap64 (((sumZ l j : Nat) : Int) + y) = ((sumZ l j : Nat) : Int) + y := by unfold wrap64; omega
            clear ho hz hset hg hfs hb
            go_wp2
            go_roundw
            case rel => exact ⟨j + 1, hlt, by go_num, by rw [HS2.out]; go_num, HE2, by rw [HV.out]; exact HSET, hide (HB.out.setCell (p := ⟨W.heap.size, j, none⟩) (Nat.le_refl _) _)⟩
            case measure => exact meas_oneW j l.length hlt
      · have hje : j = l.length := by omega
        subst hje
        have HEA : Hid (∀ x ∈ l, 0 ≤ x ∧ x ≤ 2500) := hide (by have h := HE.out; rw [List.take_of_length_le (Nat.le_refl _)] at h; exact h)
        have HSZ := hide (show sumZ l l.length = (l.map Int.toNat).sum by unfold sumZ; rw [List.take_of_length_le (Nat.le_refl _)])
        rw [scaled_fill] at HO
        clear HE O0 B0 hlt hj
        generalize sumZ l l.length = s at *
        by_cases q3 : 2500 < s
        · have z3 : (2500 : Int) < s := by omega
          go_wp2_with fail
          refine (wawake_any _).mono ?_
          rintro e w1 ⟨rfl, b1⟩
          have B1 := hide (HB.out.trans (b1.mono HB.out.size))
          clear b1
          go_wp2
          go_ret
          exact ⟨rfl, B1.out⟩
        · have z3 : ¬ (2500 : Int) < s := by omega
          have HSUM := hide (show (l.map Int.toNat).sum < 2584 by rw [← HSZ.out]; omega)
          have hc0 : cntL (l.map Int.toNat) ≤ 100 := by have h := cntL_le (l.map Int.toNat); rw [List.length_map] at h; omega
          have HG1 := hide (show GoodW l 15 from ⟨by decide, by decide, by omega, fun x hx => by have := HEA.out x hx; omega, Nat.le_trans hc0 (by decide)⟩)
          obtain ⟨ws, hws⟩ : ∃ ws, l.map Int.toNat = ws := ⟨_, rfl⟩
          have hwl : ws.length = l.length := by rw [← hws, List.length_map]
          have HG2 := hide (show GoodW ((ws.map (· * (1 + bn))).map fun (x : Nat) => (x : Int)) 15 from by
            refine ⟨by decide, by decide, by simp only [List.length_map]; omega, fun x hx => ?_, ?_⟩
            · obtain ⟨y, hy, rfl⟩ := List.mem_map.1 hx
              obtain ⟨z, hz, rfl⟩ := List.mem_map.1 hy
              rw [← hws] at hz
              obtain ⟨u, hu, rfl⟩ := List.mem_map.1 hz
              have h1 := HEA.out u hu
              have h2 : u.toNat * (1 + bn) ≤ 2500 * 256 := Nat.mul_le_mul (by omega) (by have := HBN.out; omega)
              show (0 : Int) ≤ ((u.toNat * (1 + bn) : Nat) : Int) ∧ ((u.toNat * (1 + bn) : Nat) : Int) ≤ 1099511627776
              omega
            · rw [cast_nat]
              have h := cntL_le (ws.map (· * (1 + bn)))
              rw [List.length_map] at h
              exact Nat.le_trans (Nat.le_trans h (show ws.length ≤ 100 by omega)) (by decide))
          rw [hws] at HO HSUM
          have HWS := hide hws
          have HWL := hide hwl
          have HL1 := hide (small_lim ws HSUM.out)
          have HL2 := hide (times_lim ws (1 + bn) (by omega) HSUM.out)
          have hll : (lens ws).length = l.length := by rw [lens_length, hwl]
          have HLL := hide hll
          clear hws hwl hc0 q3 hll
          go_wp2_with fail
          refine (lengths_any l 15 a cap _ (HA.out.below HB.out) HN.out).mono ?_
          rintro e w1 ⟨r, rfl, hr, b1⟩
          obtain ⟨v1, rfl, o1⟩ := len_good hr HG1.out (lens ws) (by rw [HWS.out]; exact HL1.out)
          obtain ⟨a1, c1, rfl⟩ : ∃ a1 c1, v1 = .slice a1 l.length c1 := by
            rcases len_form o1 with ⟨e1, e2⟩ | ⟨g, cc, e1⟩
            · exact ⟨none, 0, by rw [e1, e2]⟩
            · exact ⟨_, _, e1⟩
          have HO1 := hide (own_below HO.out b1 (Nat.le_refl _))
          have R1 := hide o1
          have B1 := hide (HB.out.trans (b1.mono HB.out.size))
          clear hr b1 o1
          have hcl2 := lengths_any ((ws.map (· * (1 + bn))).map fun (x : Nat) => (x : Int)) 15 (some ⟨W.heap.size, 0, none⟩) l.length w1 (own_argZ HO1.out (by rw [List.length_map]; exact HWL.out)) (fun h => by cases h)
          rw [List.length_map, List.length_map, HWL.out] at hcl2
          have HCL2 := hide hcl2
          clear hcl2
          go_wp2_with fail
          refine HCL2.out.mono ?_
          rintro e w2 ⟨r, rfl, hr, b2⟩
          obtain ⟨v2, rfl, o2⟩ := len_good hr HG2.out (lens ws) (by rw [cast_nat]; exact HL2.out)
          rw [List.length_map, List.length_map, HWL.out] at o2
          obtain ⟨a2, c2, rfl⟩ : ∃ a2 c2, v2 = .slice a2 l.length c2 := by
            rcases len_form o2 with ⟨e1, e2⟩ | ⟨g, cc, e1⟩
            · exact ⟨none, 0, by rw [e1, e2]⟩
            · exact ⟨_, _, e1⟩
          have R12 := hide (own_below R1.out b2 (Nat.le_refl _))
          have R2 := hide o2
          have B2 := hide (B1.out.trans (b2.mono B1.out.size))
          clear hr b2 o2
          go_wp2_with fail
          refine (wawake_any _).mono ?_
          rintro e w3 ⟨rfl, b3⟩
          have hsm := same_any ((lens ws).map fun (x : Nat) => (x : Int)) a1 a2 c1 c2 w3 (own_argZ (own_below R12.out b3 (Nat.le_refl _)) HLL.out) (own_argZ (own_below R2.out b3 (Nat.le_refl _)) HLL.out) (by rw [List.length_map, HLL.out]; have := HL.out; omega)
          rw [List.length_map, HLL.out] at hsm
          have HSM := hide hsm
          have B3 := hide (B2.out.trans (b3.mono B2.out.size))
          clear b3 hsm
          go_wp2_with fail
          refine HSM.out.mono ?_
          rintro e w4 ⟨rfl, b4⟩
          have B4 := hide (B3.out.trans (b4.mono B3.out.size))
          clear b4
          go_wp2
          go_ret
          exact ⟨rfl, B4.out⟩

theorem scales_law (w : World) (v0 : Value) {b0 : Nat} {H : Type} {enc : TypeId × Value → H} {d0 : DataW H} {p0 : List MemPlace}
    (o0 : Value.okWide Try.prog w .any b0 22 v0) (k0 : DataW.Trod enc Try.prog w 0 (fun _ => true) true 22 v0 d0 p0) (a1 : Int) (w1 : (Lit.int .u8 a1).wf = true) :
    Calls Try.prog 7 #[v0, .int .u8 a1] w fun e w' => e = .returned (.bool true) ∧ Below w.heap.size w w' := by
  obtain ⟨pa, ca, a, rfl, ha, hn, _⟩ := open_argZ o0 k0
  have hb := bounds_u8 w1
  obtain ⟨n, rfl⟩ := Int.eq_ofNat_of_zero_le hb.1
  exact scales_walk a n (by omega) pa ca w ha hn

end Go.Proofs.Ytihgdlnnfhpdcaa
