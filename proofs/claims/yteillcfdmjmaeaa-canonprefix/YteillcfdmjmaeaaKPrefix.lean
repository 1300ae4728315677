/- Whatever lengths make a code: no symbol's number is the beginning of another one's: 'CanonPrefix' answers true. No condition. -/
import Derived.Test.YteillcfdmjmaeaaKTells
import Derived.Test.YteillcfdmjmaeaaQBelow
namespace Go.Proofs.Yteillcfdmjmaeaa
open Go.RowKit Go.Lib

set_option maxRecDepth 40000 in
set_option maxHeartbeats 4000000 in
theorem prefix_walk (l : List Int) (x y : Nat) (hx : x < 65536) (hy : y < 65536) (a : Option Addr) (cap : Nat) (W : World) (harg : ArgZ W a l) :
    Calls Try.prog 6 #[.slice a l.length cap, .agg #[.int .u16 (x : Int), .int .u16 (y : Int)]] W fun e w' => e = .returned (.bool true) ∧ Below W.heap.size W w' := by
  have b0 : Below W.heap.size W (W.alloc (.cells #[.int .u16 (x : Int), .int .u16 (y : Int)] 53)) := (Below.refl _ W).alloc (Nat.le_refl _) _
  have HA := hide (harg.below b0)
  have HB0 := hide b0
  have hx0 : (W.alloc (.cells #[.int .u16 (x : Int), .int .u16 (y : Int)] 53)).heap[W.heap.size]? = some (.cells #[.int .u16 (x : Int), .int .u16 (y : Int)] 53 (0, 0)) := heap_alloc_at _ _ rfl
  have HX0 := hide hx0
  clear harg b0 hx0
  by_cases h0 : l.length < 2
  · have z0 : (l.length : Int) < 2 := by omega
    go_enter Try.func6, Try.ntmps6
    go_wp2_with fail
    refine (kawake_any _).mono ?_
    rintro e w1 ⟨rfl, b1⟩
    have B1 := hide (HB0.out.trans (b1.mono HB0.out.size))
    clear b1
    go_wp2
    go_ret
    exact ⟨rfl, B1.out⟩
  have z0 : ¬ (l.length : Int) < 2 := by omega
  by_cases h1 : 600 < l.length
  · have z1 : (600 : Int) < l.length := by omega
    go_enter Try.func6, Try.ntmps6
    go_wp2_with fail
    refine (kawake_any _).mono ?_
    rintro e w1 ⟨rfl, b1⟩
    have B1 := hide (HB0.out.trans (b1.mono HB0.out.size))
    clear b1
    go_wp2
    go_ret
    exact ⟨rfl, B1.out⟩
  have z1 : ¬ (600 : Int) < l.length := by omega
  have HL := hide (show 2 ≤ l.length ∧ l.length ≤ 600 by omega)
  have HC := hide (check_any l a cap _ HA.out (by omega))
  by_cases hg : goodB l = true
  · rw [chkI_good hg] at HC
    obtain ⟨hE, hM⟩ := (goodB_iff l).1 hg
    have HG := hide hg
    have HE := hide hE
    have HM := hide hM
    clear hg hE hM
    go_enter Try.func6, Try.ntmps6
    go_wp2_with fail
    generalize hw0 : W.alloc (.cells #[.int .u16 (x : Int), .int .u16 (y : Int)] 53) = w0 at *
    clear hw0
    refine HC.out.mono ?_
    rintro e w1 ⟨rfl, HB1⟩
    go_wp2_with fail
    refine (codes_any l a cap w1 (HA.out.below HB1.out) (by have := HL.out; omega)).mono ?_
    rintro e w2 ⟨r, rfl, hr, b2⟩
    obtain ⟨v2, rfl, o2⟩ := codes_good hr HG.out
    obtain ⟨g2, c2, rfl⟩ := own_slice o2 (by have := HL.out; omega)
    have b12 := HB1.out.trans (b2.mono HB1.out.size)
    have HB2 := hide (HB0.out.trans (b12.mono HB0.out.size))
    have hbx := block_below HX0.out b12
    obtain ⟨k1, k2, _, _⟩ : w2.cell? ⟨W.heap.size, 0, none⟩ = some (.int .u16 (x : Int)) ∧ w2.cell? ⟨W.heap.size, 1, none⟩ = some (.int .u16 (y : Int)) ∧ True ∧ True := ⟨by rw [cell_of_row _ _ 0 _ _ (0, 0) hbx]; rfl, by rw [cell_of_row _ _ 1 _ _ (0, 0) hbx]; rfl, trivial, trivial⟩
    have HARG := hide ((HA.out.nat15 HE.out).below b12 (Nat.le_refl _))
    obtain ⟨ls, hls⟩ : ∃ ls, l.map Int.toNat = ls := ⟨_, rfl⟩
    have HLL := hide (show ls.length = l.length by rw [← hls, List.length_map])
    rw [hls] at HARG HM o2
    obtain ⟨n, hn⟩ : ∃ n, l.length = n := ⟨_, rfl⟩
    rw [hn] at HLL HL o2 z0 z1
    simp only [hn]
    have HO2 := hide o2
    have hn2 : 2 ≤ n := HL.out.1
    have hn6 : n ≤ 600 := HL.out.2
    have hri := rem_nat x n (by omega)
    have hrk := rem_nat y n (by omega)
    have hin : x % n < n := Nat.mod_lt _ (by omega)
    have hkn : y % n < n := Nat.mod_lt _ (by omega)
    have hn0 : ((n : Int) == 0) = false := by simp; omega
    clear hr b2 b12 hbx hls hn o2 h0 h1
    generalize x % n = i at *
    generalize y % n = k at *
    go_wp2_with fail
    go_quiet (fail)
    have hil : i < ls.length := by rw [HLL.out]; exact hin
    have hkl : k < ls.length := by rw [HLL.out]; exact hkn
    obtain ⟨b1, off1, rfl, hb1, _c1⟩ := HARG.out i _ (getD_some ls i hil)
    obtain ⟨b2, off2, e2, hb2, _c2⟩ := HARG.out k _ (getD_some ls k hkl)
    injection e2 with e2
    injection e2 with e3 e4
    subst e3
    subst e4
    have zi : (i : Int) < n := by omega
    have zk : (k : Int) < n := by omega
    have HIL := hide hil
    have HKL := hide hkl
    clear hri hrk hn0 hil hkl k1 k2
    by_cases hik : i = k
    · subst hik
      go_wp2_with fail
      go_quiet (fail)
      go_wp2_with fail
      refine (kawake_any _).mono ?_
      rintro e w3 ⟨rfl, b3⟩
      have B3 := hide ((below_drewN HB2.out _).trans (b3.mono HB2.out.size))
      clear b3
      go_wp2
      go_ret
      exact ⟨rfl, B3.out⟩
    have bik : ((i : Int) == (k : Int)) = false := by simp; omega
    by_cases hi0 : ls.getD i 0 = 0
    · rw [hi0] at _c1
      go_wp2_with fail
      go_quiet (fail)
      go_wp2_with fail
      refine (kawake_any _).mono ?_
      rintro e w3 ⟨rfl, b3⟩
      have B3 := hide ((below_drewN HB2.out _).trans (b3.mono HB2.out.size))
      clear b3
      go_wp2
      go_ret
      exact ⟨rfl, B3.out⟩
    by_cases hk0 : ls.getD k 0 = 0
    · rw [hk0] at _c2
      have bi0 : (((ls.getD i 0 : Nat) : Int) == 0) = false := by simp; rw [List.getD_eq_getElem?_getD] at hi0; omega
      generalize ls.getD i 0 = li at *
      go_wp2_with fail
      go_quiet (fail)
      go_wp2_with fail
      refine (kawake_any _).mono ?_
      rintro e w3 ⟨rfl, b3⟩
      have B3 := hide ((below_drewN HB2.out _).trans (b3.mono HB2.out.size))
      clear b3
      go_wp2
      go_ret
      exact ⟨rfl, B3.out⟩
    by_cases hlk : ls.getD k 0 < ls.getD i 0
    · have bi0 : (((ls.getD i 0 : Nat) : Int) == 0) = false := by simp; rw [List.getD_eq_getElem?_getD] at hi0; omega
      have bk0 : (((ls.getD k 0 : Nat) : Int) == 0) = false := by simp; rw [List.getD_eq_getElem?_getD] at hk0; omega
      have zlk : ((ls.getD k 0 : Nat) : Int) < ((ls.getD i 0 : Nat) : Int) := by omega
      have dlk : decide (((ls.getD k 0 : Nat) : Int) < ((ls.getD i 0 : Nat) : Int)) = true := decide_eq_true zlk
      have dlk2 : decide (ls.getD k 0 < ls.getD i 0) = true := decide_eq_true hlk
      generalize ls.getD i 0 = li at *
      generalize ls.getD k 0 = lk at *
      go_wp2_with fail
      go_quiet (fail)
      go_wp2_with fail
      refine (kawake_any _).mono ?_
      rintro e w3 ⟨rfl, b3⟩
      have B3 := hide ((below_drewN HB2.out _).trans (b3.mono HB2.out.size))
      clear b3
      go_wp2
      go_ret
      exact ⟨rfl, B3.out⟩
    have HPRE := hide (code_pre HM.out i k HIL.out HKL.out hi0 hk0 hik (by omega))
    have HLT := hide (code_lt HM.out i HIL.out hi0)
    have HLTK := hide (code_lt HM.out k HKL.out hk0)
    have hi15 : ls.getD i 0 ≤ 15 := HM.out.each _ (List.mem_of_getElem? (getD_some ls i HIL.out))
    have hk15 : ls.getD k 0 ≤ 15 := HM.out.each _ (List.mem_of_getElem? (getD_some ls k HKL.out))
    have bi0 : (((ls.getD i 0 : Nat) : Int) == 0) = false := by simp; rw [List.getD_eq_getElem?_getD] at hi0; omega
    have bk0 : (((ls.getD k 0 : Nat) : Int) == 0) = false := by simp; rw [List.getD_eq_getElem?_getD] at hk0; omega
    have dlk : decide (((ls.getD k 0 : Nat) : Int) < ((ls.getD i 0 : Nat) : Int)) = false := by simp only [decide_eq_false_iff_not]; omega
    have dlk2 : decide (ls.getD k 0 < ls.getD i 0) = false := by simp only [decide_eq_false_iff_not]; exact hlk
    have HCI := hide (show (codesL ls)[i]? = some (codeN ls i) by unfold codesL; rw [List.getElem?_map, List.getElem?_range HIL.out]; rfl)
    have HCK := hide (show (codesL ls)[k]? = some (codeN ls k) by unfold codesL; rw [List.getElem?_map, List.getElem?_range HKL.out]; rfl)
    obtain ⟨p, hp1, hp2, hp3, hp4⟩ := pow15 (ls.getD i 0) hi15
    obtain ⟨pd, hpd1, hpd2, hpd3, hpd4⟩ := pow15 (ls.getD k 0 - ls.getD i 0) (by omega)
    rw [← hp2] at HLT
    have hk2 := HLTK.out.2.1
    have hk3 := pow_small (ls.getD k 0) hk15
    rw [← hpd2] at HPRE
    generalize codeN ls i = ci at *
    generalize codeN ls k = ck at *
    have hci : ci < p := HLT.out.2.1
    have hck : ck ≤ 32768 := by omega
    have zd : ((ls.getD k 0 : Nat) : Int) - ((ls.getD i 0 : Nat) : Int) = ((ls.getD k 0 - ls.getD i 0 : Nat) : Int) := by omega
    have hdd9 : ls.getD k 0 - ls.getD i 0 ≤ 15 := by omega
    have HLI := hide (show ls.getD i 0 < ls.getD k 0 ∨ ls.getD i 0 = ls.getD k 0 by omega)
    obtain ⟨q, hq⟩ : ∃ q, ck / pd = q := ⟨_, rfl⟩
    rw [hq] at HPRE
    have hqi : (ck : Int) / (pd : Int) = (q : Int) := by rw [← hq]; exact (Int.natCast_ediv _ _).symm
    have hqle : q ≤ 32768 := by rw [← hq]; exact Nat.le_trans (Nat.div_le_self _ _) hck
    have hqne : ((q : Int) == (ci : Int)) = false := by have := HPRE.out.1; simp; omega
    clear hk2 hk3 HLT HLTK hq hp2 hpd2
    generalize hdd : ls.getD k 0 - ls.getD i 0 = dd at *
    have HDD := hide hdd
    clear hdd
    generalize ls.getD i 0 = li at *
    generalize ls.getD k 0 = lk at *
    go_wp2_with fail
    go_quiet (fail)
    go_wp2_with fail
    have d1 := own_lit HO2.out i ci HCI.out hin
    have d2 := own_lit HO2.out k ck HCK.out hkn
    have hg2 : g2 < w2.heap.size := (HO2.out.lt g2 rfl).2
    have zci : (ci : Int) < (p : Int) := by omega
    have dci : decide ((ci : Int) < (p : Int)) = true := decide_eq_true zci
    have dci2 : decide (ci < p) = true := decide_eq_true hci
    have zp : IntKind.i64.wrap (p : Int) = (p : Int) := by rw [IntKind.wrap_i64]; omega
    have hc0 : (0 : Int) ≤ (ci : Int) := by omega
    have dc0 : decide ((0 : Int) ≤ (ci : Int)) = true := decide_eq_true hc0
    have hqne2 : ((q : Int) != (ci : Int)) = true := by rw [bne, hqne]; rfl
    have hnu : Nonempty (Since0 w2) := ⟨⟨w2, Below.refl _ _⟩⟩
    have l1 : ∀ u : Since0 w2, u.1.cell? ⟨g2, i, none⟩ = some (.int .i64 (ci : Int)) := fun u => (u.cell (p := ⟨g2, i, none⟩) hg2).trans d1
    have l2 : ∀ u : Since0 w2, u.1.cell? ⟨g2, k, none⟩ = some (.int .i64 (ck : Int)) := fun u => (u.cell (p := ⟨g2, k, none⟩) hg2).trans d2
    have l3 : ∀ u : Since0 w2, u.1.cell? ⟨b1, off1 + i, none⟩ = some (.int .i64 (li : Int)) := fun u => (u.cell (p := ⟨b1, off1 + i, none⟩) hb1).trans _c1
    have l4 : ∀ u : Since0 w2, u.1.cell? ⟨b1, off1 + k, none⟩ = some (.int .i64 (lk : Int)) := fun u => (u.cell (p := ⟨b1, off1 + k, none⟩) hb2).trans _c2
    by_cases hll : li < lk
    · have zll : (li : Int) < (lk : Int) := by omega
      have dll : decide ((li : Int) < (lk : Int)) = true := decide_eq_true zll
      have dll2 : decide (li < lk) = true := decide_eq_true hll
      have hcq : (ci : Int) ≤ (q : Int) := by have := HPRE.out.2.2 (.inl hll); omega
      have dcq : decide ((ci : Int) ≤ (q : Int)) = true := decide_eq_true hcq
      have dcq2 : decide (ci ≤ q) = true := decide_eq_true (by omega)
      simp only [List.append]
      refine wp_region_below w2 (below_drewN (below_drewN (Below.refl _ _) _) _) (by kernel_rfl) (by kernel_rfl) ?_
      repeat (go_big_quiet_step ((rename_i u; exact calls_since u (kawake_any _))))
      refine wpQuiet_nil ?_
      intro _ hw'
      obtain ⟨u, rfl⟩ := hw'
      have HBU := hide (HB2.out.trans (u.2.mono HB2.out.size))
      go_wp2
      go_ret
      exact ⟨rfl, HBU.out⟩
    · have zll : ¬ (li : Int) < (lk : Int) := by omega
      have dll : decide ((li : Int) < (lk : Int)) = false := decide_eq_false zll
      have dll2 : decide (li < lk) = false := decide_eq_false hll
      obtain ⟨Bv, hBv⟩ : ∃ Bv, decide (i < k) = Bv := ⟨_, rfl⟩
      have hBi : decide ((i : Int) < (k : Int)) = Bv := by rw [← hBv]; exact decide_eq_decide.2 Int.ofNat_lt
      have hcq2 : decide (ci ≤ q) = Bv := by
        rw [← hBv]
        refine decide_eq_decide.2 (HPRE.out.2.trans ⟨fun h => ?_, .inr⟩)
        rcases h with h | h
        · exact absurd h hll
        · exact h
      have hcq : decide ((ci : Int) ≤ (q : Int)) = Bv := by rw [← hcq2]; exact decide_eq_decide.2 Int.ofNat_le
      simp only [List.append]
      refine wp_region_below w2 (below_drewN (below_drewN (Below.refl _ _) _) _) (by kernel_rfl) (by kernel_rfl) ?_
      repeat (go_big_quiet_step ((rename_i u; exact calls_since u (kawake_any _))))
      refine wpQuiet_nil ?_
      intro _ hw'
      obtain ⟨u, rfl⟩ := hw'
      have HBU := hide (HB2.out.trans (u.2.mono HB2.out.size))
      go_wp2
      go_ret
      exact ⟨by simp, HBU.out⟩
  · rw [chkI_bad hg] at HC
    go_enter Try.func6, Try.ntmps6
    go_wp2_with fail
    refine HC.out.mono ?_
    rintro e w1 ⟨rfl, HB1⟩
    go_wp2_with fail
    refine (kawake_any _).mono ?_
    rintro e w2 ⟨rfl, b2⟩
    have B2 := hide (HB0.out.trans ((HB1.out.trans (b2.mono HB1.out.size)).mono HB0.out.size))
    clear b2
    go_wp2
    go_ret
    exact ⟨rfl, B2.out⟩

theorem Try.u16Cells : Try.prog.cellsOf 49 = 1 := by kernel_rfl
theorem Try.twoCells : Try.prog.cellsOf 53 = 2 := by kernel_rfl

/-- Two numbers that came in. -/
theorem open_two {H : Type} {enc : TypeId × Value → H} {w : World} {r : Go.Reach} {b0 base : Nat} {sp : Nat → Bool} {held : Bool} {v : Value} {d : DataW H} {ps : List MemPlace}
    (ho : Value.okWide Try.prog w r b0 53 v) (hk : DataW.Trod enc Try.prog w base sp held 53 v d ps) :
    ∃ x y : Nat, x < 65536 ∧ y < 65536 ∧ v = .agg #[.int .u16 (x : Int), .int .u16 (y : Int)] := by
  unfold Value.okWide at ho
  rw [Try.underlying53] at ho
  obtain ⟨cs, rfl, hsz, _⟩ := ho
  rw [Try.twoCells] at hsz
  obtain ⟨fuel, hf⟩ := hk
  obtain ⟨xs, m, rfl, hx, hl, hxl, hel⟩ := DataW.trod_array Try.underlying53 hf
  have key : ∀ i, i < 2 → ∃ z : Nat, z < 65536 ∧ cs[i]? = some (.int .u16 (z : Int)) := by
    intro i hi
    have h := hel i hi
    rw [Try.u16Cells, Nat.mul_one, List.getElem?_eq_getElem (by omega)] at h
    obtain ⟨z, hz, _, hwf⟩ := DataW.trod_int Try.underlying49 h
    have hb := bounds_u16 hwf
    refine ⟨z.toNat, by omega, ?_⟩
    have h0 : ((cs.toList.drop i).take 1)[0]? = some (.int .u16 z) := by
      have : (Value.agg cs).cells = cs := rfl
      rw [this] at hz
      rw [hz]
      rfl
    rw [List.getElem?_take, if_pos (by decide), List.getElem?_drop, Nat.add_zero, Array.getElem?_toList] at h0
    rw [h0, Int.toNat_of_nonneg hb.1]
  obtain ⟨x, hx1, hx2⟩ := key 0 (by decide)
  obtain ⟨y, hy1, hy2⟩ := key 1 (by decide)
  refine ⟨x, y, hx1, hy1, ?_⟩
  congr 1
  apply Array.ext_getElem?
  intro i
  by_cases h0 : i = 0
  · subst h0; rw [hx2]; rfl
  · by_cases h1 : i = 1
    · subst h1; rw [hy2]; rfl
    · rw [Array.getElem?_eq_none (by omega), Array.getElem?_eq_none (by show 2 ≤ i; omega)]

theorem prefix_law (w : World) (v0 : Value) {b0 : Nat} {H : Type} {enc : TypeId × Value → H} {d0 : DataW H} {p0 : List MemPlace}
    (o0 : Value.okWide Try.prog w .any b0 22 v0) (k0 : DataW.Trod enc Try.prog w 0 (fun _ => true) true 22 v0 d0 p0)
    (v1 : Value) {b1 : Nat} {d1 : DataW H} {p1 : List MemPlace}
    (o1 : Value.okWide Try.prog w .any b1 53 v1) (k1 : DataW.Trod enc Try.prog w 0 (fun _ => true) true 53 v1 d1 p1) :
    Calls Try.prog 6 #[v0, v1] w fun e w' => e = .returned (.bool true) ∧ Below w.heap.size w w' := by
  obtain ⟨pa, ca, a, rfl, ha, _, _⟩ := open_argZ o0 k0
  obtain ⟨x, y, hx, hy, rfl⟩ := open_two o1 k1
  exact prefix_walk a x y hx hy pa ca w ha

end Go.Proofs.Yteillcfdmjmaeaa
