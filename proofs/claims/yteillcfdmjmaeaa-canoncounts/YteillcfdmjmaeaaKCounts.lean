/- Whatever lengths make a code: it has just the symbols with a length, each length's as many as there are: 'CanonCounts' answers true. No condition. -/
import Derived.Test.YteillcfdmjmaeaaKTells
namespace Go.Proofs.Yteillcfdmjmaeaa
open Go.RowKit Go.Lib

/-- What stays: the lengths, the code, its symbols. -/
structure CntS (w W : World) (a : Option Addr) (l : List Int) (P : Nat) (cs : List Value) (a3 : Option Addr) (S : List Nat) : Prop where
  arg : ArgN w a (l.map Int.toNat)
  b1 : w.heap[P]? = some (.cells cs.toArray 29 (0, 0))
  s1 : ArgN w a3 S
  bel : Below W.heap.size W w

set_option maxRecDepth 20000 in
set_option maxHeartbeats 4000000 in
theorem counts_walk (l : List Int) (a : Option Addr) (cap : Nat) (W : World) (harg : ArgZ W a l) :
    Calls Try.prog 8 #[.slice a l.length cap] W fun e w' => e = .returned (.bool true) ∧ Below W.heap.size W w' := by
  have HA := hide harg
  have hv := Try.zeroCode
  have hZn := codeCs_length (fun _ => 0) (.slice none 0 0)
  generalize codeCs (fun _ => 0) (.slice none 0 0) = Z at hv hZn
  clear harg
  by_cases h1 : 600 < l.length
  · have z1 : (600 : Int) < l.length := by omega
    go_enter Try.func8, Try.ntmps8
    go_wp2_with fail
    refine (kawake_any _).mono ?_
    rintro e w1 ⟨rfl, b1⟩
    have B1 := hide b1
    clear b1
    go_wp2
    go_ret
    exact ⟨rfl, B1.out⟩
  · have z1 : ¬ (600 : Int) < l.length := by omega
    have HL := hide (show l.length ≤ 1000 by omega)
    have HC := hide (check_any l a cap W HA.out HL.out)
    by_cases hg : goodB l = true
    · rw [chkI_good hg] at HC
      obtain ⟨hE, hM⟩ := (goodB_iff l).1 hg
      have HG := hide hg
      have HE := hide hE
      clear hg hE hM
      go_enter Try.func8, Try.ntmps8
      go_wp2_with fail
      refine HC.out.mono ?_
      rintro e w1 ⟨rfl, HB1⟩
      go_wp2_with fail
      refine (build_any l a cap w1 (HA.out.below HB1.out) HL.out).mono ?_
      rintro e w2 ⟨r, rfl, hr, b2⟩
      obtain ⟨a3, c3, m, rfl, hm, o3⟩ := build_good hr HG.out
      have hs3 := own_arg o3 hm
      have b12 := HB1.out.trans (b2.mono HB1.out.size)
      have hA2 := (HA.out.nat15 HE.out).below b12 (Nat.le_refl _)
      obtain ⟨ls, hls⟩ : ∃ ls, l.map Int.toNat = ls := ⟨_, rfl⟩
      have HLL := hide (show ls.length = l.length by rw [← hls, List.length_map])
      rw [hls] at hs3 hA2 hm
      simp only [hls]
      have h17 := codeCs_length (cn ls) (.slice a3 m c3)
      have hst := code_store w2 Z (codeCs (cn ls) (.slice a3 m c3)) hZn h17 (codeCs_one _ _ rfl)
      have HGET := hide (codeCs_get (cn ls) (.slice a3 m c3))
      have HLAST := hide (codeCs_last (cn ls) (.slice a3 m c3))
      have HS := hide (show CntS (w2.alloc (.cells (codeCs (cn ls) (.slice a3 m c3)).toArray 29)) W a l w2.heap.size (codeCs (cn ls) (.slice a3 m c3)) a3 (symTo ls 16) from
        ⟨by rw [hls]; exact hA2.below ((Below.refl _ w2).alloc (Nat.le_refl _) _) (Nat.le_refl _), heap_alloc_at _ _ rfl, hs3.below ((Below.refl _ w2).alloc (Nat.le_refl _) _) (Nat.le_refl _), b12.alloc b12.size _⟩)
      have HLS := hide hls
      have HM := hide hm
      unfold codeV
      clear hr o3 hs3 b12 hA2 hls hm b2
      generalize codeCs (cn ls) (.slice a3 m c3) = cs at *
      go_wp2
      obtain ⟨P, hP⟩ : ∃ P, w2.heap.size = P := ⟨_, rfl⟩
      rw [hP] at HS
      simp only [hP]
      clear hP hst h17
      generalize hw3 : w2.alloc (.cells cs.toArray 29) = w3 at *
      clear hw3
      have HARG := hide HS.out.arg
      rw [HLS.out] at HARG
      obtain ⟨n, hn⟩ : ∃ n, l.length = n := ⟨_, rfl⟩
      rw [hn] at HLL HL
      simp only [hn]
      clear hn z1 h1
      have c16 : w3.cell? ⟨P, 16, none⟩ = some (.slice a3 m c3) := by rw [cell_of_row _ _ _ _ _ (0, 0) HS.out.b1, List.getElem?_toArray]; exact HLAST.out
      have HCK := hide (show ∀ k, k < 16 → w3.cell? ⟨P, k, none⟩ = some (.int .i64 (cn ls k : Nat)) from fun k hk => by rw [cell_of_row _ _ _ _ _ (0, 0) HS.out.b1, List.getElem?_toArray]; exact HGET.out k hk)
      go_loop [5, 6, 7, 8] (fun tv kv _ _ => ∃ k : Nat, k ≤ 15 ∧ kv = .int .i64 ((k : Int) + 1) ∧ tv = .int .i64 (atC ls (k + 1) : Nat)) (fun _ kv _ _ => 16 - (intOf kv).toNat)
      case atStart => exact ⟨0, by omega, rfl, rfl⟩
      case round =>
        obtain ⟨k, hk, rfl, rfl⟩ := hrel
        by_cases hlt : k < 15
        · have zk : (k : Int) + 1 < 16 := by omega
          go_wp2
          go_loop [5, 7, 8] (fun tv nv iv => ∃ j q : Nat, j ≤ n ∧ q ≤ 1000 ∧ iv = .int .i64 j ∧ nv = .int .i64 (q : Nat) ∧ tv = .int .i64 ((atC ls (k + 1) + q : Nat) : Int) ∧ Hid (q = rkK ls (k + 1) j)) (fun _ _ iv => n - (intOf iv).toNat)
          case atStart => exact ⟨0, 0, Nat.zero_le _, by omega, rfl, rfl, rfl, hide (by simp [rkK])⟩
          case round =>
            obtain ⟨j, q, hj, hq9, rfl, rfl, rfl, HQ⟩ := hrel
            have hn9 := HL.out
            have hat : atC ls (k + 1) ≤ 1000 := by have := cn_sum ls (k + 1); have := HLL.out; have := HL.out; omega
            by_cases hjn : j < n
            · have hjl : j < ls.length := by rw [HLL.out]; exact hjn
              obtain ⟨b, off, rfl, hb, _c⟩ := HARG.out j _ (getD_some ls j hjl)
              have zj : (j : Int) < n := by omega
              have HRS := hide (rk_succ ls (k + 1) j hjl)
              by_cases hx : ls.getD j 0 = k + 1
              · have hrc : rkK ls (k + 1) j < cn ls (k + 1) := by have h := rk_cn ls j hjl (by omega); rw [hx] at h; exact h
                have hsy := symTo_at ls (k + 1) _ (by omega) (by omega) hrc
                rw [symK_get ls (k + 1) _ (Nat.le_refl _) j hjl hx, ← HQ.out] at hsy
                obtain ⟨b3, off3, e3, hb3, _c3⟩ := HS.out.s1 _ _ hsy
                subst e3
                have zm : ((atC ls (k + 1) + q : Nat) : Int) < m := by
                  have := (List.getElem?_eq_some_iff.1 hsy).1
                  rw [HM.out] at this
                  omega
                have HQ2 := hide (show q + 1 = rkK ls (k + 1) (j + 1) by rw [HRS.out, if_pos hx, HQ.out])
                have hq2 : q + 1 ≤ 1000 := by
                  have h1 := cn_le ls (k + 1)
                  have h2 := HQ.out
                  have h3 := HLL.out
                  have h4 := HL.out
                  omega
                rw [hx] at _c
                have ec : ((k + 1 : Nat) : Int) = (k : Int) + 1 := by omega
                rw [ec] at _c
                have zd : decide ((m : Int) ≤ ((atC ls (k + 1) + q : Nat) : Int)) = false := by simp; omega
                generalize hT : atC ls (k + 1) + q = T at *
                have hT2 : T + 1 = atC ls (k + 1) + (q + 1) := by omega
                have HT2 := hide hT2
                have hT9 : T ≤ 2000 := by omega
                clear hx hrc hsy HRS hT hT2
                go_wp2
                go_round
                case rel => exact ⟨j + 1, q + 1, hjn, hq2, by go_num, by go_num, by rw [← HT2.out]; go_num, HQ2⟩
                case measure => exact meas_oneW j n hjn
              · have HQ2 := hide (show q = rkK ls (k + 1) (j + 1) by rw [HRS.out, if_neg hx, HQ.out]; rfl)
                have bx : (((ls.getD j 0 : Nat) : Int) == (k : Int) + 1) = false := by simp; rw [List.getD_eq_getElem?_getD] at hx; omega
                generalize ls.getD j 0 = x at *
                clear hx HRS
                go_wp2
                go_round
                case rel => exact ⟨j + 1, q, hjn, hq9, by go_num, rfl, rfl, HQ2⟩
                case measure => exact meas_oneW j n hjn
            · have hje : j = n := by omega
              subst hje
              have HQ3 := hide (show q = cn ls (k + 1) by rw [HQ.out, ← HLL.out, rk_all ls (k + 1) (by omega)])
              have _e := HCK.out (k + 1) (by omega)
              rw [← HQ3.out] at _e
              have HT3 := hide (show atC ls (k + 1 + 1) = atC ls (k + 1) + q by rw [HQ3.out]; rfl)
              have zk0 : (0 : Int) ≤ (k : Int) + 1 := by omega
              have zk16 : (k : Int) + 1 < 16 := by omega
              go_wp2
              go_round
              case rel => exact ⟨k + 1, by omega, by go_num, by rw [HT3.out]⟩
              case measure => exact meas_oneW (k + 1) 16 (by omega)
        · have hke : k = 15 := by omega
          subst hke
          have HB3 := hide HS.out.bel
          go_wp2_with fail
          refine (kawake_any _).mono ?_
          rintro e w4 ⟨rfl, b4⟩
          have hb4 := block_below HS.out.b1 b4
          have d16 : w4.cell? ⟨P, 16, none⟩ = some (.slice a3 m c3) := by rw [cell_of_row _ _ _ _ _ (0, 0) hb4, List.getElem?_toArray]; exact HLAST.out
          have d0 : w4.cell? ⟨P, 0, none⟩ = some (.int .i64 0) := by rw [cell_of_row _ _ _ _ _ (0, 0) hb4, List.getElem?_toArray, HGET.out 0 (by omega)]; rfl
          have HB4 := hide (HB3.out.trans (b4.mono HB3.out.size))
          have hat : atC ls (15 + 1) = m := by rw [← symTo_length]; exact HM.out
          clear b4 hb4 c16
          rw [hat]
          go_wp2
          go_ret
          exact ⟨rfl, HB4.out⟩
    · rw [chkI_bad hg] at HC
      go_enter Try.func8, Try.ntmps8
      go_wp2_with fail
      refine HC.out.mono ?_
      rintro e w1 ⟨rfl, HB1⟩
      go_wp2_with fail
      refine (kawake_any _).mono ?_
      rintro e w2 ⟨rfl, b2⟩
      have B2 := hide (HB1.out.trans (b2.mono HB1.out.size))
      clear b2
      go_wp2
      go_ret
      exact ⟨rfl, B2.out⟩

theorem counts_law (w : World) (v0 : Value) {b0 : Nat} {H : Type} {enc : TypeId × Value → H} {d0 : DataW H} {p0 : List MemPlace}
    (o0 : Value.okWide Try.prog w .any b0 22 v0) (k0 : DataW.Trod enc Try.prog w 0 (fun _ => true) true 22 v0 d0 p0) :
    Calls Try.prog 8 #[v0] w fun e w' => e = .returned (.bool true) ∧ Below w.heap.size w w' := by
  obtain ⟨pa, ca, a, rfl, ha, _, _⟩ := open_argZ o0 k0
  exact counts_walk a pa ca w ha

end Go.Proofs.Yteillcfdmjmaeaa
