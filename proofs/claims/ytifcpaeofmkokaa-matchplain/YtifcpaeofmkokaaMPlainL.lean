/- MatchPlain, the walk: where no three bytes stand twice, or by level 0, each byte goes alone. -/
import Derived.Test.YtifcpaeofmkokaaMAwake
namespace Go.Proofs.Ytifcpaeofmkokaa
open Go.RowKit Go.Lib

theorem plain_best (c : Nat → Nat) (n k i : Nat) (hi : n < i + 3 ∨ k = 0) (h : ∀ a, a < i → ∀ b, b < a → same3 c n b a = false) : ∀ a, a < n → bestM c n a (chainL (k : Int)) = (0, 0) := by
  intro a ha
  by_cases hk : k = 0
  · exact best_level0 c n a (k : Int) (by omega)
  · refine best_alone c n a _ fun b hb => ?_
    by_cases hai : a < i
    · exact h a hai b hb
    · cases hc : same3 c n b a with
      | false => rfl
      | true => have := ((same3_iff c n b a).1 hc).1; omega

set_option maxRecDepth 20000 in
set_option maxHeartbeats 4000000 in
theorem mplain_of (W : World) (s : ByteArray) (u k : Nat) (hu : u < 256) (hk : u % 10 = k) :
    Calls Try.prog 8 #[.string s, .int .u8 (u : Int)] W fun e w' => e = .returned (.bool true) ∧ Below W.heap.size W w' := by
  by_cases hs : 300 < s.size
  · have hz : (300 : Int) < (s.size : Nat) := by omega
    clear hs
    go_enter Try.func8, Try.ntmps8
    go_wp2_with fail
    refine (mawake_any _).mono ?_
    rintro e w1 ⟨rfl, b1⟩
    have B1 := hide b1
    clear b1
    go_wp2
    go_ret
    exact ⟨rfl, B1.out⟩
  · have hz : ¬ (300 : Int) < (s.size : Nat) := by omega
    have zk : (u : Int) % 10 = (k : Int) := by omega
    have zu : (u : Int) ≤ 255 := by omega
    have hk9 : k ≤ 9 := by omega
    have HT := hide (fun w => tokens_any s (k : Int) w (by omega))
    obtain ⟨n, hn⟩ : ∃ n, s.size = n := ⟨_, rfl⟩
    have HN := hide hn
    have zn : ((s.size : Nat) : Int) = (n : Int) := by omega
    have hn9 : n ≤ 300 := by omega
    have B0 := hide (Below.refl W.heap.size W)
    clear hs hn hu hk
    go_enter Try.func8, Try.ntmps8
    go_wp2
    go_loopw [6, 7] (fun iv _ wr => ∃ i : Nat, i ≤ n ∧ iv = .int .i64 (i : Nat) ∧ Hid (∀ a, a < i → ∀ b, b < a → same3 (bAt s) n b a = false) ∧ Hid (Below W.heap.size W wr)) (fun iv _ _ => n + 1 - (intOf iv).toNat)
    case atStart => exact ⟨0, Nat.zero_le _, rfl, hide (fun a h => by omega), B0⟩
    case round =>
      clear B0
      obtain ⟨i, hi, rfl, HP, HW⟩ := hrel
      by_cases c1 : i + 3 ≤ n ∧ 0 < k
      · have d1 : (i : Int) + 3 ≤ n := by omega
        have d2 : (0 : Int) < k := by omega
        have hin : i + 3 ≤ n := c1.1
        clear c1
        go_wp2
        rename World => wm
        go_loopw [7] (fun jv wr => ∃ j : Nat, j ≤ i ∧ jv = .int .i64 (j : Nat) ∧ Hid (∀ b, b < j → same3 (bAt s) n b i = false) ∧ Hid (Below W.heap.size W wr)) (fun jv _ => i - (intOf jv).toNat)
        case atStart => exact ⟨0, Nat.zero_le _, rfl, hide (fun b h => by omega), HW⟩
        case round =>
          obtain ⟨j, hj, rfl, HQ, HW2⟩ := hrel
          by_cases hji : j < i
          · have zj : (j : Int) < i := by omega
            have HEQ := hide (ext_eq s j i (by rw [HN.out]; omega) (by rw [HN.out]; omega))
            rw [HN.out] at HEQ
            have zj3 : (j : Int) + 3 ≤ n := by omega
            by_cases he : s.extract j (j + 3) = s.extract i (i + 3)
            · go_wp2
              go_quiet (fail)
              go_wp2_with fail
              refine (mawake_any _).mono ?_
              rintro e w3 ⟨rfl, b3⟩
              have B3 := hide ((below_drewN HW2.out _).trans (b3.mono (below_drewN HW2.out _).size))
              clear b3
              go_wp2
              go_ret
              exact ⟨rfl, B3.out⟩
            · have HF := hide (show ∀ b, b < j + 1 → same3 (bAt s) n b i = false from fun b hb => by
                by_cases e : b = j
                · rw [e]
                  cases hc : same3 (bAt s) n j i with
                  | false => rfl
                  | true => exact absurd (HEQ.out.2 hc) he
                · exact HQ.out b (by omega))
              have bt := bytes_ne he
              clear HEQ he
              go_wp2
              go_quiet (fail)
              go_wp2
              go_roundw
              case rel => exact ⟨j + 1, hji, by go_num, HF, hide (below_drewN HW2.out _)⟩
              case measure => exact meas_oneW j i hji
          · have hje : j = i := by omega
            subst hje
            have HP2 := hide (show ∀ a, a < j + 1 → ∀ b, b < a → same3 (bAt s) n b a = false from fun a ha => by
              by_cases e : a = j
              · rw [e]; exact HQ.out
              · exact HP.out a (by omega))
            clear hji
            go_wp2
            go_roundw
            case rel => exact ⟨j + 1, by omega, by go_num, HP2, HW2⟩
            case measure => exact meas_oneW j (n + 1) (by omega)
      · have HB := hide (plain_best (bAt s) n k i (by omega) HP.out)
        have HTP := hide (fun ts (h : Toks (bAt s) n (k : Int) 0 ts) => toks_plain (bAt s) n (k : Int) HB.out ts 0 h)
        by_cases c2 : i + 3 ≤ n
        · have hk0 : k = 0 := by omega
          subst hk0
          have d1 : (i : Int) + 3 ≤ n := by omega
          clear c1 c2
          go_wp2_with fail
          refine (HT.out _).mono ?_
          rintro e w1 ⟨a1, c1, ts, rfl, ht, ha1, _, b1⟩
          rw [HN.out] at ht
          obtain ⟨p1, p2⟩ := HTP.out ts ht
          have HLEN := hide (show ts.length = n by omega)
          have HEA := hide p2
          have HA1 := hide ha1
          have B1 := hide (HW.out.trans (b1.mono HW.out.size))
          rw [HLEN.out]
          rw [HLEN.out] at HEA
          clear p1 p2 ht ha1 b1
          go_wp2
          rename World => wm
          go_loopw [9] (fun jv wr => ∃ j : Nat, j ≤ n ∧ jv = .int .i64 (j : Nat) ∧ Hid (ArgT wr a1 (ts.map castT)) ∧ Hid (Below W.heap.size W wr)) (fun jv _ => n - (intOf jv).toNat)
          case atStart => exact ⟨0, Nat.zero_le _, rfl, HA1, B1⟩
          case round =>
            obtain ⟨j, hj, rfl, HA2, HW2⟩ := hrel
            by_cases hjn : j < n
            · have zj : (j : Int) < n := by omega
              have htj := HEA.out j hjn
              rw [Nat.zero_add] at htj
              obtain ⟨g, off, rfl, hg, _c1, _c2, _c3⟩ := HA2.out j (bAt s j, 0, 0) (by rw [List.getElem?_map, htj]; rfl)
              have ix := str_index s j (by rw [HN.out]; exact hjn)
              dsimp only at _c1 _c2 _c3
              generalize bAt s j = bj at *
              clear htj
              go_wp2
              go_quiet (fail)
              go_wp2
              go_roundw
              case rel => exact ⟨j + 1, hjn, by go_num, hide (HA2.out.below (below_drewN (Below.refl _ _) _) (Nat.le_refl _)), hide (below_drewN HW2.out _)⟩
              case measure => exact meas_oneW j n hjn
            · have hje : j = n := by omega
              subst hje
              go_wp2_with fail
              refine (mawake_any _).mono ?_
              rintro e w3 ⟨rfl, b3⟩
              have B3 := hide (HW2.out.trans (b3.mono HW2.out.size))
              clear b3
              go_wp2
              go_ret
              exact ⟨rfl, B3.out⟩
        · have d1 : decide ((i : Int) + 3 ≤ n) = false := decide_eq_false (by omega)
          clear c1 c2
          go_wp2_with fail
          refine (HT.out _).mono ?_
          rintro e w1 ⟨a1, c1, ts, rfl, ht, ha1, _, b1⟩
          rw [HN.out] at ht
          obtain ⟨p1, p2⟩ := HTP.out ts ht
          have HLEN := hide (show ts.length = n by omega)
          have HEA := hide p2
          have HA1 := hide ha1
          have B1 := hide (HW.out.trans (b1.mono HW.out.size))
          rw [HLEN.out]
          rw [HLEN.out] at HEA
          clear p1 p2 ht ha1 b1
          go_wp2
          rename World => wm
          go_loopw [9] (fun jv wr => ∃ j : Nat, j ≤ n ∧ jv = .int .i64 (j : Nat) ∧ Hid (ArgT wr a1 (ts.map castT)) ∧ Hid (Below W.heap.size W wr)) (fun jv _ => n - (intOf jv).toNat)
          case atStart => exact ⟨0, Nat.zero_le _, rfl, HA1, B1⟩
          case round =>
            obtain ⟨j, hj, rfl, HA2, HW2⟩ := hrel
            by_cases hjn : j < n
            · have zj : (j : Int) < n := by omega
              have htj := HEA.out j hjn
              rw [Nat.zero_add] at htj
              obtain ⟨g, off, rfl, hg, _c1, _c2, _c3⟩ := HA2.out j (bAt s j, 0, 0) (by rw [List.getElem?_map, htj]; rfl)
              have ix := str_index s j (by rw [HN.out]; exact hjn)
              dsimp only at _c1 _c2 _c3
              generalize bAt s j = bj at *
              clear htj
              go_wp2
              go_quiet (fail)
              go_wp2
              go_roundw
              case rel => exact ⟨j + 1, hjn, by go_num, hide (HA2.out.below (below_drewN (Below.refl _ _) _) (Nat.le_refl _)), hide (below_drewN HW2.out _)⟩
              case measure => exact meas_oneW j n hjn
            · have hje : j = n := by omega
              subst hje
              go_wp2_with fail
              refine (mawake_any _).mono ?_
              rintro e w3 ⟨rfl, b3⟩
              have B3 := hide (HW2.out.trans (b3.mono HW2.out.size))
              clear b3
              go_wp2
              go_ret
              exact ⟨rfl, B3.out⟩

theorem matchPlain_walk (W : World) (s : ByteArray) (_hs : s.size ≤ maxLen) (u : Int) (wu : (Lit.int .u8 u).wf = true) :
    Calls Try.prog 8 #[.string s, .int .u8 u] W fun e w' => e = .returned (.bool true) ∧ Below W.heap.size W w' := by
  have hb := bounds_u8 wu
  obtain ⟨u, rfl⟩ := Int.eq_ofNat_of_zero_le hb.1
  exact mplain_of W s u _ (by omega) rfl

end Go.Proofs.Ytifcpaeofmkokaa
