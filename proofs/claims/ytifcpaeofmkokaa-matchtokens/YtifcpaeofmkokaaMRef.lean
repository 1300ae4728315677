/- Contracts of the document's 'chain' and 'best' of layer 8. -/
import Derived.Test.YtifcpaeofmkokaaGRow
import Derived.Test.YtifcpaeofmkokaaMMath2
import Derived.BigQuiet
namespace Go.Proofs.Ytifcpaeofmkokaa
open Go.RowKit Go.Lib

/-- A text's bytes. -/
def bAt (s : ByteArray) (i : Nat) : Nat := (s.data.toList.getD i 0).toNat
theorem bAt_get (s : ByteArray) (i : Nat) (h : i < s.size) : s[i].toNat = bAt s i := by
  unfold bAt
  have hk : i < s.data.toList.length := by simpa using h
  rw [List.getD_eq_getElem?_getD, List.getElem?_eq_getElem hk]
  rfl
theorem bAt_lt (s : ByteArray) (i : Nat) : bAt s i < 256 := (s.data.toList.getD i 0).toNat_lt
theorem ext_eq (s : ByteArray) (k i : Nat) (hk : k + 3 ≤ s.size) (hi : i + 3 ≤ s.size) : (s.extract k (k + 3) = s.extract i (i + 3)) ↔ same3 (bAt s) s.size k i = true := by
  have three : ∀ a, a + 3 ≤ s.size → (s.extract a (a + 3)).data.toList = [s.data.toList.getD a 0, s.data.toList.getD (a + 1) 0, s.data.toList.getD (a + 2) 0] := by
    intro a ha
    rw [ByteArray.data_extract, Array.toList_extract, List.extract_eq_take_drop, show a + 3 - a = 3 by omega]
    have hl : s.data.toList.length = s.size := by simp
    generalize s.data.toList = l at *
    rw [List.drop_eq_getElem_cons (by omega), List.drop_eq_getElem_cons (show a + 1 < l.length by omega), List.drop_eq_getElem_cons (show a + 1 + 1 < l.length by omega)]
    simp only [List.take_succ_cons, List.take_zero, List.getD_eq_getElem?_getD]
    rw [List.getElem?_eq_getElem (show a < l.length by omega), List.getElem?_eq_getElem (show a + 1 < l.length by omega), List.getElem?_eq_getElem (show a + 2 < l.length by omega)]
    rfl
  rw [same3_iff]
  have h1 := three k hk
  have h2 := three i hi
  constructor
  · intro e
    rw [e, h2] at h1
    injection h1 with e1 h1
    injection h1 with e2 h1
    injection h1 with e3 _
    refine ⟨hi, ?_, ?_, ?_⟩
    · unfold bAt; rw [e1]
    · unfold bAt; rw [e2]
    · unfold bAt; rw [e3]
  · rintro ⟨_, e1, e2, e3⟩
    have key : (s.extract k (k + 3)).data.toList = (s.extract i (i + 3)).data.toList := by
      rw [h1, h2]
      unfold bAt at e1 e2 e3
      rw [UInt8.toNat_inj.1 e1, UInt8.toNat_inj.1 e2, UInt8.toNat_inj.1 e3]
    exact ByteArray.ext (Array.ext' key)

theorem bytes_ne {a b : ByteArray} (h : ¬ a = b) : (a.toList == b.toList) = false := by
  refine beq_eq_false_iff_ne.2 fun e => h ?_
  rw [ByteArray.toList_eq, ByteArray.toList_eq] at e
  exact ByteArray.ext (Array.ext' e)
theorem str_index (s : ByteArray) (i : Nat) (h : i < s.size) (w : World) : (Instr.index 9 (.string s) (.int .i64 (i : Nat))).run Try.prog w = .ok (.int .u8 (bAt s i : Nat)) w := by
  have hg := bAt_get s i h
  simp [Instr.index, asIntOf, run_underlying Try.underlying9, h, hg]

set_option maxHeartbeats 1000000 in
theorem qchain_any (level : Int) (w : World) :
    Calls Try.prog 20 #[.int .i64 level] w fun e w' => e = .returned (.int .i64 (chainL level : Nat)) ∧ w = w' := by
  by_cases h1 : level < 1
  · have e : chainL level = 0 := by unfold chainL; rw [if_pos h1]
    rw [e]
    clear e
    go_enter Try.func20, Try.ntmps20
    go_wp2
    go_ret
    exact ⟨rfl, rfl⟩
  · by_cases h9 : 9 < level
    · have e : chainL level = 256 := by unfold chainL; rw [if_neg h1, show min level 9 = 9 by omega]; rfl
      rw [e]
      clear e
      go_enter Try.func20, Try.ntmps20
      go_wp2
      go_ret
      exact ⟨rfl, rfl⟩
    · have hc : level = 1 ∨ level = 2 ∨ level = 3 ∨ level = 4 ∨ level = 5 ∨ level = 6 ∨ level = 7 ∨ level = 8 ∨ level = 9 := by omega
      clear h1 h9
      rcases hc with rfl | rfl | rfl | rfl | rfl | rfl | rfl | rfl | rfl <;>
        (go_enter Try.func20, Try.ntmps20
         go_wp2
         go_ret
         exact ⟨rfl, rfl⟩)

theorem chain_le (level : Int) : chainL level ≤ 256 := by
  unfold chainL
  split
  · omega
  · have : (2 : Nat) ^ (min level 9 - 1).toNat ≤ 2 ^ 8 := Nat.pow_le_pow_right (by decide) (by omega)
    omega

set_option maxRecDepth 20000 in
set_option maxHeartbeats 4000000 in
theorem qbest_any (s : ByteArray) (i m : Nat) (W : World) (hi : i ≤ s.size) (hs : s.size ≤ 1000000) (hm : m ≤ 256) :
    Calls Try.prog 19 #[.string s, .int .i64 (i : Nat), .int .i64 (m : Nat)] W fun e w' => e = .returned (.tuple #[.int .i64 ((bestM (bAt s) s.size i m).1 : Nat), .int .i64 ((bestM (bAt s) s.size i m).2 : Nat)]) ∧ Below W.heap.size W w' := by
  obtain ⟨R, hR⟩ : ∃ R, bestM (bAt s) s.size i m = R := ⟨_, rfl⟩
  have HR := hide hR
  rw [hR]
  have B0 := hide (Below.refl W.heap.size W)
  obtain ⟨n, hn⟩ : ∃ n, s.size = n := ⟨_, rfl⟩
  have HN := hide hn
  have HS := hide hs
  have zn : ((s.size : Nat) : Int) = (n : Int) := by omega
  rw [hn] at hi hs
  have HR0 := hide (show bestR (bAt s) n i i m (0, 0) = R by rw [← hn]; exact hR)
  clear hR hn
  go_enter Try.func19, Try.ntmps19
  go_wp2
  go_loopw [2, 8, 9, 10] (fun mv nv fv kv wr => ∃ (j q a b : Nat), j ≤ i ∧ q ≤ 256 ∧ a ≤ 258 ∧ b ≤ 32768 ∧ mv = .int .i64 (q : Nat) ∧ nv = .int .i64 (a : Nat) ∧ fv = .int .i64 (b : Nat) ∧ kv = .int .i64 ((j : Int) - 1) ∧ Hid (bestR (bAt s) n i j q (a, b) = R) ∧ Hid (Below W.heap.size W wr)) (fun _ _ _ kv _ => ((intOf kv) + 1).toNat)
  case atStart => exact ⟨i, m, 0, 0, Nat.le_refl _, hm, by omega, by omega, rfl, rfl, rfl, rfl, HR0, B0⟩
  case round =>
    clear HR0 B0
    obtain ⟨j, q, a, b, hj, hq, ha, hb, rfl, rfl, rfl, rfl, HB, HW⟩ := hrel
    by_cases hj0 : j = 0
    · subst hj0
      have HE := hide (show (a, b) = R from HB.out)
      have z1 : decide ((0 : Int) ≤ ((0 : Nat) : Int) - 1) = false := by decide
      go_wp2
      go_ret2
      exact ⟨by rw [← HE.out]; rfl, HW.out⟩
    · obtain ⟨k, rfl⟩ : ∃ k, j = k + 1 := ⟨j - 1, by omega⟩
      have ek : ((k + 1 : Nat) : Int) - 1 = (k : Int) := by omega
      rw [ek]
      have HST := hide (show bestR (bAt s) n i (k + 1) q (a, b) = if 32768 < i - k ∨ q = 0 then (a, b) else if same3 (bAt s) n k i = true then bestR (bAt s) n i k (q - 1) (bett (bAt s) n k i (a, b)) else bestR (bAt s) n i k q (a, b) from rfl)
      clear hj0 ek
      by_cases hf : 32768 < i - k
      · have HE := hide (show (a, b) = R by rw [← HB.out, HST.out, if_pos (.inl hf)])
        have z1 : decide ((i : Int) - (k : Int) ≤ 32768) = false := decide_eq_false (by omega)
        go_wp2
        go_ret2
        exact ⟨by rw [← HE.out]; rfl, HW.out⟩
      · have z1 : (i : Int) - (k : Int) ≤ 32768 := by omega
        by_cases hq0 : q = 0
        · subst hq0
          have HE := hide (show (a, b) = R by rw [← HB.out, HST.out, if_pos (.inr rfl)])
          go_wp2
          go_ret2
          exact ⟨by rw [← HE.out]; rfl, HW.out⟩
        · have z2 : (0 : Int) < q := by omega
          have HSK := hide (fun (h : same3 (bAt s) n k i = false) => (show bestR (bAt s) n i k q (a, b) = R by rw [← HB.out, HST.out, if_neg (by omega), if_neg (by rw [h]; decide)]))
          have HGO := hide (fun (h : same3 (bAt s) n k i = true) => (show bestR (bAt s) n i k (q - 1) (bett (bAt s) n k i (a, b)) = R by rw [← HB.out, HST.out, if_neg (by omega), if_pos h]))
          have hki : k < i := by omega
          clear hf hq0 HST HB
          by_cases h3 : n < i + 3
          · have HF := hide (HSK.out (by
              cases hc : same3 (bAt s) n k i with
              | false => rfl
              | true => have := ((same3_iff _ _ _ _).1 hc).1; omega))
            have z3 : (n : Int) < (i : Int) + 3 := by omega
            have d3 : decide ((n : Int) < (i : Int) + 3) = true := decide_eq_true z3
            clear h3 HSK HGO
            go_wp2
            go_quiet (fail)
            go_wp2
            go_roundw
            case rel => exact ⟨k, q, a, b, by omega, hq, ha, hb, rfl, rfl, rfl, by go_num, HF, hide (below_drewN HW.out _)⟩
            case measure => first | (simp [intOf]; done) | (simp [intOf]; omega)
          · have z3 : ¬ (n : Int) < (i : Int) + 3 := by omega
            have d3 : decide ((n : Int) < (i : Int) + 3) = false := decide_eq_false z3
            have HEQ := hide (ext_eq s k i (by rw [HN.out]; omega) (by rw [HN.out]; omega))
            rw [HN.out] at HEQ
            have zk3 : (k : Int) + 3 ≤ n := by omega
            have zi3 : (i : Int) + 3 ≤ n := by omega
            by_cases he : s.extract k (k + 3) = s.extract i (i + 3)
            · have hsm := HEQ.out.1 he
              have HGB := hide (HGO.out hsm)
              have HSM := hide hsm
              clear h3 HSK HGO HEQ hsm
              go_wp2
              go_quiet (fail)
              go_wp2
              have hq1 : ((q - 1 : Nat) : Int) = (q : Int) - 1 := by omega
              have HW1 := hide (below_drewN HW.out nq)
              rename World => wm
              go_loopw [11] (fun lv wt => ∃ l : Nat, 3 ≤ l ∧ l ≤ 258 ∧ i + l ≤ n ∧ lv = .int .i64 (l : Nat) ∧ Hid (∀ t, 3 ≤ t → t < l → more1 (bAt s) n k i t = true) ∧ Hid (Below W.heap.size W wt)) (fun lv _ => 258 - (intOf lv).toNat)
              case atStart => exact ⟨3, Nat.le_refl _, by omega, by omega, rfl, hide (fun t h1 h2 => by omega), HW1⟩
              case round =>
                obtain ⟨l, hl3, hl8, hln, rfl, HMO, HW2⟩ := hrel
                by_cases c1 : i + l < n
                · have d1 : decide ((i : Int) + (l : Int) < n) = true := decide_eq_true (by omega)
                  by_cases c2 : l < 258
                  · have d2 : decide ((l : Int) < 258) = true := decide_eq_true (by omega)
                    have d2n : decide (l < 258) = true := decide_eq_true c2
                    obtain ⟨x, hx⟩ : ∃ x, k + l = x := ⟨_, rfl⟩
                    obtain ⟨y, hy⟩ : ∃ y, i + l = y := ⟨_, rfl⟩
                    have ex : (k : Int) + (l : Int) = (x : Int) := by omega
                    have ey : (i : Int) + (l : Int) = (y : Int) := by omega
                    have ix := str_index s x (by rw [HN.out]; omega)
                    have iy := str_index s y (by rw [HN.out]; omega)
                    have d1y : decide ((y : Int) < n) = true := decide_eq_true (by omega)
                    have HXY := hide (show more1 (bAt s) n k i l = true ↔ bAt s x = bAt s y by rw [more1_iff, hx, hy]; exact ⟨fun h => h.2.2, fun h => ⟨by omega, c2, h⟩⟩)
                    have hy9 : y < n := by omega
                    have hx9 : x < n := by omega
                    by_cases c3 : bAt s x = bAt s y
                    · have HM2 := hide (show ∀ t, 3 ≤ t → t < l + 1 → more1 (bAt s) n k i t = true from fun t h1 h2 => by
                        by_cases e : t = l
                        · rw [e]; exact HXY.out.2 c3
                        · exact HMO.out t h1 (by omega))
                      have HYN := hide (show i + (l + 1) ≤ n by omega)
                      rw [c3] at ix
                      clear c1 c3 hx hy HXY
                      go_wp2
                      go_quiet (fail)
                      go_wp2
                      go_roundw
                      case rel => exact ⟨l + 1, by omega, by omega, HYN.out, by go_num, HM2, hide (below_drewN HW2.out _)⟩
                      case measure => exact meas_oneW l 258 c2
                    · have HSTOP := hide (show more1 (bAt s) n k i l = false by
                        cases hc : more1 (bAt s) n k i l with
                        | false => rfl
                        | true => exact absurd (HXY.out.1 hc) c3)
                      have bxy : ((bAt s x : Int) == (bAt s y : Int)) = false := by simp; omega
                      clear c1 c3 hx hy HXY
                      generalize bAt s x = bx at *
                      generalize bAt s y = bY at *
                      have HML := hide (mlen_eq (bAt s) n k i l hl3 HMO.out HSTOP.out)
                      by_cases hal : a < l
                      · have HBT := hide (show bett (bAt s) n k i (a, b) = (l, i - k) by unfold bett; rw [HML.out, if_pos hal])
                        rw [HBT.out] at HGB
                        have zal : (a : Int) < l := by omega
                        have eik : (i : Int) - (k : Int) = ((i - k : Nat) : Int) := by omega
                        have hb2 : i - k ≤ 32768 := by omega
                        clear hal HBT
                        go_wp2
                        go_quiet (fail)
                        go_wp2
                        go_roundw
                        case rel => exact ⟨k, q - 1, l, i - k, by omega, by omega, hl8, hb2, by go_num, rfl, by go_num, by go_num, HGB, hide (below_drewN HW2.out _)⟩
                        case measure => first | (simp [intOf]; done) | (simp [intOf]; omega)
                      · have HBT := hide (show bett (bAt s) n k i (a, b) = (a, b) by unfold bett; rw [HML.out, if_neg hal])
                        rw [HBT.out] at HGB
                        have zal : ¬ (a : Int) < l := by omega
                        clear hal HBT
                        go_wp2
                        go_quiet (fail)
                        go_wp2
                        go_roundw
                        case rel => exact ⟨k, q - 1, a, b, by omega, by omega, ha, hb, by go_num, rfl, rfl, by go_num, HGB, hide (below_drewN HW2.out _)⟩
                        case measure => first | (simp [intOf]; done) | (simp [intOf]; omega)
                  · have d2 : decide ((l : Int) < 258) = false := decide_eq_false (by omega)
                    have d2n : decide (l < 258) = false := decide_eq_false c2
                    have HSTOP := hide (show more1 (bAt s) n k i l = false by
                      cases hc : more1 (bAt s) n k i l with
                      | false => rfl
                      | true => exact absurd ((more1_iff _ _ _ _ _).1 hc).2.1 c2)
                    clear c1 c2
                    have HML := hide (mlen_eq (bAt s) n k i l hl3 HMO.out HSTOP.out)
                    by_cases hal : a < l
                    · have HBT := hide (show bett (bAt s) n k i (a, b) = (l, i - k) by unfold bett; rw [HML.out, if_pos hal])
                      rw [HBT.out] at HGB
                      have zal : (a : Int) < l := by omega
                      have eik : (i : Int) - (k : Int) = ((i - k : Nat) : Int) := by omega
                      have hb2 : i - k ≤ 32768 := by omega
                      clear hal HBT
                      go_wp2
                      go_quiet (fail)
                      go_wp2
                      go_roundw
                      case rel => exact ⟨k, q - 1, l, i - k, by omega, by omega, hl8, hb2, by go_num, rfl, by go_num, by go_num, HGB, hide (below_drewN HW2.out _)⟩
                      case measure => first | (simp [intOf]; done) | (simp [intOf]; omega)
                    · have HBT := hide (show bett (bAt s) n k i (a, b) = (a, b) by unfold bett; rw [HML.out, if_neg hal])
                      rw [HBT.out] at HGB
                      have zal : ¬ (a : Int) < l := by omega
                      clear hal HBT
                      go_wp2
                      go_quiet (fail)
                      go_wp2
                      go_roundw
                      case rel => exact ⟨k, q - 1, a, b, by omega, by omega, ha, hb, by go_num, rfl, rfl, by go_num, HGB, hide (below_drewN HW2.out _)⟩
                      case measure => first | (simp [intOf]; done) | (simp [intOf]; omega)
                · have d1 : decide ((i : Int) + (l : Int) < n) = false := decide_eq_false (by omega)
                  have HSTOP := hide (show more1 (bAt s) n k i l = false by
                    cases hc : more1 (bAt s) n k i l with
                    | false => rfl
                    | true => exact absurd ((more1_iff _ _ _ _ _).1 hc).1 c1)
                  clear c1
                  have HML := hide (mlen_eq (bAt s) n k i l hl3 HMO.out HSTOP.out)
                  by_cases hal : a < l
                  · have HBT := hide (show bett (bAt s) n k i (a, b) = (l, i - k) by unfold bett; rw [HML.out, if_pos hal])
                    rw [HBT.out] at HGB
                    have zal : (a : Int) < l := by omega
                    have eik : (i : Int) - (k : Int) = ((i - k : Nat) : Int) := by omega
                    have hb2 : i - k ≤ 32768 := by omega
                    clear hal HBT
                    go_wp2
                    go_quiet (fail)
                    go_wp2
                    go_roundw
                    case rel => exact ⟨k, q - 1, l, i - k, by omega, by omega, hl8, hb2, by go_num, rfl, by go_num, by go_num, HGB, hide (below_drewN HW2.out _)⟩
                    case measure => first | (simp [intOf]; done) | (simp [intOf]; omega)
                  · have HBT := hide (show bett (bAt s) n k i (a, b) = (a, b) by unfold bett; rw [HML.out, if_neg hal])
                    rw [HBT.out] at HGB
                    have zal : ¬ (a : Int) < l := by omega
                    clear hal HBT
                    go_wp2
                    go_quiet (fail)
                    go_wp2
                    go_roundw
                    case rel => exact ⟨k, q - 1, a, b, by omega, by omega, ha, hb, by go_num, rfl, rfl, by go_num, HGB, hide (below_drewN HW2.out _)⟩
                    case measure => first | (simp [intOf]; done) | (simp [intOf]; omega)
            · have HF := hide (HSK.out (by
                cases hc : same3 (bAt s) n k i with
                | false => rfl
                | true => exact absurd (HEQ.out.2 hc) he))
              have bt := bytes_ne he
              clear h3 HSK HGO HEQ
              go_wp2
              go_quiet (fail)
              go_wp2
              go_roundw
              case rel => exact ⟨k, q, a, b, by omega, hq, ha, hb, rfl, rfl, rfl, by go_num, HF, hide (below_drewN HW.out _)⟩
              case measure => first | (simp [intOf]; done) | (simp [intOf]; omega)

end Go.Proofs.Ytifcpaeofmkokaa
