/- Contracts of package canon's counts of lengths: full, code, numbers, places. -/
import Derived.Test.YteillcfdmjmaeaaKTal
namespace Go.Proofs.Yteillcfdmjmaeaa
open Go.RowKit Go.Lib

set_option maxRecDepth 20000 in
set_option maxHeartbeats 1000000 in
theorem full_any (f : Nat → Nat) (hf : ∀ k, f k ≤ 1000) (w : World) :
    Calls Try.prog 32 #[talV f] w fun e w' => e = .returned (.bool (decide (freeZ f 15 = 0))) ∧ Below w.heap.size w w' := by
  have HT0 := tal_made w f
  have HS := hide (free_small f hf)
  have HF := hide hf
  have HB := hide ((Below.refl _ w).alloc (Nat.le_refl _) (.cells (talCs f).toArray 56))
  obtain ⟨q, hq⟩ : ∃ q, decide (freeZ f 15 = 0) = q := ⟨_, rfl⟩
  rw [hq]
  have HQ := hide hq
  unfold talV
  clear hf hq
  obtain ⟨cs, hcs⟩ : ∃ cs, talCs f = cs := ⟨_, rfl⟩
  have HT := hide (show ∀ i, i < 16 → (w.alloc (.cells cs.toArray 56)).cell? ⟨w.heap.size, i, none⟩ = some (.int .i64 (f i : Nat)) from fun i hi => by rw [← hcs]; exact HT0.cell i hi)
  rw [hcs] at HB ⊢
  clear hcs HT0
  go_enter Try.func32, Try.ntmps32
  go_wp2
  go_loop [3, 4] (fun s iv => ∃ k : Nat, k ≤ 15 ∧ iv = .int .i64 ((k : Int) + 1) ∧ s = .int .i64 (freeZ f k)) (fun _ iv => 16 - (intOf iv).toNat)
  case atStart => exact ⟨0, by omega, rfl, rfl⟩
  case round =>
    obtain ⟨k, hk, rfl, rfl⟩ := hrel
    by_cases hlt : k < 15
    · have h1 := HS.out k (by omega)
      have h2 := HF.out (k + 1)
      have HN := hide (show 2 * freeZ f k - (f (k + 1) : Int) = freeZ f (k + 1) from rfl)
      have zk : (k : Int) + 1 ≤ 15 := by omega
      have zk0 : (0 : Int) ≤ (k : Int) + 1 := by omega
      have zk16 : (k : Int) + 1 < 16 := by omega
      have _c := HT.out (k + 1) (by omega)
      generalize freeZ f k = s at *
      generalize f (k + 1) = y at *
      go_wp2
      go_round
      case rel => exact ⟨k + 1, by omega, by go_num, by rw [← HN.out]⟩
      case measure => exact meas_oneW (k + 1) 16 (by omega)
    · have hke : k = 15 := by omega
      subst hke
      generalize freeZ f 15 = z at *
      by_cases hz : z = 0
      · subst hz
        go_wp2
        go_ret
        exact ⟨by rw [← HQ.out]; rfl, HB.out⟩
      · have bz : (z == 0) = false := by simp; exact hz
        have HD := hide (show decide (z = 0) = false by simp; exact hz)
        clear hz
        go_wp2
        go_ret
        exact ⟨by rw [← HQ.out, HD.out]; rfl, HB.out⟩

set_option maxRecDepth 20000 in
set_option maxHeartbeats 1000000 in
theorem code_any (f : Nat → Nat) (hf : ∀ k, f k ≤ 1000) (w : World) :
    Calls Try.prog 31 #[talV f] w fun e w' => e = .returned (.bool (codeB f)) ∧ Below w.heap.size w w' := by
  have HT := hide (tal_made w f)
  have B0 := hide ((Below.refl _ w).alloc (Nat.le_refl _) (.cells (talCs f).toArray 56))
  have HSZ := hide (show (Try.prog.info? 56).map (·.size) = some (talCs f).length by rw [talCs_length]; exact Try.sizeTal)
  have HC := hide (total_any f hf)
  have HFL := hide (full_any f hf)
  have hs9 := sumTo_le f 1000 hf 16
  have HCB := hide (show codeB f = (if sumTo f 16 = 0 then true else if sumTo f 16 = 1 then decide (f 1 = 1) else decide (freeZ f 15 = 0)) from rfl)
  have HR1 := hide HT.out.range
  unfold talV at HC HFL ⊢
  clear hf
  generalize codeB f = r at *
  generalize decide (freeZ f 15 = 0) = q at *
  obtain ⟨cs, hcs⟩ : ∃ cs, talCs f = cs := ⟨_, rfl⟩
  have HCS := hide hcs
  rw [hcs] at HT B0 HSZ HC HFL HR1 ⊢
  clear hcs
  obtain ⟨P, hP⟩ : ∃ P, w.heap.size = P := ⟨_, rfl⟩
  rw [hP] at B0 HT HR1 ⊢
  go_enter Try.func31, Try.ntmps31
  go_wp2_with (first
    | (refine wpList_load_mid rfl 56 (Operand.tmp 1) rfl P 0 (by rw [← hP]; rfl) cs _ HR1.out Try.underlying56 rfl HSZ.out ?_))
  refine (HC.out _).mono ?_
  rintro e w2 ⟨rfl, b2⟩
  generalize w.alloc (.cells cs.toArray 56) = w1 at *
  have HT2 := hide (HT.out.below b2 HT.out.lt)
  have HB2 := hide (B0.out.trans (b2.mono (by have := B0.out.size; omega)))
  have HR2 := hide HT2.out.range
  rw [HCS.out] at HR2
  have _c := HT2.out.cell 1 (by omega)
  clear b2
  by_cases h0 : sumTo f 16 = 0
  · rw [h0]
    rw [if_pos h0] at HCB
    go_wp2
    go_ret
    exact ⟨by rw [HCB.out]; rfl, HB2.out⟩
  · have b0 : ((sumTo f 16 : Int) == 0) = false := by simp; exact h0
    rw [if_neg h0] at HCB
    by_cases h1 : sumTo f 16 = 1
    · rw [h1] at b0 ⊢
      rw [if_pos h1] at HCB
      by_cases h2 : f 1 = 1
      · rw [h2] at _c
        have HD := hide (show decide (f 1 = 1) = true by simp; exact h2)
        clear h0 h1 h2 hs9
        go_wp2
        go_ret
        exact ⟨by rw [HCB.out, HD.out]; rfl, HB2.out⟩
      · have HD := hide (show decide (f 1 = 1) = false by simp; exact h2)
        have bz : ((f 1 : Int) == 1) = false := by simp; omega
        generalize f 1 = y at *
        clear h0 h1 h2 hs9
        go_wp2
        go_ret
        exact ⟨by rw [HCB.out, HD.out]; rfl, HB2.out⟩
    · have b1 : ((sumTo f 16 : Int) == 1) = false := by simp; omega
      rw [if_neg h1] at HCB
      have HQ := hide HCB.out
      have e := HCB.out
      subst e
      generalize sumTo f 16 = s at *
      clear h0 h1 HCB HQ
      go_wp2_with (first
        | (refine wpList_load_mid rfl 56 (Operand.tmp 1) rfl P 0 rfl cs _ HR2.out Try.underlying56 rfl HSZ.out ?_))
      refine (HFL.out _).mono ?_
      rintro e w3 ⟨rfl, b3⟩
      have HB3 := hide (HB2.out.trans (b3.mono (by have := HB2.out.size; omega)))
      clear b3
      go_wp2
      go_ret
      exact ⟨rfl, HB3.out⟩

end Go.Proofs.Yteillcfdmjmaeaa
