/- Contracts of package crc, and of the document's answer: the sum of a text by any table. -/
import Derived.Test.YtjjkapoicdmigaaCTab
import Derived.Deep.RegionHeld3
namespace Go.Proofs.Ytjjkapoicdmigaa
open Go.RowKit Go.Lib

theorem take_snocC (s : ByteArray) (k : Nat) (h : k < s.size) : s.data.toList.take (k + 1) = s.data.toList.take k ++ [s[k]] := by
  rw [List.take_succ_eq_append_getElem (by simpa using h)]; rfl

/-- The sum under way behind j bytes. -/
def foldT (f : Nat → Nat) (s : ByteArray) (j : Nat) : Nat := foldN f 4294967295 (s.data.toList.take j)

theorem foldT_zero (f : Nat → Nat) (s : ByteArray) : foldT f s 0 = 4294967295 := rfl
theorem foldT_succ (f : Nat → Nat) (s : ByteArray) (j : Nat) (h : j < s.size) : foldT f s (j + 1) = stepN f (foldT f s j) s[j].toNat := by
  unfold foldT
  rw [take_snocC s j h, foldN_snoc]
theorem foldT_lt (f : Nat → Nat) (hf : ∀ i, i < 256 → f i < 4294967296) (s : ByteArray) (j : Nat) : foldT f s j < 4294967296 := foldN_lt f hf _ _ (by decide)
theorem foldT_all (f : Nat → Nat) (s : ByteArray) : foldT f s s.size = foldN f 4294967295 s.data.toList := by
  unfold foldT
  rw [List.take_of_length_le (by rw [Array.length_toList]; exact Nat.le_refl _)]

/-- All bits turned, as the walk spells it. -/
theorem not_u32 (n : Nat) (h : n < 4294967296) : wrap64 (bits .xor .u32 IntKind.u32.max (n : Int)) = ((4294967295 - n : Nat) : Int) := by
  rw [show (IntKind.u32.max : Int) = ((4294967295 : Nat) : Int) from rfl, u32_xor_nat 4294967295 n (by decide) h, ← not_xor n h]
  unfold wrap64
  omega

theorem wrap_succ (j n : Nat) (h : j < n) (hn : n < 4611686018427387904) : wrap64 ((j : Int) + 1) = ((j + 1 : Nat) : Int) := by
  unfold wrap64
  omega

theorem meas_succ (j n : Nat) (h : j < n) (hw : wrap64 ((j : Int) + 1) = ((j + 1 : Nat) : Int)) : n - (intOf (.int .i64 (wrap64 ((j : Int) + 1)))).toNat < n - (intOf (.int .i64 (j : Int))).toNat := by
  rw [hw]
  show n - ((j + 1 : Nat) : Int).toNat < n - ((j : Nat) : Int).toNat
  rw [Int.toNat_natCast, Int.toNat_natCast]
  omega

set_option maxRecDepth 20000 in
set_option maxHeartbeats 400000 in
theorem sum_any (f : Nat → Nat) (hf : ∀ i, i < 256 → f i < 4294967296) (s : ByteArray) (hs : s.size < 4611686018427387904) (w : World) :
    Calls Try.prog 10 #[.agg (tabL f).toArray, .string s] w fun e w' => e = .returned (.int .i64 (sumN f s.data.toList : Nat)) ∧ Below w.heap.size w w' := by
  have HF := hide hf
  have HS := hide hs
  have HC := hide (tab_cell f w)
  have B := hide ((Below.refl _ w).alloc (Nat.le_refl _) (.cells (tabL f).toArray 23))
  generalize (tabL f).toArray = c at *
  clear hf hs
  go_enter Try.func10, Try.ntmps10
  go_wp2
  go_loop [5, 9] (fun v i => ∃ j : Nat, j ≤ s.size ∧ i = .int .i64 j ∧ v = .int .u32 (foldT f s j : Nat)) (fun _ i => s.size - (intOf i).toNat)
  case atStart => exact ⟨0, Nat.zero_le _, rfl, by rw [foldT_zero]; rfl⟩
  case round =>
    obtain ⟨j, hj, rfl, rfl⟩ := hrel
    by_cases hlt : j < s.size
    · obtain ⟨x, hx, e1, e2⟩ := step_facts f HF.out (foldT f s j) (foldT_lt f HF.out s j) s[j].toNat s[j].toNat_lt
      have _c := HC.out x hx
      rw [← foldT_succ f s j hlt] at e2
      have HW := hide (wrap_succ j s.size hlt HS.out)
      obtain ⟨n, hn⟩ : ∃ n, foldT f s j = n := ⟨_, rfl⟩
      obtain ⟨m, hm⟩ : ∃ m, foldT f s (j + 1) = m := ⟨_, rfl⟩
      rw [hm, hn] at e2
      rw [hn] at e1
      rw [hn]
      have HM := hide hm
      clear hn hm
      go_wp2
      go_round
      case rel => exact ⟨j + 1, by omega, by rw [HW.out], by rw [HM.out]⟩
      case measure => exact meas_succ j s.size hlt HW.out
    · have hjs : j = s.size := by omega
      subst hjs
      rw [foldT_all]
      have e := hide (not_u32 _ (foldN_lt f HF.out s.data.toList 4294967295 (by decide)))
      go_wp2
      go_ret
      exact ⟨retInt e.out, B.out⟩

set_option maxRecDepth 20000 in
set_option maxHeartbeats 400000 in
theorem qsum_any (f : Nat → Nat) (hf : ∀ i, i < 256 → f i < 4294967296) (s : ByteArray) (hs : s.size < 4611686018427387904) (w : World) :
    Calls Try.prog 11 #[.agg (tabL f).toArray, .string s] w fun e w' => e = .returned (.int .i64 (sumN f s.data.toList : Nat)) ∧ Below w.heap.size w w' := by
  have HF := hide hf
  have HS := hide hs
  have HT := hide (range_made w (tabL f) 23)
  have B := hide ((Below.refl _ w).alloc (Nat.le_refl _) (.cells (tabL f).toArray 23))
  have hu := Try.underlying23
  have hn := tabL_length f
  have hi : (Try.prog.info? 23).map (·.size) = some (tabL f).length := by rw [hn]; exact Try.sizeTab
  have h1 := tabL_one f
  have HQ := hide (fun n hn b hb => qstep_any f hf n hn b hb)
  generalize tabL f = c at *
  clear hf hs
  go_enter Try.func11, Try.ntmps11
  go_wp2
  go_loopw [5, 6] (fun v i wr => ∃ j : Nat, j ≤ s.size ∧ i = .int .i64 j ∧ v = .int .u32 (foldT f s j : Nat) ∧ Hid (wr.rangeAt w.heap.size 0 c) ∧ Hid (Below w.heap.size w wr)) (fun _ i _ => s.size - (intOf i).toNat)
  case atStart => exact ⟨0, Nat.zero_le _, rfl, by rw [foldT_zero]; rfl, HT, B⟩
  case round =>
    obtain ⟨j, hj, rfl, rfl, HT1, B1⟩ := hrel
    by_cases hlt : j < s.size
    · have HW := hide (wrap_succ j s.size hlt HS.out)
      have hT1 := HT1.out
      go_wp2
      go_region_held3 (fun w' => w'.rangeAt w.heap.size 0 c) (go_keep_ranges) (first
        | (go_at_call 13; refine (HQ.out (foldT f s j) (foldT_lt f HF.out s j) s[j].toNat s[j].toNat_lt _).mono ?_; rintro e w1 ⟨rfl, b1⟩; have hT2 : w1.rangeAt w.heap.size 0 c := range_below ((World.rangeAt_drew _ _ _ _).2 hT1) b1 (range_lt ((World.rangeAt_drew _ _ _ _).2 hT1) hn); have B2 := hide b1; clear b1))
      have B3 := hide (B1.out.drew.trans (B2.out.mono B1.out.size))
      have HT2 := hide hT2
      clear hT1 hT2
      go_wp2
      go_roundw
      case rel => exact ⟨j + 1, by omega, by rw [HW.out], by rw [foldT_succ f s j hlt], HT2, B3⟩
      case measure => exact meas_succ j s.size hlt HW.out
    · have hjs : j = s.size := by omega
      subst hjs
      rw [foldT_all]
      have e := hide (not_u32 _ (foldN_lt f HF.out s.data.toList 4294967295 (by decide)))
      go_wp2
      go_ret
      exact ⟨retInt e.out, B1.out⟩

end Go.Proofs.Ytjjkapoicdmigaa
