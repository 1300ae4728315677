/- Contract of the document's table. -/
import Derived.Test.YtjjkapoicdmigaaCAwake
namespace Go.Proofs.Ytjjkapoicdmigaa
open Go.RowKit Go.Lib

set_option maxRecDepth 20000 in
set_option maxHeartbeats 4000000 in
theorem qtable_any (w : World) :
    Calls Try.prog 9 #[] w fun e w' => e = .returned (.agg (tabL ent).toArray) ∧ Below w.heap.size w w' := by
  have hv := Try.zeroTab
  have HS := hide rowT_set
  have HL := hide rowT_length
  have HA := hide rowT_all
  have HI := hide rowT_at
  generalize rowT = R at *
  go_enter Try.func9, Try.ntmps9
  go_wp2
  go_loopw [2] (fun c wr => ∃ i : Nat, i ≤ 256 ∧ c = .int .i64 i ∧ wr = (w.alloc (.cells (R 0).toArray 23)).alloc (.cells (R i).toArray 23)) (fun c _ => 256 - (intOf c).toNat)
  case atStart => exact ⟨0, Nat.zero_le _, rfl, rfl⟩
  case round =>
    obtain ⟨i, hi, rfl, rfl⟩ := hrel
    by_cases hlt : i < 256
    · have hlz : (i : Int) < 256 := by omega
      have _c := tw_cell w (R 0) (R i) i _ (HI.out i hlt)
      have HN := hide (fun k => halfK_lt k i (by omega))
      generalize hW : (w.alloc (.cells (R 0).toArray 23)).alloc (.cells (R i).toArray 23) = W at *
      go_wp2
      go_loop [3, 4] (fun v c => ∃ j : Nat, j ≤ 8 ∧ c = .int .i64 j ∧ v = .int .u32 (halfK j i : Nat)) (fun _ c => 8 - (intOf c).toNat)
      case atStart => exact ⟨0, Nat.zero_le _, rfl, rfl⟩
      case round =>
        obtain ⟨j, hj, rfl, rfl⟩ := hrel
        by_cases hl8 : j < 8
        · have HM := hide (halfK_succ j i)
          have hl := HN.out j
          generalize halfK j i = m at *
          by_cases ho : m % 2 = 1
          · obtain ⟨e1, e2⟩ := half_odd m hl ho
            clear ho hl
            go_wp2
            go_round
            case rel => exact ⟨j + 1, by omega, by go_num, by rw [HM.out]⟩
            case measure => exact meas_one j 8 hl8
          · obtain ⟨e1, e2⟩ := half_even m hl ho
            clear ho hl
            go_wp2
            go_round
            case rel => exact ⟨j + 1, by omega, by go_num, by rw [HM.out]⟩
            case measure => exact meas_one j 8 hl8
        · have hj8 : j = 8 := by omega
          subst hj8
          subst hW
          rw [show halfK 8 i = ent i from rfl]
          go_wp2
          go_roundw
          case rel => exact ⟨i + 1, by omega, by go_num, by rw [HS.out i hlt]⟩
          case measure => exact meas_one i 256 hlt
    · have hi8 : i = 256 := by omega
      subst hi8
      rw [HA.out]
      have hn := tabL_length ent
      have hr := tw_range w (R 0) (tabL ent)
      have ht := tw_there w (R 0) (tabL ent) (tabL ent).length (by rw [hn]; exact HL.out 0 (by decide))
      have hst := cells_store (P := Try.prog) ht (tabL_one ent)
      have HB := hide (below_cells (((Below.refl w.heap.size w).alloc (Nat.le_refl _) (.cells (R 0).toArray 23)).alloc (by show _ ≤ (w.heap.push _).size; simp) (.cells (tabL ent).toArray 23)) w.heap.size 0 (Nat.le_refl _) (tabL ent))
      have HR := hide hr
      have HL2 := hide (tab_load (World.rangeAt_setCells_same _ w.heap.size 0 (tabL ent) ht) hn)
      clear hr ht
      generalize hE : tabL ent = cs at *
      have HE := hide hE
      clear hE
      go_wp2
      refine wp_load_mid 23 (Operand.tmp 1) rfl (w.heap.size + 1) 0 rfl cs _ HR.out Try.underlying23 rfl (by rw [hn]; exact Try.sizeTab) ?_
      go_wp2
      (try simp only [Exit.inBlock, Exit.then])
      refine bodyPost_ret (v := .agg cs.toArray) ?_ rfl ⟨by rw [HE.out], HB.out⟩
      simp [results, Try.results9, asAddr, HL2.out]

end Go.Proofs.Ytjjkapoicdmigaa
