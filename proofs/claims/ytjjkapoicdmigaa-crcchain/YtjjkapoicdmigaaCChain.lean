/- Whatever a text is: its sum is what its steps come to, one by one, turned: 'CrcChain' answers true. No condition. -/
import Derived.Test.YtjjkapoicdmigaaCAwake
namespace Go.Proofs.Ytjjkapoicdmigaa
open Go.RowKit Go.Lib

set_option maxRecDepth 20000 in
set_option maxHeartbeats 4000000 in
theorem chain_walk (s : ByteArray) (w : World) :
    Calls Try.prog 6 #[.string s] w fun e w' => e = .returned (.bool true) ∧ Below w.heap.size w w' := by
  by_cases hbig : 3000 < s.size
  · have hb : (3000 : Int) < s.size := by omega
    clear hbig
    go_enter Try.func6, Try.ntmps6
    go_wp2_with fail
    refine (cawake_any _).mono ?_
    rintro e w1 ⟨rfl, b1⟩
    have B1 := hide b1
    clear b1
    go_wp2
    go_ret
    exact ⟨rfl, B1.out⟩
  · have hb : ¬ (3000 : Int) < s.size := by omega
    have HZ := hide (show s.size < 4611686018427387904 by omega)
    clear hbig
    have hv := Try.zeroTab
    have HQ := hide tab_store
    have hn := tabL_length ent
    generalize rowT 0 = R at *
    go_enter Try.func6, Try.ntmps6
    go_wp2_with fail
    refine (table_any _).mono ?_
    rintro e w1 ⟨rfl, b1⟩
    have hst := HQ.out w1 (tabL ent) hn (tabL_one ent)
    have HR := hide (range_made w1 (tabL ent) 23)
    have B1 := hide (b1.alloc b1.size (.cells (tabL ent).toArray 23))
    have HS := hide (fun s hs w => sum_any ent ent_lt s hs w)
    have HP := hide (fun n hn b hb w => step_any ent ent_lt n hn b hb w)
    have hu := Try.underlying23
    have hi : (Try.prog.info? 23).map (·.size) = some (tabL ent).length := by rw [hn]; exact Try.sizeTab
    have h1 := tabL_one ent
    clear b1
    generalize tabL ent = cs at *
    go_wp2
    go_loopw [4, 5] (fun v i wr => ∃ j : Nat, j ≤ s.size ∧ i = .int .i64 j ∧ v = .int .u32 (foldT ent s j : Nat) ∧ Hid (wr.rangeAt w1.heap.size 0 cs) ∧ Hid (Below w.heap.size w wr)) (fun _ i _ => s.size - (intOf i).toNat)
    case atStart => exact ⟨0, Nat.zero_le _, rfl, by rw [foldT_zero]; rfl, HR, B1⟩
    case round =>
      obtain ⟨j, hj, rfl, rfl, HT1, BB⟩ := hrel
      by_cases hlt : j < s.size
      · have hT1 := HT1.out
        go_wp2
        go_region_held3 (fun w' => w'.rangeAt w1.heap.size 0 cs) (go_keep_ranges) (first
          | (go_at_call 12; refine (HP.out (foldT ent s j) (foldT_lt ent ent_lt s j) s[j].toNat s[j].toNat_lt _).mono ?_; rintro e w2 ⟨rfl, b2⟩; have hT2 : w2.rangeAt w1.heap.size 0 cs := range_below ((World.rangeAt_drew _ _ _ _).2 hT1) b2 (range_lt ((World.rangeAt_drew _ _ _ _).2 hT1) hn); have B2 := hide b2; clear b2))
        have B3 := hide (BB.out.drew.trans (B2.out.mono BB.out.size))
        have HT2 := hide hT2
        clear hT1 hT2
        go_wp2
        go_roundw
        case rel => exact ⟨j + 1, by omega, by go_num, by rw [foldT_succ ent s j hlt], HT2, B3⟩
        case measure => exact meas_one j s.size hlt
      · have hjs : j = s.size := by omega
        subst hjs
        rw [foldT_all]
        have e0 := hide (not_u32 _ (foldN_lt ent ent_lt s.data.toList 4294967295 (by decide)))
        go_wp2_with fail
        refine (cawake_any _).mono ?_
        rintro e w2 ⟨rfl, b2⟩
        have HT2 := hide (range_below HT1.out b2 (range_lt HT1.out hn))
        have B2 := hide (BB.out.trans (b2.mono BB.out.size))
        have HN := hide hn
        clear b2
        go_wp2
        refine wp_load_mid 23 (Operand.tmp 3) rfl w1.heap.size 0 rfl cs _ HT2.out Try.underlying23 rfl (by rw [HN.out]; exact Try.sizeTab) ?_
        go_wp2_with fail
        refine (HS.out s HZ.out _).mono ?_
        rintro e w3 ⟨rfl, b3⟩
        have B3 := hide (B2.out.trans (b3.mono B2.out.size))
        clear b3
        have he : wrap64 (bits .xor .u32 IntKind.u32.max ((foldN ent 4294967295 s.data.toList : Nat) : Int)) = ((sumN ent s.data.toList : Nat) : Int) := e0.out
        go_wp2
        go_ret
        exact ⟨rfl, B3.out⟩

theorem chain_law (w : World) (a0 : ByteArray) (_w0 : a0.size ≤ maxLen) :
    Calls Try.prog 6 #[.string a0] w fun e w' => e = .returned (.bool true) ∧ Below w.heap.size w w' := chain_walk a0 w

end Go.Proofs.Ytjjkapoicdmigaa
