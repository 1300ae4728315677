/- The document's examples of layer 3 hold: 'awake' answers true, and touches nothing that was there. -/
import Derived.Test.YtjjkapoicdmigaaCTable
namespace Go.Proofs.Ytjjkapoicdmigaa
open Go.RowKit Go.Lib

/-- A table laid into a variable of its own. -/
theorem tab_store (w : World) (cs : List Value) (hn : cs.length = 256) (h1 : ∀ v ∈ cs, v.oneCell' = true) :
    (storeCells ⟨w.heap.size, 0, none⟩ cs).run Try.prog (w.alloc (.cells (rowT 0).toArray 23)) = .ok () (w.alloc (.cells cs.toArray 23)) := by
  have h := run_storeCells_new (P := Try.prog) w 23 (rowT 0).toArray cs.toArray (by rw [List.size_toArray, hn]; exact Try.sizeTab) (by rw [List.size_toArray, List.size_toArray, hn]; exact rowT_length 0 (by decide)) (all_oneCell_toArray h1)
  exact h

def exD : ByteArray := ⟨#[49, 50, 51, 52, 53, 54, 55, 56, 57]⟩

theorem exD_sum : sumN ent exD.data.toList = 3421780262 := by decide +kernel
theorem exE_sum : sumN ent (ByteArray.mk #[]).data.toList = 0 := by decide +kernel
theorem ent_one : ent 1 = 1996959894 := by decide +kernel
theorem step_one : stepN ent 0 1 = 1996959894 := by decide +kernel

set_option maxRecDepth 20000 in
set_option maxHeartbeats 4000000 in
theorem cawake_any (w : World) : Calls Try.prog 7 #[] w fun e w' => e = .returned (.bool true) ∧ Below w.heap.size w w' := by
  have hv := Try.zeroTab
  have HQ := hide tab_store
  have hn := tabL_length ent
  generalize rowT 0 = R at *
  go_enter Try.func7, Try.ntmps7
  go_wp2_with fail
  refine (table_any _).mono ?_
  rintro e w1 ⟨rfl, b1⟩
  have hst := HQ.out w1 (tabL ent) hn (tabL_one ent)
  have HR := hide (range_made w1 (tabL ent) 23)
  have B1 := hide (b1.alloc b1.size (.cells (tabL ent).toArray 23))
  have HS := hide (fun s hs w => sum_any ent ent_lt s hs w)
  have HP := hide (fun n hn b hb w => step_any ent ent_lt n hn b hb w)
  have HC := hide (tabL_get ent 1 (by decide))
  rw [ent_one] at HC
  have HN := hide hn
  have hp : w1.heap.size < (w1.alloc (.cells (tabL ent).toArray 23)).heap.size := by show _ < (w1.heap.push _).size; simp
  have HPW := hide hp
  clear b1 hp
  generalize tabL ent = cs at *
  go_wp2
  refine wp_load_mid 23 (Operand.tmp 1) rfl w1.heap.size 0 rfl cs _ HR.out Try.underlying23 rfl (by rw [HN.out]; exact Try.sizeTab) ?_
  go_wp2_with fail
  refine (HS.out exD (by decide) _).mono ?_
  rintro e w2 ⟨rfl, b2⟩
  rw [exD_sum]
  have HR2 := hide (range_below HR.out b2 HPW.out)
  have B2 := hide (B1.out.trans (b2.mono B1.out.size))
  have HP2 := hide (Nat.lt_of_lt_of_le HPW.out b2.size)
  clear b2 HR B1 HPW
  go_wp2
  refine wp_load_mid 23 (Operand.tmp 1) rfl w1.heap.size 0 rfl cs _ HR2.out Try.underlying23 rfl (by rw [HN.out]; exact Try.sizeTab) ?_
  go_wp2_with fail
  refine (HS.out ⟨#[]⟩ (by decide) _).mono ?_
  rintro e w3 ⟨rfl, b3⟩
  rw [exE_sum]
  have HR3 := hide (range_below HR2.out b3 HP2.out)
  have B3 := hide (B2.out.trans (b3.mono B2.out.size))
  have HP3 := hide (Nat.lt_of_lt_of_le HP2.out b3.size)
  have _c : w3.cell? ⟨w1.heap.size, 1, none⟩ = some (.int .u32 1996959894) := HR3.out 1 _ HC.out
  clear b3 HR2 B2 HP2
  go_wp2
  refine wp_load_mid 23 (Operand.tmp 1) rfl w1.heap.size 0 rfl cs _ HR3.out Try.underlying23 rfl (by rw [HN.out]; exact Try.sizeTab) ?_
  go_wp2_with fail
  refine (HP.out 0 (by decide) 1 (by decide) _).mono ?_
  rintro e w4 ⟨rfl, b4⟩
  rw [step_one]
  have B4 := hide (B3.out.trans (b4.mono B3.out.size))
  clear b4 HR3 B3 HP3 _c
  go_wp2
  go_ret
  exact ⟨rfl, B4.out⟩

end Go.Proofs.Ytjjkapoicdmigaa
