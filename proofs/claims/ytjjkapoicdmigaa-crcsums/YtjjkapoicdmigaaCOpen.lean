/- Two like tables are equal; a table that came in, opened. -/
import Derived.Test.YtjjkapoicdmigaaCAwake
import Derived.DeepKeys
import Derived.OpenShut
import Derived.WideShapes
namespace Go.Proofs.Ytjjkapoicdmigaa
open Go.RowKit Go.Lib

theorem Try.u32Info : ∃ i, Try.prog.info? 22 = some i := by
  have h : (Try.prog.info? 22).isSome = true := by kernel_rfl
  exact Option.isSome_iff_exists.1 h
theorem Try.u32Cells : Try.prog.cellsOf 22 = 1 := by kernel_rfl
theorem Try.tabCells : Try.prog.cellsOf 23 = 256 := by kernel_rfl
theorem Try.u32Plain : Try.prog.plainKey 22 = true := by kernel_rfl

theorem items_eql (f : Nat → Nat) (w : World) : ∀ is : List Nat, (∀ i ∈ is, i < 256) → (Op.eqItems 9999 22 1 (tabL f).toArray (tabL f).toArray is).run Try.prog w = .ok true w
  | [], _ => by simp [Op.eqItems]
  | i :: is, h => by
    have hp := run_part_plain (P := Try.prog) w Try.u32Plain (xs := (tabL f).toArray) (off := i * 1) (v := .int .u32 (f i : Nat)) (by rw [Nat.mul_one, List.getElem?_toArray]; exact tabL_get f i (h i List.mem_cons_self))
    have he := run_equalIn_int (P := Try.prog) w 9998 22 .u32 .u32 (f i : Nat) (f i : Nat) Try.underlying22
    simp only [Op.eqItems, Sem.run_bind, hp, Result.andThen_ok, he]
    have ih := items_eql f w is fun j hj => h j (List.mem_cons_of_mem _ hj)
    simpa using ih

theorem tab_eql (f : Nat → Nat) (w : World) : (Op.equalIn 10000 23 (.agg (tabL f).toArray) (.agg (tabL f).toArray)).run Try.prog w = .ok true w := by
  obtain ⟨i, hi⟩ := Try.u32Info
  rw [show (10000 : Nat) = 9999 + 1 from rfl, run_equalIn_array w 9999 _ _ Try.underlying23 hi, Try.u32Cells]
  exact items_eql f w _ fun i hi => List.mem_range.1 hi

/-- A table that came in. -/
theorem open_tab {H : Type} {enc : TypeId × Value → H} {w : World} {r : Reach} {b0 base : Nat} {sp : Nat → Bool} {held : Bool} {v : Value} {d : DataW H} {ps : List MemPlace}
    (ho : Value.okWide Try.prog w r b0 23 v) (hk : DataW.Trod enc Try.prog w base sp held 23 v d ps) :
    ∃ f : Nat → Nat, (∀ i, i < 256 → f i < 4294967296) ∧ v = .agg (tabL f).toArray := by
  unfold Value.okWide at ho
  rw [Try.underlying23] at ho
  obtain ⟨cs, rfl, hsz, _⟩ := ho
  rw [Try.tabCells] at hsz
  obtain ⟨fuel, hf⟩ := hk
  obtain ⟨xs, m, rfl, hx, hl, hxl, hel⟩ := DataW.trod_array Try.underlying23 hf
  have key : ∀ i, i < 256 → ∃ z : Nat, z < 4294967296 ∧ cs[i]? = some (.int .u32 (z : Int)) := by
    intro i hi
    have h := hel i hi
    rw [Try.u32Cells, Nat.mul_one, List.getElem?_eq_getElem (by omega)] at h
    obtain ⟨z, hz, _, hwf⟩ := DataW.trod_int Try.underlying22 h
    have hb := bounds_u32 hwf
    refine ⟨z.toNat, by omega, ?_⟩
    have h0 : ((cs.toList.drop i).take 1)[0]? = some (.int .u32 z) := by
      have : (Value.agg cs).cells = cs := rfl
      rw [this] at hz
      rw [hz]
      rfl
    rw [List.getElem?_take, if_pos (by decide), List.getElem?_drop, Nat.add_zero, Array.getElem?_toList] at h0
    rw [h0, Int.toNat_of_nonneg hb.1]
  refine ⟨fun i => match cs[i]? with
    | some (.int _ z) => z.toNat
    | _ => 0, ?_, ?_⟩
  · intro i hi
    obtain ⟨z, hz, he⟩ := key i hi
    simp only [he, Int.toNat_natCast]
    exact hz
  · congr 1
    apply Array.ext_getElem?
    intro i
    by_cases hi : i < 256
    · obtain ⟨z, hz, he⟩ := key i hi
      rw [he]
      rw [List.getElem?_toArray, tabL_get _ i hi]
      simp only [he, Int.toNat_natCast]
    · rw [Array.getElem?_eq_none (by omega), Array.getElem?_eq_none (by rw [List.size_toArray, tabL_length]; omega)]

end Go.Proofs.Ytjjkapoicdmigaa
