/- Contracts of package crc, and of the document's answer: a step, a sum by any table, and the table itself. -/
import Derived.Test.YtjjkapoicdmigaaRows
import Derived.Test.YtjjkapoicdmigaaCMath
import Derived.Test.YtjjkapoicdmigaaWorld
import Derived.WalkKit
import Derived.WalkSpells
import Derived.WalkLawsBesides
import Derived.Deep.OwnRows
import Derived.Deep.WholeRow
import Derived.Deep.MidRow
namespace Go.Proofs.Ytjjkapoicdmigaa
open Go.RowKit Go.Lib

/-- The cells of a table. -/
def tabL (f : Nat → Nat) : List Value := (List.range 256).map fun i => Value.int .u32 (f i : Nat)

theorem tabL_length (f : Nat → Nat) : (tabL f).length = 256 := by simp [tabL]
theorem tabL_get (f : Nat → Nat) (i : Nat) (h : i < 256) : (tabL f)[i]? = some (.int .u32 (f i : Nat)) := by
  simp [tabL, h]
theorem tabL_one (f : Nat → Nat) : ∀ v ∈ tabL f, v.oneCell' = true := by
  intro v hv
  obtain ⟨i, _, rfl⟩ := List.mem_map.1 hv
  rfl

theorem Try.sizeTab : (Try.prog.info? 23).map (·.size) = some 256 := by kernel_rfl

theorem tab_cell (f : Nat → Nat) (w : World) (i : Nat) (h : i < 256) : (w.alloc (.cells (tabL f).toArray 23)).cell? ⟨w.heap.size, i, none⟩ = some (.int .u32 (f i : Nat)) := by
  rw [cell_of_row _ _ i _ _ (0, 0) (heap_alloc_last w _), List.getElem?_toArray]
  exact tabL_get f i h

/-- A block made of cells holds them. -/
theorem range_made (w : World) (cs : List Value) (T : TypeId) : (w.alloc (.cells cs.toArray T)).rangeAt w.heap.size 0 cs := by
  intro j v hv
  rw [Nat.zero_add, cell_of_row _ _ j _ _ (0, 0) (heap_alloc_last w _), List.getElem?_toArray]
  exact hv

/-- Behind whatever a call made, cells that were there are there. -/
theorem range_below {w w' : World} {p o : Nat} {cs : List Value} (h : w.rangeAt p o cs) {B : Nat} (b : Below B w w') (hp : p < B) : w'.rangeAt p o cs := by
  intro j v hv
  rw [World.cell?_of_block (w := w) (b.block p hp)]
  exact h j v hv

theorem range_lt {w : World} {p o : Nat} {cs : List Value} (h : w.rangeAt p o cs) (hn : cs.length = 256) : p < w.heap.size := by
  obtain ⟨v, hv⟩ : ∃ v, cs[0]? = some v := ⟨_, List.getElem?_eq_getElem (by omega)⟩
  exact World.block_lt_of_cell? w _ (h 0 v hv)

/-- A table, loaded. -/
theorem tab_load {w : World} {p : Nat} {cs : List Value} (h : w.rangeAt p 0 cs) (hn : cs.length = 256) : (loadVar 23 ⟨p, 0, none⟩).run Try.prog w = .ok (.agg cs.toArray) w :=
  run_loadVar_mid w p 0 23 cs _ h Try.underlying23 rfl (by rw [hn]; exact Try.sizeTab)

/-- The arithmetic of a step, as the walk spells it. -/
theorem step_facts (f : Nat → Nat) (hf : ∀ i, i < 256 → f i < 4294967296) (n : Nat) (hn : n < 4294967296) (b : Nat) (hb : b < 256) :
    ∃ x : Nat, x < 256 ∧ bits .xor .u8 ((n : Int) % 256) (b : Int) = (x : Int) ∧ bits .xor .u32 ((n : Int) / 256) ((f x : Nat) : Int) = ((stepN f n b : Nat) : Int) := by
  have hx : (n % 256) ^^^ b < 2 ^ 8 := Nat.xor_lt_two_pow (by omega) hb
  exact ⟨n % 256 ^^^ b, hx, u8_xor_nat (n % 256) b (by omega) hb, u32_xor_nat (n / 256) _ (by omega) (hf _ hx)⟩

set_option maxRecDepth 20000 in
set_option maxHeartbeats 400000 in
theorem step_any (f : Nat → Nat) (hf : ∀ i, i < 256 → f i < 4294967296) (n : Nat) (hn : n < 4294967296) (b : Nat) (hb : b < 256) (w : World) :
    Calls Try.prog 12 #[.agg (tabL f).toArray, .int .u32 n, .int .u8 b] w fun e w' => e = .returned (.int .u32 (stepN f n b : Nat)) ∧ Below w.heap.size w w' := by
  obtain ⟨x, hx, e1, e2⟩ := step_facts f hf n hn b hb
  have _c := tab_cell f w x hx
  have B := hide ((Below.refl _ w).alloc (Nat.le_refl _) (.cells (tabL f).toArray 23))
  generalize (tabL f).toArray = c at *
  generalize stepN f n b = y at *
  clear hn hb hf
  go_enter Try.func12, Try.ntmps12
  go_wp2
  go_ret
  exact ⟨rfl, B.out⟩

set_option maxRecDepth 20000 in
set_option maxHeartbeats 400000 in
theorem qstep_any (f : Nat → Nat) (hf : ∀ i, i < 256 → f i < 4294967296) (n : Nat) (hn : n < 4294967296) (b : Nat) (hb : b < 256) (w : World) :
    Calls Try.prog 13 #[.agg (tabL f).toArray, .int .u32 n, .int .u8 b] w fun e w' => e = .returned (.int .u32 (stepN f n b : Nat)) ∧ Below w.heap.size w w' := by
  obtain ⟨x, hx, e1, e2⟩ := step_facts f hf n hn b hb
  have _c := tab_cell f w x hx
  have B := hide ((Below.refl _ w).alloc (Nat.le_refl _) (.cells (tabL f).toArray 23))
  generalize (tabL f).toArray = c at *
  generalize stepN f n b = y at *
  clear hn hb hf
  go_enter Try.func13, Try.ntmps13
  go_wp2
  go_ret
  exact ⟨rfl, B.out⟩

end Go.Proofs.Ytjjkapoicdmigaa
