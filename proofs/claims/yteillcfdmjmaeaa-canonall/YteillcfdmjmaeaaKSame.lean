/- Like codes, and like numbers, are told to be: the document's 'Same' of layer 5, and the statements' 'same'. -/
import Derived.Test.YteillcfdmjmaeaaKRead
import Derived.DeepKeys
import Derived.WideShapes
namespace Go.Proofs.Yteillcfdmjmaeaa
open Go.RowKit Go.Lib

set_option maxHeartbeats 1000000 in
theorem same_any (a : List Nat) (n : Nat) (pa pb : Option Addr) (ca cb : Nat) (W : World) (hn : a.length = n) (ha : ArgN W pa a) (hb : ArgN W pb a) (la : n ≤ 1000) :
    Calls Try.prog 16 #[.slice pa n ca, .slice pb n cb] W fun e w' => e = .returned (.bool true) ∧ Below W.heap.size W w' := by
  have HA := hide ha
  have HB := hide hb
  have HN := hide hn
  have B0 := hide (Below.refl W.heap.size W)
  clear ha hb hn
  go_enter Try.func16, Try.ntmps16
  go_wp2
  go_loopw [5] (fun i wr => ∃ j : Nat, j ≤ n ∧ i = .int .i64 j ∧ Hid (Below W.heap.size W wr)) (fun i _ => n - (intOf i).toNat)
  case atStart => exact ⟨0, Nat.zero_le _, rfl, B0⟩
  case round =>
    obtain ⟨j, hj, rfl, BB⟩ := hrel
    by_cases hlt : j < n
    · obtain ⟨x, offx, rfl, hx, hcx⟩ := HA.out j _ (getD_some a j (by rw [HN.out]; exact hlt))
      obtain ⟨y, offy, rfl, hy, hcy⟩ := HB.out j _ (getD_some a j (by rw [HN.out]; exact hlt))
      have _c1 := (BB.out.cell (p := ⟨x, offx + j, none⟩) hx).trans hcx
      have _c2 := (BB.out.cell (p := ⟨y, offy + j, none⟩) hy).trans hcy
      have z1 : (j : Int) < n := by omega
      have HLT := hide hlt
      generalize a.getD j 0 = u at *
      clear hx hy hcx hcy hj hlt
      go_wp2
      go_quiet (fail)
      go_wp2
      go_roundw
      case rel => exact ⟨j + 1, HLT.out, by go_num, hide (below_drewN BB.out _)⟩
      case measure => exact meas_oneW j _ HLT.out
    · have hje : j = n := by omega
      subst hje
      go_wp2
      go_ret
      exact ⟨rfl, BB.out⟩

/-- A load of many cells behind a guard that lets it. -/
theorem wpList_load_wanted {P : Program} {ops : Array Oper} {rest : List Oper} {op : Oper} {a : Act} {w : World} {Q : Exit → Act → World → Prop} (hw : Region.wanted op (yielded ops a.tmps) = true) (ty : TypeId) (x : Operand) (ho : op.op = .load ty x)
    (b o : Nat) (hx : a.eval x = .pointer (some ⟨b, o, none⟩)) (cs : List Value) (d : TypeDesc) (hc : w.rangeAt b o cs)
    (hu : P.underlying ty = some d) (hd : d.isRow = true) (hi : (P.info? ty).map (·.size) = some cs.length)
    (h : wpList P ops Q rest (a.put op.dst (.agg cs.toArray)) w) : wpList P ops Q (op :: rest) a w :=
  wpList_step fun _ hK => by rw [if_pos hw]; exact wp_load_mid ty x ho b o hx cs d hc hu hd hi (hK _ _ h)

theorem Try.intInfo : ∃ i, Try.prog.info? 3 = some i := by
  have h : (Try.prog.info? 3).isSome = true := by kernel_rfl
  exact Option.isSome_iff_exists.1 h
theorem Try.intPlain : Try.prog.plainKey 3 = true := by kernel_rfl
theorem Try.sizeCnt : (Try.prog.info? 27).map (·.size) = some 16 := by kernel_rfl

/-- The counts alone. -/
def cntCs (f : Nat → Nat) : List Value := (List.range 16).map fun i => Value.int .i64 (f i : Nat)
theorem cntCs_get (f : Nat → Nat) (i : Nat) (h : i < 16) : (cntCs f)[i]? = some (.int .i64 (f i : Nat)) := by
  simp [cntCs, h]
theorem cnt_items (f : Nat → Nat) (w : World) : ∀ is : List Nat, (∀ i ∈ is, i < 16) → (Op.eqItems 9999 3 1 (cntCs f).toArray (cntCs f).toArray is).run Try.prog w = .ok true w
  | [], _ => by simp [Op.eqItems]
  | i :: is, h => by
    have hp := run_part_plain (P := Try.prog) w Try.intPlain (xs := (cntCs f).toArray) (off := i * 1) (v := .int .i64 (f i : Nat)) (by rw [Nat.mul_one, List.getElem?_toArray]; exact cntCs_get f i (h i List.mem_cons_self))
    have he := run_equalIn_int (P := Try.prog) w 9998 3 .i64 .i64 (f i : Nat) (f i : Nat) Try.underlying3
    simp only [Op.eqItems, Sem.run_bind, hp, Result.andThen_ok, he]
    have ih := cnt_items f w is fun j hj => h j (List.mem_cons_of_mem _ hj)
    simpa using ih
theorem cnt_eql (f : Nat → Nat) (w : World) : (Op.equalIn 10000 27 (.agg (cntCs f).toArray) (.agg (cntCs f).toArray)).run Try.prog w = .ok true w := by
  obtain ⟨i, hi⟩ := Try.intInfo
  rw [show (10000 : Nat) = 9999 + 1 from rfl, run_equalIn_array w 9999 _ _ Try.underlying27 hi, Try.cellsZ]
  exact cnt_items f w _ fun i hi => List.mem_range.1 hi
theorem cnt_range {w : World} {P : Nat} {f : Nat → Nat} {v : Value} (h : w.heap[P]? = some (.cells (codeCs f v).toArray 29 (0, 0))) : w.rangeAt P 0 (cntCs f) := by
  intro j u hu
  have hj : j < 16 := by
    have := (List.getElem?_eq_some_iff.1 hu).1
    simpa [cntCs] using this
  rw [cntCs_get f j hj] at hu
  rw [Nat.zero_add, cell_of_row _ _ j _ _ (0, 0) h, List.getElem?_toArray, codeCs_get f v j hj]
  exact hu

set_option maxRecDepth 20000 in
set_option maxHeartbeats 4000000 in
theorem qsame_any (f : Nat → Nat) (S : List Nat) (n : Nat) (pa pb : Option Addr) (ca cb : Nat) (W : World) (hn : S.length = n) (ha : ArgN W pa S) (hb : ArgN W pb S) (la : n ≤ 1000) :
    Calls Try.prog 17 #[codeV f (.slice pa n ca), codeV f (.slice pb n cb)] W fun e w' => e = .returned (.bool true) ∧ Below W.heap.size W w' := by
  have HN := hide hn
  have hsz : (W.alloc (.cells (codeCs f (.slice pa n ca)).toArray 29)).heap.size = W.heap.size + 1 := by show (W.heap.push _).size = _; simp
  have b1 : Below W.heap.size W ((W.alloc (.cells (codeCs f (.slice pa n ca)).toArray 29)).alloc (.cells (codeCs f (.slice pb n cb)).toArray 29)) := ((Below.refl _ W).alloc (Nat.le_refl _) _).alloc (size_alloc_le (Nat.le_refl _)) _
  have HA := hide (ha.below b1 (Nat.le_refl _))
  have HB := hide (hb.below b1 (Nat.le_refl _))
  have B0 := hide b1
  have hx1 : ((W.alloc (.cells (codeCs f (.slice pa n ca)).toArray 29)).alloc (.cells (codeCs f (.slice pb n cb)).toArray 29)).heap[W.heap.size]? = some (.cells (codeCs f (.slice pa n ca)).toArray 29 (0, 0)) := by
    rw [heap_alloc_old _ _ _ (by omega)]
    exact heap_alloc_at _ _ rfl
  have hx2 : ((W.alloc (.cells (codeCs f (.slice pa n ca)).toArray 29)).alloc (.cells (codeCs f (.slice pb n cb)).toArray 29)).heap[W.heap.size + 1]? = some (.cells (codeCs f (.slice pb n cb)).toArray 29 (0, 0)) := heap_alloc_at _ _ hsz
  have HR1 := hide (cnt_range hx1)
  have HR2 := hide (cnt_range hx2)
  have _c1 : ((W.alloc (.cells (codeCs f (.slice pa n ca)).toArray 29)).alloc (.cells (codeCs f (.slice pb n cb)).toArray 29)).cell? ⟨W.heap.size, 16, none⟩ = some (.slice pa n ca) := by rw [cell_of_row _ _ 16 _ _ (0, 0) hx1]; rfl
  have _c2 : ((W.alloc (.cells (codeCs f (.slice pa n ca)).toArray 29)).alloc (.cells (codeCs f (.slice pb n cb)).toArray 29)).cell? ⟨W.heap.size + 1, 16, none⟩ = some (.slice pb n cb) := by rw [cell_of_row _ _ 16 _ _ (0, 0) hx2]; rfl
  have heq := cnt_eql f
  have HSZ := hide (show (Try.prog.info? 27).map (·.size) = some (cntCs f).length by rw [show (cntCs f).length = 16 from rfl]; exact Try.sizeCnt)
  unfold codeV at *
  generalize codeCs f (.slice pa n ca) = x1 at *
  generalize codeCs f (.slice pb n cb) = x2 at *
  generalize cntCs f = c16 at *
  clear ha hb hn b1 hx1 hx2 hsz
  go_enter Try.func17, Try.ntmps17
  go_wp2_with (first
    | (refine wpList_load_mid rfl 27 (Operand.tmp 6) rfl W.heap.size 0 rfl c16 _ HR1.out Try.underlying27 rfl HSZ.out ?_)
    | (refine wpList_load_mid rfl 27 (Operand.tmp 8) rfl (W.heap.size + 1) 0 rfl c16 _ HR2.out Try.underlying27 rfl HSZ.out ?_))
  clear heq HR1 HR2 HSZ
  generalize hw1 : (W.alloc (.cells x1.toArray 29)).alloc (.cells x2.toArray 29) = w1 at *
  clear hw1
  obtain ⟨Q, hQ⟩ : ∃ Q, W.heap.size + 1 = Q := ⟨_, rfl⟩
  rw [hQ] at _c2
  simp only [hQ]
  clear hQ
  have HW0 := hide (show ∃ q, w1 = w1.drewN q from ⟨0, (World.drewN_zero _).symm⟩)
  go_loopw [5] (fun i wr => ∃ j : Nat, j ≤ n ∧ i = .int .i64 j ∧ Hid (∃ q, wr = w1.drewN q)) (fun i _ => n - (intOf i).toNat)
  case atStart => exact ⟨0, Nat.zero_le _, rfl, HW0⟩
  case round =>
    obtain ⟨j, hj, rfl, HQ⟩ := hrel
    obtain ⟨q, rfl⟩ := HQ.out
    have c1 : (w1.drewN q).cell? ⟨W.heap.size, 16, none⟩ = some (.slice pa n ca) := _c1
    have c2 : (w1.drewN q).cell? ⟨Q, 16, none⟩ = some (.slice pb n cb) := _c2
    by_cases hlt : j < n
    · obtain ⟨x, offx, rfl, hx, hcx⟩ := HA.out j _ (getD_some S j (by rw [HN.out]; exact hlt))
      obtain ⟨y, offy, rfl, hy, hcy⟩ := HB.out j _ (getD_some S j (by rw [HN.out]; exact hlt))
      have c3 : (w1.drewN q).cell? ⟨x, offx + j, none⟩ = some (.int .i64 (S.getD j 0 : Nat)) := hcx
      have c4 : (w1.drewN q).cell? ⟨y, offy + j, none⟩ = some (.int .i64 (S.getD j 0 : Nat)) := hcy
      have z1 : (j : Int) < n := by omega
      have HLT := hide hlt
      generalize S.getD j 0 = u at *
      clear hx hy hj hlt HQ c1 c2 c3 c4
      go_wp2
      go_quiet (fail)
      go_wp2
      go_roundw
      case rel => exact ⟨j + 1, HLT.out, by go_num, hide ⟨_, rfl⟩⟩
      case measure => exact meas_oneW j _ HLT.out
    · have hje : j = n := by omega
      subst hje
      go_wp2
      go_ret
      exact ⟨rfl, below_drewN B0.out _⟩

end Go.Proofs.Yteillcfdmjmaeaa
