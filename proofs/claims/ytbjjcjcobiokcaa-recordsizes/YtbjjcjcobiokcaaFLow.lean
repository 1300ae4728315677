/- Contracts of package field's writing: 'lowest', U16, U32, U64 answer a number's lowest bytes, and touch nothing that was there. -/
import Derived.Test.YtbjjcjcobiokcaaRows
import Derived.Test.YtbjjcjcobiokcaaFMath
import Derived.Test.YtbjjcjcobiokcaaWorld
import Derived.WalkKit
import Derived.WalkSpells
import Derived.WalkLawsBesides
import Derived.Deep.OwnRows
import Derived.Laws.BytesString
namespace Go.Proofs.Ytbjjcjcobiokcaa
open Go.RowKit Go.Lib

theorem pushes (l : List UInt8) : ∀ s : ByteArray, (l.map fun b => (b.toNat : Int)).foldl (fun r n => r.push (UInt8.ofNat n.toNat)) s = ⟨(s.data.toList ++ l).toArray⟩ := by
  induction l with
  | nil => intro s; simp
  | cons x l ih =>
    intro s
    rw [List.map_cons, List.foldl_cons, ih]
    simp [ByteArray.push]

theorem load_row {P : Program} {w : World} {g : Nat} {cur : Array Value} {T : TypeId} {z : Nat × Nat} {out : List UInt8} (hg : w.heap[g]? = some (.cells cur T z)) (ht : cur.toList.take out.length = cellsB out) :
    (loadCells ⟨g, 0, none⟩ out.length).run P w = .ok ((out.map fun b => (b.toNat : Int)).map (Value.int .u8)).toArray w := by
  have h := run_loadCells_list (P := P) (w := w) ⟨g, 0, none⟩ (cellsB out) (by
    intro j u hu
    rw [← ht, List.getElem?_take] at hu
    split at hu
    · have hadd : (⟨g, 0, none⟩ : Addr).add j = ⟨g, j, none⟩ := by unfold Addr.add; split <;> simp_all
      rw [hadd]
      simp only [World.cell?, hg]
      simpa using hu
    · cases hu)
  rw [show (cellsB out).length = out.length by simp [cellsB]] at h
  rw [h]
  simp [cellsB, List.map_map]

/-- A row of bytes as a string. -/
theorem str_row {w : World} {g cap : Nat} {cur : Array Value} {T : TypeId} {z : Nat × Nat} {out : List UInt8} (hg : w.heap[g]? = some (.cells cur T z)) (ht : cur.toList.take out.length = cellsB out) :
    (convert 55 9 (.slice (some ⟨g, 0, none⟩) out.length cap)).run Try.prog w = .ok (.string ⟨out.toArray⟩) w := by
  rw [run_convert_bytes_string _ _ _ _ _ _ _ Try.underlying55 Try.underlying5 Try.underlying9, run_bytesToString _ _ _ _ (out.map fun b : UInt8 => (b.toNat : Int)) (load_row hg ht), pushes]
  simp

theorem Try.infoU8 : (Try.prog.info? 5).map (fun i => (i.zero, i.size, i.bytes)) = some (some (.int .u8 0), 1, 1) := by kernel_rfl

/-- A row of k bytes, the first j of them those of n, the others 0. -/
def rowL (n : Int) (k j : Nat) : List Value := cellsB (lowB n j) ++ List.replicate (k - j) (.int .u8 0)

theorem rowL_length (n : Int) (k j : Nat) (h : j ≤ k) : (rowL n k j).length = k := by simp [rowL, cellsB, lowB_length]; omega

theorem row_made (w : World) (n : Int) (k : Nat) : (w.alloc (.cells (madeCells #[.int .u8 0] k) 5)).heap[w.heap.size]? = some (.cells (rowL n k 0).toArray 5 (0, 0)) := by
  show (w.heap.push _)[w.heap.size]? = _
  rw [Array.getElem?_push_size]
  congr 2
  apply Array.ext (by simp [madeCells, rowL, cellsB, lowB])
  intro i h1 h2
  simp [madeCells, rowL, cellsB, lowB, Nat.mod_one]

theorem row_cellF {w : World} {g k j : Nat} {n : Int} {T : TypeId} (h : w.heap[g]? = some (.cells (rowL n k j).toArray T (0, 0))) (hj : j < k) : w.cell? ⟨g, j, none⟩ = some (.int .u8 0) ∧ w.frozen? ⟨g, j, none⟩ = false := by
  constructor
  · simp only [World.cell?, h]
    have e : (rowL n k j)[j]? = some (.int .u8 0) := by
      unfold rowL
      rw [List.getElem?_append_right (by simp [cellsB, lowB_length]), show (cellsB (lowB n j)).length = j by simp [cellsB, lowB_length], Nat.sub_self, List.getElem?_replicate, if_pos (by omega)]
    simpa using e
  · simp [World.frozen?, h]

theorem row_set {w : World} {g k j : Nat} {n : Int} {T : TypeId} (h : w.heap[g]? = some (.cells (rowL n k j).toArray T (0, 0))) (hj : j < k) (X : Int) (hX : X = n / 2 ^ (8 * j) % 256) :
    (w.setCell ⟨g, j, none⟩ (.int .u8 X)).heap[g]? = some (.cells (rowL n k (j + 1)).toArray T (0, 0)) := by
  rw [heap_setCell_same _ _ _ _ _ _ _ h]
  congr 2
  rw [List.setIfInBounds_toArray]
  congr 1
  unfold rowL
  obtain ⟨d, hd⟩ : ∃ d, k - j = d + 1 := ⟨k - j - 1, by omega⟩
  rw [hd, show k - (j + 1) = d by omega, List.set_append_right _ _ (by simp [cellsB, lowB_length]), List.replicate_succ, lowB_succ, hX, ← byteI_toNat]
  simp [cellsB, lowB_length]

set_option maxHeartbeats 400000 in
theorem lowest_any (n : Int) (k : Nat) (hk : k ≤ 8) (w : World) :
    Calls Try.prog 43 #[.int .i64 n, .int .i64 k] w fun e w' => e = .returned (.string (lowS n k)) ∧ Below w.heap.size w w' := by
  have hmk := run_make_row' (P := Try.prog) 55 5 (.int .u8 0) 1 Try.underlying55 Try.infoU8 rfl .i64 .i64 k (by omega) (by omega)
  have R0 := hide (row_made w n k)
  have B0 := hide ((Below.refl _ w).alloc (Nat.le_refl _) (.cells (madeCells #[.int .u8 0] k) 5))
  go_enter Try.func43, Try.ntmps43
  go_wp2
  go_loopw [11] (fun c wr => ∃ j : Nat, j ≤ k ∧ c = .int .i64 j ∧ Hid (wr.heap[w.heap.size]? = some (.cells (rowL n k j).toArray 5 (0, 0))) ∧ Hid (Below w.heap.size w wr)) (fun c _ => k - (intOf c).toNat)
  case atStart => exact ⟨0, Nat.zero_le _, rfl, R0, B0⟩
  case round =>
    obtain ⟨j, hj, rfl, HR, HB⟩ := hrel
    by_cases hlt : j < k
    · obtain ⟨_c, _f⟩ := row_cellF HR.out hlt
      go_wp2
      go_roundw
      case rel => exact ⟨j + 1, by omega, by go_num, row_set HR.out hlt _ rfl, HB.out.setCell (Nat.le_refl _) _⟩
      case measure => simp [intOf]; omega
    · have hjk : j = k := by omega
      subst hjk
      have hcv : (convert 55 9 (.slice (some ⟨w.heap.size, 0, none⟩) j j)).run Try.prog wr = .ok (.string (lowS n j)) wr := by
        have := str_row (out := lowB n j) (cap := j) HR.out (by unfold rowL; rw [Nat.sub_self, List.replicate_zero, List.append_nil]; exact List.take_of_length_le (by simp [cellsB, lowB_length]))
        rw [lowB_length] at this
        exact this
      go_wp2
      go_ret
      exact ⟨rfl, HB.out⟩

set_option maxHeartbeats 400000 in
theorem u16_any (n : Int) (w : World) : Calls Try.prog 33 #[.int .i64 n] w fun e w' => e = .returned (.string (lowS n 2)) ∧ Below w.heap.size w w' := by
  go_enter Try.func33, Try.ntmps33
  go_wp2_with fail
  refine (lowest_any n 2 (by decide) _).mono ?_
  rintro e w1 ⟨rfl, b1⟩
  have B1 := hide b1
  clear b1
  go_wp2
  go_ret
  exact ⟨rfl, B1.out⟩

set_option maxHeartbeats 400000 in
theorem u32_any (n : Int) (w : World) : Calls Try.prog 27 #[.int .i64 n] w fun e w' => e = .returned (.string (lowS n 4)) ∧ Below w.heap.size w w' := by
  go_enter Try.func27, Try.ntmps27
  go_wp2_with fail
  refine (lowest_any n 4 (by decide) _).mono ?_
  rintro e w1 ⟨rfl, b1⟩
  have B1 := hide b1
  clear b1
  go_wp2
  go_ret
  exact ⟨rfl, B1.out⟩

set_option maxHeartbeats 400000 in
theorem u64_any (n : Int) (w : World) : Calls Try.prog 36 #[.int .i64 n] w fun e w' => e = .returned (.string (lowS n 8)) ∧ Below w.heap.size w w' := by
  go_enter Try.func36, Try.ntmps36
  go_wp2_with fail
  refine (lowest_any n 8 (by decide) _).mono ?_
  rintro e w1 ⟨rfl, b1⟩
  have B1 := hide b1
  clear b1
  go_wp2
  go_ret
  exact ⟨rfl, B1.out⟩

end Go.Proofs.Ytbjjcjcobiokcaa
