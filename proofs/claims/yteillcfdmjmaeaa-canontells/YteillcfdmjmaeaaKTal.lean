/- Contracts of package canon's counts of lengths: total, full, code. -/
import Derived.Test.YteillcfdmjmaeaaKTalM
import Derived.Laws.Tables
namespace Go.Proofs.Yteillcfdmjmaeaa
open Go.RowKit Go.Lib

/-- The cells of 16 counts. -/
def talCs (f : Nat → Nat) : List Value := [.int .i64 (f 0 : Nat), .int .i64 (f 1 : Nat), .int .i64 (f 2 : Nat), .int .i64 (f 3 : Nat), .int .i64 (f 4 : Nat), .int .i64 (f 5 : Nat), .int .i64 (f 6 : Nat), .int .i64 (f 7 : Nat), .int .i64 (f 8 : Nat), .int .i64 (f 9 : Nat), .int .i64 (f 10 : Nat), .int .i64 (f 11 : Nat), .int .i64 (f 12 : Nat), .int .i64 (f 13 : Nat), .int .i64 (f 14 : Nat), .int .i64 (f 15 : Nat)]
def talV (f : Nat → Nat) : Value := .agg (talCs f).toArray

theorem talCs_get (f : Nat → Nat) (i : Nat) (h : i < 16) : (talCs f)[i]? = some (.int .i64 (f i : Nat)) :=
  match i, h with
  | 0, _ => rfl
  | 1, _ => rfl
  | 2, _ => rfl
  | 3, _ => rfl
  | 4, _ => rfl
  | 5, _ => rfl
  | 6, _ => rfl
  | 7, _ => rfl
  | 8, _ => rfl
  | 9, _ => rfl
  | 10, _ => rfl
  | 11, _ => rfl
  | 12, _ => rfl
  | 13, _ => rfl
  | 14, _ => rfl
  | 15, _ => rfl
  | n + 16, h => absurd h (by omega)
theorem talCs_set (f : Nat → Nat) (i x : Nat) (h : i < 16) : (talCs f).set i (.int .i64 (x : Nat)) = talCs (fun j => if j = i then x else f j) :=
  match i, h with
  | 0, _ => rfl
  | 1, _ => rfl
  | 2, _ => rfl
  | 3, _ => rfl
  | 4, _ => rfl
  | 5, _ => rfl
  | 6, _ => rfl
  | 7, _ => rfl
  | 8, _ => rfl
  | 9, _ => rfl
  | 10, _ => rfl
  | 11, _ => rfl
  | 12, _ => rfl
  | 13, _ => rfl
  | 14, _ => rfl
  | 15, _ => rfl
  | n + 16, h => absurd h (by omega)
theorem talCs_congr (f g : Nat → Nat) (h : ∀ i, i < 16 → f i = g i) : talCs f = talCs g := by
  unfold talCs
  rw [h 0 (by omega), h 1 (by omega), h 2 (by omega), h 3 (by omega), h 4 (by omega), h 5 (by omega), h 6 (by omega), h 7 (by omega), h 8 (by omega), h 9 (by omega), h 10 (by omega), h 11 (by omega), h 12 (by omega), h 13 (by omega), h 14 (by omega), h 15 (by omega)]
theorem talCs_length (f : Nat → Nat) : (talCs f).length = 16 := rfl
theorem talCs_one (f : Nat → Nat) : ∀ u ∈ talCs f, u.oneCell' = true := by
  intro u hu
  unfold talCs at hu
  simp only [List.mem_cons, List.not_mem_nil, or_false] at hu
  rcases hu with rfl | rfl | rfl | rfl | rfl | rfl | rfl | rfl | rfl | rfl | rfl | rfl | rfl | rfl | rfl | rfl <;> rfl

theorem Try.sizeTal : (Try.prog.info? 56).map (·.size) = some 16 := by kernel_rfl
theorem Try.zeroTal (w : World) : (zeroValue 56).run Try.prog w = .ok (.agg (talCs (fun _ => 0)).toArray) w := by
  have h : (Try.prog.info? 56).map (·.zero) = some (some (.agg (talCs (fun _ => 0)).toArray)) := by kernel_rfl
  cases hq : Try.prog.info? 56 with
  | none => rw [hq] at h; cases h
  | some i =>
    rw [hq] at h
    have hz : i.zero = some (.agg (talCs (fun _ => 0)).toArray) := by simpa using h
    simp [zeroValue, typeInfo, hq, hz]
theorem Try.builtTal (w : World) : (Instr.build 56 #[]).run Try.prog w = .ok (.agg (talCs (fun _ => 0)).toArray) w :=
  run_build w _ _ _ (by kernel_rfl)

theorem tal_index (f : Nat → Nat) (i : Nat) (h : i < 16) (w : World) : (Instr.index 56 (.agg (talCs f).toArray) (.int .i64 (i : Nat))).run Try.prog w = .ok (.int .i64 (f i : Nat)) w :=
  match i, h with
  | 0, _ => by kernel_rfl
  | 1, _ => by kernel_rfl
  | 2, _ => by kernel_rfl
  | 3, _ => by kernel_rfl
  | 4, _ => by kernel_rfl
  | 5, _ => by kernel_rfl
  | 6, _ => by kernel_rfl
  | 7, _ => by kernel_rfl
  | 8, _ => by kernel_rfl
  | 9, _ => by kernel_rfl
  | 10, _ => by kernel_rfl
  | 11, _ => by kernel_rfl
  | 12, _ => by kernel_rfl
  | 13, _ => by kernel_rfl
  | 14, _ => by kernel_rfl
  | 15, _ => by kernel_rfl
  | n + 16, h => absurd h (by omega)

/-- Counts in a block of their own. -/
def TalAt (w : World) (P : Nat) (f : Nat → Nat) : Prop := w.heap[P]? = some (.cells (talCs f).toArray 56 (0, 0))

theorem TalAt.cell {w : World} {P : Nat} {f : Nat → Nat} (h : TalAt w P f) (i : Nat) (hi : i < 16) : w.cell? ⟨P, i, none⟩ = some (.int .i64 (f i : Nat)) := by
  rw [cell_of_row _ _ i _ _ (0, 0) h, List.getElem?_toArray]
  exact talCs_get f i hi
theorem TalAt.frozen {w : World} {P : Nat} {f : Nat → Nat} (h : TalAt w P f) (i : Nat) : w.frozen? ⟨P, i, none⟩ = false := by unfold TalAt at h; simp [World.frozen?, h]
theorem TalAt.set {w : World} {P : Nat} {f : Nat → Nat} (h : TalAt w P f) (i x : Nat) (hi : i < 16) : TalAt (w.setCell ⟨P, i, none⟩ (.int .i64 (x : Nat))) P (fun j => if j = i then x else f j) := by
  unfold TalAt at h ⊢
  rw [heap_setCell_same _ _ _ _ _ _ _ h, List.setIfInBounds_toArray, talCs_set f i x hi]
theorem TalAt.alloc {w : World} {P : Nat} {f : Nat → Nat} (h : TalAt w P f) (o : Obj) : TalAt (w.alloc o) P f := by
  unfold TalAt at h ⊢
  rw [heap_alloc_old _ _ _ (Array.getElem?_eq_some_iff.1 h).1]
  exact h
theorem TalAt.lt {w : World} {P : Nat} {f : Nat → Nat} (h : TalAt w P f) : P < w.heap.size := (Array.getElem?_eq_some_iff.1 h).1
theorem TalAt.below {w w' : World} {P B : Nat} {f : Nat → Nat} (h : TalAt w P f) (b : Below B w w') (hB : P < B) : TalAt w' P f := by
  unfold TalAt at h ⊢
  rw [b.block P hB]
  exact h
theorem TalAt.drewN {w : World} {P : Nat} {f : Nat → Nat} (h : TalAt w P f) (n : Nat) : TalAt (w.drewN n) P f := h
theorem TalAt.other {w : World} {P : Nat} {f : Nat → Nat} (h : TalAt w P f) (a : Addr) (ha : P ≠ a.block) (v : Value) : TalAt (w.setCell a v) P f := by
  unfold TalAt at h ⊢
  rw [Below.heap_setCell _ _ _ _ ha]
  exact h
theorem TalAt.congr {w : World} {P : Nat} {f g : Nat → Nat} (h : TalAt w P f) (e : ∀ i, i < 16 → f i = g i) : TalAt w P g := by
  unfold TalAt at h ⊢
  rw [← talCs_congr f g e]
  exact h
theorem TalAt.range {w : World} {P : Nat} {f : Nat → Nat} (h : TalAt w P f) : w.rangeAt P 0 (talCs f) := by
  intro j v hv
  rw [Nat.zero_add, cell_of_row _ _ j _ _ (0, 0) h, List.getElem?_toArray]
  exact hv
theorem TalAt.there {w : World} {P : Nat} {f : Nat → Nat} (h : TalAt w P f) : w.there P 0 16 := by
  intro j hj
  constructor
  · rw [Nat.zero_add, h.cell j hj]; rfl
  · exact h.frozen _
theorem tal_made (w : World) (f : Nat → Nat) : TalAt (w.alloc (.cells (talCs f).toArray 56)) w.heap.size f := heap_alloc_at _ _ rfl
theorem tal_load {w : World} {P : Nat} {cs : List Value} (h : w.rangeAt P 0 cs) (hn : cs.length = 16) : (loadVar 56 ⟨P, 0, none⟩).run Try.prog w = .ok (.agg cs.toArray) w :=
  run_loadVar_mid w P 0 56 cs _ h Try.underlying56 rfl (by rw [hn]; exact Try.sizeTal)
/-- Counts, laid into a variable of their own. -/
theorem tal_store (w : World) (Z cs : List Value) (hz : Z.length = 16) (hn : cs.length = 16) (h1 : ∀ v ∈ cs, v.oneCell' = true) :
    (storeCells ⟨w.heap.size, 0, none⟩ cs).run Try.prog (w.alloc (.cells Z.toArray 56)) = .ok () (w.alloc (.cells cs.toArray 56)) := by
  have h := run_storeCells_new (P := Try.prog) w 56 Z.toArray cs.toArray (by rw [List.size_toArray, hn]; exact Try.sizeTal) (by rw [List.size_toArray, List.size_toArray, hn, hz]) (all_oneCell_toArray h1)
  exact h

set_option maxRecDepth 20000 in
set_option maxHeartbeats 1000000 in
theorem total_any (f : Nat → Nat) (hf : ∀ k, f k ≤ 1000) (w : World) :
    Calls Try.prog 25 #[talV f] w fun e w' => e = .returned (.int .i64 (sumTo f 16 : Nat)) ∧ Below w.heap.size w w' := by
  have HI := hide (tal_index f)
  have HS := hide (sumTo_le f 1000 hf)
  have HF := hide hf
  have HRG := hide (tal_made w f).range
  have HB := hide ((Below.refl _ w).alloc (Nat.le_refl _) (.cells (talCs f).toArray 56))
  have HSZ := hide (show (Try.prog.info? 56).map (·.size) = some (talCs f).length by rw [talCs_length]; exact Try.sizeTal)
  unfold talV
  clear hf
  generalize talCs f = cs at *
  go_enter Try.func25, Try.ntmps25
  go_wp2_with (first
    | (refine wpList_load_mid rfl 56 (Operand.tmp 1) rfl w.heap.size 0 rfl cs _ HRG.out Try.underlying56 rfl HSZ.out ?_))
  go_loop [3, 7] (fun s iv => ∃ k : Nat, k ≤ 16 ∧ iv = .int .i64 (k : Nat) ∧ s = .int .i64 (sumTo f k : Nat)) (fun _ iv => 16 - (intOf iv).toNat)
  case atStart => exact ⟨0, by omega, rfl, rfl⟩
  case round =>
    obtain ⟨k, hk, rfl, rfl⟩ := hrel
    by_cases hlt : k < 16
    · have hix := HI.out k hlt
      have h1 := HS.out k
      have h2 := HF.out k
      have HN := hide (show sumTo f k + f k = sumTo f (k + 1) from rfl)
      have h3 : sumTo f k ≤ 16000 := by omega
      have zk : (k : Int) < 16 := by omega
      generalize sumTo f k = s at *
      generalize f k = y at *
      clear h1
      go_wp2
      go_round
      case rel => exact ⟨k + 1, by omega, by go_num, by rw [← HN.out]; go_num⟩
      case measure => exact meas_oneW k 16 hlt
    · have hke : k = 16 := by omega
      subst hke
      go_wp2
      go_ret
      exact ⟨rfl, HB.out⟩

end Go.Proofs.Yteillcfdmjmaeaa
