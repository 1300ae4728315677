/- Contracts of package crc: an entry of the table, and the table. -/
import Derived.Test.YtjjkapoicdmigaaCSum
import Derived.Laws.ResultCell
namespace Go.Proofs.Ytjjkapoicdmigaa
open Go.RowKit Go.Lib

theorem halfK_succ (k n : Nat) : halfK (k + 1) n = halfN (halfK k n) := rfl

theorem half_odd (n : Nat) (hn : n < 4294967296) (h : n % 2 = 1) : bits .and .u32 (n : Int) 1 = 1 ∧ bits .xor .u32 ((n : Int) / 2) 3988292384 = ((halfN n : Nat) : Int) := by
  constructor
  · rw [show (1 : Int) = ((1 : Nat) : Int) from rfl, u32_and_nat n 1 hn (by decide), Nat.and_one_is_mod, h]
  · unfold halfN
    rw [if_pos h, ← u32_xor_nat (n / 2) 3988292384 (by omega) (by decide)]
    rfl
theorem half_even (n : Nat) (hn : n < 4294967296) (h : n % 2 ≠ 1) : bits .and .u32 (n : Int) 1 = 0 ∧ (n : Int) / 2 = ((halfN n : Nat) : Int) := by
  constructor
  · rw [show (1 : Int) = ((1 : Nat) : Int) from rfl, u32_and_nat n 1 hn (by decide), Nat.and_one_is_mod]
    omega
  · unfold halfN
    rw [if_neg h]
    omega

theorem meas_one (j n : Nat) (h : j < n) : n - (intOf (.int .i64 ((j : Int) + 1))).toNat < n - (intOf (.int .i64 (j : Int))).toNat := by
  show n - ((j : Int) + 1).toNat < n - ((j : Nat) : Int).toNat
  omega

set_option maxHeartbeats 400000 in
theorem entry_any (n : Nat) (hn : n < 256) (w : World) :
    Calls Try.prog 14 #[.int .u32 n] w fun e w' => e = .returned (.int .u32 (ent n : Nat)) ∧ w' = w := by
  have HN := hide (fun k => halfK_lt k n (by omega))
  clear hn
  go_enter Try.func14, Try.ntmps14
  go_wp2
  go_loop [0, 4] (fun v i => ∃ j : Nat, j ≤ 8 ∧ i = .int .i64 j ∧ v = .int .u32 (halfK j n : Nat)) (fun _ i => 8 - (intOf i).toNat)
  case atStart => exact ⟨0, Nat.zero_le _, rfl, rfl⟩
  case round =>
    obtain ⟨j, hj, rfl, rfl⟩ := hrel
    by_cases hlt : j < 8
    · have HM := hide (halfK_succ j n)
      have hl := HN.out j
      generalize halfK j n = m at *
      by_cases ho : m % 2 = 1
      · obtain ⟨e1, e2⟩ := half_odd m hl ho
        clear ho hl
        go_wp2
        go_round
        case rel => exact ⟨j + 1, by omega, by go_num, by rw [HM.out]⟩
        case measure => exact meas_one j 8 hlt
      · obtain ⟨e1, e2⟩ := half_even m hl ho
        clear ho hl
        go_wp2
        go_round
        case rel => exact ⟨j + 1, by omega, by go_num, by rw [HM.out]⟩
        case measure => exact meas_one j 8 hlt
    · have hj8 : j = 8 := by omega
      subst hj8
      go_wp2
      go_ret
      exact ⟨rfl, rfl⟩

/-- A table under way: i entries, the others 0. -/
def rowT (i : Nat) : List Value := (List.range i).map (fun k => Value.int .u32 (ent k : Nat)) ++ List.replicate (256 - i) (.int .u32 0)

theorem rowT_length (i : Nat) (h : i ≤ 256) : (rowT i).length = 256 := by simp [rowT]; omega
theorem rowT_all : rowT 256 = tabL ent := by simp [rowT, tabL]
theorem rowT_set (i : Nat) (h : i < 256) : (rowT i).set i (.int .u32 (ent i : Nat)) = rowT (i + 1) := by
  unfold rowT
  obtain ⟨d, hd⟩ : ∃ d, 256 - i = d + 1 := ⟨256 - i - 1, by omega⟩
  rw [hd, show 256 - (i + 1) = d by omega, List.set_append_right _ _ (by simp), List.replicate_succ, List.range_succ]
  simp

theorem rowT_at (i : Nat) (h : i < 256) : (rowT i)[i]? = some (.int .u32 0) := by
  unfold rowT
  rw [List.getElem?_append_right (by simp), List.getElem?_replicate]
  simp
  omega

theorem Try.zeroTab (w : World) : (zeroValue 23).run Try.prog w = .ok (.agg (rowT 0).toArray) w := by
  have h : (Try.prog.info? 23).map (·.zero) = some (some (.agg (rowT 0).toArray)) := by kernel_rfl
  cases hq : Try.prog.info? 23 with
  | none => rw [hq] at h; cases h
  | some i =>
    rw [hq] at h
    have hz : i.zero = some (.agg (rowT 0).toArray) := by simpa using h
    simp [zeroValue, typeInfo, hq, hz]

/-- The two blocks of a table under way: the answer's, and the table's. -/
def tw (w : World) (a b : List Value) : World := (w.alloc (.cells a.toArray 23)).alloc (.cells b.toArray 23)

theorem tw_cell (w : World) (a b : List Value) (i : Nat) (v : Value) (h : b[i]? = some v) : ((w.alloc (.cells a.toArray 23)).alloc (.cells b.toArray 23)).cell? ⟨w.heap.size + 1, i, none⟩ = some v := by
  have hs : (w.alloc (.cells a.toArray 23)).heap.size = w.heap.size + 1 := by show (w.heap.push _).size = _; simp
  rw [← hs, cell_of_row _ _ i _ _ (0, 0) (heap_alloc_last _ _), List.getElem?_toArray]
  exact h

theorem tw_range (w : World) (a b : List Value) : ((w.alloc (.cells a.toArray 23)).alloc (.cells b.toArray 23)).rangeAt (w.heap.size + 1) 0 b := by
  intro j v hv
  rw [Nat.zero_add]
  exact tw_cell w a b j v hv

theorem tw_there (w : World) (a b : List Value) (n : Nat) (ha : a.length = n) : ((w.alloc (.cells a.toArray 23)).alloc (.cells b.toArray 23)).there w.heap.size 0 n := by
  refine World.there_alloc ?_ _
  intro j hj
  constructor
  · rw [Nat.zero_add, cell_of_row _ _ j _ _ (0, 0) (heap_alloc_last w _), List.getElem?_toArray, List.getElem?_eq_getElem (by omega)]
    rfl
  · exact World.frozen?_alloc_at _ _ _ _ rfl

theorem cells_store {P : Program} {w : World} {p : Nat} {cs : List Value} (ht : w.there p 0 cs.length) (h1 : ∀ v ∈ cs, v.oneCell' = true) :
    (storeCells ⟨p, 0, none⟩ cs).run P w = .ok () (w.setCells p 0 cs) := by
  have h := run_storeCells_cells (P := P) p 0 cs 0 w (fun j hj => by simpa using (ht j hj).1) (fun j hj => by simpa using (ht j hj).2) h1
  simpa using h

theorem below_cells {B : Nat} {a w : World} (h : Below B a w) (p o : Nat) (hp : B ≤ p) (cs : List Value) : Below B a (w.setCells p o cs) := by
  induction cs generalizing o w with
  | nil => exact h
  | cons v r ih => exact ih (h.setCell (p := ⟨p, o, none⟩) hp v) (o + 1)

set_option maxRecDepth 20000 in
set_option maxHeartbeats 400000 in
theorem table_any (w : World) :
    Calls Try.prog 8 #[] w fun e w' => e = .returned (.agg (tabL ent).toArray) ∧ Below w.heap.size w w' := by
  have hv := Try.zeroTab
  have HS := hide rowT_set
  have HL := hide rowT_length
  have HA := hide rowT_all
  have HI := hide rowT_at
  generalize rowT = R at *
  go_enter Try.func8, Try.ntmps8
  go_wp2
  go_loopw [3] (fun c wr => ∃ i : Nat, i ≤ 256 ∧ c = .int .i64 i ∧ wr = (w.alloc (.cells (R 0).toArray 23)).alloc (.cells (R i).toArray 23)) (fun c _ => 256 - (intOf c).toNat)
  case atStart => exact ⟨0, Nat.zero_le _, rfl, rfl⟩
  case round =>
    obtain ⟨i, hi, rfl, rfl⟩ := hrel
    by_cases hlt : i < 256
    · have hlz : (i : Int) < 256 := by omega
      have _c := tw_cell w (R 0) (R i) i _ (HI.out i hlt)
      go_wp2_with fail
      refine (entry_any i hlt _).mono ?_
      rintro e w1 ⟨rfl, rfl⟩
      go_wp2
      go_roundw
      case rel => exact ⟨i + 1, by omega, by go_num, by rw [HS.out i hlt]⟩
      case measure => exact meas_one i 256 hlt
    · have hi8 : i = 256 := by omega
      subst hi8
      rw [HA.out]
      have hn := tabL_length ent
      have hr := tw_range w (R 0) (tabL ent)
      have ht := tw_there w (R 0) (tabL ent) (tabL ent).length (by rw [hn]; exact HL.out 0 (by decide))
      have hst := cells_store (P := Try.prog) ht (tabL_one ent)
      have HB := hide (below_cells (((Below.refl w.heap.size w).alloc (Nat.le_refl _) (.cells (R 0).toArray 23)).alloc (by show _ ≤ (w.heap.push _).size; simp) (.cells (tabL ent).toArray 23)) w.heap.size 0 (Nat.le_refl _) (tabL ent))
      have HR := hide hr
      have HL2 := hide (tab_load (World.rangeAt_setCells_same _ w.heap.size 0 (tabL ent) ht) hn)
      clear hr ht
      generalize hE : tabL ent = cs at *
      have HE := hide hE
      clear hE
      go_wp2
      refine wp_load_mid 23 (Operand.tmp 1) rfl (w.heap.size + 1) 0 rfl cs _ HR.out Try.underlying23 rfl (by rw [hn]; exact Try.sizeTab) ?_
      go_wp2
      (try simp only [Exit.inBlock, Exit.then])
      refine bodyPost_ret (v := .agg cs.toArray) ?_ rfl ⟨by rw [HE.out], HB.out⟩
      simp [results, Try.results8, asAddr, HL2.out]

end Go.Proofs.Ytjjkapoicdmigaa
