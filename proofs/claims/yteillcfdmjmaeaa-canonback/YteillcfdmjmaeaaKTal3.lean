/- Contracts of package canon's counts of lengths: numbers, places. -/
import Derived.Test.YteillcfdmjmaeaaKTal2
namespace Go.Proofs.Yteillcfdmjmaeaa
open Go.RowKit Go.Lib

/-- The first k and one are g's, the others 0. -/
def preF (g : Nat → Nat) (k i : Nat) : Nat := if i ≤ k then g i else 0
theorem preF_set (g : Nat → Nat) (k : Nat) : (fun j => if j = k + 1 then g (k + 1) else preF g k j) = preF g (k + 1) := by
  funext i
  unfold preF
  by_cases h : i = k + 1
  · rw [if_pos h, if_pos (by omega), h]
  · rw [if_neg h]
    by_cases h2 : i ≤ k
    · rw [if_pos h2, if_pos (by omega)]
    · rw [if_neg h2, if_neg (by omega)]
theorem preF_zero (g : Nat → Nat) (h : g 0 = 0) (i : Nat) : preF g 0 i = 0 := by
  unfold preF
  by_cases h2 : i ≤ 0
  · rw [if_pos h2, show i = 0 by omega, h]
  · rw [if_neg h2]

/-- Counts, the answer's block, and what is made of them, under way. -/
structure NumL (w W : World) (P0 P1 P2 : Nat) (f g : Nat → Nat) : Prop where
  box : TalAt w P0 f
  res : TalAt w P1 (fun _ => 0)
  fst : TalAt w P2 g
  bel : Below W.heap.size W w
  lo : W.heap.size ≤ P0
  l1 : P0 < P1
  l2 : P1 < P2

theorem NumL.set {w W : World} {P0 P1 P2 : Nat} {f g : Nat → Nat} (h : NumL w W P0 P1 P2 f g) (i x : Nat) (hi : i < 16) : NumL (w.setCell ⟨P2, i, none⟩ (.int .i64 (x : Nat))).drew W P0 P1 P2 f (fun j => if j = i then x else g j) := by
  have h0 := h.lo
  have h1 := h.l1
  have h2 := h.l2
  exact ⟨(h.box.other ⟨P2, i, none⟩ (show P0 ≠ P2 by omega) _).drewN 1, (h.res.other ⟨P2, i, none⟩ (show P1 ≠ P2 by omega) _).drewN 1, (h.fst.set i x hi).drewN 1, below_drewN (h.bel.setCell (p := ⟨P2, i, none⟩) (show W.heap.size ≤ P2 by omega) _) 1, h0, h1, h2⟩

set_option maxRecDepth 20000 in
set_option maxHeartbeats 1000000 in
theorem numbers_any (ls : List Nat) (hM : MakesC ls) (hl : ls.length ≤ 1000) (W : World) :
    Calls Try.prog 23 #[talV (cn ls)] W fun e w' => e = .returned (talV (firstC ls)) ∧ Below W.heap.size W w' := by
  have hv := Try.zeroTal
  have hZ1 := talCs_one (fun _ => 0)
  have hZn := talCs_length (fun _ => 0)
  obtain ⟨P1, hP1⟩ : ∃ P1, W.heap.size + 1 = P1 := ⟨_, rfl⟩
  obtain ⟨P2, hP2⟩ : ∃ P2, P1 + 1 = P2 := ⟨_, rfl⟩
  have hL0 : NumL (((W.alloc (.cells (talCs (cn ls)).toArray 56)).alloc (.cells (talCs (fun _ => 0)).toArray 56)).alloc (.cells (talCs (fun _ => 0)).toArray 56)) W W.heap.size P1 P2 (cn ls) (preF (firstC ls) 0) := by
    have s1 : (W.alloc (.cells (talCs (cn ls)).toArray 56)).heap.size = P1 := by show (W.heap.push _).size = _; simp; exact hP1
    have s2 : ((W.alloc (.cells (talCs (cn ls)).toArray 56)).alloc (.cells (talCs (fun _ => 0)).toArray 56)).heap.size = P2 := by show ((W.heap.push _).push _).size = _; simp; omega
    refine ⟨((tal_made W (cn ls)).alloc _).alloc _, ?_, ?_, (((Below.refl _ W).alloc (Nat.le_refl _) _).alloc (by omega) _).alloc (by omega) _, Nat.le_refl _, by omega, by omega⟩
    · have h := tal_made (W.alloc (.cells (talCs (cn ls)).toArray 56)) (fun _ => 0)
      rw [s1] at h
      exact h.alloc _
    · have h := tal_made ((W.alloc (.cells (talCs (cn ls)).toArray 56)).alloc (.cells (talCs (fun _ => 0)).toArray 56)) (fun _ => 0)
      rw [s2] at h
      exact h.congr (fun i _ => (preF_zero (firstC ls) rfl i).symm)
  have HL0 := hide hL0
  have HM := hide hM
  have HL := hide hl
  clear hL0 hM hl
  obtain ⟨Z, hZ⟩ : ∃ Z, talCs (fun _ => 0) = Z := ⟨_, rfl⟩
  rw [hZ] at HL0 hZ1 hZn
  simp only [hZ] at hv
  clear hZ
  unfold talV
  go_enter Try.func23, Try.ntmps23
  obtain ⟨cs, hcs⟩ : ∃ cs, talCs (cn ls) = cs := ⟨_, rfl⟩
  rw [hcs] at HL0 ⊢
  clear hcs
  go_wp2
  generalize ((W.alloc (.cells cs.toArray 56)).alloc (.cells Z.toArray 56)).alloc (.cells Z.toArray 56) = w1 at *
  go_loopw [4] (fun iv wr => ∃ k : Nat, k ≤ 15 ∧ iv = .int .i64 ((k : Int) + 1) ∧ Hid (NumL wr W W.heap.size P1 P2 (cn ls) (preF (firstC ls) k))) (fun iv _ => 16 - (intOf iv).toNat)
  case atStart => exact ⟨0, by omega, rfl, HL0⟩
  case round =>
    clear HL0
    obtain ⟨k, hk, rfl, HN⟩ := hrel
    by_cases hlt : k < 15
    · have zk : (k : Int) + 1 ≤ 15 := by omega
      have zk0 : (0 : Int) ≤ (k : Int) + 1 := by omega
      have zk16 : (k : Int) + 1 < 16 := by omega
      have zk3 : (k : Int) < 16 := by omega
      have c1 := HN.out.box.cell k (by omega)
      have c2 := HN.out.fst.cell k (by omega)
      have c3 := HN.out.fst.cell (k + 1) (by omega)
      have f3 := HN.out.fst.frozen (k + 1)
      have e2 : preF (firstC ls) k k = firstC ls k := by unfold preF; rw [if_pos (Nat.le_refl _)]
      have e3 : preF (firstC ls) k (k + 1) = 0 := by unfold preF; rw [if_neg (by omega)]
      rw [e2] at c2
      rw [e3] at c3
      have hsm : firstC ls k ≤ 40000 ∧ cn ls k ≤ 40000 := by have := HM.out.small k (by omega); omega
      have HG := hide (show firstC ls (k + 1) = 2 * (firstC ls k + cn ls k) from rfl)
      have HNX := hide (HN.out.set (k + 1) (firstC ls (k + 1)) (by omega))
      rw [preF_set, HG.out] at HNX
      clear e2 e3 hk HG
      generalize firstC ls k = A at *
      generalize cn ls k = C at *
      have ew : ((2 * (A + C) : Nat) : Int) = 2 * ((A : Int) + (C : Int)) := by omega
      rw [ew] at HNX
      have hA := hsm.1
      have hC := hsm.2
      clear hsm ew
      go_wp2
      go_region
      go_wp2
      go_roundw
      case rel => exact ⟨k + 1, by omega, by go_num, HNX⟩
      case measure => exact meas_oneW (k + 1) 16 (by omega)
    · have hke : k = 15 := by omega
      subst hke
      have hfst := HN.out.fst.congr (g := firstC ls) (fun i hi => by unfold preF; rw [if_pos (by omega)])
      have hone := talCs_one (firstC ls)
      have hlen := talCs_length (firstC ls)
      have HRG := hide hfst.range
      have hth := HN.out.res.there
      have hst := cells_store (P := Try.prog) (w := wr) (p := P1) (cs := talCs (firstC ls)) (by rw [hlen]; exact hth) hone
      have HLD := hide (tal_load (World.rangeAt_setCells_same wr P1 0 (talCs (firstC ls)) (by rw [hlen]; exact hth)) hlen)
      have HBF := hide (below_cells HN.out.bel P1 0 (by have := HN.out.lo; have := HN.out.l1; omega) (talCs (firstC ls)))
      have HLN := hide hlen
      clear hfst hth hone hlen
      generalize hE : talCs (firstC ls) = cs2 at *
      have HE := hide hE
      clear hE
      have HSZ := hide (show (Try.prog.info? 56).map (·.size) = some cs2.length by rw [HLN.out]; exact Try.sizeTal)
      go_wp2_with (first
        | (refine wpList_load_mid rfl 56 (Operand.tmp 3) rfl P2 0 rfl cs2 _ HRG.out Try.underlying56 rfl HSZ.out ?_))
      (try simp only [Exit.inBlock, Exit.then])
      refine bodyPost_ret (v := .agg cs2.toArray) ?_ rfl ⟨by rw [HE.out], HBF.out⟩
      simp [results, Try.results23, asAddr, HLD.out]

set_option maxRecDepth 20000 in
set_option maxHeartbeats 1000000 in
theorem places_any (ls : List Nat) (hM : MakesC ls) (hl : ls.length ≤ 1000) (W : World) :
    Calls Try.prog 24 #[talV (cn ls)] W fun e w' => e = .returned (talV (atC ls)) ∧ Below W.heap.size W w' := by
  have hv := Try.zeroTal
  have hZ1 := talCs_one (fun _ => 0)
  have hZn := talCs_length (fun _ => 0)
  obtain ⟨P1, hP1⟩ : ∃ P1, W.heap.size + 1 = P1 := ⟨_, rfl⟩
  obtain ⟨P2, hP2⟩ : ∃ P2, P1 + 1 = P2 := ⟨_, rfl⟩
  have hL0 : NumL (((W.alloc (.cells (talCs (cn ls)).toArray 56)).alloc (.cells (talCs (fun _ => 0)).toArray 56)).alloc (.cells (talCs (fun _ => 0)).toArray 56)) W W.heap.size P1 P2 (cn ls) (preF (atC ls) 0) := by
    have s1 : (W.alloc (.cells (talCs (cn ls)).toArray 56)).heap.size = P1 := by show (W.heap.push _).size = _; simp; exact hP1
    have s2 : ((W.alloc (.cells (talCs (cn ls)).toArray 56)).alloc (.cells (talCs (fun _ => 0)).toArray 56)).heap.size = P2 := by show ((W.heap.push _).push _).size = _; simp; omega
    refine ⟨((tal_made W (cn ls)).alloc _).alloc _, ?_, ?_, (((Below.refl _ W).alloc (Nat.le_refl _) _).alloc (by omega) _).alloc (by omega) _, Nat.le_refl _, by omega, by omega⟩
    · have h := tal_made (W.alloc (.cells (talCs (cn ls)).toArray 56)) (fun _ => 0)
      rw [s1] at h
      exact h.alloc _
    · have h := tal_made ((W.alloc (.cells (talCs (cn ls)).toArray 56)).alloc (.cells (talCs (fun _ => 0)).toArray 56)) (fun _ => 0)
      rw [s2] at h
      exact h.congr (fun i _ => (preF_zero (atC ls) rfl i).symm)
  have HL0 := hide hL0
  have HM := hide hM
  have HL := hide hl
  clear hL0 hM hl
  obtain ⟨Z, hZ⟩ : ∃ Z, talCs (fun _ => 0) = Z := ⟨_, rfl⟩
  rw [hZ] at HL0 hZ1 hZn
  simp only [hZ] at hv
  clear hZ
  unfold talV
  go_enter Try.func24, Try.ntmps24
  obtain ⟨cs, hcs⟩ : ∃ cs, talCs (cn ls) = cs := ⟨_, rfl⟩
  rw [hcs] at HL0 ⊢
  clear hcs
  go_wp2
  generalize ((W.alloc (.cells cs.toArray 56)).alloc (.cells Z.toArray 56)).alloc (.cells Z.toArray 56) = w1 at *
  go_loopw [4] (fun iv wr => ∃ k : Nat, k ≤ 15 ∧ iv = .int .i64 ((k : Int) + 1) ∧ Hid (NumL wr W W.heap.size P1 P2 (cn ls) (preF (atC ls) k))) (fun iv _ => 16 - (intOf iv).toNat)
  case atStart => exact ⟨0, by omega, rfl, HL0⟩
  case round =>
    clear HL0
    obtain ⟨k, hk, rfl, HN⟩ := hrel
    by_cases hlt : k < 15
    · have zk : (k : Int) + 1 ≤ 15 := by omega
      have zk0 : (0 : Int) ≤ (k : Int) + 1 := by omega
      have zk16 : (k : Int) + 1 < 16 := by omega
      have zk3 : (k : Int) < 16 := by omega
      have c1 := HN.out.box.cell k (by omega)
      have c2 := HN.out.fst.cell k (by omega)
      have c3 := HN.out.fst.cell (k + 1) (by omega)
      have f3 := HN.out.fst.frozen (k + 1)
      have e2 : preF (atC ls) k k = atC ls k := by unfold preF; rw [if_pos (Nat.le_refl _)]
      have e3 : preF (atC ls) k (k + 1) = 0 := by unfold preF; rw [if_neg (by omega)]
      rw [e2] at c2
      rw [e3] at c3
      have hsm : atC ls k ≤ 40000 ∧ cn ls k ≤ 40000 := by have h1 := cn_sum ls (k + 1); have h2 : atC ls (k + 1) = atC ls k + cn ls k := rfl; have := HL.out; omega
      have HG := hide (show atC ls (k + 1) = atC ls k + cn ls k from rfl)
      have HNX := hide (HN.out.set (k + 1) (atC ls (k + 1)) (by omega))
      rw [preF_set, HG.out] at HNX
      clear e2 e3 hk HG
      generalize atC ls k = A at *
      generalize cn ls k = C at *
      have ew : ((A + C : Nat) : Int) = (A : Int) + (C : Int) := by omega
      rw [ew] at HNX
      have hA := hsm.1
      have hC := hsm.2
      clear hsm ew
      go_wp2
      go_region
      go_wp2
      go_roundw
      case rel => exact ⟨k + 1, by omega, by go_num, HNX⟩
      case measure => exact meas_oneW (k + 1) 16 (by omega)
    · have hke : k = 15 := by omega
      subst hke
      have hfst := HN.out.fst.congr (g := atC ls) (fun i hi => by unfold preF; rw [if_pos (by omega)])
      have hone := talCs_one (atC ls)
      have hlen := talCs_length (atC ls)
      have HRG := hide hfst.range
      have hth := HN.out.res.there
      have hst := cells_store (P := Try.prog) (w := wr) (p := P1) (cs := talCs (atC ls)) (by rw [hlen]; exact hth) hone
      have HLD := hide (tal_load (World.rangeAt_setCells_same wr P1 0 (talCs (atC ls)) (by rw [hlen]; exact hth)) hlen)
      have HBF := hide (below_cells HN.out.bel P1 0 (by have := HN.out.lo; have := HN.out.l1; omega) (talCs (atC ls)))
      have HLN := hide hlen
      clear hfst hth hone hlen
      generalize hE : talCs (atC ls) = cs2 at *
      have HE := hide hE
      clear hE
      have HSZ := hide (show (Try.prog.info? 56).map (·.size) = some cs2.length by rw [HLN.out]; exact Try.sizeTal)
      go_wp2_with (first
        | (refine wpList_load_mid rfl 56 (Operand.tmp 3) rfl P2 0 rfl cs2 _ HRG.out Try.underlying56 rfl HSZ.out ?_))
      (try simp only [Exit.inBlock, Exit.then])
      refine bodyPost_ret (v := .agg cs2.toArray) ?_ rfl ⟨by rw [HE.out], HBF.out⟩
      simp [results, Try.results24, asAddr, HLD.out]

end Go.Proofs.Yteillcfdmjmaeaa
