/- Contract of package canon's 'counted': how many have each length, or the error. -/
import Derived.Test.YteillcfdmjmaeaaKTal3
namespace Go.Proofs.Yteillcfdmjmaeaa
open Go.RowKit Go.Lib

/-- How many have each length, if they make a code. -/
def cntF (l : List Int) : Nat → Nat := if goodB l = true then cn (l.map Int.toNat) else fun _ => 0
theorem cntF_good {l : List Int} (h : goodB l = true) : cntF l = cn (l.map Int.toNat) := by unfold cntF; rw [if_pos h]
theorem cntF_bad {l : List Int} (h : ¬ goodB l = true) : cntF l = fun _ => 0 := by unfold cntF; rw [if_neg h]

theorem cn_le1000 (ls : List Nat) (h : ls.length ≤ 1000) (k : Nat) : cn ls k ≤ 1000 := by
  unfold cn
  split
  · omega
  · exact Nat.le_trans List.countP_le_length h
theorem preN_len (l : List Int) (j : Nat) : (preN l j).length ≤ l.length := by unfold preN; rw [List.length_map, List.length_take]; omega

/-- Counts under way, and the answer's block. -/
structure CntL (w W : World) (P1 P2 : Nat) (g : Nat → Nat) : Prop where
  res : TalAt w P1 (fun _ => 0)
  cnt : TalAt w P2 g
  bel : Below W.heap.size W w
  lo : W.heap.size = P1
  l1 : P1 + 1 = P2

theorem CntL.set {w W : World} {P1 P2 : Nat} {g : Nat → Nat} (h : CntL w W P1 P2 g) (i x : Nat) (hi : i < 16) : CntL (w.setCell ⟨P2, i, none⟩ (.int .i64 (x : Nat))) W P1 P2 (fun j => if j = i then x else g j) := by
  have h0 := h.lo
  have h1 := h.l1
  exact ⟨h.res.other ⟨P2, i, none⟩ (show P1 ≠ P2 by omega) _, h.cnt.set i x hi, h.bel.setCell (p := ⟨P2, i, none⟩) (show W.heap.size ≤ P2 by omega) _, h0, h1⟩
theorem CntL.congr {w W : World} {P1 P2 : Nat} {g g2 : Nat → Nat} (h : CntL w W P1 P2 g) (e : ∀ i, i < 16 → g i = g2 i) : CntL w W P1 P2 g2 := ⟨h.res, h.cnt.congr e, h.bel, h.lo, h.l1⟩

set_option maxRecDepth 20000 in
set_option maxHeartbeats 4000000 in
theorem counted_any (l : List Int) (a : Option Addr) (cap : Nat) (W : World) (harg : ArgZ W a l) (hl : l.length ≤ 1000) :
    Calls Try.prog 22 #[.slice a l.length cap] W fun e w' => e = .returned (.tuple #[talV (cntF l), .int .i64 (chkI l)]) ∧ Below W.heap.size W w' := by
  have HA := hide harg
  have hv := Try.zeroTal
  have hbt := Try.builtTal
  have hZ1 := talCs_one (fun _ => 0)
  have hZn := talCs_length (fun _ => 0)
  obtain ⟨P2, hP2⟩ : ∃ P2, W.heap.size + 1 = P2 := ⟨_, rfl⟩
  have hL0 : CntL ((W.alloc (.cells (talCs (fun _ => 0)).toArray 56)).alloc (.cells (talCs (fun _ => 0)).toArray 56)) W W.heap.size P2 (cn (preN l 0)) := by
    have s1 : (W.alloc (.cells (talCs (fun _ => 0)).toArray 56)).heap.size = P2 := by show (W.heap.push _).size = _; simp; exact hP2
    refine ⟨(tal_made W (fun _ => 0)).alloc _, ?_, ((Below.refl _ W).alloc (Nat.le_refl _) _).alloc (by omega) _, rfl, hP2⟩
    have h := tal_made (W.alloc (.cells (talCs (fun _ => 0)).toArray 56)) (fun _ => 0)
    rw [s1] at h
    refine h.congr fun i _ => ?_
    unfold preN cn
    split <;> rfl
  have HL0 := hide hL0
  have HL := hide hl
  obtain ⟨Z, hZ⟩ : ∃ Z, talCs (fun _ => 0) = Z := ⟨_, rfl⟩
  have HZ := hide hZ
  rw [hZ] at HL0 hZ1 hZn
  simp only [hZ] at hv hbt
  clear hZ harg hL0
  obtain ⟨tv, htv⟩ : ∃ tv, talV (cntF l) = tv := ⟨_, rfl⟩
  obtain ⟨ev, hev⟩ : ∃ ev, chkI l = ev := ⟨_, rfl⟩
  have HTV := hide htv
  have HEV := hide hev
  rw [htv, hev]
  clear htv hev
  obtain ⟨n, hn⟩ : ∃ n, l.length = n := ⟨_, rfl⟩
  have HN := hide hn
  rw [hn] at hl ⊢
  clear hn
  go_enter Try.func22, Try.ntmps22
  go_wp2
  generalize (W.alloc (.cells Z.toArray 56)).alloc (.cells Z.toArray 56) = w1 at *
  go_loopw [9] (fun iv wr => ∃ j : Nat, j ≤ n ∧ iv = .int .i64 (j : Nat) ∧ Hid (∀ x ∈ l.take j, 0 ≤ x ∧ x ≤ 15) ∧ Hid (CntL wr W W.heap.size P2 (cn (preN l j)))) (fun iv _ => n - (intOf iv).toNat)
  case atStart => exact ⟨0, Nat.zero_le _, rfl, hide (fun x hx => by simp at hx), HL0⟩
  case round =>
    clear HL0
    obtain ⟨j, hj, rfl, HE, HC⟩ := hrel
    by_cases hlt : j < n
    · obtain ⟨x, hx⟩ : ∃ x, l[j]? = some x := ⟨_, List.getElem?_eq_getElem (by rw [HN.out]; exact hlt)⟩
      obtain ⟨b, off, rfl, hb, hc⟩ := HA.out j x hx
      have _c := (HC.out.bel.cell (p := ⟨b, off + j, none⟩) hb).trans hc
      have zj : (j : Int) < n := by omega
      have HX := hide hx
      have HTK := hide (show l.take (j + 1) = l.take j ++ [x] by rw [List.take_add_one, hx]; rfl)
      have HPR := hide (preN_succ l j x hx)
      have hth := HC.out.res.there
      have hst := cells_store (P := Try.prog) (w := wr) (p := W.heap.size) (cs := Z) (by rw [hZn]; exact hth) hZ1
      have HLD := hide (tal_load (World.rangeAt_setCells_same wr W.heap.size 0 Z (by rw [hZn]; exact hth)) hZn)
      have HBF := hide (below_cells HC.out.bel W.heap.size 0 (Nat.le_refl _) Z)
      clear hx hc hth
      by_cases q1 : x < 0
      · have HBAD := hide (show ¬ goodB l = true from fun h => by have := (((goodB_iff l).1 h).1 x (mem_of_get HX.out)).1; omega)
        go_wp2
        (try simp only [Exit.inBlock, Exit.then])
        refine bodyPost_ret (v := .tuple #[.agg Z.toArray, .int .i64 4]) ?_ rfl ⟨by rw [← HTV.out, ← HEV.out, cntF_bad HBAD.out, chkI_bad HBAD.out, ← HZ.out]; rfl, HBF.out⟩
        simp [results, Try.results22, asAddr, HLD.out]
      · have q1d : decide (x < 0) = false := by simp; omega
        by_cases q2 : 15 < x
        · have HBAD := hide (show ¬ goodB l = true from fun h => by have := (((goodB_iff l).1 h).1 x (mem_of_get HX.out)).2; omega)
          go_wp2
          (try simp only [Exit.inBlock, Exit.then])
          refine bodyPost_ret (v := .tuple #[.agg Z.toArray, .int .i64 4]) ?_ rfl ⟨by rw [← HTV.out, ← HEV.out, cntF_bad HBAD.out, chkI_bad HBAD.out, ← HZ.out]; rfl, HBF.out⟩
          simp [results, Try.results22, asAddr, HLD.out]
        · have q2d : decide (15 < x) = false := by simp; omega
          have HE2 := hide (show ∀ z ∈ l.take (j + 1), 0 ≤ z ∧ z ≤ 15 from fun z hz => by
            rw [HTK.out] at hz
            rcases List.mem_append.1 hz with e | e
            · exact HE.out z e
            · rw [List.mem_singleton.1 e]; omega)
          obtain ⟨y, rfl⟩ := Int.eq_ofNat_of_zero_le (show 0 ≤ x by omega)
          have hy : y ≤ 15 := by omega
          rw [Int.toNat_natCast] at HPR
          have HCN := hide (cn_snoc (preN l j) y)
          rw [← HPR.out] at HCN
          clear hst HLD HBF
          by_cases h0 : y = 0
          · subst h0
            have HC2 := hide (HC.out.congr (g2 := cn (preN l (j + 1))) (fun i _ => by rw [HCN.out i, if_neg (by omega)]))
            clear HCN q1 q2
            go_wp2
            go_roundw
            case rel => exact ⟨j + 1, hlt, by go_num, HE2, HC2⟩
            case measure => exact meas_oneW j n hlt
          · have z0 : (0 : Int) < y := by omega
            have zy0 : (0 : Int) ≤ y := by omega
            have zy16 : (y : Int) < 16 := by omega
            have _c2 := HC.out.cnt.cell y (by omega)
            have _f2 := HC.out.cnt.frozen y
            have hc9 := cn_le1000 (preN l j) (by have := preN_len l j; have := HL.out; omega) y
            have HC2 := hide ((HC.out.set y (cn (preN l j) y + 1) (by omega)).congr (g2 := cn (preN l (j + 1))) (fun i _ => by
              rw [HCN.out i]
              by_cases e : i = y
              · rw [if_pos e, if_pos ⟨e, h0⟩]
              · rw [if_neg e, if_neg (fun h => e h.1)]))
            generalize cn (preN l j) y = m at *
            rw [show ((m + 1 : Nat) : Int) = (m : Int) + 1 from by omega] at HC2
            clear HCN q1 q2 h0 hy
            go_wp2
            go_roundw
            case rel => exact ⟨j + 1, hlt, by go_num, HE2, HC2⟩
            case measure => exact meas_oneW j n hlt
    · have hje : j = n := by omega
      subst hje
      have hE : ∀ x ∈ l, 0 ≤ x ∧ x ≤ 15 := by have h := HE.out; rw [List.take_of_length_le (by rw [HN.out]; exact Nat.le_refl _)] at h; exact h
      have hcg := codeB_good l hE
      have hpa : preN l j = l.map Int.toNat := by rw [← HN.out]; exact preN_all l
      rw [hpa] at HC
      have hle := cn_le1000 (l.map Int.toNat) (by rw [List.length_map]; exact HL.out)
      have HCD := hide (code_any (cn (l.map Int.toNat)) hle)
      rw [hcg] at HCD
      unfold talV at HCD
      have HLEN := hide (talCs_length (cn (l.map Int.toNat)))
      have HONE := hide (talCs_one (cn (l.map Int.toNat)))
      have HRG := hide HC.out.cnt.range
      have HRG2 := hide (fun w' (b : Below wr.heap.size wr w') => (HC.out.cnt.below b HC.out.cnt.lt).range)
      have HRS := hide (fun w' (b : Below wr.heap.size wr w') => (HC.out.res.below b HC.out.res.lt).there)
      have HBL := hide (show ∀ w', Below wr.heap.size wr w' → Below W.heap.size W w' from fun w' b => HC.out.bel.trans (b.mono HC.out.bel.size))
      have HCE := hide (show talV (cn (l.map Int.toNat)) = .agg (talCs (cn (l.map Int.toNat))).toArray from rfl)
      clear hE hcg hpa hle
      generalize talCs (cn (l.map Int.toNat)) = cs at *
      have HSZ := hide (show (Try.prog.info? 56).map (·.size) = some cs.length by rw [HLEN.out]; exact Try.sizeTal)
      go_wp2_with (first
        | (refine wpList_load_mid rfl 56 (Operand.tmp 4) rfl P2 0 rfl cs _ HRG.out Try.underlying56 rfl HSZ.out ?_))
      refine (HCD.out _).mono ?_
      rintro e w2 ⟨rfl, b2⟩
      have HR2 := hide (HRG2.out _ b2)
      have hth := HRS.out _ b2
      have HB2 := hide (HBL.out _ b2)
      clear b2
      by_cases hg : goodB l = true
      · have HG := hide hg
        have hst := cells_store (P := Try.prog) (w := w2) (p := W.heap.size) (cs := cs) (by rw [HLEN.out]; exact hth) HONE.out
        have HLD := hide (tal_load (World.rangeAt_setCells_same w2 W.heap.size 0 cs (by rw [HLEN.out]; exact hth)) HLEN.out)
        have HBF := hide (below_cells HB2.out W.heap.size 0 (Nat.le_refl _) cs)
        have hcl := HLEN.out
        rw [hg]
        clear hg hth
        go_wp2_with (first
          | (refine wpList_load_mid rfl 56 (Operand.tmp 4) rfl P2 0 rfl cs _ HR2.out Try.underlying56 rfl HSZ.out ?_))
        (try simp only [Exit.inBlock, Exit.then])
        refine bodyPost_ret (v := .tuple #[.agg cs.toArray, .int .i64 0]) ?_ rfl ⟨by rw [← HTV.out, ← HEV.out, cntF_good HG.out, chkI_good HG.out, HCE.out], HBF.out⟩
        simp [results, Try.results22, asAddr, HLD.out]
      · have HG := hide hg
        have hgf : goodB l = false := by cases h : goodB l with | false => rfl | true => exact absurd h hg
        have hst := cells_store (P := Try.prog) (w := w2) (p := W.heap.size) (cs := Z) (by rw [hZn]; exact hth) hZ1
        have HLD := hide (tal_load (World.rangeAt_setCells_same w2 W.heap.size 0 Z (by rw [hZn]; exact hth)) hZn)
        have HBF := hide (below_cells HB2.out W.heap.size 0 (Nat.le_refl _) Z)
        rw [hgf]
        clear hg hth hgf
        go_wp2
        (try simp only [Exit.inBlock, Exit.then])
        refine bodyPost_ret (v := .tuple #[.agg Z.toArray, .int .i64 4]) ?_ rfl ⟨by rw [← HTV.out, ← HEV.out, cntF_bad HG.out, chkI_bad HG.out, ← HZ.out]; rfl, HBF.out⟩
        simp [results, Try.results22, asAddr, HLD.out]

end Go.Proofs.Yteillcfdmjmaeaa
