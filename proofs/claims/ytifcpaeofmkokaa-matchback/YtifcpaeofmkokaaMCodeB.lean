/- Contract of the code of layer 8: links. -/
import Derived.Test.YtifcpaeofmkokaaMCodeA
import Derived.Maps.OwnSet
namespace Go.Proofs.Ytifcpaeofmkokaa
open Go.RowKit Go.Lib Go.Maps

theorem Try.infoU16 : (Try.prog.info? 51).map (fun i => (i.zero, i.size, i.bytes)) = some (some (.int .u16 0), 1, 2) := by kernel_rfl
theorem law_int : Keyed Try.prog 3 := int_keyed Try.underlying3
theorem zero_int (w : World) : (zeroValue 3).run Try.prog w = .ok (.int .i64 0) w := by kernel_rfl

/-- Where each three bytes stood last, as a map. -/
def lastD (c : Nat → Nat) : Nat → DataW Unit
  | 0 => .map []
  | j + 1 => (lastD c j).put (.int .i64 (threeN c j : Nat)) (.lit (.int .i64 (j : Nat)))
theorem lastD_map (c : Nat → Nat) : ∀ j, IsMap (lastD c j)
  | 0 => isMap_empty
  | j + 1 => (lastD_map c j).put _ _
theorem key_lit (x : Int) : WideAt.IsKeyLit (.int .i64 x) := by simp [WideAt.IsKeyLit]
theorem lastD_has (c : Nat → Nat) (x : Nat) : ∀ j, Maps.has (lastD c j) (.int .i64 (x : Nat)) = (latest c x j).isSome
  | 0 => rfl
  | j + 1 => by
    rw [latest_succ]
    unfold lastD
    by_cases e : threeN c j = x
    · rw [if_pos e, e, has_put_same (lastD_map c j) (key_lit _)]; rfl
    · rw [if_neg e, has_put_other (by intro h; injection h with _ h; omega), lastD_has c x j]
theorem lastD_at (c : Nat → Nat) (x k : Nat) (z : DataW Unit) : ∀ j, latest c x j = some k → (lastD c j).atKey (.int .i64 (x : Nat)) z = .lit (.int .i64 (k : Nat))
  | 0, h => by cases h
  | j + 1, h => by
    rw [latest_succ] at h
    unfold lastD
    by_cases e : threeN c j = x
    · rw [if_pos e] at h
      injection h with h
      subst h
      rw [e]
      exact atKey_put_same (lastD_map c j) (key_lit _) _ _
    · rw [if_neg e] at h
      rw [atKey_put_other (by intro h; injection h with _ h; omega)]
      exact lastD_at c x k z j h

/-- The row under way. -/
def linkR (c : Nat → Nat) (n j : Nat) : List Value := (List.range n).map fun i => .int .u16 ((if i < j then linkN c n i else 0 : Nat) : Int)
theorem linkR_length (c : Nat → Nat) (n j : Nat) : (linkR c n j).length = n := by simp [linkR]
theorem linkR_get (c : Nat → Nat) (n j i : Nat) (h : i < n) : (linkR c n j)[i]? = some (.int .u16 ((if i < j then linkN c n i else 0 : Nat) : Int)) := by
  unfold linkR
  rw [List.getElem?_map, List.getElem?_range h]
  rfl
theorem linkR_zero (c : Nat → Nat) (n : Nat) : linkR c n 0 = List.replicate n (.int .u16 0) := by
  refine List.ext_getElem? fun i => ?_
  by_cases h : i < n
  · rw [linkR_get c n 0 i h, if_neg (Nat.not_lt_zero _), List.getElem?_replicate, if_pos h]; rfl
  · rw [List.getElem?_eq_none (by rw [linkR_length]; omega), List.getElem?_eq_none (by rw [List.length_replicate]; omega)]
theorem linkR_set (c : Nat → Nat) (n j : Nat) (x : Int) (hx : x = (linkN c n j : Nat)) (h : j < n) : (linkR c n j).set j (.int .u16 x) = linkR c n (j + 1) := by
  subst hx
  refine List.ext_getElem? fun i => ?_
  by_cases hi : i < n
  · rw [linkR_get c n (j + 1) i hi]
    by_cases e : i = j
    · subst e
      rw [List.getElem?_set_self (by rw [linkR_length]; exact h), if_pos (Nat.lt_succ_self _)]
    · rw [List.getElem?_set_ne (fun h => e h.symm), linkR_get c n j i hi]
      by_cases h2 : i < j
      · rw [if_pos h2, if_pos (by omega)]
      · rw [if_neg h2, if_neg (by omega)]
  · rw [List.getElem?_eq_none (by rw [List.length_set, linkR_length]; omega), List.getElem?_eq_none (by rw [linkR_length]; omega)]
theorem linkR_none (c : Nat → Nat) (n j : Nat) (hx : linkN c n j = 0) : linkR c n j = linkR c n (j + 1) := by
  refine List.ext_getElem? fun i => ?_
  by_cases hi : i < n
  · rw [linkR_get c n (j + 1) i hi, linkR_get c n j i hi]
    by_cases e : i = j
    · subst e
      rw [if_neg (Nat.lt_irrefl _), if_pos (Nat.lt_succ_self _), hx]
    · by_cases h2 : i < j
      · rw [if_pos h2, if_pos (by omega)]
      · rw [if_neg h2, if_neg (by omega)]
  · rw [List.getElem?_eq_none (by rw [linkR_length]; omega), List.getElem?_eq_none (by rw [linkR_length]; omega)]

/-- The links under way: the row, and the map. -/
structure LinkW (w W : World) (c : Nat → Nat) (n j : Nat) : Prop where
  bel : Below W.heap.size W w
  row : w.heap[W.heap.size]? = some (.cells (linkR c n j).toArray 51 (0, 0))
  map : w.ownsMap Try.prog 3 (plainElem Try.prog 3) (W.heap.size + 1) j (lastD c j)
theorem LinkW.start (W : World) (c : Nat → Nat) (n : Nat) : LinkW ((W.alloc (.cells (madeCells #[.int .u16 0] n) 51)).alloc (.map #[] 0)) W c n 0 := by
  have e1 : (W.alloc (.cells (madeCells #[.int .u16 0] n) 51)).heap[W.heap.size]? = some (.cells (linkR c n 0).toArray 51 (0, 0)) := by
    have e : (linkR c n 0).toArray = madeCells #[.int .u16 0] n := by
      rw [linkR_zero, ← toList_madeCells_one, Array.toArray_toList]
    rw [e]
    show (W.heap.push _)[W.heap.size]? = _
    simp
  have s1 : (W.alloc (.cells (madeCells #[.int .u16 0] n) 51)).heap.size = W.heap.size + 1 := by show (W.heap.push _).size = _; simp
  have b1 : Below W.heap.size W (W.alloc (.cells (madeCells #[.int .u16 0] n) 51)) := (Below.refl _ _).alloc (Nat.le_refl _) _
  generalize (W.alloc (.cells (madeCells #[.int .u16 0] n) 51)) = w1 at *
  refine ⟨b1.alloc b1.size _, ?_, ?_⟩
  · rw [heap_alloc_old _ _ _ (by omega)]; exact e1
  · rw [← s1]
    exact World.ownsMap_made _ _ _ _
theorem LinkW.look {w W : World} {c : Nat → Nat} {n j : Nat} (h : LinkW w W c n j) (x : Nat) (hx : x < 16777216) (q : Nat) :
    (latest c x j = none → ∃ z, (Instr.lookup 48 (.map (some (W.heap.size + 1))) (.int .i64 (x : Nat)) true).run Try.prog (w.drewN q) = .ok (.tuple #[.int .i64 z, .bool false]) (w.drewN q)) ∧
    (∀ k, latest c x j = some k → (Instr.lookup 48 (.map (some (W.heap.size + 1))) (.int .i64 (x : Nat)) true).run Try.prog (w.drewN q) = .ok (.tuple #[.int .i64 (k : Nat), .bool true]) (w.drewN q)) := by
  have hm : (w.drewN q).ownsMap Try.prog 3 (plainElem Try.prog 3) (W.heap.size + 1) j (lastD c j) := h.map
  have hkey : keyOf Try.prog 3 (.int .i64 (x : Nat)) = some (.int .i64 (x : Nat)) := keyOf_int_mk Try.underlying3 (WalkArith.wf_i64 (by omega))
  obtain ⟨v, ps, hrun, hv⟩ := hm.look_ok law_int Try.underlying48 (zero_int _) (plainElem_int Try.underlying3 (by decide)) hkey
  obtain ⟨cc, rfl, hc, _⟩ := plainElem_int_inv Try.underlying3 hv
  rw [lastD_has] at hrun
  constructor
  · intro e
    rw [e] at hrun
    exact ⟨cc, hrun⟩
  · intro k e
    rw [e] at hrun
    have h2 := congrArg Prod.fst hc
    dsimp only at h2
    rw [lastD_at c x k _ j e] at h2
    injection h2 with h2
    injection h2 with _ h2
    rw [h2]
    exact hrun
theorem LinkW.cell {w W : World} {c : Nat → Nat} {n j : Nat} (h : LinkW w W c n j) (hj : j < n) : w.cell? ⟨W.heap.size, j, none⟩ = some (.int .u16 0) ∧ w.frozen? ⟨W.heap.size, j, none⟩ = false := by
  refine ⟨?_, frozen_row h.row j⟩
  rw [cell_of_row _ _ j _ _ (0, 0) h.row]
  have := linkR_get c n j j hj
  rw [if_neg (Nat.lt_irrefl _)] at this
  simpa using this

/-- The row is a place ahead of the map. -/
structure LinkM (w W : World) (c : Nat → Nat) (n j : Nat) : Prop where
  bel : Below W.heap.size W w
  row : w.heap[W.heap.size]? = some (.cells (linkR c n (j + 1)).toArray 51 (0, 0))
  map : w.ownsMap Try.prog 3 (plainElem Try.prog 3) (W.heap.size + 1) j (lastD c j)
theorem LinkW.skip {w W : World} {c : Nat → Nat} {n j : Nat} (h : LinkW w W c n j) (h0 : linkN c n j = 0) : LinkM w W c n j := ⟨h.bel, by rw [← linkR_none c n j h0]; exact h.row, h.map⟩
theorem LinkW.set {w W : World} {c : Nat → Nat} {n j : Nat} (h : LinkW w W c n j) (hj : j < n) (x : Int) (hx : x = (linkN c n j : Nat)) : LinkM (w.setCell ⟨W.heap.size, j, none⟩ (.int .u16 x)) W c n j := by
  refine ⟨h.bel.setCell (Nat.le_refl _) _, ?_, h.map.setCell (by show W.heap.size + 1 ≠ W.heap.size; omega) _⟩
  rw [heap_setCell_same _ _ _ _ _ _ _ h.row, List.setIfInBounds_toArray, linkR_set c n j x hx hj]
theorem LinkM.next {w w' W : World} {c : Nat → Nat} {n j : Nat} (h : LinkM w W c n j) (hm : w'.ownsMap Try.prog 3 (plainElem Try.prog 3) (W.heap.size + 1) (j + 1) (lastD c (j + 1))) (hg : w.grownBy w' (some (W.heap.size + 1))) : LinkW w' W c n (j + 1) := by
  refine ⟨h.bel.grown hg h.bel.size (fun k hk => by cases hk; exact Nat.le_succ _), ?_, hm⟩
  rw [hg.block _ (Array.getElem?_eq_some_iff.1 h.row).1 (by intro e; injection e with e; omega)]
  exact h.row
theorem LinkW.done {w W : World} {c : Nat → Nat} {n T : Nat} (h : LinkW w W c n T) (hT : n - 2 = T) : BackAt w (some ⟨W.heap.size, 0, none⟩) c n := by
  intro i hi
  refine ⟨W.heap.size, rfl, (Array.getElem?_eq_some_iff.1 h.row).1, ?_⟩
  rw [cell_of_row _ _ i _ _ (0, 0) h.row]
  have := linkR_get c n T i hi
  by_cases e : i < T
  · rw [if_pos e] at this
    simpa using this
  · rw [if_neg e, ← link_no c n i (by omega)] at this
    simpa using this
theorem wf_nat (j : Nat) (h : j ≤ 100000000) : (Lit.int .i64 (j : Nat)).wf = true := WalkArith.wf_i64 (by omega)

set_option maxRecDepth 20000 in
set_option maxHeartbeats 4000000 in
theorem links8 (s : ByteArray) (n : Nat) (W : World) (hn : s.size = n) (hs : n ≤ 1000000) :
    Calls Try.prog 15 #[.string s] W fun e w' => ∃ g, e = .returned (.slice (some ⟨g, 0, none⟩) n n) ∧ BackAt w' (some ⟨g, 0, none⟩) (bAt s) n ∧ Below W.heap.size W w' := by
  have HN := hide hn
  have zn : ((s.size : Nat) : Int) = (n : Int) := by omega
  have hmm := @run_makeMap Try.prog
  have hmk := run_make_row' (P := Try.prog) 36 51 (.int .u16 0) 2 Try.underlying36 Try.infoU16 rfl .i64 .i64 n (by omega) (by omega)
  obtain ⟨T, hT⟩ : ∃ T, n - 2 = T := ⟨_, rfl⟩
  have HT := hide hT
  have zT : max ((n : Int) - 3 + 1) 0 = (T : Int) := by omega
  have HL0 := hide (LinkW.start W (bAt s) n)
  clear hn hT
  go_enter Try.func15, Try.ntmps15
  go_wp2
  clear hmm hmk zT
  go_loopw [18] (fun kv wr => ∃ j : Nat, j ≤ T ∧ kv = .int .i64 (j : Nat) ∧ Hid (LinkW wr W (bAt s) n j)) (fun kv _ => T - (intOf kv).toNat)
  case atStart => exact ⟨0, Nat.zero_le _, rfl, HL0⟩
  case round =>
    clear HL0
    obtain ⟨j, hj, rfl, HL⟩ := hrel
    by_cases hlt : j < T
    · have zj : (j : Int) < T := by omega
      have hjn : j + 3 ≤ n := by have := HT.out; omega
      have HJN := hide hjn
      obtain ⟨x, hx⟩ : ∃ x, bAt s j = x := ⟨_, rfl⟩
      obtain ⟨y, hy⟩ : ∃ y, bAt s (j + 1) = y := ⟨_, rfl⟩
      obtain ⟨z, hz⟩ : ∃ z, bAt s (j + 2) = z := ⟨_, rfl⟩
      have ix := str_index s j (by rw [HN.out]; omega)
      have iy := str_index s (j + 1) (by rw [HN.out]; omega)
      have iz := str_index s (j + 2) (by rw [HN.out]; omega)
      have x9 := bAt_lt s j
      have y9 := bAt_lt s (j + 1)
      have z9 := bAt_lt s (j + 2)
      have h3 : threeN (bAt s) j = x * 65536 + y * 256 + z := by unfold threeN; rw [hx, hy, hz]
      rw [hx] at ix x9
      rw [hy] at iy y9
      rw [hz] at iz z9
      rw [show ((j + 1 : Nat) : Int) = (j : Int) + 1 by omega] at iy
      rw [show ((j + 2 : Nat) : Int) = (j : Int) + 2 by omega] at iz
      have H3 := hide h3
      have zj1 : (j : Int) + 1 < n := by omega
      have zj2 : (j : Int) + 2 < n := by omega
      have zj0 : (j : Int) < n := by omega
      obtain ⟨v, hv⟩ : ∃ v : Nat, x * 65536 + y * 256 = v := ⟨_, rfl⟩
      obtain ⟨h, hh⟩ : ∃ h : Nat, v + z = h := ⟨_, rfl⟩
      have o1 : bits .or .i64 ((x : Int) * 65536) ((y : Int) * 256) = (v : Int) := by
        rw [show (x : Int) * 65536 = ((x * 65536 : Nat) : Int) by omega, show (y : Int) * 256 = ((y * 256 : Nat) : Int) by omega, or_i64_nat _ _ (by omega) (by omega), nat_join 16 _ _ (by omega) (by omega), hv]
      have o2 : bits .or .i64 (v : Int) (z : Int) = (h : Int) := by
        rw [or_i64_nat _ _ (by omega) (by omega), nat_join 8 _ _ (by omega) (by omega), hh]
      have H3 := hide (show threeN (bAt s) j = h by rw [h3, hv, hh])
      have h9 : h < 16777216 := by omega
      have hj9 : j ≤ 1000000 := by omega
      clear hx hy hz h3 hjn
      go_wp2
      go_quiet (fail)
      have HLQ := hide (show LinkW (wr.drewN nq) W (bAt s) n j from ⟨below_drewN HL.out.bel _, HL.out.row, HL.out.map⟩)
      have hlk := HL.out.look h h9 nq
      generalize wr.drewN nq = wq at *
      clear HL ix iy iz o1 o2 hv hh
      cases hla : latest (bAt s) h j with
      | none =>
        obtain ⟨zz, hrun⟩ := hlk.1 hla
        have HM := hide (HLQ.out.skip (link_none (bAt s) n j (by rw [H3.out]; exact hla)))
        clear hlk hla
        go_wp2_with (first
          | (at_mapUpdate; refine wpList_mapUpdate_own _ rfl _ _ _ 48 rfl 3 3 law_int Try.underlying48 _ (W.heap.size + 1) j _ rfl HM.out.map (by unfold maxLen; omega) _ _ _ rfl rfl (keyOf_int_mk Try.underlying3 (wf_nat h (by omega))) _ [] (plainElem_int Try.underlying3 (wf_nat j (by omega))) ?_; intro w1 hown1 hgrow1)
          | go_in)
        have HN1 := hide (HM.out.next (by unfold lastD; rw [H3.out]; exact hown1) hgrow1)
        clear hown1 hgrow1
        go_roundw
        case rel => exact ⟨j + 1, hlt, by go_num, HN1⟩
        case measure => exact meas_oneW j T hlt
      | some k =>
        have hrun := hlk.2 k hla
        have hkj := (latest_some (bAt s) h k j hla).1
        have HLS := hide (link_some (bAt s) n j k HJN.out (by rw [H3.out]; exact hla))
        obtain ⟨d, hd⟩ : ∃ d, j - k = d := ⟨_, rfl⟩
        rw [hd] at HLS
        have ed : (j : Int) - (k : Int) = (d : Int) := by omega
        clear hlk hla hd
        by_cases hf : d ≤ 32768
        · have df : decide ((d : Int) ≤ 32768) = true := decide_eq_true (by omega)
          have dfn : decide (d ≤ 32768) = true := decide_eq_true hf
          have ew : IntKind.u16.wrap (d : Int) = (d : Int) := by rw [IntKind.wrap_u16]; omega
          obtain ⟨_c, _f⟩ := HLQ.out.cell (show j < n by have := HJN.out; omega)
          have HM := hide (HLQ.out.set (show j < n by have := HJN.out; omega) (d : Int) (by rw [HLS.out, if_pos hf]))
          clear hf
          go_wp2_with (first
            | (at_mapUpdate; refine wpList_mapUpdate_own _ rfl _ _ _ 48 rfl 3 3 law_int Try.underlying48 _ (W.heap.size + 1) j _ rfl HM.out.map (by unfold maxLen; omega) _ _ _ rfl rfl (keyOf_int_mk Try.underlying3 (wf_nat h (by omega))) _ [] (plainElem_int Try.underlying3 (wf_nat j (by omega))) ?_; intro w1 hown1 hgrow1)
            | go_in)
          have HN1 := hide (HM.out.next (by unfold lastD; rw [H3.out]; exact hown1) hgrow1)
          clear hown1 hgrow1
          go_roundw
          case rel => exact ⟨j + 1, hlt, by go_num, HN1⟩
          case measure => exact meas_oneW j T hlt
        · have df : decide ((d : Int) ≤ 32768) = false := decide_eq_false (by omega)
          have dfn : decide (d ≤ 32768) = false := decide_eq_false hf
          have HM := hide (HLQ.out.skip (by rw [HLS.out, if_neg hf]))
          clear hf
          go_wp2_with (first
            | (at_mapUpdate; refine wpList_mapUpdate_own _ rfl _ _ _ 48 rfl 3 3 law_int Try.underlying48 _ (W.heap.size + 1) j _ rfl HM.out.map (by unfold maxLen; omega) _ _ _ rfl rfl (keyOf_int_mk Try.underlying3 (wf_nat h (by omega))) _ [] (plainElem_int Try.underlying3 (wf_nat j (by omega))) ?_; intro w1 hown1 hgrow1)
            | go_in)
          have HN1 := hide (HM.out.next (by unfold lastD; rw [H3.out]; exact hown1) hgrow1)
          clear hown1 hgrow1
          go_roundw
          case rel => exact ⟨j + 1, hlt, by go_num, HN1⟩
          case measure => exact meas_oneW j T hlt
    · have hje : j = T := by omega
      subst hje
      have HG := hide (show BackAt wr (some ⟨W.heap.size, 0, none⟩) (bAt s) n from HL.out.done HT.out)
      have HB := hide HL.out.bel
      go_wp2
      go_ret
      exact ⟨W.heap.size, rfl, HG.out, HB.out⟩

end Go.Proofs.Ytifcpaeofmkokaa
