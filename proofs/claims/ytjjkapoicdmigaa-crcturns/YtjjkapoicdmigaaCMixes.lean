/- Whatever three texts are: of their first bytes, as many as the shortest has, mixed byte by byte, the sums mix likewise: 'CrcMixes' answers true. No condition. -/
import Derived.Test.YtjjkapoicdmigaaCMix
namespace Go.Proofs.Ytjjkapoicdmigaa
open Go.RowKit Go.Lib

/-- The least of three, as the walk spells it. -/
theorem min_three (a b c : Nat) : ∃ n : Nat, n ≤ a ∧ n ≤ b ∧ n ≤ c ∧ (if (c : Int) < (if b < a then (b : Int) else (a : Int)) then (c : Int) else if b < a then (b : Int) else (a : Int)) = (n : Int) := by
  by_cases h1 : b < a
  · rw [if_pos h1]
    by_cases h2 : (c : Int) < b
    · exact ⟨c, by omega, by omega, by omega, by rw [if_pos h2]⟩
    · exact ⟨b, by omega, by omega, by omega, by rw [if_neg h2]⟩
  · rw [if_neg h1]
    by_cases h2 : (c : Int) < a
    · exact ⟨c, by omega, by omega, by omega, by rw [if_pos h2]⟩
    · exact ⟨a, by omega, by omega, by omega, by rw [if_neg h2]⟩

/-- Behind a call: a table and a row are as they were. -/
theorem row_below {w w' : World} {p q : Nat} {cs : List Value} {ob : Obj} (h : w.rangeAt p 0 cs ∧ w.heap[q]? = some ob) (hc : cs.length = 256) (b : Below w.heap.size w w') : w'.rangeAt p 0 cs ∧ w'.heap[q]? = some ob :=
  ⟨range_below h.1 b (range_lt h.1 hc), by rw [b.block q (Array.getElem?_eq_some_iff.1 h.2).1]; exact h.2⟩

set_option maxRecDepth 20000 in
set_option maxHeartbeats 4000000 in
theorem mixes_walk (a b c : ByteArray) (w : World) :
    Calls Try.prog 5 #[.string a, .string b, .string c] w fun e w' => e = .returned (.bool true) ∧ Below w.heap.size w w' := by
  obtain ⟨n, ha, hb, hc, hq⟩ := min_three a.size b.size c.size
  by_cases hbig : 1000 < n
  · have hz : (1000 : Int) < n := by omega
    clear hbig ha hb hc
    go_enter Try.func5, Try.ntmps5
    go_wp2_with fail
    refine (cawake_any _).mono ?_
    rintro e w1 ⟨rfl, b1⟩
    have B1 := hide b1
    clear b1
    go_wp2
    go_ret
    exact ⟨rfl, B1.out⟩
  · have hz : ¬ (1000 : Int) < n := by omega
    have hmk := run_make_row' (P := Try.prog) 30 5 (.int .u8 0) 1 Try.underlying30 Try.infoByte rfl .i64 .i64 n (by omega) (by omega)
    have R0 := hide (rowC_made w (mixB a b c n) n)
    have B0 := hide ((Below.refl _ w).alloc (Nat.le_refl _) (.cells (madeCells #[.int .u8 0] n) 5))
    have HL := hide (mixB_length a b c n ha hb hc)
    have HA := hide ha
    have HB := hide hb
    have HC := hide hc
    clear ha hb hc
    go_enter Try.func5, Try.ntmps5
    go_wp2
    clear hmk hq
    go_loopw [9] (fun i wr => ∃ j : Nat, j ≤ n ∧ i = .int .i64 j ∧ Hid (wr.heap[w.heap.size]? = some (.cells (rowC (mixB a b c n) n j).toArray 5 (0, 0))) ∧ Hid (Below w.heap.size w wr)) (fun i _ => n - (intOf i).toNat)
    case atStart => exact ⟨0, Nat.zero_le _, rfl, R0, B0⟩
    case round =>
      obtain ⟨j, hj, rfl, HR, BB⟩ := hrel
      by_cases hlt : j < n
      · obtain ⟨_c, _f⟩ := rowC_cell HL.out HR.out hlt
        have hja : j < a.size := Nat.lt_of_lt_of_le hlt HA.out
        have hjb : j < b.size := Nat.lt_of_lt_of_le hlt HB.out
        have hjc : j < c.size := Nat.lt_of_lt_of_le hlt HC.out
        have hx := mix_u8 a[j] b[j] c[j]
        have HS := hide (rowC_set HL.out HR.out hlt _ (mixB_get a b c n j HA.out HB.out HC.out hlt))
        go_wp2
        go_region
        go_wp2
        go_roundw
        case rel => exact ⟨j + 1, by omega, by go_num, HS, hide ((BB.out.setCell (p := ⟨w.heap.size, j, none⟩) (Nat.le_refl _) _).drew)⟩
        case measure => exact meas_one j n hlt
      · have hjn : j = n := by omega
        subst hjn
        have hcv : ∀ w' : World, w'.heap[w.heap.size]? = some (.cells (rowC (mixB a b c j) j j).toArray 5 (0, 0)) → (convert 30 9 (.slice (some ⟨w.heap.size, 0, none⟩) j j)).run Try.prog w' = .ok (.string ⟨(mixB a b c j).toArray⟩) w' := by
          intro w' h
          have h2 := str_rowC (out := mixB a b c j) (cap := j) h (rowC_full _ _ HL.out)
          rw [HL.out] at h2
          exact h2
        have hv := Try.zeroTab
        have HQ := hide tab_store
        generalize rowT 0 = R at *
        go_wp2_with fail
        refine (table_any _).mono ?_
        rintro e w1 ⟨rfl, b1⟩
        have hn := tabL_length ent
        have hst := HQ.out w1 (tabL ent) hn (tabL_one ent)
        have B1 := hide ((BB.out.trans (b1.mono BB.out.size)).alloc (Nat.le_trans BB.out.size b1.size) (.cells (tabL ent).toArray 23))
        have hrA := range_made w1 (tabL ent) 23
        have hrR : (w1.alloc (.cells (tabL ent).toArray 23)).heap[w.heap.size]? = some (.cells (rowC (mixB a b c j) j j).toArray 5 (0, 0)) := by
          have h0 : w.heap.size < wr.heap.size := (Array.getElem?_eq_some_iff.1 HR.out).1
          rw [Below.heap_alloc _ _ _ (Nat.lt_of_lt_of_le h0 b1.size), b1.block _ h0]
          exact HR.out
        have L := hide (fun s hs w => sum_any ent ent_lt s hs w)
        have hu := Try.underlying23
        have hi : (Try.prog.info? 23).map (·.size) = some (tabL ent).length := by rw [hn]; exact Try.sizeTab
        have h1 := tabL_one ent
        have ya : (j : Int) ≤ a.size := by have := HA.out; omega
        have yb : (j : Int) ≤ b.size := by have := HB.out; omega
        have yc : (j : Int) ≤ c.size := by have := HC.out; omega
        have HM := hide (show (ByteArray.mk (mixB a b c j).toArray).size < 4611686018427387904 by show (mixB a b c j).toArray.size < _; rw [List.size_toArray, HL.out]; omega)
        have HE := hide (show (a.extract 0 j).size < 4611686018427387904 ∧ (b.extract 0 j).size < 4611686018427387904 ∧ (c.extract 0 j).size < 4611686018427387904 by simp only [ByteArray.size_extract]; omega)
        have y1 := xor_i64_nat (sumN ent (a.data.toList.take j)) (sumN ent (b.data.toList.take j)) (sumN_lt _ _) (sumN_lt _ _)
        have y2 := xor_i64_nat (sumN ent (a.data.toList.take j) ^^^ sumN ent (b.data.toList.take j)) (sumN ent (c.data.toList.take j)) (Nat.xor_lt_two_pow (n := 32) (sumN_lt _ _) (sumN_lt _ _)) (sumN_lt _ _)
        rw [← mix_sum a b c j HA.out HB.out HC.out] at y2
        clear b1
        generalize tabL ent = cs at *
        generalize (rowC (mixB a b c j) j j).toArray = rw0 at *
        go_wp2
        refine wp_region_noPanic ?_
        refine wp_region_held_drew (S := (fun w' => w'.rangeAt w1.heap.size 0 cs ∧ w'.heap[w.heap.size]? = some (.cells rw0 5 (0, 0)))) (by kernel_rfl) ?_ (fun hHeld => ?_)
        · exact ⟨(World.rangeAt_drew _ _ _ _).2 hrA, hrR⟩
        refine wpAnyH_ready (rs := [0]) (by kernel_rfl) (by simp) ?_
        refine AllReadyH.cons rfl (fun K hK => ?_) AllReadyH.nil
        go_simp
        refine (cawake_any _).mono ?_
        rintro e x1 ⟨rfl, b⟩
        have r := row_below hHeld hn b
        have C1 := hide (B1.out.drew.trans (b.mono B1.out.drew.size))
        clear b
        go_wp2_with fail
        refine hK.out _ _ ?_ (fun hNext => ?_)
        · exact r
        clear hK K hHeld
        have hHeld := hNext
        clear hNext
        (try simp only [Act.put, List.getElem_toArray, List.getElem_cons_zero, List.getElem_cons_succ, List.setIfInBounds_toArray, List.set_cons_zero, List.set_cons_succ])
        clear r
        refine wpAnyH_take (i := 1) (oi := _) (v := ?_) rfl (by kernel_rfl) (by kernel_rfl) (by kernel_rfl) (fun _ _ _ h => h) (Or.inl ⟨by rfl, ?_⟩) hHeld ?_
        rotate_left
        · (intro w hSw; (try dsimp only at hSw); go_simp; try with_reducible rfl)
        (try simp only [Act.put, List.getElem_toArray, List.getElem_cons_zero, List.getElem_cons_succ, List.setIfInBounds_toArray, List.set_cons_zero, List.set_cons_succ])
        refine wpAnyH_take (i := 3) (oi := _) (v := ?_) rfl (by kernel_rfl) (by kernel_rfl) (by kernel_rfl) (fun _ _ _ h => h) (Or.inl ⟨by rfl, ?_⟩) hHeld ?_
        rotate_left
        · (intro w hSw; (try dsimp only at hSw); go_simp; try with_reducible rfl)
        (try simp only [Act.put, List.getElem_toArray, List.getElem_cons_zero, List.getElem_cons_succ, List.setIfInBounds_toArray, List.set_cons_zero, List.set_cons_succ])
        refine wpAnyH_take (i := 7) (oi := _) (v := ?_) rfl (by kernel_rfl) (by kernel_rfl) (by kernel_rfl) (fun _ _ _ h => h) (Or.inl ⟨by rfl, ?_⟩) hHeld ?_
        rotate_left
        · (intro w hSw; (try dsimp only at hSw); go_simp; try with_reducible rfl)
        (try simp only [Act.put, List.getElem_toArray, List.getElem_cons_zero, List.getElem_cons_succ, List.setIfInBounds_toArray, List.set_cons_zero, List.set_cons_succ])
        refine wpAnyH_take (i := 8) (oi := _) (v := ?_) rfl (by kernel_rfl) (by kernel_rfl) (by kernel_rfl) (fun _ _ _ h => h) (Or.inl ⟨by rfl, ?_⟩) hHeld ?_
        rotate_left
        · (intro w hSw; (try dsimp only at hSw); go_simp; try with_reducible rfl)
        (try simp only [Act.put, List.getElem_toArray, List.getElem_cons_zero, List.getElem_cons_succ, List.setIfInBounds_toArray, List.set_cons_zero, List.set_cons_succ])
        refine wpAnyH_take (i := 12) (oi := _) (v := ?_) rfl (by kernel_rfl) (by kernel_rfl) (by kernel_rfl) (fun _ _ _ h => h) (Or.inl ⟨by rfl, ?_⟩) hHeld ?_
        rotate_left
        · (intro w hSw; (try dsimp only at hSw); go_simp; try with_reducible rfl)
        (try simp only [Act.put, List.getElem_toArray, List.getElem_cons_zero, List.getElem_cons_succ, List.setIfInBounds_toArray, List.set_cons_zero, List.set_cons_succ])
        refine wpAnyH_take (i := 13) (oi := _) (v := ?_) rfl (by kernel_rfl) (by kernel_rfl) (by kernel_rfl) (fun _ _ _ h => h) (Or.inl ⟨by rfl, ?_⟩) hHeld ?_
        rotate_left
        · (intro w hSw; (try dsimp only at hSw); go_simp; try with_reducible rfl)
        (try simp only [Act.put, List.getElem_toArray, List.getElem_cons_zero, List.getElem_cons_succ, List.setIfInBounds_toArray, List.set_cons_zero, List.set_cons_succ])
        refine wpAnyH_take (i := 18) (oi := _) (v := ?_) rfl (by kernel_rfl) (by kernel_rfl) (by kernel_rfl) (fun _ _ _ h => h) (Or.inl ⟨by rfl, ?_⟩) hHeld ?_
        rotate_left
        · (intro w hSw; (try dsimp only at hSw); go_simp; try with_reducible rfl)
        (try simp only [Act.put, List.getElem_toArray, List.getElem_cons_zero, List.getElem_cons_succ, List.setIfInBounds_toArray, List.set_cons_zero, List.set_cons_succ])
        refine wpAnyH_take (i := 19) (oi := _) (v := ?_) rfl (by kernel_rfl) (by kernel_rfl) (by kernel_rfl) (fun _ _ _ h => h) (Or.inl ⟨by rfl, ?_⟩) hHeld ?_
        rotate_left
        · (intro w hSw; (try dsimp only at hSw); go_simp; try with_reducible rfl)
        (try simp only [Act.put, List.getElem_toArray, List.getElem_cons_zero, List.getElem_cons_succ, List.setIfInBounds_toArray, List.set_cons_zero, List.set_cons_succ])
        refine wpAnyH_take (i := 4) (oi := _) (v := ?_) rfl (by kernel_rfl) (by kernel_rfl) (by kernel_rfl) (fun _ _ _ h => h) (Or.inl ⟨by rfl, ?_⟩) hHeld ?_
        rotate_left
        · (intro w hSw; (try dsimp only at hSw); go_simp; try with_reducible rfl)
        (try simp only [Act.put, List.getElem_toArray, List.getElem_cons_zero, List.getElem_cons_succ, List.setIfInBounds_toArray, List.set_cons_zero, List.set_cons_succ])
        refine wpAnyH_take (i := 9) (oi := _) (v := ?_) rfl (by kernel_rfl) (by kernel_rfl) (by kernel_rfl) (fun _ _ _ h => h) (Or.inl ⟨by rfl, ?_⟩) hHeld ?_
        rotate_left
        · (intro w hSw; (try dsimp only at hSw); go_simp; try with_reducible rfl)
        (try simp only [Act.put, List.getElem_toArray, List.getElem_cons_zero, List.getElem_cons_succ, List.setIfInBounds_toArray, List.set_cons_zero, List.set_cons_succ])
        refine wpAnyH_take (i := 14) (oi := _) (v := ?_) rfl (by kernel_rfl) (by kernel_rfl) (by kernel_rfl) (fun _ _ _ h => h) (Or.inl ⟨by rfl, ?_⟩) hHeld ?_
        rotate_left
        · (intro w hSw; (try dsimp only at hSw); go_simp; try with_reducible rfl)
        (try simp only [Act.put, List.getElem_toArray, List.getElem_cons_zero, List.getElem_cons_succ, List.setIfInBounds_toArray, List.set_cons_zero, List.set_cons_succ])
        refine wpAnyH_take (i := 20) (oi := _) (v := ?_) rfl (by kernel_rfl) (by kernel_rfl) (by kernel_rfl) (fun _ _ _ h => h) (Or.inl ⟨by rfl, ?_⟩) hHeld ?_
        rotate_left
        · (intro w hSw; (try dsimp only at hSw); go_simp; try with_reducible rfl)
        (try simp only [Act.put, List.getElem_toArray, List.getElem_cons_zero, List.getElem_cons_succ, List.setIfInBounds_toArray, List.set_cons_zero, List.set_cons_succ])
        refine wpAnyH_take (i := 2) (oi := _) (v := _) rfl (by kernel_rfl) (by kernel_rfl) (by kernel_rfl) (fun _ _ _ h => h) (yieldsIf_load_mid (by rfl) _ _ rfl _ _ rfl cs _ (fun _ h => h.1) hu rfl hi) hHeld ?_
        (try simp only [Act.put, List.getElem_toArray, List.getElem_cons_zero, List.getElem_cons_succ, List.setIfInBounds_toArray, List.set_cons_zero, List.set_cons_succ])
        refine wpAnyH_take (i := 6) (oi := _) (v := _) rfl (by kernel_rfl) (by kernel_rfl) (by kernel_rfl) (fun _ _ _ h => h) (yieldsIf_load_mid (by rfl) _ _ rfl _ _ rfl cs _ (fun _ h => h.1) hu rfl hi) hHeld ?_
        (try simp only [Act.put, List.getElem_toArray, List.getElem_cons_zero, List.getElem_cons_succ, List.setIfInBounds_toArray, List.set_cons_zero, List.set_cons_succ])
        refine wpAnyH_take (i := 11) (oi := _) (v := _) rfl (by kernel_rfl) (by kernel_rfl) (by kernel_rfl) (fun _ _ _ h => h) (yieldsIf_load_mid (by rfl) _ _ rfl _ _ rfl cs _ (fun _ h => h.1) hu rfl hi) hHeld ?_
        (try simp only [Act.put, List.getElem_toArray, List.getElem_cons_zero, List.getElem_cons_succ, List.setIfInBounds_toArray, List.set_cons_zero, List.set_cons_succ])
        refine wpAnyH_take (i := 17) (oi := _) (v := _) rfl (by kernel_rfl) (by kernel_rfl) (by kernel_rfl) (fun _ _ _ h => h) (yieldsIf_load_mid (by rfl) _ _ rfl _ _ rfl cs _ (fun _ h => h.1) hu rfl hi) hHeld ?_
        (try simp only [Act.put, List.getElem_toArray, List.getElem_cons_zero, List.getElem_cons_succ, List.setIfInBounds_toArray, List.set_cons_zero, List.set_cons_succ])
        refine wpAnyH_ready (rs := [5]) (by kernel_rfl) (by simp) ?_
        refine AllReadyH.cons rfl (fun K hK => ?_) AllReadyH.nil
        go_simp
        refine (L.out ⟨(mixB a b c j).toArray⟩ HM.out _).mono ?_
        rintro e x2 ⟨rfl, b⟩
        have r := row_below hHeld hn b
        have C2 := hide (C1.out.trans (b.mono C1.out.size))
        clear b
        go_wp2_with fail
        refine hK.out _ _ ?_ (fun hNext => ?_)
        · exact r
        clear hK K hHeld
        have hHeld := hNext
        clear hNext
        (try simp only [Act.put, List.getElem_toArray, List.getElem_cons_zero, List.getElem_cons_succ, List.setIfInBounds_toArray, List.set_cons_zero, List.set_cons_succ])
        clear r
        refine wpAnyH_ready (rs := [10]) (by kernel_rfl) (by simp) ?_
        refine AllReadyH.cons rfl (fun K hK => ?_) AllReadyH.nil
        go_simp
        refine (L.out (a.extract 0 j) HE.out.1 _).mono ?_
        rintro e x3 ⟨rfl, b⟩
        have r := row_below hHeld hn b
        have C3 := hide (C2.out.trans (b.mono C2.out.size))
        clear b
        go_wp2_with fail
        refine hK.out _ _ ?_ (fun hNext => ?_)
        · exact r
        clear hK K hHeld
        have hHeld := hNext
        clear hNext
        (try simp only [Act.put, List.getElem_toArray, List.getElem_cons_zero, List.getElem_cons_succ, List.setIfInBounds_toArray, List.set_cons_zero, List.set_cons_succ])
        clear r
        refine wpAnyH_ready (rs := [15]) (by kernel_rfl) (by simp) ?_
        refine AllReadyH.cons rfl (fun K hK => ?_) AllReadyH.nil
        go_simp
        refine (L.out (b.extract 0 j) HE.out.2.1 _).mono ?_
        rintro e x4 ⟨rfl, b⟩
        have r := row_below hHeld hn b
        have C4 := hide (C3.out.trans (b.mono C3.out.size))
        clear b
        go_wp2_with fail
        refine hK.out _ _ ?_ (fun hNext => ?_)
        · exact r
        clear hK K hHeld
        have hHeld := hNext
        clear hNext
        (try simp only [Act.put, List.getElem_toArray, List.getElem_cons_zero, List.getElem_cons_succ, List.setIfInBounds_toArray, List.set_cons_zero, List.set_cons_succ])
        clear r
        refine wpAnyH_take (i := 16) (oi := _) (v := ?_) rfl (by kernel_rfl) (by kernel_rfl) (by kernel_rfl) (fun _ _ _ h => h) (Or.inl ⟨by rfl, ?_⟩) hHeld ?_
        rotate_left
        · (intro w hSw; (try dsimp only at hSw); go_simp; try with_reducible rfl)
        (try simp only [Act.put, List.getElem_toArray, List.getElem_cons_zero, List.getElem_cons_succ, List.setIfInBounds_toArray, List.set_cons_zero, List.set_cons_succ])
        refine wpAnyH_ready (rs := [21]) (by kernel_rfl) (by simp) ?_
        refine AllReadyH.cons rfl (fun K hK => ?_) AllReadyH.nil
        go_simp
        refine (L.out (c.extract 0 j) HE.out.2.2 _).mono ?_
        rintro e x5 ⟨rfl, b⟩
        have r := row_below hHeld hn b
        have C5 := hide (C4.out.trans (b.mono C4.out.size))
        clear b
        go_wp2_with fail
        refine hK.out _ _ ?_ (fun hNext => ?_)
        · exact r
        clear hK K hHeld
        have hHeld := hNext
        clear hNext
        (try simp only [Act.put, List.getElem_toArray, List.getElem_cons_zero, List.getElem_cons_succ, List.setIfInBounds_toArray, List.set_cons_zero, List.set_cons_succ])
        clear r
        refine wpAnyH_take (i := 22) (oi := _) (v := ?_) rfl (by kernel_rfl) (by kernel_rfl) (by kernel_rfl) (fun _ _ _ h => h) (Or.inl ⟨by rfl, ?_⟩) hHeld ?_
        rotate_left
        · (intro w hSw; (try dsimp only at hSw); go_simp; try with_reducible rfl)
        (try simp only [Act.put, List.getElem_toArray, List.getElem_cons_zero, List.getElem_cons_succ, List.setIfInBounds_toArray, List.set_cons_zero, List.set_cons_succ])
        refine wpAnyH_take (i := 23) (oi := _) (v := ?_) rfl (by kernel_rfl) (by kernel_rfl) (by kernel_rfl) (fun _ _ _ h => h) (Or.inl ⟨by rfl, ?_⟩) hHeld ?_
        rotate_left
        · (intro w hSw; (try dsimp only at hSw); go_simp; try with_reducible rfl)
        (try simp only [Act.put, List.getElem_toArray, List.getElem_cons_zero, List.getElem_cons_succ, List.setIfInBounds_toArray, List.set_cons_zero, List.set_cons_succ])
        refine wpAnyH_take (i := 24) (oi := _) (v := ?_) rfl (by kernel_rfl) (by kernel_rfl) (by kernel_rfl) (fun _ _ _ h => h) (Or.inl ⟨by rfl, ?_⟩) hHeld ?_
        rotate_left
        · (intro w hSw; (try dsimp only at hSw); go_simp; try with_reducible rfl)
        (try simp only [Act.put, List.getElem_toArray, List.getElem_cons_zero, List.getElem_cons_succ, List.setIfInBounds_toArray, List.set_cons_zero, List.set_cons_succ])
        refine wpAnyH_take (i := 25) (oi := _) (v := ?_) rfl (by kernel_rfl) (by kernel_rfl) (by kernel_rfl) (fun _ _ _ h => h) (Or.inl ⟨by rfl, ?_⟩) hHeld ?_
        rotate_left
        · (intro w hSw; (try dsimp only at hSw); go_simp; try with_reducible rfl)
        (try simp only [Act.put, List.getElem_toArray, List.getElem_cons_zero, List.getElem_cons_succ, List.setIfInBounds_toArray, List.set_cons_zero, List.set_cons_succ])
        refine wpAnyH_done (by kernel_rfl) ?_ _
        refine NoPanic.normal ?_
        go_wp2
        go_ret
        exact ⟨rfl, C5.out⟩

theorem mixes_law (w : World) (a0 : ByteArray) (_w0 : a0.size ≤ maxLen) (a1 : ByteArray) (_w1 : a1.size ≤ maxLen) (a2 : ByteArray) (_w2 : a2.size ≤ maxLen) :
    Calls Try.prog 5 #[.string a0, .string a1, .string a2] w fun e w' => e = .returned (.bool true) ∧ Below w.heap.size w w' := mixes_walk a0 a1 a2 w

end Go.Proofs.Ytjjkapoicdmigaa
