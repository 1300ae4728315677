/- Whatever a text, a place and a mask: bytes of which up to four side by side are others have another sum: 'CrcTurns' answers true. No condition. -/
import Derived.Test.YtjjkapoicdmigaaCTurn
import Derived.Test.YtjjkapoicdmigaaCMixes
import Derived.OpenShut
namespace Go.Proofs.Ytjjkapoicdmigaa
open Go.RowKit Go.Lib

theorem zero_byte (x : UInt8) : ((x.toNat : Int) != 0) = (x != 0) := by
  by_cases h : x = 0
  · subst h; rfl
  · have h2 : x.toNat ≠ 0 := fun e => h (UInt8.toNat_inj.1 (by simpa using e))
    have h3 : (x != 0) = true := by simpa using h
    have h4 : ((x.toNat : Int) != 0) = true := by rw [bne_iff_ne]; omega
    rw [h3, h4]

set_option maxRecDepth 20000 in
set_option maxHeartbeats 4000000 in
theorem turns_walk (s : ByteArray) (pl : Nat) (hpl : pl < 65536) (n : Nat) (hn : n < 4294967296) (w : World) :
    Calls Try.prog 4 #[.string s, .int .u16 pl, .int .u32 n] w fun e w' => e = .returned (.bool true) ∧ Below w.heap.size w w' := by
  by_cases hbig : s.size = 0 ∨ 3000 < s.size
  · have hz : (s.size : Int) = 0 ∨ (3000 : Int) < s.size := by omega
    clear hbig hpl hn
    rcases hz with hz | hz
    · go_enter Try.func4, Try.ntmps4
      go_wp2_with fail
      refine (cawake_any _).mono ?_
      rintro e w1 ⟨rfl, b1⟩
      have B1 := hide b1
      clear b1
      go_wp2
      go_ret
      exact ⟨rfl, B1.out⟩
    · have hd : ((s.size : Int) == 0) = false := beq_eq_false_iff_ne.2 (by omega)
      go_enter Try.func4, Try.ntmps4
      go_wp2_with fail
      refine (cawake_any _).mono ?_
      rintro e w1 ⟨rfl, b1⟩
      have B1 := hide b1
      clear b1
      go_wp2
      go_ret
      exact ⟨rfl, B1.out⟩
  · have hd : ((s.size : Int) == 0) = false := beq_eq_false_iff_ne.2 (by omega)
    have hz : ¬ (3000 : Int) < s.size := by omega
    have HS := hide (show 0 < s.size ∧ s.size ≤ 3000 by omega)
    have hcv := Go.Lib.run_convert_string_bytes (P := Try.prog) w 9 30 5 s Try.underlying9 Try.underlying30 Try.underlying5
    have R0 := hide (BRow.made w s)
    have B0 := hide (below_bytes w s)
    generalize bytesWorld w 5 s = wb at *
    generalize grownCap w s.size 0 5 = cap at *
    have hne : (s = ByteArray.empty) = False := eq_false (by intro h; rw [h] at HS; have := HS.out.1; exact absurd this (by decide))
    have hpw : wrap64 (pl : Int) = pl := by unfold wrap64; omega
    obtain ⟨k, hkl, hk⟩ : ∃ k : Nat, k < s.size ∧ (pl : Int) % (s.size : Int) = (k : Int) := ⟨pl % s.size, Nat.mod_lt _ HS.out.1, by omega⟩
    have HK := hide hkl
    have HN := hide hn
    rw [← tl_zero s.data.toList k n] at R0
    clear hbig hpl hn hkl
    go_enter Try.func4, Try.ntmps4
    go_wp2
    clear hcv hk hpw
    go_loopw [9, 10] (fun t i wr => ∃ j : Nat, j ≤ 4 ∧ k + j ≤ s.size ∧ i = .int .i64 j ∧ t = .bool (anyX n j) ∧ Hid (BRow wr w.heap.size 5 (tl s.data.toList k n j)) ∧ Hid (Below w.heap.size w wr)) (fun _ i _ => 4 - (intOf i).toNat)
    case atStart => exact ⟨0, by omega, by have := HK.out; omega, rfl, rfl, R0, B0⟩
    case round =>
      obtain ⟨j, hj, hkj, rfl, rfl, HR, BB⟩ := hrel
      have HZ := HS.out
      have hw : wrap64 ((k : Int) + j) = (k : Int) + j := by unfold wrap64; omega
      by_cases hlt : j < 4 ∧ k + j < s.size
      · have h4 : (j : Int) < 4 := by omega
        have hlz : (k : Int) + j < s.size := by omega
        obtain ⟨_c, _f⟩ := HR.out.get (k + j) _ (tl_at s.data.toList k n j hlt.2)
        have hx : (n : Int) / 2 ^ (8 * j) % 256 = ((byX n j).toNat : Int) := by
          rw [byX_toNat, Int.natCast_emod, Int.natCast_ediv, Int.natCast_pow]
          rfl
        have HT := hide (tl_set s.data.toList k n j hlt.2)
        have HA := hide (anyX_succ n j)
        generalize s.data.toList.getD (k + j) 0 = y at *
        generalize byX n j = x at *
        have hxy : bits .xor .u8 (y.toNat : Int) (x.toNat : Int) = ((y ^^^ x).toNat : Int) := by rw [u8_xor_nat _ _ y.toNat_lt x.toNat_lt, UInt8.toNat_xor]
        have HB := hide (HR.out.set (k + j) (y ^^^ x))
        rw [HT.out] at HB
        have hjlt := hlt.1
        have hk1 : k + (j + 1) ≤ s.size := by omega
        have HX := hide (zero_byte x)
        clear HZ hj hkj hlt
        by_cases ht : anyX n j = true
        · rw [ht] at HA ⊢
          clear ht
          go_wp2
          go_roundw
          case rel => exact ⟨j + 1, hjlt, hk1, by go_num, by rw [HA.out, Bool.true_or], HB, hide (BB.out.setCell (p := ⟨w.heap.size, k + j, none⟩) (Nat.le_refl _) _)⟩
          case measure => exact meas_one j 4 hjlt
        · rw [Bool.not_eq_true] at ht
          rw [ht] at HA ⊢
          clear ht
          go_wp2
          go_roundw
          case rel => exact ⟨j + 1, hjlt, hk1, by go_num, by rw [HA.out, Bool.false_or, HX.out], HB, hide (BB.out.setCell (p := ⟨w.heap.size, k + j, none⟩) (Nat.le_refl _) _)⟩
          case measure => exact meas_one j 4 hjlt
      · have HTT := hide (turn_told s.data.toList k n j (by rw [dlen]; exact hkj) hj)
        have HTL := hide (tl_length s.data.toList k n j)
        rw [dlen] at HTL
        obtain ⟨C, z, hC, hC2, hC3, hC4⟩ := HR.out
        have hcv : ∀ w' : World, w'.heap[w.heap.size]? = some (.cells C 5 z) → (convert 30 9 (.slice (some ⟨w.heap.size, 0, none⟩) s.size cap)).run Try.prog w' = .ok (.string ⟨(tl s.data.toList k n j).toArray⟩) w' := by
          intro w' h
          have h2 := str_rowC (out := tl s.data.toList k n j) (cap := cap) h hC2
          rw [HTL.out] at h2
          exact h2
        have HC := hide hC
        clear hC hC2 hC3 hC4
        have hv := Try.zeroTab
        have HQ := hide tab_store
        generalize rowT 0 = R at *
        have hfin : (((sumN ent (tl s.data.toList k n j) : Nat) : Int) != ((sumN ent s.data.toList : Nat) : Int)) = anyX n j := by
          rw [Bool.eq_iff_iff, bne_iff_ne, ← HTT.out]
          omega
        have hend : ¬ (j : Int) < 4 ∨ ((j : Int) < 4 ∧ ¬ (k : Int) + j < s.size) := by omega
        have L := hide (fun s hs w => sum_any ent ent_lt s hs w)
        have HZ1 := hide (show (ByteArray.mk (tl s.data.toList k n j).toArray).size < 4611686018427387904 by show (tl s.data.toList k n j).toArray.size < _; rw [List.size_toArray, HTL.out]; omega)
        have HZ2 := hide (show s.size < 4611686018427387904 by omega)
        generalize tl s.data.toList k n j = tt at *
        generalize hbx : anyX n j = bx at *
        clear hbx HTT HTL HR hlt HZ hj hkj R0 B0 HK HN hd HS hne
        rcases hend with hA | ⟨hA, hB⟩
        all_goals
          go_wp2_with fail
          refine (table_any _).mono ?_
          rintro e w1 ⟨rfl, b1⟩
          have hn := tabL_length ent
          have hst := HQ.out w1 (tabL ent) hn (tabL_one ent)
          have B1 := hide ((BB.out.trans (b1.mono BB.out.size)).alloc (Nat.le_trans BB.out.size b1.size) (.cells (tabL ent).toArray 23))
          have hrA := range_made w1 (tabL ent) 23
          have hrR : (w1.alloc (.cells (tabL ent).toArray 23)).heap[w.heap.size]? = some (.cells C 5 z) := by
            have h0 : w.heap.size < wr.heap.size := (Array.getElem?_eq_some_iff.1 HC.out).1
            rw [Below.heap_alloc _ _ _ (Nat.lt_of_lt_of_le h0 b1.size), b1.block _ h0]
            exact HC.out
          have hu := Try.underlying23
          have hi : (Try.prog.info? 23).map (·.size) = some (tabL ent).length := by rw [hn]; exact Try.sizeTab
          clear b1
          generalize tabL ent = cs at *
          go_wp2
          refine wp_region_noPanic ?_
          refine wp_region_held_drew (S := (fun w' => w'.rangeAt w1.heap.size 0 cs ∧ w'.heap[w.heap.size]? = some (.cells C 5 z))) (by kernel_rfl) ?_ (fun hHeld => ?_)
          · exact ⟨(World.rangeAt_drew _ _ _ _).2 hrA, hrR⟩
          refine wpAnyH_ready (rs := [0]) (by kernel_rfl) (by simp) ?_
          refine AllReadyH.cons rfl (fun K hK => ?_) AllReadyH.nil
          go_simp
          refine (cawake_any _).mono ?_
          rintro e x1 ⟨rfl, b⟩
          have r := row_below hHeld hn b
          have C1 := hide (B1.out.drew.trans (b.mono B1.out.drew.size))
          clear b
          go_wp2_with fail
          refine hK.out _ _ ?_ (fun hNext => ?_)
          · exact r
          clear hK K hHeld
          have hHeld := hNext
          clear hNext
          (try simp only [Act.put, List.getElem_toArray, List.getElem_cons_zero, List.getElem_cons_succ, List.setIfInBounds_toArray, List.set_cons_zero, List.set_cons_succ])
          clear r
          refine wpAnyH_take (i := 1) (oi := _) (v := ?_) rfl (by kernel_rfl) (by kernel_rfl) (by kernel_rfl) (fun _ _ _ h => h) (Or.inl ⟨by rfl, ?_⟩) hHeld ?_
          rotate_left
          · (intro w hSw; (try dsimp only at hSw); go_simp; try with_reducible rfl)
          (try simp only [Act.put, List.getElem_toArray, List.getElem_cons_zero, List.getElem_cons_succ, List.setIfInBounds_toArray, List.set_cons_zero, List.set_cons_succ])
          refine wpAnyH_take (i := 3) (oi := _) (v := ?_) rfl (by kernel_rfl) (by kernel_rfl) (by kernel_rfl) (fun _ _ _ h => h) (Or.inl ⟨by rfl, ?_⟩) hHeld ?_
          rotate_left
          · (intro w hSw; (try dsimp only at hSw); go_simp; try with_reducible rfl)
          (try simp only [Act.put, List.getElem_toArray, List.getElem_cons_zero, List.getElem_cons_succ, List.setIfInBounds_toArray, List.set_cons_zero, List.set_cons_succ])
          refine wpAnyH_take (i := 7) (oi := _) (v := ?_) rfl (by kernel_rfl) (by kernel_rfl) (by kernel_rfl) (fun _ _ _ h => h) (Or.inl ⟨by rfl, ?_⟩) hHeld ?_
          rotate_left
          · (intro w hSw; (try dsimp only at hSw); go_simp; try with_reducible rfl)
          (try simp only [Act.put, List.getElem_toArray, List.getElem_cons_zero, List.getElem_cons_succ, List.setIfInBounds_toArray, List.set_cons_zero, List.set_cons_succ])
          refine wpAnyH_take (i := 10) (oi := _) (v := ?_) rfl (by kernel_rfl) (by kernel_rfl) (by kernel_rfl) (fun _ _ _ h => h) (Or.inl ⟨by rfl, ?_⟩) hHeld ?_
          rotate_left
          · (intro w hSw; (try dsimp only at hSw); go_simp; try with_reducible rfl)
          (try simp only [Act.put, List.getElem_toArray, List.getElem_cons_zero, List.getElem_cons_succ, List.setIfInBounds_toArray, List.set_cons_zero, List.set_cons_succ])
          refine wpAnyH_take (i := 4) (oi := _) (v := ?_) rfl (by kernel_rfl) (by kernel_rfl) (by kernel_rfl) (fun _ _ _ h => h) (Or.inl ⟨by rfl, ?_⟩) hHeld ?_
          rotate_left
          · (intro w hSw; (try dsimp only at hSw); go_simp; try with_reducible rfl)
          (try simp only [Act.put, List.getElem_toArray, List.getElem_cons_zero, List.getElem_cons_succ, List.setIfInBounds_toArray, List.set_cons_zero, List.set_cons_succ])
          refine wpAnyH_take (i := 2) (oi := _) (v := _) rfl (by kernel_rfl) (by kernel_rfl) (by kernel_rfl) (fun _ _ _ h => h) (yieldsIf_load_mid (by rfl) _ _ rfl _ _ rfl cs _ (fun _ h => h.1) hu rfl hi) hHeld ?_
          (try simp only [Act.put, List.getElem_toArray, List.getElem_cons_zero, List.getElem_cons_succ, List.setIfInBounds_toArray, List.set_cons_zero, List.set_cons_succ])
          refine wpAnyH_take (i := 6) (oi := _) (v := _) rfl (by kernel_rfl) (by kernel_rfl) (by kernel_rfl) (fun _ _ _ h => h) (yieldsIf_load_mid (by rfl) _ _ rfl _ _ rfl cs _ (fun _ h => h.1) hu rfl hi) hHeld ?_
          (try simp only [Act.put, List.getElem_toArray, List.getElem_cons_zero, List.getElem_cons_succ, List.setIfInBounds_toArray, List.set_cons_zero, List.set_cons_succ])
          refine wpAnyH_ready (rs := [5]) (by kernel_rfl) (by simp) ?_
          refine AllReadyH.cons rfl (fun K hK => ?_) AllReadyH.nil
          go_simp
          refine (L.out ⟨tt.toArray⟩ HZ1.out _).mono ?_
          rintro e x2 ⟨rfl, b⟩
          have r := row_below hHeld hn b
          have C2 := hide (C1.out.trans (b.mono C1.out.size))
          clear b
          go_wp2_with fail
          refine hK.out _ _ ?_ (fun hNext => ?_)
          · exact r
          clear hK K hHeld
          have hHeld := hNext
          clear hNext
          (try simp only [Act.put, List.getElem_toArray, List.getElem_cons_zero, List.getElem_cons_succ, List.setIfInBounds_toArray, List.set_cons_zero, List.set_cons_succ])
          clear r
          refine wpAnyH_ready (rs := [8]) (by kernel_rfl) (by simp) ?_
          refine AllReadyH.cons rfl (fun K hK => ?_) AllReadyH.nil
          go_simp
          refine (L.out s HZ2.out _).mono ?_
          rintro e x3 ⟨rfl, b⟩
          have r := row_below hHeld hn b
          have C3 := hide (C2.out.trans (b.mono C2.out.size))
          clear b
          go_wp2_with fail
          refine hK.out _ _ ?_ (fun hNext => ?_)
          · exact r
          clear hK K hHeld
          have hHeld := hNext
          clear hNext
          (try simp only [Act.put, List.getElem_toArray, List.getElem_cons_zero, List.getElem_cons_succ, List.setIfInBounds_toArray, List.set_cons_zero, List.set_cons_succ])
          clear r
          refine wpAnyH_take (i := 9) (oi := _) (v := ?_) rfl (by kernel_rfl) (by kernel_rfl) (by kernel_rfl) (fun _ _ _ h => h) (Or.inl ⟨by rfl, ?_⟩) hHeld ?_
          rotate_left
          · (intro w hSw; (try dsimp only at hSw); go_simp; try with_reducible rfl)
          (try simp only [Act.put, List.getElem_toArray, List.getElem_cons_zero, List.getElem_cons_succ, List.setIfInBounds_toArray, List.set_cons_zero, List.set_cons_succ])
          refine wpAnyH_take (i := 11) (oi := _) (v := ?_) rfl (by kernel_rfl) (by kernel_rfl) (by kernel_rfl) (fun _ _ _ h => h) (Or.inl ⟨by rfl, ?_⟩) hHeld ?_
          rotate_left
          · (intro w hSw; (try dsimp only at hSw); go_simp; try with_reducible rfl)
          (try simp only [Act.put, List.getElem_toArray, List.getElem_cons_zero, List.getElem_cons_succ, List.setIfInBounds_toArray, List.set_cons_zero, List.set_cons_succ])
          refine wpAnyH_take (i := 12) (oi := _) (v := ?_) rfl (by kernel_rfl) (by kernel_rfl) (by kernel_rfl) (fun _ _ _ h => h) (Or.inl ⟨by rfl, ?_⟩) hHeld ?_
          rotate_left
          · (intro w hSw; (try dsimp only at hSw); go_simp; try with_reducible rfl)
          (try simp only [Act.put, List.getElem_toArray, List.getElem_cons_zero, List.getElem_cons_succ, List.setIfInBounds_toArray, List.set_cons_zero, List.set_cons_succ])
          refine wpAnyH_take (i := 13) (oi := _) (v := ?_) rfl (by kernel_rfl) (by kernel_rfl) (by kernel_rfl) (fun _ _ _ h => h) (Or.inl ⟨by rfl, ?_⟩) hHeld ?_
          rotate_left
          · (intro w hSw; (try dsimp only at hSw); go_simp; try with_reducible rfl)
          (try simp only [Act.put, List.getElem_toArray, List.getElem_cons_zero, List.getElem_cons_succ, List.setIfInBounds_toArray, List.set_cons_zero, List.set_cons_succ])
          refine wpAnyH_done (by kernel_rfl) ?_ _
          refine NoPanic.normal ?_
          go_wp2
          go_ret
          exact ⟨rfl, C3.out⟩

theorem turns_law (w : World) (a0 : ByteArray) (_w0 : a0.size ≤ maxLen) (a1 : Int) (w1 : (Lit.int .u16 a1).wf = true) (a2 : Int) (w2 : (Lit.int .u32 a2).wf = true) :
    Calls Try.prog 4 #[.string a0, .int .u16 a1, .int .u32 a2] w fun e w' => e = .returned (.bool true) ∧ Below w.heap.size w w' := by
  have h1 := bounds_u16 w1
  have h2 := bounds_u32 w2
  obtain ⟨p, rfl⟩ := Int.eq_ofNat_of_zero_le h1.1
  obtain ⟨n, rfl⟩ := Int.eq_ofNat_of_zero_le h2.1
  exact turns_walk a0 p (by omega) n (by omega) w

end Go.Proofs.Ytjjkapoicdmigaa
