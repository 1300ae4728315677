/- Package canon: Build and Read. -/
import Derived.Test.YteillcfdmjmaeaaKFill
import Derived.Test.YteillcfdmjmaeaaKSame
namespace Go.Proofs.Yteillcfdmjmaeaa
open Go.RowKit Go.Lib

theorem build_form {W w' : World} {l : List Int} {r : Value} (h : BuildRes W l r w') : ∃ f v e, r = .tuple #[codeV f v, .int .i64 e] ∧ v.oneCell' = true := by
  rcases h with ⟨_, e⟩ | ⟨_, v, e, ho⟩
  · exact ⟨_, _, _, e, rfl⟩
  · exact ⟨_, _, _, e, own_oneCell ho⟩

theorem Try.builtCode (f : Nat → Nat) (a : Option Addr) (n c : Nat) : Try.prog.built 29 [(0, .agg (talCs f).toArray), (1, .slice a n c)] = some (codeCs f (.slice a n c)).toArray := by kernel_rfl

/-- A struct that is built of two parts. -/
theorem wpList_built2 {P : Program} {ops : Array Oper} {rest : List Oper} {o : Oper} {a : Act} {w : World} {Q : Exit → Act → World → Prop} (hg : o.guard = none) (t : TypeId) (i0 i1 : Nat) (x0 x1 : Operand) (ho : o.op = .build t #[(i0, x0), (i1, x1)])
    (v0 v1 : Value) (h0 : a.eval x0 = v0) (h1 : a.eval x1 = v1) (cells : Array Value) (hc : P.built t [(i0, v0), (i1, v1)] = some cells)
    (h : wpList P ops Q rest (a.put o.dst (.agg cells)) w) : wpList P ops Q (o :: rest) a w := by
  have hp : (#[(i0, x0), (i1, x1)].map fun (i, x) => (i, a.eval x)).toList = [(i0, v0), (i1, v1)] := by simp [h0, h1]
  exact wpList_build hg t _ ho (by rw [hp, hc]; rfl) (by rw [hp, hc]; exact h)

set_option maxRecDepth 20000 in
set_option maxHeartbeats 4000000 in
theorem build_any (l : List Int) (a : Option Addr) (cap : Nat) (W : World) (harg : ArgZ W a l) (hl : l.length ≤ 1000) :
    Calls Try.prog 12 #[.slice a l.length cap] W fun e w' => ∃ r, e = .returned r ∧ BuildRes W l r w' ∧ Below W.heap.size W w' := by
  have hvc := Try.zeroCode
  have hZc1 := codeCs_one (fun _ => 0) (.slice none 0 0) rfl
  have hZcn := codeCs_length (fun _ => 0) (.slice none 0 0)
  obtain ⟨Zc, hZc⟩ : ∃ Zc, codeCs (fun _ => 0) (.slice none 0 0) = Zc := ⟨_, rfl⟩
  have HZC := hide hZc
  rw [hZc] at hZc1 hZcn
  simp only [hZc] at hvc
  clear hZc
  have b0 : Below W.heap.size W (W.alloc (.cells Zc.toArray 29)) := (Below.refl _ W).alloc (Nat.le_refl _) _
  have HC := hide (counted_any l a cap (W.alloc (.cells Zc.toArray 29)) (harg.below b0) hl)
  have HB0 := hide b0
  have HRES := hide (show (W.alloc (.cells Zc.toArray 29)).heap[W.heap.size]? = some (.cells Zc.toArray 29 (0, 0)) from heap_alloc_at _ _ rfl)
  have HLT0 := hide (show W.heap.size < (W.alloc (.cells Zc.toArray 29)).heap.size by show _ < (W.heap.push _).size; simp)
  have hv := Try.zeroTal
  have hZn := talCs_length (fun _ => 0)
  by_cases hg : goodB l = true
  · rw [cntF_good hg, chkI_good hg] at HC
    have HG := hide hg
    obtain ⟨hE, hM⟩ := (goodB_iff l).1 hg
    have HARG := hide (harg.nat15 hE)
    obtain ⟨ls, hls⟩ : ∃ ls, l.map Int.toNat = ls := ⟨_, rfl⟩
    rw [hls] at HARG hM HC
    have HLS := hide hls
    have HLL := hide (show ls.length = l.length by rw [← hls, List.length_map])
    have HM := hide hM
    obtain ⟨n, hn⟩ : ∃ n, l.length = n := ⟨_, rfl⟩
    have HN := hide hn
    rw [hn] at HLL HC hl ⊢
    have hll : ls.length ≤ 1000 := by rw [HLL.out]; exact hl
    have HNUM := hide (places_any ls hM hll)
    have HTOT := hide (total_any (cn ls) (cn_le1000 ls hll))
    obtain ⟨m, hm⟩ : ∃ m, (symTo ls 16).length = m := ⟨_, rfl⟩
    have hms : sumTo (cn ls) 16 = m := by rw [sumTo_at, ← symTo_length]; exact hm
    have hm9 : m ≤ 1000 := by rw [← hms, sumTo_at]; exact Nat.le_trans (cn_sum ls 16) hll
    rw [hms] at HTOT
    have HMM := hide hm
    have hcn := talCs_length (cn ls)
    have hfn := talCs_length (atC ls)
    have HS1 := hide (fun w => tal_store w (talCs (fun _ => 0)) (talCs (cn ls)) hZn hcn (talCs_one _))
    have HS2 := hide (fun w => tal_store w (talCs (fun _ => 0)) (talCs (atC ls)) hZn hfn (talCs_one _))
    have HMD1 := hide (fun w => tal_made w (cn ls))
    have HMD2 := hide (fun w => tal_made w (atC ls))
    have HBLD := hide (Try.builtCode (cn ls))
    unfold TalAt at HMD2 HMD1
    unfold talV at HC HNUM HTOT
    obtain ⟨cs, hcs⟩ : ∃ cs, talCs (cn ls) = cs := ⟨_, rfl⟩
    rw [hcs] at HNUM HTOT HC hcn HS1 HMD1 HBLD
    have HCS := hide hcs
    obtain ⟨fs, hfs⟩ : ∃ fs, talCs (atC ls) = fs := ⟨_, rfl⟩
    have HFS := hide hfs
    rw [hfs] at HNUM hfn HS2 HMD2
    clear hfs hcs hm hms
    generalize talCs (fun _ => 0) = Z at *
    have HSZ := hide (show (Try.prog.info? 56).map (·.size) = some cs.length by rw [hcn]; exact Try.sizeTal)
    have hmk := run_make_row' (P := Try.prog) 22 3 (.int .i64 0) 8 Try.underlying22 Try.infoInt rfl .i64 .i64 m (by omega) (by omega)
    clear hg hE hM hls harg hn b0
    go_enter Try.func12, Try.ntmps12
    go_wp2_with fail
    generalize W.alloc (.cells Zc.toArray 29) = wz at *
    refine HC.out.mono ?_
    rintro e w1 ⟨rfl, b1⟩
    have hst1 := HS1.out w1
    have HM1 := hide (HMD1.out w1)
    have HB1 := hide (HB0.out.trans (b1.mono HB0.out.size))
    have HRES1 := hide (show w1.heap[W.heap.size]? = some (.cells Zc.toArray 29 (0, 0)) by rw [b1.block _ HLT0.out]; exact HRES.out)
    have HL1 := hide (show W.heap.size < w1.heap.size from Nat.lt_of_lt_of_le HLT0.out b1.size)
    have HR1 := hide (show (w1.alloc (.cells cs.toArray 56)).rangeAt w1.heap.size 0 cs by have h := TalAt.range (f := cn ls) (by unfold TalAt; rw [HCS.out]; exact HM1.out); rw [HCS.out] at h; exact h)
    clear b1
    go_wp2_with (first
      | (refine wpList_load_mid rfl 56 (Operand.tmp 4) rfl w1.heap.size 0 rfl cs _ HR1.out Try.underlying56 rfl HSZ.out ?_))
    clear hst1
    refine (HNUM.out _).mono ?_
    rintro e w3 ⟨rfl, b3⟩
    have hs2 : (w1.alloc (.cells cs.toArray 56)).heap.size = w1.heap.size + 1 := by show (w1.heap.push _).size = _; simp
    have HM3 := hide (show w3.heap[w1.heap.size]? = some (.cells cs.toArray 56 (0, 0)) by rw [b3.block _ (by omega)]; exact HM1.out)
    have HRES3 := hide (show w3.heap[W.heap.size]? = some (.cells Zc.toArray 29 (0, 0)) by
      have h1 := HL1.out
      rw [b3.block _ (by omega), heap_alloc_old _ _ _ h1]
      exact HRES1.out)
    have HB3 := hide (show Below W.heap.size W w3 from (HB1.out.alloc HB1.out.size _).trans (b3.mono (by have := HB1.out.size; omega)))
    have HL3 := hide (show w1.heap.size < w3.heap.size by have := b3.size; omega)
    clear b3 hs2 HR1 HM1
    generalize w1.heap.size = PC at *
    have hst2 := HS2.out w3
    have HM4 := hide (HMD2.out w3)
    have HB4 := hide (HB3.out.alloc HB3.out.size (.cells fs.toArray 56))
    have HR4 := hide (show (w3.alloc (.cells fs.toArray 56)).rangeAt PC 0 cs by
      have h := TalAt.range (w := w3.alloc (.cells fs.toArray 56)) (P := PC) (f := cn ls) (TalAt.alloc (by unfold TalAt; rw [HCS.out]; exact HM3.out) _)
      rw [HCS.out] at h
      exact h)
    go_wp2_with (first
      | (refine wpList_load_mid rfl 56 (Operand.tmp 4) rfl PC 0 rfl cs _ HR4.out Try.underlying56 rfl HSZ.out ?_))
    clear hst2
    refine (HTOT.out _).mono ?_
    rintro e w5 ⟨rfl, b5⟩
    have hs4 : (w3.alloc (.cells fs.toArray 56)).heap.size = w3.heap.size + 1 := by show (w3.heap.push _).size = _; simp
    have HL0 := hide (show FillL (w5.alloc (.cells (madeCells #[.int .i64 0] m) 3)) W w3 w3.heap.size w5.heap.size m (nxtF (atC ls) ls 0) (symW ls 0) by
      have h5 := b5.size
      have bb : Below w3.heap.size w3 w5 := ((Below.refl _ w3).alloc (Nat.le_refl _) _).trans (b5.mono (by omega))
      refine ⟨?_, ?_, bb.alloc (by omega) _, HB3.out, HB3.out.size, Nat.le_refl _, by omega⟩
      · have h := HM4.out
        rw [← HFS.out] at h b5
        exact ((TalAt.below (f := atC ls) h b5 (by rw [HFS.out]; omega)).alloc _).congr (fun i _ => (nxtF_begin (atC ls) ls i).symm)
      · have h := own_made0 w5 m (by omega)
        rw [symW_begin, HMM.out]
        exact ownsRow_base h (by have := HB3.out.size; omega))
    have HL0B := hide (show PC < w3.heap.size from HL3.out)
    clear b5 hs4 HM4 HR4
    go_wp2
    clear hmk
    generalize w5.alloc (.cells (madeCells #[.int .i64 0] m) 3) = w6 at *
    generalize w5.heap.size = O at *
    obtain ⟨PN, hPN⟩ : ∃ PN, w3.heap.size = PN := ⟨_, rfl⟩
    (try simp only [hPN] at HL0)
    (try simp only [hPN] at HL0B)
    (try simp only [hPN])
    have HPN := hide hPN
    clear hPN
    go_loopw [26] (fun iv wr => ∃ j : Nat, j ≤ n ∧ iv = .int .i64 (j : Nat) ∧ Hid (FillL wr W w3 PN O m (nxtF (atC ls) ls j) (symW ls j))) (fun iv _ => n - (intOf iv).toNat)
    case atStart => exact ⟨0, Nat.zero_le _, rfl, HL0⟩
    case round =>
      clear HL0
      obtain ⟨j, hj, rfl, HL⟩ := hrel
      by_cases hlt : j < n
      · have hjl : j < ls.length := by rw [HLL.out]; exact hlt
        obtain ⟨b, off, rfl, hb, hc⟩ := HARG.out j _ (getD_some ls j hjl)
        have _c := (HL.out.bel.cell (p := ⟨b, off + j, none⟩) hb).trans hc
        have zj : (j : Int) < n := by omega
        by_cases h0 : ls.getD j 0 = 0
        · have HL2 := hide (HL.out.congr (fun i _ => (nxtF_skip (atC ls) ls j hjl h0 i).symm))
          have HSK := hide (symW_skip ls j h0)
          rw [← HSK.out] at HL2
          rw [h0] at _c
          clear h0 hc HSK
          go_wp2
          go_roundw
          case rel => exact ⟨j + 1, hlt, by go_num, HL2⟩
          case measure => exact meas_oneW j n hlt
        · have hle : ls.getD j 0 ≤ 15 := HM.out.each _ (List.mem_of_getElem? (getD_some ls j hjl))
          have hq := nxtF_at (atC ls) ls j h0
          have hpl := symTo_place ls j hjl h0 hle
          rw [← hq] at hpl
          have hqm := (List.getElem?_eq_some_iff.1 hpl).1
          rw [HMM.out] at hqm
          have c1 := HL.out.nxt.cell (ls.getD j 0) (by omega)
          have HP := HL.out.put (nxtF (atC ls) ls j (ls.getD j 0)) j
          have c3 := HP.nxt.cell (ls.getD j 0) (by omega)
          have f3 := HP.nxt.frozen (ls.getD j 0)
          have HI := hide ((HP.inc (ls.getD j 0) (nxtF (atC ls) ls j (ls.getD j 0) + 1) (by omega)).congr (fun i _ => nxtF_step (atC ls) ls j hjl h0 i))
          obtain ⟨c2, f2⟩ := HL.out.cell (by rw [symW_length]; exact HMM.out) (symW_get ls j _ hpl)
          rw [symW_set ls j _ hpl] at HI
          have z0 : (0 : Int) < (ls.getD j 0 : Nat) := by omega
          have z00 : (0 : Int) ≤ (ls.getD j 0 : Nat) := by omega
          have z16 : ((ls.getD j 0 : Nat) : Int) < 16 := by omega
          clear hq hpl HP h0 hle hc hjl
          generalize nxtF (atC ls) ls j (ls.getD j 0) = q at *
          generalize ls.getD j 0 = x at *
          have zq : (q : Int) < m := by omega
          rw [show ((q + 1 : Nat) : Int) = (q : Int) + 1 from by omega] at HI
          go_wp2
          go_roundw
          case rel => exact ⟨j + 1, hlt, by go_num, HI⟩
          case measure => exact meas_oneW j n hlt
      · have hje : j = n := by omega
        subst hje
        have hF := symW_end ls
        rw [HLL.out] at hF
        have hown := HL.out.own
        rw [hF] at hown
        have HBL := hide HL.out.bel
        have hone := codeCs_one (cn ls) (.slice (some ⟨O, 0, none⟩) m m) rfl
        have hlen := codeCs_length (cn ls) (.slice (some ⟨O, 0, none⟩) m m)
        have hres : wr.heap[W.heap.size]? = some (.cells Zc.toArray 29 (0, 0)) := by
          rw [HL.out.old.block _ (by have := HB3.out.size; have := HL0B.out; have := HL1.out; omega)]
          exact HRES3.out
        have HTC := hide (show TalAt wr PC (cn ls) by unfold TalAt; rw [HL.out.old.block _ HL0B.out, HCS.out]; exact HM3.out)
        have HRC := hide (show wr.rangeAt PC 0 cs by have h := HTC.out.range; rw [HCS.out] at h; exact h)
        have hth := there_cells hres
        rw [hZcn] at hth
        have HBD := hide (HBLD.out (some ⟨O, 0, none⟩) m m)
        have hst := cells_store (P := Try.prog) (w := wr) (p := W.heap.size) (cs := codeCs (cn ls) (.slice (some ⟨O, 0, none⟩) m m)) (by rw [hlen]; exact hth) hone
        have HLD := hide (code_load (World.rangeAt_setCells_same wr W.heap.size 0 (codeCs (cn ls) (.slice (some ⟨O, 0, none⟩) m m)) (by rw [hlen]; exact hth)) hlen)
        have HBF := hide (below_cells HBL.out W.heap.size 0 (Nat.le_refl _) (codeCs (cn ls) (.slice (some ⟨O, 0, none⟩) m m)))
        have HOF := hide (own_cells hown W.heap.size 0 (by intro e; have e2 : O = W.heap.size := (by simpa [Value.ownBlock] using e); have := HL.out.lt; have := HL.out.lo; omega) (codeCs (cn ls) (.slice (some ⟨O, 0, none⟩) m m)))
        have HCV := hide (show codeV (cn ls) (.slice (some ⟨O, 0, none⟩) m m) = .agg (codeCs (cn ls) (.slice (some ⟨O, 0, none⟩) m m)).toArray from rfl)
        clear hF hown hone hres hth
        generalize codeCs (cn ls) (.slice (some ⟨O, 0, none⟩) m m) = ks at *
        go_wp2_with (first
          | (refine wpList_load_mid rfl 56 (Operand.tmp 4) rfl PC 0 rfl cs _ HRC.out Try.underlying56 rfl HSZ.out ?_)
          | (refine wpList_built2 rfl 29 0 1 (Operand.tmp 45) (Operand.tmp 46) rfl (.agg cs.toArray) (.slice (some ⟨O, 0, none⟩) m m) rfl rfl ks.toArray HBD.out ?_))
        (try simp only [Exit.inBlock, Exit.then])
        refine bodyPost_ret (v := .tuple #[.agg ks.toArray, .int .i64 0]) ?_ rfl ⟨_, rfl, .inr ⟨HG.out, .slice (some ⟨O, 0, none⟩) m m, by rw [HLS.out, HCV.out], by rw [HLS.out, HMM.out]; exact HOF.out⟩, HBF.out⟩
        simp [results, Try.results12, asAddr, HLD.out]
  · rw [cntF_bad hg, chkI_bad hg] at HC
    have HG := hide (show goodB l = false by cases h : goodB l with | false => rfl | true => exact absurd h hg)
    have HS := hide (fun w => tal_store w (talCs (fun _ => 0)) (talCs (fun _ => 0)) hZn hZn (talCs_one _))
    unfold talV at HC
    generalize talCs (fun _ => 0) = Z at *
    clear harg hg b0
    go_enter Try.func12, Try.ntmps12
    go_wp2_with fail
    generalize W.alloc (.cells Zc.toArray 29) = wz at *
    refine HC.out.mono ?_
    rintro e w1 ⟨rfl, b1⟩
    have hst1 := HS.out w1
    have HB1 := hide (HB0.out.trans (b1.mono HB0.out.size))
    have HRES1 := hide (show w1.heap[W.heap.size]? = some (.cells Zc.toArray 29 (0, 0)) by rw [b1.block _ HLT0.out]; exact HRES.out)
    have HL1 := hide (show W.heap.size < w1.heap.size from Nat.lt_of_lt_of_le HLT0.out b1.size)
    have HB2 := hide (HB1.out.alloc HB1.out.size (.cells Z.toArray 56))
    have hres : (w1.alloc (.cells Z.toArray 56)).heap[W.heap.size]? = some (.cells Zc.toArray 29 (0, 0)) := by rw [heap_alloc_old _ _ _ HL1.out]; exact HRES1.out
    have hth := there_cells hres
    rw [hZcn] at hth
    have hst := cells_store (P := Try.prog) (w := w1.alloc (.cells Z.toArray 56)) (p := W.heap.size) (cs := Zc) (by rw [hZcn]; exact hth) hZc1
    have HLD := hide (code_load (World.rangeAt_setCells_same (w1.alloc (.cells Z.toArray 56)) W.heap.size 0 Zc (by rw [hZcn]; exact hth)) hZcn)
    have HBF := hide (below_cells HB2.out W.heap.size 0 (Nat.le_refl _) Zc)
    clear b1 hth hres
    go_wp2
    (try simp only [Exit.inBlock, Exit.then])
    refine bodyPost_ret (v := .tuple #[.agg Zc.toArray, .int .i64 4]) ?_ rfl ⟨_, rfl, .inl ⟨HG.out, by unfold codeV; rw [HZC.out]⟩, HBF.out⟩
    simp [results, Try.results12, asAddr, HLD.out]

end Go.Proofs.Yteillcfdmjmaeaa
