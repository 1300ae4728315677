/- Package canon: Check and Codes. -/
import Derived.Test.YteillcfdmjmaeaaKCount
namespace Go.Proofs.Yteillcfdmjmaeaa
open Go.RowKit Go.Lib

set_option maxRecDepth 20000 in
set_option maxHeartbeats 1000000 in
theorem check_any (l : List Int) (a : Option Addr) (cap : Nat) (W : World) (harg : ArgZ W a l) (hl : l.length ≤ 1000) :
    Calls Try.prog 14 #[.slice a l.length cap] W fun e w' => e = .returned (.int .i64 (chkI l)) ∧ Hid (Below W.heap.size W w') := by
  have HC := hide (counted_any l a cap W harg hl)
  have hv := Try.zeroTal
  have hZn := talCs_length (fun _ => 0)
  have hn := talCs_length (cntF l)
  have HS := hide (fun w => tal_store w (talCs (fun _ => 0)) (talCs (cntF l)) hZn hn (talCs_one _))
  unfold talV at HC
  generalize chkI l = ev at *
  generalize talCs (cntF l) = cs at *
  generalize talCs (fun _ => 0) = Z at *
  clear harg
  go_enter Try.func14, Try.ntmps14
  go_wp2_with fail
  refine HC.out.mono ?_
  rintro e w1 ⟨rfl, b1⟩
  have hst := HS.out w1
  have HB := hide (b1.alloc b1.size (.cells cs.toArray 56))
  clear b1
  go_wp2
  go_ret
  exact ⟨rfl, HB⟩

/-- Where the next one of each length goes. -/
def nxtF (base : Nat → Nat) (ls : List Nat) (j k : Nat) : Nat := base k + if k = 0 then 0 else rkK ls k j
theorem nxtF_begin (base : Nat → Nat) (ls : List Nat) (k : Nat) : nxtF base ls 0 k = base k := by
  unfold nxtF
  split
  · rfl
  · simp [rkK]
theorem nxtF_skip (base : Nat → Nat) (ls : List Nat) (j : Nat) (hj : j < ls.length) (h : ls.getD j 0 = 0) (k : Nat) : nxtF base ls (j + 1) k = nxtF base ls j k := by
  unfold nxtF
  by_cases hk : k = 0
  · rw [if_pos hk, if_pos hk]
  · rw [if_neg hk, if_neg hk, rk_succ ls k j hj, if_neg (by omega)]
    rfl
theorem nxtF_step (base : Nat → Nat) (ls : List Nat) (j : Nat) (hj : j < ls.length) (h : ls.getD j 0 ≠ 0) (k : Nat) : (if k = ls.getD j 0 then nxtF base ls j (ls.getD j 0) + 1 else nxtF base ls j k) = nxtF base ls (j + 1) k := by
  unfold nxtF
  by_cases hk : k = ls.getD j 0
  · rw [if_pos hk, if_neg h, if_neg (by omega), hk, rk_succ ls _ j hj, if_pos rfl]
    omega
  · rw [if_neg hk]
    by_cases h0 : k = 0
    · rw [if_pos h0, if_pos h0]
    · rw [if_neg h0, if_neg h0, rk_succ ls k j hj, if_neg (by omega)]
      rfl
theorem nxtF_at (base : Nat → Nat) (ls : List Nat) (j : Nat) (h : ls.getD j 0 ≠ 0) : nxtF base ls j (ls.getD j 0) = base (ls.getD j 0) + rkK ls (ls.getD j 0) j := by
  unfold nxtF
  rw [if_neg h]

/-- A row that is filled by counts: the counts in block PN, the row in block O, all else as it was. -/
structure FillL (w W w0 : World) (PN O m : Nat) (g : Nat → Nat) (out : List Nat) : Prop where
  nxt : TalAt w PN g
  own : w.ownsRow W.heap.size 3 1 (.slice (some ⟨O, 0, none⟩) m m) m (natCs out)
  old : Below PN w0 w
  bel0 : Below W.heap.size W w0
  lo : W.heap.size ≤ PN
  hi : PN ≤ w0.heap.size
  lt : PN < O

theorem FillL.bel {w W w0 : World} {PN O m : Nat} {g : Nat → Nat} {out : List Nat} (h : FillL w W w0 PN O m g out) : Below W.heap.size W w := h.bel0.trans (h.old.mono h.lo)
theorem FillL.put {w W w0 : World} {PN O m : Nat} {g : Nat → Nat} {out : List Nat} (h : FillL w W w0 PN O m g out) (i x : Nat) : FillL (w.setCell ⟨O, i, none⟩ (.int .i64 (x : Nat))) W w0 PN O m g (out.set i x) := by
  have h2 := h.lt
  exact ⟨h.nxt.other ⟨O, i, none⟩ (show PN ≠ O by omega) _, own_set h.own i x, h.old.setCell (p := ⟨O, i, none⟩) (show PN ≤ O by omega) _, h.bel0, h.lo, h.hi, h2⟩
theorem FillL.inc {w W w0 : World} {PN O m : Nat} {g : Nat → Nat} {out : List Nat} (h : FillL w W w0 PN O m g out) (i x : Nat) (hi : i < 16) : FillL (w.setCell ⟨PN, i, none⟩ (.int .i64 (x : Nat))) W w0 PN O m (fun j => if j = i then x else g j) out := by
  have h2 := h.lt
  have h3 : (Value.slice (some ⟨O, 0, none⟩) m m).ownBlock ≠ some (⟨PN, i, none⟩ : Addr).block := by
    intro e
    have e2 : O = PN := by simpa [Value.ownBlock] using e
    omega
  exact ⟨h.nxt.set i x hi, ownsRow_setCell_other h.own h3 _, h.old.setCell (p := ⟨PN, i, none⟩) (Nat.le_refl _) _, h.bel0, h.lo, h.hi, h2⟩
theorem FillL.congr {w W w0 : World} {PN O m : Nat} {g g2 : Nat → Nat} {out : List Nat} (h : FillL w W w0 PN O m g out) (e : ∀ i, i < 16 → g i = g2 i) : FillL w W w0 PN O m g2 out := ⟨h.nxt.congr e, h.own, h.old, h.bel0, h.lo, h.hi, h.lt⟩
theorem FillL.cell {w W w0 : World} {PN O m : Nat} {g : Nat → Nat} {out : List Nat} (h : FillL w W w0 PN O m g out) (hm : out.length = m) {i x : Nat} (hx : out[i]? = some x) : w.cell? ⟨O, i, none⟩ = some (.int .i64 (x : Int)) ∧ w.frozen? ⟨O, i, none⟩ = false := by
  have ho := h.own
  rw [← hm] at ho
  exact own_nat ho hx

theorem fill_skip (f : Nat → Nat) (n j : Nat) (h : f j = 0) : fillTo f n (j + 1) = fillTo f n j := by
  unfold fillTo
  refine List.map_congr_left fun i hi => ?_
  by_cases e : i = j
  · subst e
    rw [if_pos (by omega), if_neg (by omega), h]
  · by_cases h2 : i < j
    · rw [if_pos h2, if_pos (by omega)]
    · rw [if_neg h2, if_neg (by omega)]
theorem fill_codes (ls : List Nat) : fillTo (codeN ls) ls.length ls.length = codesL ls := by
  unfold fillTo codesL
  refine List.map_congr_left fun i hi => ?_
  rw [if_pos (List.mem_range.1 hi)]
theorem fill_none (f : Nat → Nat) (n : Nat) : fillTo f n 0 = List.replicate n 0 := by
  apply List.eq_replicate_iff.2
  refine ⟨fillTo_length f n 0, fun b hb => ?_⟩
  obtain ⟨i, _, rfl⟩ := List.mem_map.1 hb
  rw [if_neg (by omega)]

theorem codes_form {W w' : World} {l : List Int} {r : Value} (h : CodesRes W l r w') : ∃ x y, r = .tuple #[x, y] := by
  rcases h with ⟨_, e⟩ | ⟨_, v, e, _⟩
  · exact ⟨_, _, e⟩
  · exact ⟨_, _, e⟩

set_option maxRecDepth 20000 in
set_option maxHeartbeats 4000000 in
theorem codes_any (l : List Int) (a : Option Addr) (cap : Nat) (W : World) (harg : ArgZ W a l) (hl : l.length ≤ 1000) :
    Calls Try.prog 10 #[.slice a l.length cap] W fun e w' => ∃ r, e = .returned r ∧ CodesRes W l r w' ∧ Below W.heap.size W w' := by
  have HC := hide (counted_any l a cap W harg hl)
  have hv := Try.zeroTal
  have hZn := talCs_length (fun _ => 0)
  by_cases hg : goodB l = true
  · rw [cntF_good hg, chkI_good hg] at HC
    have HG := hide hg
    obtain ⟨hE, hM⟩ := (goodB_iff l).1 hg
    have HARG := hide (harg.nat15 hE)
    obtain ⟨ls, hls⟩ : ∃ ls, l.map Int.toNat = ls := ⟨_, rfl⟩
    rw [hls] at HARG hM HC
    have HLS := hide hls
    have HLL := hide (show ls.length = l.length by rw [← hls, List.length_map])
    have HM := hide hM
    obtain ⟨n, hn⟩ : ∃ n, l.length = n := ⟨_, rfl⟩
    have HN := hide hn
    rw [hn] at HLL HC hl ⊢
    have HNUM := hide (numbers_any ls hM (by rw [HLL.out]; exact hl))
    have hcn := talCs_length (cn ls)
    have hfn := talCs_length (firstC ls)
    have HS1 := hide (fun w => tal_store w (talCs (fun _ => 0)) (talCs (cn ls)) hZn hcn (talCs_one _))
    have HS2 := hide (fun w => tal_store w (talCs (fun _ => 0)) (talCs (firstC ls)) hZn hfn (talCs_one _))
    have HMD1 := hide (fun w => (tal_made w (cn ls)).range)
    have HMD2 := hide (fun w => tal_made w (firstC ls))
    unfold TalAt at HMD2
    unfold talV at HC HNUM
    generalize talCs (cn ls) = cs at *
    obtain ⟨fs, hfs⟩ : ∃ fs, talCs (firstC ls) = fs := ⟨_, rfl⟩
    have HFS := hide hfs
    rw [hfs] at HNUM hfn HS2 HMD2
    clear hfs
    generalize talCs (fun _ => 0) = Z at *
    have HSZ := hide (show (Try.prog.info? 56).map (·.size) = some cs.length by rw [hcn]; exact Try.sizeTal)
    have hmk := run_make_row' (P := Try.prog) 22 3 (.int .i64 0) 8 Try.underlying22 Try.infoInt rfl .i64 .i64 n (by omega) (by omega)
    clear hg hE hM hls harg hn
    go_enter Try.func10, Try.ntmps10
    go_wp2_with fail
    refine HC.out.mono ?_
    rintro e w1 ⟨rfl, b1⟩
    have hst1 := HS1.out w1
    have HR1 := hide (HMD1.out w1)
    have HB2 := hide (b1.alloc b1.size (.cells cs.toArray 56))
    clear b1
    go_wp2_with (first
      | (refine wpList_load_mid rfl 56 (Operand.tmp 4) rfl w1.heap.size 0 rfl cs _ HR1.out Try.underlying56 rfl HSZ.out ?_))
    clear hst1 HR1
    generalize w1.alloc (.cells cs.toArray 56) = w2 at *
    refine (HNUM.out _).mono ?_
    rintro e w3 ⟨rfl, b3⟩
    have hst2 := HS2.out w3
    have HB3 := hide (HB2.out.trans (b3.mono HB2.out.size))
    have HB4 := hide (HB3.out.alloc HB3.out.size (.cells fs.toArray 56))
    obtain ⟨O, hO⟩ : ∃ O, (w3.alloc (.cells fs.toArray 56)).heap.size = O := ⟨_, rfl⟩
    have hO2 : w3.heap.size + 1 = O := by rw [← hO]; show _ = (w3.heap.push _).size; simp
    have HL0 := hide (show FillL ((w3.alloc (.cells fs.toArray 56)).alloc (.cells (madeCells #[.int .i64 0] n) 3)) W w3 w3.heap.size O n (nxtF (firstC ls) ls 0) (fillTo (codeN ls) n 0) by
      refine ⟨?_, ?_, ((Below.refl _ w3).alloc (Nat.le_refl _) _).alloc (by omega) _, HB3.out, HB3.out.size, Nat.le_refl _, by omega⟩
      · have h := HMD2.out w3
        rw [← HFS.out] at h ⊢
        exact (TalAt.alloc (f := firstC ls) h _).congr (fun i _ => (nxtF_begin (firstC ls) ls i).symm)
      · have h := own_made0 (w3.alloc (.cells fs.toArray 56)) n (by omega)
        rw [hO] at h
        rw [fill_none]
        exact ownsRow_base h (by have := HB3.out.size; omega))
    clear b3 hO
    go_wp2
    clear hmk hst2
    generalize (w3.alloc (.cells fs.toArray 56)).alloc (.cells (madeCells #[.int .i64 0] n) 3) = w5 at *
    obtain ⟨PN, hPN⟩ : ∃ PN, w3.heap.size = PN := ⟨_, rfl⟩
    (try simp only [hPN] at hO2)
    (try simp only [hPN] at HL0)
    (try simp only [hPN])
    (try simp only [hO2] at HL0)
    (try simp only [hO2])
    clear hO2 hPN
    go_loopw [25] (fun iv wr => ∃ j : Nat, j ≤ n ∧ iv = .int .i64 (j : Nat) ∧ Hid (FillL wr W w3 PN O n (nxtF (firstC ls) ls j) (fillTo (codeN ls) n j))) (fun iv _ => n - (intOf iv).toNat)
    case atStart => exact ⟨0, Nat.zero_le _, rfl, HL0⟩
    case round =>
      clear HL0
      obtain ⟨j, hj, rfl, HL⟩ := hrel
      by_cases hlt : j < n
      · have hjl : j < ls.length := by rw [HLL.out]; exact hlt
        obtain ⟨b, off, rfl, hb, hc⟩ := HARG.out j _ (getD_some ls j hjl)
        have _c := (HL.out.bel.cell (p := ⟨b, off + j, none⟩) hb).trans hc
        have zj : (j : Int) < n := by omega
        by_cases h0 : ls.getD j 0 = 0
        · have HCD := hide (show codeN ls j = 0 by unfold codeN; rw [if_pos h0])
          have HSK := hide (fill_skip (codeN ls) n j HCD.out)
          have HL2 := hide (HL.out.congr (fun i _ => (nxtF_skip (firstC ls) ls j hjl h0 i).symm))
          rw [← HSK.out] at HL2
          rw [h0] at _c
          clear h0 hc HCD HSK
          go_wp2
          go_roundw
          case rel => exact ⟨j + 1, hlt, by go_num, HL2⟩
          case measure => exact meas_oneW j n hlt
        · have hle : ls.getD j 0 ≤ 15 := HM.out.each _ (List.mem_of_getElem? (getD_some ls j hjl))
          have hq := nxtF_at (firstC ls) ls j h0
          have hsm := HM.out.small _ hle
          have hrk := rk_le_cn ls (ls.getD j 0) j h0 (by omega)
          have c1 := HL.out.nxt.cell (ls.getD j 0) (by omega)
          have HP := HL.out.put j (nxtF (firstC ls) ls j (ls.getD j 0))
          have c3 := HP.nxt.cell (ls.getD j 0) (by omega)
          have f3 := HP.nxt.frozen (ls.getD j 0)
          have HI := hide ((HP.inc (ls.getD j 0) (nxtF (firstC ls) ls j (ls.getD j 0) + 1) (by omega)).congr (fun i _ => nxtF_step (firstC ls) ls j hjl h0 i))
          have ecd : nxtF (firstC ls) ls j (ls.getD j 0) = codeN ls j := by rw [hq]; unfold codeN; rw [if_neg h0]
          have hset := fillTo_set (codeN ls) n j hlt
          obtain ⟨c2, f2⟩ := HL.out.cell (fillTo_length _ _ _) (fillTo_get (codeN ls) n j j hlt)
          rw [← ecd] at hset
          rw [hset] at HI
          have hq9 : nxtF (firstC ls) ls j (ls.getD j 0) ≤ 40000 := by omega
          have z0 : (0 : Int) < (ls.getD j 0 : Nat) := by omega
          have z00 : (0 : Int) ≤ (ls.getD j 0 : Nat) := by omega
          have z16 : ((ls.getD j 0 : Nat) : Int) < 16 := by omega
          clear hq hsm hrk HP ecd hset h0 hle hc hjl
          generalize nxtF (firstC ls) ls j (ls.getD j 0) = q at *
          generalize ls.getD j 0 = x at *
          rw [show ((q + 1 : Nat) : Int) = (q : Int) + 1 from by omega] at HI
          go_wp2
          go_roundw
          case rel => exact ⟨j + 1, hlt, by go_num, HI⟩
          case measure => exact meas_oneW j n hlt
      · have hje : j = n := by omega
        subst hje
        have hF := fill_codes ls
        rw [HLL.out] at hF
        have HO := hide HL.out.own
        rw [hF] at HO
        have HB := hide HL.out.bel
        clear hF
        go_wp2
        go_ret2
        exact ⟨_, rfl, .inr ⟨HG.out, _, rfl, by rw [HLS.out, HN.out]; exact HO.out⟩, HB.out⟩
  · rw [cntF_bad hg, chkI_bad hg] at HC
    have HG := hide (show goodB l = false by cases h : goodB l with | false => rfl | true => exact absurd h hg)
    have HS := hide (fun w => tal_store w (talCs (fun _ => 0)) (talCs (fun _ => 0)) hZn hZn (talCs_one _))
    unfold talV at HC
    generalize talCs (fun _ => 0) = Z at *
    clear harg hg
    go_enter Try.func10, Try.ntmps10
    go_wp2_with fail
    refine HC.out.mono ?_
    rintro e w1 ⟨rfl, b1⟩
    have hst := HS.out w1
    have HB := hide (b1.alloc b1.size (.cells Z.toArray 56))
    clear b1
    go_wp2
    go_ret2
    exact ⟨_, rfl, .inl ⟨HG.out, rfl⟩, HB.out⟩

end Go.Proofs.Yteillcfdmjmaeaa
