/- Contracts of the code of layer 7: counted, Unfold. -/
import Derived.Test.YtdaflfkknlhllaaRCodeD
namespace Go.Proofs.Ytdaflfkknlhllaa
open Go.RowKit Go.Lib

/-- A run that may be, where so many lengths are counted. -/
def okR (S : Int) (r : Int × Int) : Prop := 0 ≤ r.1 ∧ r.1 ≤ 18 ∧ 0 ≤ r.2 ∧ r.2 < (extN r.1 : Int) ∧ ¬ (r.1 = 16 ∧ S = 0)
/-- How many lengths runs stand for, behind so many. -/
def cntF (S : Int) : List (Int × Int) → Option Int
  | [] => some S
  | r :: rs => if 0 ≤ r.1 ∧ r.1 ≤ 18 ∧ 0 ≤ r.2 ∧ r.2 < (extN r.1 : Int) ∧ ¬ (r.1 = 16 ∧ S = 0) then cntF (S + ((leastN r.1 : Int) + r.2)) rs else none

theorem cnt_ok {S : Int} {r : Int × Int} (h : okR S r) (rs : List (Int × Int)) : cntF S (r :: rs) = cntF (S + ((leastN r.1 : Int) + r.2)) rs := by
  exact if_pos h
theorem cnt_bad {S : Int} {r : Int × Int} (h : ¬ okR S r) (rs : List (Int × Int)) : cntF S (r :: rs) = none := by
  exact if_neg h
theorem okR_of {S c : Int} {r : Int × Int} {rs : List (Int × Int)} (h : cntF S (r :: rs) = some c) : okR S r := by
  refine Classical.byContradiction fun hn => ?_
  rw [cnt_bad hn] at h
  cases h
theorem okR.times {S : Int} {r : Int × Int} (h : okR S r) : timesR r = (leastN r.1 : Int) + r.2 ∧ 1 ≤ timesR r ∧ timesR r ≤ 138 := by
  obtain ⟨s, e⟩ := r
  obtain ⟨h1, h2, h3, h4, _⟩ := h
  dsimp only at h1 h2 h3 h4 ⊢
  by_cases a1 : s = 16
  · subst a1; rw [ex16] at h4; rw [tm16, ls16]; omega
  · by_cases a2 : s = 17
    · subst a2; rw [ex17] at h4; rw [tm17, ls17]; omega
    · by_cases a3 : s = 18
      · subst a3; rw [ex18] at h4; rw [tm18, ls18]; omega
      · rw [ex_plain s a1 a2 a3] at h4; rw [(plain_run s a1 a2 a3).2.1, ls_plain s a1 a2 a3]; omega
theorem cnt_ge : ∀ (rs : List (Int × Int)) (S c : Int), cntF S rs = some c → S ≤ c
  | [], S, c, h => by
    injection h with h
    omega
  | r :: rs, S, c, h => by
    have h1 := okR_of h
    have h2 := h1.times
    rw [cnt_ok h1, ← h2.1] at h
    have h3 := cnt_ge rs _ _ h
    omega
theorem cnt_le : ∀ (rs : List (Int × Int)) (S c : Int), cntF S rs = some c → c ≤ S + 138 * (rs.length : Int)
  | [], S, c, h => by
    injection h with h
    rw [List.length_nil]
    omega
  | r :: rs, S, c, h => by
    have h1 := okR_of h
    have h2 := h1.times
    rw [cnt_ok h1, ← h2.1] at h
    have h3 := cnt_le rs _ _ h
    rw [List.length_cons]
    omega
/-- The next run may be, where all are counted. -/
theorem cnt_run {n : Int} {out : List Int} {r : Int × Int} {rs : List (Int × Int)} (h : cntF (out.length : Int) (r :: rs) = some n) : runB n out r = true ∧ okR (out.length : Int) r ∧ cntF ((out.length : Int) + ((leastN r.1 : Int) + r.2)) rs = some n := by
  have h1 := okR_of h
  have h2 := h1.times
  rw [cnt_ok h1] at h
  refine ⟨?_, h1, h⟩
  have h3 := cnt_ge rs _ _ h
  obtain ⟨g1, g2, g3, g4, g5⟩ := h1
  rw [runB_iff]
  refine ⟨fun hh => g5 ⟨hh.1, by rw [hh.2]; rfl⟩, g1, g2, g3, g4, ?_⟩
  omega
/-- What is unfolded was counted. -/
theorem un_cnt (n : Int) : ∀ (rs : List (Int × Int)) (out o : List Int), unF n out rs = some o → cntF (out.length : Int) rs = some n
  | [], out, o, h => by
    unfold unF at h
    split at h
    · rename_i h2; show some _ = _; rw [h2]
    · cases h
  | r :: rs, out, o, h => by
    unfold unF at h
    split at h
    · rename_i hb
      obtain ⟨g1, g2, g3, g4, g5, g6⟩ := (runB_iff n out r).1 hb
      have h1 : okR (out.length : Int) r := ⟨g2, g3, g4, g5, fun hh => g1 ⟨hh.1, by
        cases out with
        | nil => rfl
        | cons a b => have := hh.2; rw [List.length_cons] at this; omega⟩⟩
      have h2 := h1.times
      have ih := un_cnt n rs _ o h
      rw [List.length_append, List.length_replicate] at ih
      rw [cnt_ok h1, ← h2.1]
      rw [show (out.length : Int) + timesR r = ((out.length + (timesR r).toNat : Nat) : Int) by omega]
      exact ih
    · cases h
theorem un_no {n : Int} {rs : List (Int × Int)} (h : cntF 0 rs ≠ some n) : unF n [] rs = none := by
  cases hu : unF n [] rs with
  | none => rfl
  | some o => exact absurd (un_cnt n rs [] o hu) h

/-- The counting under way. -/
structure CntW (w W : World) (rs : List (Int × Int)) (i : Nat) (S : Nat) : Prop where
  bel : Below W.heap.size W w
  cnt : cntF 0 rs = cntF (S : Int) (rs.drop i)
  len : S ≤ 138 * i
/-- What a counting gives. -/
def CntPost (W : World) (rs : List (Int × Int)) (e : Ending) (w' : World) : Prop := e = .returned (.tuple #[.int .i64 ((cntF 0 rs).getD 0), .bool (cntF 0 rs).isSome]) ∧ Below W.heap.size W w'
theorem cnt_none {W w : World} {rs : List (Int × Int)} (h : cntF 0 rs = none) (b : Below W.heap.size W w) : CntPost W rs (.returned (.tuple #[.int .i64 0, .bool false])) w := ⟨by rw [h]; rfl, b⟩
theorem cnt_some {W w : World} {rs : List (Int × Int)} {S : Int} (h : cntF 0 rs = some S) (b : Below W.heap.size W w) : CntPost W rs (.returned (.tuple #[.int .i64 S, .bool true])) w := ⟨by rw [h]; rfl, b⟩
theorem CntW.bad {w w' W : World} {rs : List (Int × Int)} {i S : Nat} (h : CntW w W rs i S) (r : Int × Int) (hr : rs[i]? = some r) (hb : ¬ okR (S : Int) r) (b : Below W.heap.size W w') : CntPost W rs (.returned (.tuple #[.int .i64 0, .bool false])) w' := by
  refine cnt_none ?_ b
  obtain ⟨hi, e⟩ := List.getElem?_eq_some_iff.1 hr
  rw [h.cnt, List.drop_eq_getElem_cons hi, e]
  exact cnt_bad hb _
theorem CntW.next {w w' W : World} {rs : List (Int × Int)} {i S : Nat} (h : CntW w W rs i S) (r : Int × Int) (hr : rs[i]? = some r) (hb : okR (S : Int) r) (T : Nat) (hT : (leastN r.1 : Int) + r.2 = (T : Int)) (b : Below W.heap.size W w') : CntW w' W rs (i + 1) (S + T) := by
  obtain ⟨hi, e⟩ := List.getElem?_eq_some_iff.1 hr
  refine ⟨b, ?_, ?_⟩
  · rw [h.cnt, List.drop_eq_getElem_cons hi, e, cnt_ok hb, hT, Int.natCast_add]
  · have h1 := h.len
    have h2 := hb.times
    omega

set_option maxRecDepth 20000 in
set_option maxHeartbeats 4000000 in
theorem counted7 (rs : List (Int × Int)) (a : Option Addr) (m cap : Nat) (W : World) (hm : rs.length = m) (harg : ArgR W a rs) (hl : m ≤ 2000) :
    Calls Try.prog 22 #[.slice a m cap] W fun e w' => CntPost W rs e w' := by
  have HA := hide harg
  have HM := hide hm
  have HC0 := hide (show CntW W W rs 0 0 from ⟨Below.refl _ _, by rw [List.drop_zero]; rfl, Nat.le_refl _⟩)
  clear harg hm
  go_enter Try.func22, Try.ntmps22
  go_wp2
  go_loopw [4, 9] (fun sv iv wr => ∃ i S : Nat, i ≤ m ∧ iv = .int .i64 (i : Nat) ∧ sv = .int .i64 (S : Nat) ∧ Hid (CntW wr W rs i S)) (fun _ iv _ => m - (intOf iv).toNat)
  case atStart => exact ⟨0, 0, Nat.zero_le _, rfl, rfl, HC0⟩
  case round =>
    clear HC0
    obtain ⟨i, S, hi, rfl, rfl, HC⟩ := hrel
    have hlen := HC.out.len
    by_cases hlt : i < m
    · obtain ⟨⟨s, e⟩, hr⟩ : ∃ r, rs[i]? = some r := ⟨_, List.getElem?_eq_getElem (by rw [HM.out]; exact hlt)⟩
      have HR := hide hr
      obtain ⟨b, off, rfl, hb, hc1, hc2⟩ := HA.out i s e hr
      have _c1 := (HC.out.bel.cell (p := ⟨b, off + i * 2, none⟩) hb).trans hc1
      have _c2 := (HC.out.bel.cell (p := ⟨b, off + i * 2 + 1, none⟩) hb).trans hc2
      have zi : (i : Int) < m := by omega
      have HB1 := hide (HC.out.bel.alloc HC.out.bel.size (.cells #[.int .i64 s, .int .i64 e] 39))
      have HBK := hide (fun q => below_drewN HB1.out q)
      have HBAD := hide (fun (h : ¬ okR (S : Int) (s, e)) w' (hb : Below W.heap.size W w') => HC.out.bad (w' := w') (s, e) HR.out h hb)
      have HX := hide (extras7 s)
      clear hr hc1 hc2
      by_cases s0 : s < 0
      · have HG := hide (HBAD.out (fun h => by have := h.1; dsimp only at this; omega))
        go_wp2
        go_ret2
        exact HG.out _ HB1.out
      · have ds0 : decide (s < 0) = false := decide_eq_false s0
        by_cases s18 : 18 < s
        · have HG := hide (HBAD.out (fun h => by have := h.2.1; dsimp only at this; omega))
          have ds18 : decide (18 < s) = true := decide_eq_true s18
          go_wp2
          go_ret2
          exact HG.out _ HB1.out
        · have ds18 : decide (18 < s) = false := decide_eq_false s18
          by_cases e0 : e < 0
          · have HG := hide (HBAD.out (fun h => by have := h.2.2.1; dsimp only at this; omega))
            have de0 : decide (e < 0) = true := decide_eq_true e0
            go_wp2
            go_quiet (fail)
            go_wp2
            go_ret2
            exact HG.out _ (HBK.out _)
          · have de0 : decide (e < 0) = false := decide_eq_false e0
            by_cases ex : (extN s : Int) ≤ e
            · have HG := hide (HBAD.out (fun h => by have := h.2.2.2.1; dsimp only at this; omega))
              have dex : decide ((extN s : Int) ≤ e) = true := decide_eq_true ex
              generalize extN s = X at HX ex dex
              go_wp2_with fail
              go_quiet ((go_at_call 26; exact Calls.quiet_of_same (HX.out _)))
              go_wp2
              go_ret2
              exact HG.out _ (HBK.out _)
            · have dex : decide ((extN s : Int) ≤ e) = false := decide_eq_false ex
              by_cases h16 : s = 16 ∧ S = 0
              · obtain ⟨rfl, rfl⟩ := h16
                have HG := hide (HBAD.out (fun h => h.2.2.2.2 ⟨rfl, rfl⟩))
                generalize extN 16 = X at HX ex dex
                go_wp2_with fail
                go_quiet ((go_at_call 26; exact Calls.quiet_of_same (HX.out _)))
                go_wp2
                go_ret2
                exact HG.out _ (HBK.out _)
              · have HOK := hide (show okR (S : Int) (s, e) from ⟨by dsimp only; omega, by dsimp only; omega, by dsimp only; omega, by dsimp only; omega, fun h => h16 ⟨h.1, by have := h.2; omega⟩⟩)
                have HT := HOK.out.times
                obtain ⟨T, hT⟩ : ∃ T : Nat, (leastN s : Int) + e = (T : Int) := ⟨(timesR (s, e)).toNat, by have := HT.1; dsimp only at this; omega⟩
                have HNX := hide (fun w' (hb : Below W.heap.size W w') => HC.out.next (w' := w') (s, e) HR.out HOK.out T hT hb)
                have HTM := hide (times7 s e (by omega) (by have := ex_range s; omega))
                rw [hT] at HTM
                have hT9 : T ≤ 138 := by have := HT.1; dsimp only at this; omega
                clear HT hT HOK HBAD
                generalize extN s = X at HX ex dex
                by_cases s16 : s = 16
                · subst s16
                  have hS0 : S ≠ 0 := fun h => h16 ⟨rfl, h⟩
                  have bS : ((S : Int) == 0) = false := by simp; exact hS0
                  go_wp2_with fail
                  go_quiet ((go_at_call 26; exact Calls.quiet_of_same (HX.out _)))
                  go_wp2_with fail
                  refine (HTM.out _).mono ?_
                  rintro r w2 ⟨rfl, b2⟩
                  have HN := hide (HNX.out w2 ((HBK.out _).trans (b2.mono (HBK.out _).size)))
                  clear b2
                  go_wp2
                  go_roundw
                  case rel => exact ⟨i + 1, S + T, hlt, by go_num, by go_num, HN⟩
                  case measure => exact meas_oneW i m hlt
                · have bs16 : (s == 16) = false := by simp; exact s16
                  go_wp2_with fail
                  go_quiet ((go_at_call 26; exact Calls.quiet_of_same (HX.out _)))
                  go_wp2_with fail
                  refine (HTM.out _).mono ?_
                  rintro r w2 ⟨rfl, b2⟩
                  have HN := hide (HNX.out w2 ((HBK.out _).trans (b2.mono (HBK.out _).size)))
                  clear b2
                  go_wp2
                  go_roundw
                  case rel => exact ⟨i + 1, S + T, hlt, by go_num, by go_num, HN⟩
                  case measure => exact meas_oneW i m hlt
    · have hie : i = m := by omega
      subst hie
      have HG := hide (show CntPost W rs (.returned (.tuple #[.int .i64 (S : Int), .bool true])) wr from cnt_some (by
        rw [HC.out.cnt, List.drop_of_length_le (by rw [HM.out]; exact Nat.le_refl _)]
        rfl) HC.out.bel)
      go_wp2
      go_ret2
      exact HG.out

theorem rep_more (out : List Int) (j : Nat) (x : Int) : (out ++ List.replicate j x) ++ [x] = out ++ List.replicate (j + 1) x := by
  rw [List.append_assoc, ← List.replicate_succ']
theorem last_rep (out : List Int) (T : Nat) (x : Int) (h : 1 ≤ T) : (out ++ List.replicate T x).getLastD 0 = x := by
  obtain ⟨k, rfl⟩ : ∃ k, T = k + 1 := ⟨T - 1, by omega⟩
  rw [← rep_more]
  simp
theorem made_own (w : World) (n : Nat) (B : Nat) (hB : B ≤ w.heap.size) (hn : n ≤ 276000) : (w.alloc (.cells (madeCells #[.int .i64 0] n) 3)).ownsRow B 3 1 (.slice (some ⟨w.heap.size, 0, none⟩) 0 n) 0 (intCs []) :=
  World.ownsRow_made w _ n hB (by unfold maxLen; omega) (by rw [size_madeCells]; omega)
/-- The lengths under way, all of them counted. -/
structure UnC (w W : World) (rs : List (Int × Int)) (n : Int) (i : Nat) (out : List Int) (v : Value) : Prop where
  un : UnW w W rs n i out v
  cnt : cntF (out.length : Int) (rs.drop i) = some n

set_option maxRecDepth 20000 in
set_option maxHeartbeats 8000000 in
theorem unfold7_any (rs : List (Int × Int)) (a : Option Addr) (cap : Nat) (n : Int) (W : World) (harg : ArgR W a rs) (hl : rs.length ≤ 2000) (_hn1 : -9223372036854775808 ≤ n) (_hn2 : n ≤ 9223372036854775807) :
    Calls Try.prog 16 #[.slice a rs.length cap, .int .i64 n] W fun e w' => UnPost W rs n e w' := by
  have HA := hide harg
  obtain ⟨m, hm⟩ : ∃ m, rs.length = m := ⟨_, rfl⟩
  have HM := hide hm
  rw [hm] at hl ⊢
  have HCT := hide (counted7 rs a m cap W hm harg hl)
  have HLS := hide (show ∀ c, cntF 0 rs = some c → 0 ≤ c ∧ c ≤ 138 * (rs.length : Int) from fun c hc => ⟨cnt_ge rs 0 c hc, by have := cnt_le rs 0 c hc; omega⟩)
  rw [hm] at HLS
  obtain ⟨i1, ki, kz0, kz1, kz2⟩ := info_parts Try.infoInt
  clear harg hm
  go_enter Try.func16, Try.ntmps16
  go_wp2_with fail
  refine HCT.out.mono ?_
  rintro e w1 ⟨rfl, b1⟩
  cases hcn : cntF 0 rs with
  | none =>
    have HG := hide (un_none (n := n) (un_no (by rw [hcn]; intro h; cases h)) b1)
    go_wp2
    go_ret2
    exact HG.out
  | some c =>
    by_cases ec : c = n
    · subst ec
      obtain ⟨N, rfl⟩ : ∃ N : Nat, c = (N : Int) := ⟨c.toNat, by have := (HLS.out c hcn).1; omega⟩
      have hN : N ≤ 276000 := by have := (HLS.out _ hcn).2; omega
      have HU0 := hide (show UnC (w1.alloc (.cells (madeCells #[.int .i64 0] N) 3)) W rs (N : Int) 0 [] (.slice (some ⟨w1.heap.size, 0, none⟩) 0 N) from ⟨⟨made_own w1 N _ b1.size hN, b1.alloc b1.size _, by rw [List.drop_zero], Nat.le_refl _, .inl rfl⟩, by rw [List.drop_zero]; exact hcn⟩)
      have hmk : ∀ w : World, (Instr.makeSlice 22 (.int .i64 0) (.int .i64 (N : Int))).run Try.prog w = .ok (.slice (some ⟨w.heap.size, 0, none⟩) 0 N) (w.alloc (.cells (madeCells #[.int .i64 0] N) 3)) := fun w => by
        have h := run_make (P := Try.prog) w 22 3 i1 (.int .i64 0) Try.underlying22 ki kz0 .i64 .i64 0 (N : Int) (Int.le_refl _) (by omega) (by rw [kz2]; omega) (by omega)
        rw [kz1, Int.toNat_zero, Int.toNat_natCast, Nat.mul_one] at h
        exact h
      clear hcn HLS HCT b1
      go_wp2
      go_loopw [8, 9, 28] (fun v lv iv wr => ∃ i : Nat, i ≤ m ∧ iv = .int .i64 (i : Nat) ∧ ∃ out z, lv = .int .i64 z ∧ Hid (out.getLastD 0 = z) ∧ Hid (UnC wr W rs (N : Int) i out v)) (fun _ _ iv _ => m - (intOf iv).toNat)
      case atStart => exact ⟨0, Nat.zero_le _, rfl, [], 0, rfl, hide rfl, HU0⟩
      case round =>
        clear HU0
        obtain ⟨i, hi, rfl, out, z, rfl, HZ, HU⟩ := hrel
        by_cases hlt : i < m
        · obtain ⟨⟨s, e⟩, hr⟩ : ∃ r, rs[i]? = some r := ⟨_, List.getElem?_eq_getElem (by rw [HM.out]; exact hlt)⟩
          have HR := hide hr
          obtain ⟨b, off, rfl, hb, hc1, hc2⟩ := HA.out i s e hr
          have _c1 := (HU.out.un.bel.cell (p := ⟨b, off + i * 2, none⟩) hb).trans hc1
          have _c2 := (HU.out.un.bel.cell (p := ⟨b, off + i * 2 + 1, none⟩) hb).trans hc2
          have zi : (i : Int) < m := by omega
          have HDR := hide (show rs.drop i = (s, e) :: rs.drop (i + 1) by
            obtain ⟨hi2, e2⟩ := List.getElem?_eq_some_iff.1 hr
            rw [List.drop_eq_getElem_cons hi2, e2])
          have hcr := cnt_run (show cntF (out.length : Int) ((s, e) :: rs.drop (i + 1)) = some (N : Int) by rw [← HDR.out]; exact HU.out.cnt)
          obtain ⟨hrb, hok, hcn⟩ := hcr
          have ht := hok.times
          obtain ⟨T, hT⟩ : ∃ T : Nat, (leastN s : Int) + e = (T : Int) := ⟨(timesR (s, e)).toNat, by have := ht.1; dsimp only at this; omega⟩
          have hT2 : timesR (s, e) = (T : Int) := by rw [ht.1]; exact hT
          have hT9 : 1 ≤ T ∧ T ≤ 138 := by omega
          have hlen := HU.out.un.len
          obtain ⟨x, hx⟩ : ∃ x, valR out s = x := ⟨_, rfl⟩
          have HX := hide hx
          have HNX := hide (fun w' v' (ho : w'.ownsRow W.heap.size 3 1 v' (out ++ List.replicate T x).length (intCs (out ++ List.replicate T x))) (hb : Below W.heap.size W w') => (show UnC w' W rs (N : Int) (i + 1) (out ++ List.replicate T x) v' from ⟨HU.out.un.next (w' := w') (v' := v') (s, e) HR.out hrb T (by rw [hT2]; exact Int.toNat_natCast T) x hx ho hb, by
            rw [List.length_append, List.length_replicate, Int.natCast_add, ← hT]
            exact hcn⟩))
          have HLR := hide (last_rep out T x hT9.1)
          have HTM := hide (times7 s e hok.2.2.1 (by have h4 := hok.2.2.2.1; dsimp only at h4; have := ex_range s; omega))
          rw [hT] at HTM
          have HOW := hide (HU.out.un.own)
          have HBL := hide (HU.out.un.bel)
          obtain ⟨L, hL⟩ : ∃ L, out.length = L := ⟨_, rfl⟩
          have HLL := hide hL
          rw [hL] at HOW hlen
          have hL9 : L ≤ 276000 := by omega
          clear hr hc1 hc2 hrb hcn ht hT hT2 hx HU hL hok HDR
          by_cases x16 : s = 16
          · subst x16
            have ez : x = z := by rw [← HX.out, vl16]; exact HZ.out
            subst ez
            have HAL := hide (HBL.out.alloc HBL.out.size (.cells #[.int .i64 16, .int .i64 e] 39))
            have HOA := hide (HOW.out.alloc (.cells #[.int .i64 16, .int .i64 e] 39))
            go_wp2_with fail
            refine (HTM.out _).mono ?_
            rintro r w2 ⟨rfl, b2⟩
            have HB2 := hide (HAL.out.trans (b2.mono HAL.out.size))
            have HO2 := hide (own_below HOA.out b2 (Nat.le_refl _))
            clear b2
            go_wp2
            rename World => wq
            go_loopw [8, 43] (fun v kv wt => ∃ j : Nat, j ≤ T ∧ kv = .int .i64 (j : Nat) ∧ Hid (wt.ownsRow W.heap.size 3 1 v (L + j) (intCs (out ++ List.replicate j x))) ∧ Hid (Below W.heap.size W wt)) (fun _ kv _ => T - (intOf kv).toNat)
            case atStart =>
              refine ⟨0, Nat.zero_le _, rfl, hide ?_, HB2⟩
              rw [Nat.add_zero, List.replicate_zero, List.append_nil]
              exact HO2.out
            case round =>
              obtain ⟨j, hj, rfl, HO, HB⟩ := hrel
              by_cases hjT : j < T
              · have zj : (j : Int) < T := by omega
                have HSN := hide (rep_more out j x)
                have X1 := hide (show L + j + 1 ≤ maxLen by unfold maxLen; omega)
                have X2 := hide (show (L + j + 1) * 8 ≤ 140737488355328 by omega)
                go_wp2_with (first
                  | (at_builtin; refine wpList_append_fresh _ rfl _ _ 22 rfl W.heap.size 3 i1 (.int .i64 0) 1 8 Try.underlying22 ki kz0 kz1 kz2 rfl (by decide) u8 _ _ rfl (HO.out.alloc _) ⟨wr.heap.size, 0, none⟩ 1 1 [.int .i64 x] rfl rfl (cell_one_new _ _ _) (one_int _) X1.out X2.out (size_alloc_le HB.out.size) ?_; intro v2 w3 o2 g2 _f2; have HB3 := hide (Below.grownB (HB.out.alloc HB.out.size _) g2 (HO.out.alloc _) (size_alloc_le HB.out.size)); rw [show [Value.int .i64 x] = intCs [x] from rfl, intCs_append, HSN.out, Nat.add_assoc] at o2; have HO3 := hide o2; clear o2 g2 _f2))
                go_roundw
                case rel => exact ⟨j + 1, hjT, by go_num, HO3, HB3⟩
                case measure => exact meas_oneW j T hjT
              · have hjT2 : j = T := by omega
                subst hjT2
                have HFIN := hide (HNX.out wr u8 (by rw [List.length_append, List.length_replicate, HLL.out]; exact HO.out) HB.out)
                go_wp2
                go_roundw
                case rel => exact ⟨i + 1, hlt, by go_num, _, x, rfl, HLR, HFIN⟩
                case measure => exact meas_oneW i m hlt
          · have b16 : (s == 16) = false := by simp; exact x16
            by_cases x17 : s = 17
            · subst x17
              have ez : x = 0 := by rw [← HX.out, vl17]
              subst ez
              have HAL := hide (HBL.out.alloc HBL.out.size (.cells #[.int .i64 17, .int .i64 e] 39))
              have HOA := hide (HOW.out.alloc (.cells #[.int .i64 17, .int .i64 e] 39))
              go_wp2_with fail
              refine (HTM.out _).mono ?_
              rintro r w2 ⟨rfl, b2⟩
              have HB2 := hide (HAL.out.trans (b2.mono HAL.out.size))
              have HO2 := hide (own_below HOA.out b2 (Nat.le_refl _))
              clear b2
              go_wp2
              rename World => wq
              go_loopw [8, 43] (fun v kv wt => ∃ j : Nat, j ≤ T ∧ kv = .int .i64 (j : Nat) ∧ Hid (wt.ownsRow W.heap.size 3 1 v (L + j) (intCs (out ++ List.replicate j 0))) ∧ Hid (Below W.heap.size W wt)) (fun _ kv _ => T - (intOf kv).toNat)
              case atStart =>
                refine ⟨0, Nat.zero_le _, rfl, hide ?_, HB2⟩
                rw [Nat.add_zero, List.replicate_zero, List.append_nil]
                exact HO2.out
              case round =>
                obtain ⟨j, hj, rfl, HO, HB⟩ := hrel
                by_cases hjT : j < T
                · have zj : (j : Int) < T := by omega
                  have HSN := hide (rep_more out j 0)
                  have X1 := hide (show L + j + 1 ≤ maxLen by unfold maxLen; omega)
                  have X2 := hide (show (L + j + 1) * 8 ≤ 140737488355328 by omega)
                  go_wp2_with (first
                    | (at_builtin; refine wpList_append_fresh _ rfl _ _ 22 rfl W.heap.size 3 i1 (.int .i64 0) 1 8 Try.underlying22 ki kz0 kz1 kz2 rfl (by decide) u8 _ _ rfl (HO.out.alloc _) ⟨wr.heap.size, 0, none⟩ 1 1 [.int .i64 0] rfl rfl (cell_one_new _ _ _) (one_int _) X1.out X2.out (size_alloc_le HB.out.size) ?_; intro v2 w3 o2 g2 _f2; have HB3 := hide (Below.grownB (HB.out.alloc HB.out.size _) g2 (HO.out.alloc _) (size_alloc_le HB.out.size)); rw [show [Value.int .i64 0] = intCs [0] from rfl, intCs_append, HSN.out, Nat.add_assoc] at o2; have HO3 := hide o2; clear o2 g2 _f2))
                  go_roundw
                  case rel => exact ⟨j + 1, hjT, by go_num, HO3, HB3⟩
                  case measure => exact meas_oneW j T hjT
                · have hjT2 : j = T := by omega
                  subst hjT2
                  have HFIN := hide (HNX.out wr u8 (by rw [List.length_append, List.length_replicate, HLL.out]; exact HO.out) HB.out)
                  go_wp2
                  go_roundw
                  case rel => exact ⟨i + 1, hlt, by go_num, _, 0, rfl, HLR, HFIN⟩
                  case measure => exact meas_oneW i m hlt
            · have b17 : (s == 17) = false := by simp; exact x17
              by_cases x18 : s = 18
              · subst x18
                have ez : x = 0 := by rw [← HX.out, vl18]
                subst ez
                have HAL := hide (HBL.out.alloc HBL.out.size (.cells #[.int .i64 18, .int .i64 e] 39))
                have HOA := hide (HOW.out.alloc (.cells #[.int .i64 18, .int .i64 e] 39))
                go_wp2_with fail
                refine (HTM.out _).mono ?_
                rintro r w2 ⟨rfl, b2⟩
                have HB2 := hide (HAL.out.trans (b2.mono HAL.out.size))
                have HO2 := hide (own_below HOA.out b2 (Nat.le_refl _))
                clear b2
                go_wp2
                rename World => wq
                go_loopw [8, 43] (fun v kv wt => ∃ j : Nat, j ≤ T ∧ kv = .int .i64 (j : Nat) ∧ Hid (wt.ownsRow W.heap.size 3 1 v (L + j) (intCs (out ++ List.replicate j 0))) ∧ Hid (Below W.heap.size W wt)) (fun _ kv _ => T - (intOf kv).toNat)
                case atStart =>
                  refine ⟨0, Nat.zero_le _, rfl, hide ?_, HB2⟩
                  rw [Nat.add_zero, List.replicate_zero, List.append_nil]
                  exact HO2.out
                case round =>
                  obtain ⟨j, hj, rfl, HO, HB⟩ := hrel
                  by_cases hjT : j < T
                  · have zj : (j : Int) < T := by omega
                    have HSN := hide (rep_more out j 0)
                    have X1 := hide (show L + j + 1 ≤ maxLen by unfold maxLen; omega)
                    have X2 := hide (show (L + j + 1) * 8 ≤ 140737488355328 by omega)
                    go_wp2_with (first
                      | (at_builtin; refine wpList_append_fresh _ rfl _ _ 22 rfl W.heap.size 3 i1 (.int .i64 0) 1 8 Try.underlying22 ki kz0 kz1 kz2 rfl (by decide) u8 _ _ rfl (HO.out.alloc _) ⟨wr.heap.size, 0, none⟩ 1 1 [.int .i64 0] rfl rfl (cell_one_new _ _ _) (one_int _) X1.out X2.out (size_alloc_le HB.out.size) ?_; intro v2 w3 o2 g2 _f2; have HB3 := hide (Below.grownB (HB.out.alloc HB.out.size _) g2 (HO.out.alloc _) (size_alloc_le HB.out.size)); rw [show [Value.int .i64 0] = intCs [0] from rfl, intCs_append, HSN.out, Nat.add_assoc] at o2; have HO3 := hide o2; clear o2 g2 _f2))
                    go_roundw
                    case rel => exact ⟨j + 1, hjT, by go_num, HO3, HB3⟩
                    case measure => exact meas_oneW j T hjT
                  · have hjT2 : j = T := by omega
                    subst hjT2
                    have HFIN := hide (HNX.out wr u8 (by rw [List.length_append, List.length_replicate, HLL.out]; exact HO.out) HB.out)
                    go_wp2
                    go_roundw
                    case rel => exact ⟨i + 1, hlt, by go_num, _, 0, rfl, HLR, HFIN⟩
                    case measure => exact meas_oneW i m hlt
              · have b18 : (s == 18) = false := by simp; exact x18
                have ez : x = s := by rw [← HX.out, (plain_run s x16 x17 x18).2.2]
                subst ez
                clear x16 x17 x18
                have HAL := hide (HBL.out.alloc HBL.out.size (.cells #[.int .i64 x, .int .i64 e] 39))
                have HOA := hide (HOW.out.alloc (.cells #[.int .i64 x, .int .i64 e] 39))
                go_wp2_with fail
                refine (HTM.out _).mono ?_
                rintro r w2 ⟨rfl, b2⟩
                have HB2 := hide (HAL.out.trans (b2.mono HAL.out.size))
                have HO2 := hide (own_below HOA.out b2 (Nat.le_refl _))
                clear b2
                go_wp2
                rename World => wq
                go_loopw [8, 43] (fun v kv wt => ∃ j : Nat, j ≤ T ∧ kv = .int .i64 (j : Nat) ∧ Hid (wt.ownsRow W.heap.size 3 1 v (L + j) (intCs (out ++ List.replicate j x))) ∧ Hid (Below W.heap.size W wt)) (fun _ kv _ => T - (intOf kv).toNat)
                case atStart =>
                  refine ⟨0, Nat.zero_le _, rfl, hide ?_, HB2⟩
                  rw [Nat.add_zero, List.replicate_zero, List.append_nil]
                  exact HO2.out
                case round =>
                  obtain ⟨j, hj, rfl, HO, HB⟩ := hrel
                  by_cases hjT : j < T
                  · have zj : (j : Int) < T := by omega
                    have HSN := hide (rep_more out j x)
                    have X1 := hide (show L + j + 1 ≤ maxLen by unfold maxLen; omega)
                    have X2 := hide (show (L + j + 1) * 8 ≤ 140737488355328 by omega)
                    go_wp2_with (first
                      | (at_builtin; refine wpList_append_fresh _ rfl _ _ 22 rfl W.heap.size 3 i1 (.int .i64 0) 1 8 Try.underlying22 ki kz0 kz1 kz2 rfl (by decide) u8 _ _ rfl (HO.out.alloc _) ⟨wr.heap.size, 0, none⟩ 1 1 [.int .i64 x] rfl rfl (cell_one_new _ _ _) (one_int _) X1.out X2.out (size_alloc_le HB.out.size) ?_; intro v2 w3 o2 g2 _f2; have HB3 := hide (Below.grownB (HB.out.alloc HB.out.size _) g2 (HO.out.alloc _) (size_alloc_le HB.out.size)); rw [show [Value.int .i64 x] = intCs [x] from rfl, intCs_append, HSN.out, Nat.add_assoc] at o2; have HO3 := hide o2; clear o2 g2 _f2))
                    go_roundw
                    case rel => exact ⟨j + 1, hjT, by go_num, HO3, HB3⟩
                    case measure => exact meas_oneW j T hjT
                  · have hjT2 : j = T := by omega
                    subst hjT2
                    have HFIN := hide (HNX.out wr u8 (by rw [List.length_append, List.length_replicate, HLL.out]; exact HO.out) HB.out)
                    go_wp2
                    go_roundw
                    case rel => exact ⟨i + 1, hlt, by go_num, _, x, rfl, HLR, HFIN⟩
                    case measure => exact meas_oneW i m hlt
        · have hie : i = m := by omega
          subst hie
          have HD := hide (show unF (N : Int) [] rs = some out by
            have h := HU.out.un.un
            rw [List.drop_of_length_le (by rw [HM.out]; exact Nat.le_refl _)] at h
            have h2 := HU.out.cnt
            rw [List.drop_of_length_le (by rw [HM.out]; exact Nat.le_refl _)] at h2
            injection h2 with h2
            rw [h]
            exact if_pos h2)
          have HG := hide (un_some HD.out HU.out.un.own HU.out.un.bel)
          go_wp2
          go_ret2
          exact HG.out
    · have bc : (c == n) = false := by simp; exact ec
      have HG := hide (un_none (n := n) (un_no (by rw [hcn]; intro h; injection h with h; exact ec h)) b1)
      go_wp2
      go_ret2
      exact HG.out

end Go.Proofs.Ytdaflfkknlhllaa
