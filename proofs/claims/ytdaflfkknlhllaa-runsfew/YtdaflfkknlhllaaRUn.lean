/- Contract of the document's 'Unfold' of layer 7. -/
import Derived.Test.YtdaflfkknlhllaaRFold
namespace Go.Proofs.Ytdaflfkknlhllaa
open Go.RowKit Go.Lib

/-- What an unfolding gives. -/
def UnPost (W : World) (rs : List (Int × Int)) (n : Int) (e : Ending) (w' : World) : Prop := ∃ a c, e = .returned (.tuple #[.slice a (unO rs n).length c, .bool (unB rs n)]) ∧ ArgZ w' a (unO rs n) ∧ (a = none → c = 0) ∧ Below W.heap.size W w'

theorem un_none {W w : World} {rs : List (Int × Int)} {n : Int} (h : unF n [] rs = none) (b : Below W.heap.size W w) : UnPost W rs n (.returned (.tuple #[.slice none 0 0, .bool false])) w := by
  have h1 : unO rs n = [] := by unfold unO; rw [h]; rfl
  have h2 : unB rs n = false := by unfold unB; rw [h]; rfl
  refine ⟨none, 0, by rw [h1, h2]; rfl, ?_, fun _ => rfl, b⟩
  rw [h1]
  intro i x hx
  simp at hx
theorem un_some {W w : World} {rs : List (Int × Int)} {n : Int} {out : List Int} {v : Value} (h : unF n [] rs = some out) (ho : w.ownsRow W.heap.size 3 1 v out.length (intCs out)) (b : Below W.heap.size W w) : UnPost W rs n (.returned (.tuple #[v, .bool true])) w := by
  have h1 : unO rs n = out := by unfold unO; rw [h]; rfl
  have h2 : unB rs n = true := by unfold unB; rw [h]; rfl
  obtain ⟨a, c, e, g1, g2⟩ := own_argI ho rfl
  exact ⟨a, c, by rw [h1, h2, e], by rw [h1]; exact g1, fun e => (g2 e).2, b⟩

/-- The lengths under way. -/
structure UnW (w W : World) (rs : List (Int × Int)) (n : Int) (i : Nat) (out : List Int) (v : Value) : Prop where
  own : w.ownsRow W.heap.size 3 1 v out.length (intCs out)
  bel : Below W.heap.size W w
  un : unF n [] rs = unF n out (rs.drop i)
  len : out.length ≤ 138 * i
  room : out = [] ∨ (out.length : Int) ≤ n

theorem UnW.bad {w w' W : World} {rs : List (Int × Int)} {n : Int} {i : Nat} {out : List Int} {v : Value} (h : UnW w W rs n i out v) (r : Int × Int) (hr : rs[i]? = some r) (hb : runB n out r = false) (b : Below W.heap.size W w') : UnPost W rs n (.returned (.tuple #[.slice none 0 0, .bool false])) w' := by
  refine un_none ?_ b
  obtain ⟨hi, e⟩ := List.getElem?_eq_some_iff.1 hr
  rw [h.un, List.drop_eq_getElem_cons hi, e]
  show (if runB n out r = true then _ else none) = none
  rw [hb]
  rfl
theorem runB_false (n : Int) (out : List Int) (r : Int × Int) (h : ¬ (¬ (r.1 = 16 ∧ out = []) ∧ 0 ≤ r.1 ∧ r.1 ≤ 18 ∧ 0 ≤ r.2 ∧ r.2 < ((2 ^ xBits r.1 : Nat) : Int) ∧ timesR r ≤ n - (out.length : Int))) : runB n out r = false := by
  cases hb : runB n out r with
  | false => rfl
  | true => exact absurd ((runB_iff n out r).1 hb) h
/-- Behind a run that may be. -/
theorem UnW.next {w w' W : World} {rs : List (Int × Int)} {n : Int} {i : Nat} {out : List Int} {v v' : Value} (h : UnW w W rs n i out v) (r : Int × Int) (hr : rs[i]? = some r) (hb : runB n out r = true) (k : Nat) (hk : (timesR r).toNat = k) (x : Int) (hx : valR out r.1 = x)
    (ho : w'.ownsRow W.heap.size 3 1 v' (out ++ List.replicate k x).length (intCs (out ++ List.replicate k x))) (b : Below W.heap.size W w') : UnW w' W rs n (i + 1) (out ++ List.replicate k x) v' := by
  obtain ⟨hi, e⟩ := List.getElem?_eq_some_iff.1 hr
  obtain ⟨g1, g2, g3, g4, g5, g6⟩ := (runB_iff n out r).1 hb
  have h138 : k ≤ 138 := by
    have hx : xBits r.1 ≤ 7 := by unfold xBits; split; · omega
                                  split; · omega
                                  split; · omega
                                  omega
    have hp : (2 : Nat) ^ xBits r.1 ≤ 2 ^ 7 := Nat.pow_le_pow_right (by decide) hx
    rw [← hk]
    unfold timesR
    split; · rename_i e2; rw [e2, xb16] at g5; omega
    split; · rename_i e2; rw [e2, xb17] at g5; omega
    split; · omega
    omega
  refine ⟨ho, b, ?_, ?_, .inr ?_⟩
  · rw [h.un, List.drop_eq_getElem_cons hi, e]
    show (if runB n out r = true then unF n (out ++ List.replicate (timesR r).toNat (valR out r.1)) _ else none) = _
    rw [if_pos hb, hk, hx]
  · rw [List.length_append, List.length_replicate]
    have := h.len
    omega
  · rw [List.length_append, List.length_replicate]
    have : timesR r ≤ (k : Int) ∨ True := .inr trivial
    have h0 : 0 ≤ timesR r := by
      unfold timesR
      split; · omega
      split; · omega
      split; · omega
      omega
    omega

theorem wrap_less (n : Int) (L : Nat) (h1 : -9223372036854775808 ≤ n) (h2 : n ≤ 9223372036854775807) (h : L = 0 ∨ (L : Int) ≤ n) : IntKind.i64.wrap (n - (L : Int)) = n - (L : Int) ∧ wrap64 (n - (L : Int)) = n - (L : Int) := by
  constructor
  · rw [IntKind.wrap_i64]; omega
  · unfold wrap64; omega

theorem UnW.alloc {w W : World} {rs : List (Int × Int)} {n : Int} {i : Nat} {out : List Int} {v : Value} (h : UnW w W rs n i out v) (o : Obj) : UnW (w.alloc o) W rs n i out v :=
  ⟨h.own.alloc o, h.bel.alloc h.bel.size o, h.un, h.len, h.room⟩
theorem UnW.drewN {w W : World} {rs : List (Int × Int)} {n : Int} {i : Nat} {out : List Int} {v : Value} (h : UnW w W rs n i out v) (k : Nat) : UnW (w.drewN k) W rs n i out v :=
  ⟨own_below h.own (below_drewN (Below.refl w.heap.size w) k) (Nat.le_refl _), below_drewN h.bel k, h.un, h.len, h.room⟩
theorem last_at (out : List Int) (h : out ≠ []) : out[out.length - 1]? = some (out.getLastD 0) := by
  obtain ⟨o, x, rfl⟩ : ∃ o x, out = o ++ [x] := ⟨out.dropLast, out.getLast h, (List.dropLast_concat_getLast h).symm⟩
  simp
theorem rep_snoc (out : List Int) (k j : Nat) (x : Int) (h : j < k) : (out ++ List.replicate (k - (j + 1)) x) ++ [x] = out ++ List.replicate (k - j) x := by
  rw [List.append_assoc, ← List.replicate_succ', show k - (j + 1) + 1 = k - j by omega]

set_option maxRecDepth 20000 in
set_option maxHeartbeats 8000000 in
theorem qunfold_any (rs : List (Int × Int)) (a : Option Addr) (cap : Nat) (n : Int) (W : World) (harg : ArgR W a rs) (hl : rs.length ≤ 2000) (hn1 : -9223372036854775808 ≤ n) (hn2 : n ≤ 9223372036854775807) :
    Calls Try.prog 17 #[.slice a rs.length cap, .int .i64 n] W fun e w' => UnPost W rs n e w' := by
  have HA := hide harg
  obtain ⟨m, hm⟩ : ∃ m, rs.length = m := ⟨_, rfl⟩
  have HM := hide hm
  have HWR := hide (fun L => wrap_less n L hn1 hn2)
  rw [hm] at hl ⊢
  obtain ⟨i1, ki, kz0, kz1, kz2⟩ := info_parts Try.infoInt
  have HU0 := hide (show UnW W W rs n 0 [] (.slice none 0 0) from ⟨World.ownsRow_nil _ _ _ _, Below.refl _ _, by rw [List.drop_zero], Nat.le_refl _, .inl rfl⟩)
  clear harg hm hn1 hn2
  go_enter Try.func17, Try.ntmps17
  go_wp2
  go_loopw [6, 7] (fun v iv wr => ∃ i : Nat, i ≤ m ∧ iv = .int .i64 (i : Nat) ∧ ∃ out a6 c6, v = .slice a6 (out : List Int).length c6 ∧ Hid (UnW wr W rs n i out v)) (fun _ iv _ => m - (intOf iv).toNat)
  case atStart => exact ⟨0, Nat.zero_le _, rfl, [], none, 0, rfl, HU0⟩
  case round =>
    clear HU0
    obtain ⟨i, hi, rfl, out, a6, c6, rfl, HU⟩ := hrel
    have hlen := HU.out.len
    have HRM := hide HU.out.room
    obtain ⟨L, hL⟩ : ∃ L, out.length = L := ⟨_, rfl⟩
    have HLL := hide hL
    simp only [hL] at HU ⊢
    rw [hL] at hlen
    by_cases hlt : i < m
    · obtain ⟨⟨s, e⟩, hr⟩ : ∃ r, rs[i]? = some r := ⟨_, List.getElem?_eq_getElem (by rw [HM.out]; exact hlt)⟩
      have HR := hide hr
      obtain ⟨b, off, rfl, hb, hc1, hc2⟩ := HA.out i s e hr
      have _c1 := (HU.out.bel.cell (p := ⟨b, off + i * 2, none⟩) hb).trans hc1
      have _c2 := (HU.out.bel.cell (p := ⟨b, off + i * 2 + 1, none⟩) hb).trans hc2
      have zi : (i : Int) < m := by omega
      have HU1 := hide (HU.out.alloc (.cells #[.int .i64 s, .int .i64 e] 39))
      have HBK := hide (fun q => (HU1.out.drewN q).bel)
      have HBAD := hide (fun (h : runB n out (s, e) = false) w' (hb : Below W.heap.size W w') => HU1.out.bad (w' := w') (s, e) HR.out h hb)
      have HRF := hide (fun h => runB_false n out (s, e) h)
      have hLm : L = 0 ∨ (L : Int) ≤ n := by
        rcases HRM.out with h | h
        · left; rw [← HLL.out, h]; rfl
        · right; rw [HLL.out] at h; exact h
      have ew1 := (HWR.out L hLm).1
      have ew2 := (HWR.out L hLm).2
      have HLI := hide hlen
      have hL9 : L ≤ 300000 := by omega
      have HHB := hide (show (wr.alloc (.cells #[.int .i64 s, .int .i64 e] 39)).heap[wr.heap.size]? = some (.cells #[.int .i64 s, .int .i64 e] 39 (0, 0)) by show (wr.heap.push _)[wr.heap.size]? = _; simp)
      have _d0 : (wr.alloc (.cells #[.int .i64 s, .int .i64 e] 39)).cell? ⟨wr.heap.size, 0, none⟩ = some (.int .i64 s) := by
        rw [cell_of_row _ _ 0 _ _ (0, 0) HHB.out]; rfl
      have _d1 : (wr.alloc (.cells #[.int .i64 s, .int .i64 e] 39)).cell? ⟨wr.heap.size, 1, none⟩ = some (.int .i64 e) := by
        rw [cell_of_row _ _ 1 _ _ (0, 0) HHB.out]; rfl
      have HQB := hide (qbits_any s)
      clear hr hc1 hc2 hlen hLm hi HU
      by_cases x16 : s = 16
      · subst x16
        rw [xb16] at HQB
        by_cases hne : out = []
        · have HX := hide (HBAD.out (HRF.out (fun h => h.1 ⟨rfl, hne⟩)))
          have hL0 : L = 0 := by rw [← HLL.out, hne]; rfl
          subst hL0
          have HBK0 := hide HU1.out.bel
          clear hne
          go_wp2
          go_ret2
          exact HX.out _ HBK0.out
        · obtain ⟨y, hy⟩ : ∃ y, out.getLastD 0 = y := ⟨_, rfl⟩
          have HYL := hide hy
          have hLp : 0 < L := by rw [← HLL.out]; exact List.length_pos_iff.2 hne
          have hla := last_at out hne
          rw [HLL.out, hy] at hla
          obtain ⟨a8, c8, ea, hz, _⟩ := own_argI HU1.out.own rfl
          injection ea with ea1 ea2 ea3
          subst ea1
          subst ea3
          obtain ⟨b6, off6, rfl, hb6, _c6⟩ := hz _ _ hla
          have ew6 : IntKind.i64.wrap ((L : Int) - 1) = ((L - 1 : Nat) : Int) := by rw [IntKind.wrap_i64]; omega
          have es6 : (L : Int) - 1 = ((L - 1 : Nat) : Int) := by omega
          have zl6 : ((L - 1 : Nat) : Int) < L := by omega
          have bL0 : ((L : Int) == 0) = false := by simp; omega
          generalize L - 1 = L1 at *
          clear hy hla hz ea2
          by_cases e0 : e < 0
          · have de0 : decide (e < 0) = true := decide_eq_true e0
            have HX := hide (HBAD.out (HRF.out (fun h => by obtain ⟨_, _, _, h4, h5, h6⟩ := h; rw [tm16] at h6; dsimp only at h4 h5; rw [xb16] at h5; rw [HLL.out] at h6; omega)))
            clear HBAD HRF
            go_wp2_with fail
            go_quiet (fail)
            have _e0 : ((wr.alloc (.cells #[.int .i64 16, .int .i64 e] 39)).drewN nq).cell? ⟨wr.heap.size, 0, none⟩ = some (.int .i64 16) := _d0
            have _e1 : ((wr.alloc (.cells #[.int .i64 16, .int .i64 e] 39)).drewN nq).cell? ⟨wr.heap.size, 1, none⟩ = some (.int .i64 e) := _d1
            have HBQ := hide (fun q => below_drewN (HBK.out nq) q)
            clear _d0 _d1 HBK HU1 HHB
            generalize (wr.alloc (.cells #[.int .i64 16, .int .i64 e] 39)).drewN nq = wq at *
            have HBK := HBQ
            clear HBQ
            go_wp2_with fail
            go_quiet ((go_at_call 13; exact Calls.quiet_of_same (HQB.out _)))
            go_wp2
            go_ret2
            exact HX.out _ (HBK.out _)
          · have de0 : decide (e < 0) = false := decide_eq_false e0
            by_cases e1 : 4 ≤ e
            · have de1 : decide (4 ≤ e) = true := decide_eq_true e1
              have HX := hide (HBAD.out (HRF.out (fun h => by obtain ⟨_, _, _, h4, h5, h6⟩ := h; rw [tm16] at h6; dsimp only at h4 h5; rw [xb16] at h5; rw [HLL.out] at h6; omega)))
              clear HBAD HRF
              go_wp2_with fail
              go_quiet (fail)
              have _e0 : ((wr.alloc (.cells #[.int .i64 16, .int .i64 e] 39)).drewN nq).cell? ⟨wr.heap.size, 0, none⟩ = some (.int .i64 16) := _d0
              have _e1 : ((wr.alloc (.cells #[.int .i64 16, .int .i64 e] 39)).drewN nq).cell? ⟨wr.heap.size, 1, none⟩ = some (.int .i64 e) := _d1
              have HBQ := hide (fun q => below_drewN (HBK.out nq) q)
              clear _d0 _d1 HBK HU1 HHB
              generalize (wr.alloc (.cells #[.int .i64 16, .int .i64 e] 39)).drewN nq = wq at *
              have HBK := HBQ
              clear HBQ
              go_wp2_with fail
              go_quiet ((go_at_call 13; exact Calls.quiet_of_same (HQB.out _)))
              go_wp2
              go_ret2
              exact HX.out _ (HBK.out _)
            · have de1 : decide (4 ≤ e) = false := decide_eq_false e1
              by_cases k1 : n - (L : Int) < 3 + e
              · have dk : decide (n - (L : Int) < 3 + e) = true := decide_eq_true k1
                have HX := hide (HBAD.out (HRF.out (fun h => by obtain ⟨_, _, _, h4, h5, h6⟩ := h; rw [tm16] at h6; dsimp only at h4 h5; rw [xb16] at h5; rw [HLL.out] at h6; omega)))
                clear HBAD HRF
                go_wp2_with fail
                go_quiet (fail)
                have _e0 : ((wr.alloc (.cells #[.int .i64 16, .int .i64 e] 39)).drewN nq).cell? ⟨wr.heap.size, 0, none⟩ = some (.int .i64 16) := _d0
                have _e1 : ((wr.alloc (.cells #[.int .i64 16, .int .i64 e] 39)).drewN nq).cell? ⟨wr.heap.size, 1, none⟩ = some (.int .i64 e) := _d1
                have HBQ := hide (fun q => below_drewN (HBK.out nq) q)
                clear _d0 _d1 HBK HU1 HHB
                generalize (wr.alloc (.cells #[.int .i64 16, .int .i64 e] 39)).drewN nq = wq at *
                have HBK := HBQ
                clear HBQ
                go_wp2_with fail
                go_quiet ((go_at_call 13; exact Calls.quiet_of_same (HQB.out _)))
                go_wp2
                go_ret2
                exact HX.out _ (HBK.out _)
              · skip
                obtain ⟨k, hk⟩ : ∃ k : Nat, 3 + e = (k : Int) := ⟨(3 + e).toNat, by omega⟩
                have HTM : Hid ((timesR (16, e)).toNat = k) := hide (by rw [tm16]; omega)
                have HVL : Hid (valR out 16 = y) := hide (by rw [vl16]; exact HYL.out)
                have HRB := hide (show runB n out (16, e) = true by rw [runB_iff]; rw [tm16]; dsimp only; rw [xb16, HLL.out]; exact ⟨fun h => hne h.2, by omega, by omega, by omega, by omega, by omega⟩)
                have dk : decide (n - (L : Int) < (k : Int)) = false := decide_eq_false (by omega)
                have hk9 : k ≤ 138 := by omega
                have HNX := hide (fun w' v' (ho : w'.ownsRow W.heap.size 3 1 v' (out ++ List.replicate k y).length (intCs (out ++ List.replicate k y))) (hb : Below W.heap.size W w') => HU1.out.next (w' := w') (v' := v') (16, e) HR.out HRB.out k HTM.out y HVL.out ho hb)
                have HUQ := hide (fun q => HU1.out.drewN q)
                clear HBAD HRF
                go_wp2_with fail
                go_quiet (fail)
                have _e0 : ((wr.alloc (.cells #[.int .i64 16, .int .i64 e] 39)).drewN nq).cell? ⟨wr.heap.size, 0, none⟩ = some (.int .i64 16) := _d0
                have _e1 : ((wr.alloc (.cells #[.int .i64 16, .int .i64 e] 39)).drewN nq).cell? ⟨wr.heap.size, 1, none⟩ = some (.int .i64 e) := _d1
                have HBQ := hide (fun q => below_drewN (HBK.out nq) q)
                have HUR := hide (fun q => (HUQ.out nq).drewN q)
                clear _d0 _d1 HBK HU1 HHB HUQ
                generalize (wr.alloc (.cells #[.int .i64 16, .int .i64 e] 39)).drewN nq = wq at *
                have HBK := HBQ
                clear HBQ
                have HUQ := HUR
                clear HUR
                go_wp2_with fail
                go_quiet ((go_at_call 13; exact Calls.quiet_of_same (HQB.out _)))
                go_wp2
                rename World => wp
                go_loopw [6, 10] (fun v kv wt => ∃ j : Nat, j ≤ k ∧ kv = .int .i64 (j : Nat) ∧ Hid (wt.ownsRow W.heap.size 3 1 v (L + (k - j)) (intCs (out ++ List.replicate (k - j) y))) ∧ Hid (Below W.heap.size W wt)) (fun _ kv _ => (intOf kv).toNat)
                case atStart =>
                  refine ⟨k, Nat.le_refl _, by rw [← hk], hide ?_, hide (HBK.out _)⟩
                  have h := (HUQ.out nq).own
                  rw [HLL.out] at h
                  rw [Nat.sub_self, Nat.add_zero, List.replicate_zero, List.append_nil]
                  exact h
                case round =>
                  obtain ⟨j, hj, rfl, HO, HB⟩ := hrel
                  by_cases hj0 : 0 < j
                  · obtain ⟨t, rfl⟩ : ∃ t, j = t + 1 := ⟨j - 1, by omega⟩
                    have zj : (0 : Int) < ((t + 1 : Nat) : Int) := by omega
                    have HSN := hide (rep_snoc out k t y (by omega))
                    have X1 := hide (show L + (k - (t + 1)) + 1 ≤ maxLen by unfold maxLen; omega)
                    have X2 := hide (show (L + (k - (t + 1)) + 1) * 8 ≤ 140737488355328 by omega)
                    have HLE := hide (show L + (k - (t + 1)) + 1 = L + (k - t) by omega)
                    have ej : ((t + 1 : Nat) : Int) - 1 = (t : Int) := by omega
                    have HTK := hide (show t ≤ k by omega)
                    have ht9 : t ≤ 138 := by omega
                    clear hj0 hj
                    go_wp2_with (first
                      | (at_builtin; refine wpList_append_fresh _ rfl _ _ 22 rfl W.heap.size 3 i1 (.int .i64 0) 1 8 Try.underlying22 ki kz0 kz1 kz2 rfl (by decide) u6 _ _ rfl (HO.out.alloc _) ⟨wr.heap.size, 0, none⟩ 1 1 [.int .i64 y] rfl rfl (cell_one_new _ _ _) (one_int _) X1.out X2.out (size_alloc_le HB.out.size) ?_; intro v2 w2 o2 g2 _f2; have HB2 := hide (Below.grownB (HB.out.alloc HB.out.size _) g2 (HO.out.alloc _) (size_alloc_le HB.out.size)); rw [show [Value.int .i64 y] = intCs [y] from rfl, intCs_append, HSN.out, HLE.out] at o2; have HO2 := hide o2; clear o2 g2 _f2))
                    go_roundw
                    case rel => first | exact ⟨t, HTK.out, by go_num, HO2, HB2⟩ | exact ⟨_, _, _, _, _, _, _, _, _, _, ⟨t, HTK.out, rfl, HO2, HB2⟩, rfl⟩
                    case measure => first | (simp [intOf]; done) | (simp [intOf]; omega)
                  · have hj00 : j = 0 := by omega
                    subst hj00
                    rw [Nat.sub_zero] at HO
                    have HLQ := hide (show (out ++ List.replicate k y).length = L + k by rw [List.length_append, List.length_replicate, HLL.out])
                    have HFIN := hide (HNX.out wr u6 (by rw [HLQ.out]; exact HO.out) HB.out)
                    obtain ⟨a9, c9, e9, _, _⟩ := own_argI HO.out HLQ.out
                    have HE9 := hide e9
                    clear hj0 hj e9
                    go_wp2
                    go_roundw
                    case rel => exact ⟨i + 1, hlt, by go_num, _, a9, c9, by rw [HLQ.out]; exact HE9.out, HFIN⟩
                    case measure => exact meas_oneW i m hlt
      · have b16 : (s == 16) = false := by simp; exact x16
        by_cases x17 : s = 17
        · subst x17
          rw [xb17] at HQB
          by_cases e0 : e < 0
          · have de0 : decide (e < 0) = true := decide_eq_true e0
            have HX := hide (HBAD.out (HRF.out (fun h => by obtain ⟨_, _, _, h4, h5, h6⟩ := h; rw [tm17] at h6; dsimp only at h4 h5; rw [xb17] at h5; rw [HLL.out] at h6; omega)))
            clear HBAD HRF
            go_wp2_with fail
            go_quiet (fail)
            have _e0 : ((wr.alloc (.cells #[.int .i64 17, .int .i64 e] 39)).drewN nq).cell? ⟨wr.heap.size, 0, none⟩ = some (.int .i64 17) := _d0
            have _e1 : ((wr.alloc (.cells #[.int .i64 17, .int .i64 e] 39)).drewN nq).cell? ⟨wr.heap.size, 1, none⟩ = some (.int .i64 e) := _d1
            have HBQ := hide (fun q => below_drewN (HBK.out nq) q)
            clear _d0 _d1 HBK HU1 HHB
            generalize (wr.alloc (.cells #[.int .i64 17, .int .i64 e] 39)).drewN nq = wq at *
            have HBK := HBQ
            clear HBQ
            go_wp2_with fail
            go_quiet ((go_at_call 13; exact Calls.quiet_of_same (HQB.out _)))
            go_wp2
            go_ret2
            exact HX.out _ (HBK.out _)
          · have de0 : decide (e < 0) = false := decide_eq_false e0
            by_cases e1 : 8 ≤ e
            · have de1 : decide (8 ≤ e) = true := decide_eq_true e1
              have HX := hide (HBAD.out (HRF.out (fun h => by obtain ⟨_, _, _, h4, h5, h6⟩ := h; rw [tm17] at h6; dsimp only at h4 h5; rw [xb17] at h5; rw [HLL.out] at h6; omega)))
              clear HBAD HRF
              go_wp2_with fail
              go_quiet (fail)
              have _e0 : ((wr.alloc (.cells #[.int .i64 17, .int .i64 e] 39)).drewN nq).cell? ⟨wr.heap.size, 0, none⟩ = some (.int .i64 17) := _d0
              have _e1 : ((wr.alloc (.cells #[.int .i64 17, .int .i64 e] 39)).drewN nq).cell? ⟨wr.heap.size, 1, none⟩ = some (.int .i64 e) := _d1
              have HBQ := hide (fun q => below_drewN (HBK.out nq) q)
              clear _d0 _d1 HBK HU1 HHB
              generalize (wr.alloc (.cells #[.int .i64 17, .int .i64 e] 39)).drewN nq = wq at *
              have HBK := HBQ
              clear HBQ
              go_wp2_with fail
              go_quiet ((go_at_call 13; exact Calls.quiet_of_same (HQB.out _)))
              go_wp2
              go_ret2
              exact HX.out _ (HBK.out _)
            · have de1 : decide (8 ≤ e) = false := decide_eq_false e1
              by_cases k1 : n - (L : Int) < 3 + e
              · have dk : decide (n - (L : Int) < 3 + e) = true := decide_eq_true k1
                have HX := hide (HBAD.out (HRF.out (fun h => by obtain ⟨_, _, _, h4, h5, h6⟩ := h; rw [tm17] at h6; dsimp only at h4 h5; rw [xb17] at h5; rw [HLL.out] at h6; omega)))
                clear HBAD HRF
                go_wp2_with fail
                go_quiet (fail)
                have _e0 : ((wr.alloc (.cells #[.int .i64 17, .int .i64 e] 39)).drewN nq).cell? ⟨wr.heap.size, 0, none⟩ = some (.int .i64 17) := _d0
                have _e1 : ((wr.alloc (.cells #[.int .i64 17, .int .i64 e] 39)).drewN nq).cell? ⟨wr.heap.size, 1, none⟩ = some (.int .i64 e) := _d1
                have HBQ := hide (fun q => below_drewN (HBK.out nq) q)
                clear _d0 _d1 HBK HU1 HHB
                generalize (wr.alloc (.cells #[.int .i64 17, .int .i64 e] 39)).drewN nq = wq at *
                have HBK := HBQ
                clear HBQ
                go_wp2_with fail
                go_quiet ((go_at_call 13; exact Calls.quiet_of_same (HQB.out _)))
                go_wp2
                go_ret2
                exact HX.out _ (HBK.out _)
              · skip
                obtain ⟨k, hk⟩ : ∃ k : Nat, 3 + e = (k : Int) := ⟨(3 + e).toNat, by omega⟩
                have HTM : Hid ((timesR (17, e)).toNat = k) := hide (by rw [tm17]; omega)
                have HVL : Hid (valR out 17 = 0) := hide (by rw [vl17])
                have HRB := hide (show runB n out (17, e) = true by rw [runB_iff]; rw [tm17]; dsimp only; rw [xb17, HLL.out]; omega)
                have dk : decide (n - (L : Int) < (k : Int)) = false := decide_eq_false (by omega)
                have hk9 : k ≤ 138 := by omega
                have HNX := hide (fun w' v' (ho : w'.ownsRow W.heap.size 3 1 v' (out ++ List.replicate k 0).length (intCs (out ++ List.replicate k 0))) (hb : Below W.heap.size W w') => HU1.out.next (w' := w') (v' := v') (17, e) HR.out HRB.out k HTM.out 0 HVL.out ho hb)
                have HUQ := hide (fun q => HU1.out.drewN q)
                clear HBAD HRF
                go_wp2_with fail
                go_quiet (fail)
                have _e0 : ((wr.alloc (.cells #[.int .i64 17, .int .i64 e] 39)).drewN nq).cell? ⟨wr.heap.size, 0, none⟩ = some (.int .i64 17) := _d0
                have _e1 : ((wr.alloc (.cells #[.int .i64 17, .int .i64 e] 39)).drewN nq).cell? ⟨wr.heap.size, 1, none⟩ = some (.int .i64 e) := _d1
                have HBQ := hide (fun q => below_drewN (HBK.out nq) q)
                have HUR := hide (fun q => (HUQ.out nq).drewN q)
                clear _d0 _d1 HBK HU1 HHB HUQ
                generalize (wr.alloc (.cells #[.int .i64 17, .int .i64 e] 39)).drewN nq = wq at *
                have HBK := HBQ
                clear HBQ
                have HUQ := HUR
                clear HUR
                go_wp2_with fail
                go_quiet ((go_at_call 13; exact Calls.quiet_of_same (HQB.out _)))
                go_wp2
                rename World => wp
                go_loopw [6, 10] (fun v kv wt => ∃ j : Nat, j ≤ k ∧ kv = .int .i64 (j : Nat) ∧ Hid (wt.ownsRow W.heap.size 3 1 v (L + (k - j)) (intCs (out ++ List.replicate (k - j) 0))) ∧ Hid (Below W.heap.size W wt)) (fun _ kv _ => (intOf kv).toNat)
                case atStart =>
                  refine ⟨k, Nat.le_refl _, by rw [← hk], hide ?_, hide (HBK.out _)⟩
                  have h := (HUQ.out nq).own
                  rw [HLL.out] at h
                  rw [Nat.sub_self, Nat.add_zero, List.replicate_zero, List.append_nil]
                  exact h
                case round =>
                  obtain ⟨j, hj, rfl, HO, HB⟩ := hrel
                  by_cases hj0 : 0 < j
                  · obtain ⟨t, rfl⟩ : ∃ t, j = t + 1 := ⟨j - 1, by omega⟩
                    have zj : (0 : Int) < ((t + 1 : Nat) : Int) := by omega
                    have HSN := hide (rep_snoc out k t 0 (by omega))
                    have X1 := hide (show L + (k - (t + 1)) + 1 ≤ maxLen by unfold maxLen; omega)
                    have X2 := hide (show (L + (k - (t + 1)) + 1) * 8 ≤ 140737488355328 by omega)
                    have HLE := hide (show L + (k - (t + 1)) + 1 = L + (k - t) by omega)
                    have ej : ((t + 1 : Nat) : Int) - 1 = (t : Int) := by omega
                    have HTK := hide (show t ≤ k by omega)
                    have ht9 : t ≤ 138 := by omega
                    clear hj0 hj
                    go_wp2_with (first
                      | (at_builtin; refine wpList_append_fresh _ rfl _ _ 22 rfl W.heap.size 3 i1 (.int .i64 0) 1 8 Try.underlying22 ki kz0 kz1 kz2 rfl (by decide) u6 _ _ rfl (HO.out.alloc _) ⟨wr.heap.size, 0, none⟩ 1 1 [.int .i64 0] rfl rfl (cell_one_new _ _ _) (one_int _) X1.out X2.out (size_alloc_le HB.out.size) ?_; intro v2 w2 o2 g2 _f2; have HB2 := hide (Below.grownB (HB.out.alloc HB.out.size _) g2 (HO.out.alloc _) (size_alloc_le HB.out.size)); rw [show [Value.int .i64 0] = intCs [0] from rfl, intCs_append, HSN.out, HLE.out] at o2; have HO2 := hide o2; clear o2 g2 _f2))
                    go_roundw
                    case rel => first | exact ⟨t, HTK.out, by go_num, HO2, HB2⟩ | exact ⟨_, _, _, _, _, _, _, _, _, _, ⟨t, HTK.out, rfl, HO2, HB2⟩, rfl⟩
                    case measure => first | (simp [intOf]; done) | (simp [intOf]; omega)
                  · have hj00 : j = 0 := by omega
                    subst hj00
                    rw [Nat.sub_zero] at HO
                    have HLQ := hide (show (out ++ List.replicate k 0).length = L + k by rw [List.length_append, List.length_replicate, HLL.out])
                    have HFIN := hide (HNX.out wr u6 (by rw [HLQ.out]; exact HO.out) HB.out)
                    obtain ⟨a9, c9, e9, _, _⟩ := own_argI HO.out HLQ.out
                    have HE9 := hide e9
                    clear hj0 hj e9
                    go_wp2
                    go_roundw
                    case rel => exact ⟨i + 1, hlt, by go_num, _, a9, c9, by rw [HLQ.out]; exact HE9.out, HFIN⟩
                    case measure => exact meas_oneW i m hlt
        · have b17 : (s == 17) = false := by simp; exact x17
          by_cases x18 : s = 18
          · subst x18
            rw [xb18] at HQB
            by_cases e0 : e < 0
            · have de0 : decide (e < 0) = true := decide_eq_true e0
              have HX := hide (HBAD.out (HRF.out (fun h => by obtain ⟨_, _, _, h4, h5, h6⟩ := h; rw [tm18] at h6; dsimp only at h4 h5; rw [xb18] at h5; rw [HLL.out] at h6; omega)))
              clear HBAD HRF
              go_wp2_with fail
              go_quiet (fail)
              have _e0 : ((wr.alloc (.cells #[.int .i64 18, .int .i64 e] 39)).drewN nq).cell? ⟨wr.heap.size, 0, none⟩ = some (.int .i64 18) := _d0
              have _e1 : ((wr.alloc (.cells #[.int .i64 18, .int .i64 e] 39)).drewN nq).cell? ⟨wr.heap.size, 1, none⟩ = some (.int .i64 e) := _d1
              have HBQ := hide (fun q => below_drewN (HBK.out nq) q)
              clear _d0 _d1 HBK HU1 HHB
              generalize (wr.alloc (.cells #[.int .i64 18, .int .i64 e] 39)).drewN nq = wq at *
              have HBK := HBQ
              clear HBQ
              go_wp2_with fail
              go_quiet ((go_at_call 13; exact Calls.quiet_of_same (HQB.out _)))
              go_wp2
              go_ret2
              exact HX.out _ (HBK.out _)
            · have de0 : decide (e < 0) = false := decide_eq_false e0
              by_cases e1 : 128 ≤ e
              · have de1 : decide (128 ≤ e) = true := decide_eq_true e1
                have HX := hide (HBAD.out (HRF.out (fun h => by obtain ⟨_, _, _, h4, h5, h6⟩ := h; rw [tm18] at h6; dsimp only at h4 h5; rw [xb18] at h5; rw [HLL.out] at h6; omega)))
                clear HBAD HRF
                go_wp2_with fail
                go_quiet (fail)
                have _e0 : ((wr.alloc (.cells #[.int .i64 18, .int .i64 e] 39)).drewN nq).cell? ⟨wr.heap.size, 0, none⟩ = some (.int .i64 18) := _d0
                have _e1 : ((wr.alloc (.cells #[.int .i64 18, .int .i64 e] 39)).drewN nq).cell? ⟨wr.heap.size, 1, none⟩ = some (.int .i64 e) := _d1
                have HBQ := hide (fun q => below_drewN (HBK.out nq) q)
                clear _d0 _d1 HBK HU1 HHB
                generalize (wr.alloc (.cells #[.int .i64 18, .int .i64 e] 39)).drewN nq = wq at *
                have HBK := HBQ
                clear HBQ
                go_wp2_with fail
                go_quiet ((go_at_call 13; exact Calls.quiet_of_same (HQB.out _)))
                go_wp2
                go_ret2
                exact HX.out _ (HBK.out _)
              · have de1 : decide (128 ≤ e) = false := decide_eq_false e1
                by_cases k1 : n - (L : Int) < 11 + e
                · have dk : decide (n - (L : Int) < 11 + e) = true := decide_eq_true k1
                  have HX := hide (HBAD.out (HRF.out (fun h => by obtain ⟨_, _, _, h4, h5, h6⟩ := h; rw [tm18] at h6; dsimp only at h4 h5; rw [xb18] at h5; rw [HLL.out] at h6; omega)))
                  clear HBAD HRF
                  go_wp2_with fail
                  go_quiet (fail)
                  have _e0 : ((wr.alloc (.cells #[.int .i64 18, .int .i64 e] 39)).drewN nq).cell? ⟨wr.heap.size, 0, none⟩ = some (.int .i64 18) := _d0
                  have _e1 : ((wr.alloc (.cells #[.int .i64 18, .int .i64 e] 39)).drewN nq).cell? ⟨wr.heap.size, 1, none⟩ = some (.int .i64 e) := _d1
                  have HBQ := hide (fun q => below_drewN (HBK.out nq) q)
                  clear _d0 _d1 HBK HU1 HHB
                  generalize (wr.alloc (.cells #[.int .i64 18, .int .i64 e] 39)).drewN nq = wq at *
                  have HBK := HBQ
                  clear HBQ
                  go_wp2_with fail
                  go_quiet ((go_at_call 13; exact Calls.quiet_of_same (HQB.out _)))
                  go_wp2
                  go_ret2
                  exact HX.out _ (HBK.out _)
                · skip
                  obtain ⟨k, hk⟩ : ∃ k : Nat, 11 + e = (k : Int) := ⟨(11 + e).toNat, by omega⟩
                  have HTM : Hid ((timesR (18, e)).toNat = k) := hide (by rw [tm18]; omega)
                  have HVL : Hid (valR out 18 = 0) := hide (by rw [vl18])
                  have HRB := hide (show runB n out (18, e) = true by rw [runB_iff]; rw [tm18]; dsimp only; rw [xb18, HLL.out]; omega)
                  have dk : decide (n - (L : Int) < (k : Int)) = false := decide_eq_false (by omega)
                  have hk9 : k ≤ 138 := by omega
                  have HNX := hide (fun w' v' (ho : w'.ownsRow W.heap.size 3 1 v' (out ++ List.replicate k 0).length (intCs (out ++ List.replicate k 0))) (hb : Below W.heap.size W w') => HU1.out.next (w' := w') (v' := v') (18, e) HR.out HRB.out k HTM.out 0 HVL.out ho hb)
                  have HUQ := hide (fun q => HU1.out.drewN q)
                  clear HBAD HRF
                  go_wp2_with fail
                  go_quiet (fail)
                  have _e0 : ((wr.alloc (.cells #[.int .i64 18, .int .i64 e] 39)).drewN nq).cell? ⟨wr.heap.size, 0, none⟩ = some (.int .i64 18) := _d0
                  have _e1 : ((wr.alloc (.cells #[.int .i64 18, .int .i64 e] 39)).drewN nq).cell? ⟨wr.heap.size, 1, none⟩ = some (.int .i64 e) := _d1
                  have HBQ := hide (fun q => below_drewN (HBK.out nq) q)
                  have HUR := hide (fun q => (HUQ.out nq).drewN q)
                  clear _d0 _d1 HBK HU1 HHB HUQ
                  generalize (wr.alloc (.cells #[.int .i64 18, .int .i64 e] 39)).drewN nq = wq at *
                  have HBK := HBQ
                  clear HBQ
                  have HUQ := HUR
                  clear HUR
                  go_wp2_with fail
                  go_quiet ((go_at_call 13; exact Calls.quiet_of_same (HQB.out _)))
                  go_wp2
                  rename World => wp
                  go_loopw [6, 10] (fun v kv wt => ∃ j : Nat, j ≤ k ∧ kv = .int .i64 (j : Nat) ∧ Hid (wt.ownsRow W.heap.size 3 1 v (L + (k - j)) (intCs (out ++ List.replicate (k - j) 0))) ∧ Hid (Below W.heap.size W wt)) (fun _ kv _ => (intOf kv).toNat)
                  case atStart =>
                    refine ⟨k, Nat.le_refl _, by rw [← hk], hide ?_, hide (HBK.out _)⟩
                    have h := (HUQ.out nq).own
                    rw [HLL.out] at h
                    rw [Nat.sub_self, Nat.add_zero, List.replicate_zero, List.append_nil]
                    exact h
                  case round =>
                    obtain ⟨j, hj, rfl, HO, HB⟩ := hrel
                    by_cases hj0 : 0 < j
                    · obtain ⟨t, rfl⟩ : ∃ t, j = t + 1 := ⟨j - 1, by omega⟩
                      have zj : (0 : Int) < ((t + 1 : Nat) : Int) := by omega
                      have HSN := hide (rep_snoc out k t 0 (by omega))
                      have X1 := hide (show L + (k - (t + 1)) + 1 ≤ maxLen by unfold maxLen; omega)
                      have X2 := hide (show (L + (k - (t + 1)) + 1) * 8 ≤ 140737488355328 by omega)
                      have HLE := hide (show L + (k - (t + 1)) + 1 = L + (k - t) by omega)
                      have ej : ((t + 1 : Nat) : Int) - 1 = (t : Int) := by omega
                      have HTK := hide (show t ≤ k by omega)
                      have ht9 : t ≤ 138 := by omega
                      clear hj0 hj
                      go_wp2_with (first
                        | (at_builtin; refine wpList_append_fresh _ rfl _ _ 22 rfl W.heap.size 3 i1 (.int .i64 0) 1 8 Try.underlying22 ki kz0 kz1 kz2 rfl (by decide) u6 _ _ rfl (HO.out.alloc _) ⟨wr.heap.size, 0, none⟩ 1 1 [.int .i64 0] rfl rfl (cell_one_new _ _ _) (one_int _) X1.out X2.out (size_alloc_le HB.out.size) ?_; intro v2 w2 o2 g2 _f2; have HB2 := hide (Below.grownB (HB.out.alloc HB.out.size _) g2 (HO.out.alloc _) (size_alloc_le HB.out.size)); rw [show [Value.int .i64 0] = intCs [0] from rfl, intCs_append, HSN.out, HLE.out] at o2; have HO2 := hide o2; clear o2 g2 _f2))
                      go_roundw
                      case rel => first | exact ⟨t, HTK.out, by go_num, HO2, HB2⟩ | exact ⟨_, _, _, _, _, _, _, _, _, _, ⟨t, HTK.out, rfl, HO2, HB2⟩, rfl⟩
                      case measure => first | (simp [intOf]; done) | (simp [intOf]; omega)
                    · have hj00 : j = 0 := by omega
                      subst hj00
                      rw [Nat.sub_zero] at HO
                      have HLQ := hide (show (out ++ List.replicate k 0).length = L + k by rw [List.length_append, List.length_replicate, HLL.out])
                      have HFIN := hide (HNX.out wr u6 (by rw [HLQ.out]; exact HO.out) HB.out)
                      obtain ⟨a9, c9, e9, _, _⟩ := own_argI HO.out HLQ.out
                      have HE9 := hide e9
                      clear hj0 hj e9
                      go_wp2
                      go_roundw
                      case rel => exact ⟨i + 1, hlt, by go_num, _, a9, c9, by rw [HLQ.out]; exact HE9.out, HFIN⟩
                      case measure => exact meas_oneW i m hlt
          · have b18 : (s == 18) = false := by simp; exact x18
            rw [(plain_run s x16 x17 x18).1] at HQB
            by_cases s0 : s < 0
            · have ds0 : decide (s < 0) = true := decide_eq_true s0
              have HX := hide (HBAD.out (HRF.out (fun h => by have h2 := h.2.1; dsimp only at h2; omega)))
              clear HBAD HRF
              go_wp2_with fail
              go_quiet ((go_at_call 13; exact Calls.quiet_of_same (HQB.out _)))
              go_wp2
              go_ret2
              exact HX.out _ (HBK.out _)
            · have ds0 : decide (s < 0) = false := decide_eq_false s0
              by_cases s18 : 18 < s
              · have ds18 : decide (18 < s) = true := decide_eq_true s18
                have HX := hide (HBAD.out (HRF.out (fun h => by have h2 := h.2.2.1; dsimp only at h2; omega)))
                clear HBAD HRF
                go_wp2_with fail
                go_quiet ((go_at_call 13; exact Calls.quiet_of_same (HQB.out _)))
                go_wp2
                go_ret2
                exact HX.out _ (HBK.out _)
              · have ds18 : decide (18 < s) = false := decide_eq_false s18
                by_cases e0 : e < 0
                · have de0 : decide (e < 0) = true := decide_eq_true e0
                  have HX := hide (HBAD.out (HRF.out (fun h => by obtain ⟨_, _, _, h4, h5, h6⟩ := h; rw [(plain_run s x16 x17 x18).2.1] at h6; dsimp only at h4 h5; rw [(plain_run s x16 x17 x18).1] at h5; rw [HLL.out] at h6; omega)))
                  clear HBAD HRF
                  go_wp2_with fail
                  go_quiet ((go_at_call 13; exact Calls.quiet_of_same (HQB.out _)))
                  go_wp2
                  go_ret2
                  exact HX.out _ (HBK.out _)
                · have de0 : decide (e < 0) = false := decide_eq_false e0
                  by_cases e1 : 1 ≤ e
                  · have de1 : decide (1 ≤ e) = true := decide_eq_true e1
                    have HX := hide (HBAD.out (HRF.out (fun h => by obtain ⟨_, _, _, h4, h5, h6⟩ := h; rw [(plain_run s x16 x17 x18).2.1] at h6; dsimp only at h4 h5; rw [(plain_run s x16 x17 x18).1] at h5; rw [HLL.out] at h6; omega)))
                    clear HBAD HRF
                    go_wp2_with fail
                    go_quiet ((go_at_call 13; exact Calls.quiet_of_same (HQB.out _)))
                    go_wp2
                    go_ret2
                    exact HX.out _ (HBK.out _)
                  · have de1 : decide (1 ≤ e) = false := decide_eq_false e1
                    by_cases k1 : n - (L : Int) < 1
                    · have dk : decide (n - (L : Int) < 1) = true := decide_eq_true k1
                      have HX := hide (HBAD.out (HRF.out (fun h => by obtain ⟨_, _, _, h4, h5, h6⟩ := h; rw [(plain_run s x16 x17 x18).2.1] at h6; dsimp only at h4 h5; rw [(plain_run s x16 x17 x18).1] at h5; rw [HLL.out] at h6; omega)))
                      clear HBAD HRF
                      go_wp2_with fail
                      go_quiet ((go_at_call 13; exact Calls.quiet_of_same (HQB.out _)))
                      go_wp2
                      go_ret2
                      exact HX.out _ (HBK.out _)
                    · skip
                      have HTM : Hid ((timesR (s, e)).toNat = 1) := hide (by rw [(plain_run s x16 x17 x18).2.1]; omega)
                      have HVL : Hid (valR out s = s) := hide (by rw [(plain_run s x16 x17 x18).2.2])
                      have HRB := hide (show runB n out (s, e) = true by rw [runB_iff]; rw [(plain_run s x16 x17 x18).2.1]; dsimp only; rw [(plain_run s x16 x17 x18).1, HLL.out]; omega)
                      have dk : decide (n - (L : Int) < (1 : Int)) = false := decide_eq_false (by omega)
                      have hk9 : 1 ≤ 138 := by omega
                      have HNX := hide (fun w' v' (ho : w'.ownsRow W.heap.size 3 1 v' (out ++ List.replicate 1 s).length (intCs (out ++ List.replicate 1 s))) (hb : Below W.heap.size W w') => HU1.out.next (w' := w') (v' := v') (s, e) HR.out HRB.out 1 HTM.out s HVL.out ho hb)
                      have HUQ := hide (fun q => HU1.out.drewN q)
                      clear HBAD HRF
                      go_wp2_with fail
                      go_quiet ((go_at_call 13; exact Calls.quiet_of_same (HQB.out _)))
                      go_wp2
                      rename World => wp
                      go_loopw [6, 10] (fun v kv wt => ∃ j : Nat, j ≤ 1 ∧ kv = .int .i64 (j : Nat) ∧ Hid (wt.ownsRow W.heap.size 3 1 v (L + (1 - j)) (intCs (out ++ List.replicate (1 - j) s))) ∧ Hid (Below W.heap.size W wt)) (fun _ kv _ => (intOf kv).toNat)
                      case atStart =>
                        refine ⟨1, Nat.le_refl _, rfl, hide ?_, hide (HBK.out _)⟩
                        have h := (HUQ.out nq).own
                        rw [HLL.out] at h
                        rw [Nat.sub_self, Nat.add_zero, List.replicate_zero, List.append_nil]
                        exact h
                      case round =>
                        obtain ⟨j, hj, rfl, HO, HB⟩ := hrel
                        by_cases hj0 : 0 < j
                        · obtain ⟨t, rfl⟩ : ∃ t, j = t + 1 := ⟨j - 1, by omega⟩
                          have zj : (0 : Int) < ((t + 1 : Nat) : Int) := by omega
                          have HSN := hide (rep_snoc out 1 t s (by omega))
                          have X1 := hide (show L + (1 - (t + 1)) + 1 ≤ maxLen by unfold maxLen; omega)
                          have X2 := hide (show (L + (1 - (t + 1)) + 1) * 8 ≤ 140737488355328 by omega)
                          have HLE := hide (show L + (1 - (t + 1)) + 1 = L + (1 - t) by omega)
                          have ej : ((t + 1 : Nat) : Int) - 1 = (t : Int) := by omega
                          have HTK := hide (show t ≤ 1 by omega)
                          have ht9 : t ≤ 138 := by omega
                          clear hj0 hj
                          go_wp2_with (first
                            | (at_builtin; refine wpList_append_fresh _ rfl _ _ 22 rfl W.heap.size 3 i1 (.int .i64 0) 1 8 Try.underlying22 ki kz0 kz1 kz2 rfl (by decide) u6 _ _ rfl (HO.out.alloc _) ⟨wr.heap.size, 0, none⟩ 1 1 [.int .i64 s] rfl rfl (cell_one_new _ _ _) (one_int _) X1.out X2.out (size_alloc_le HB.out.size) ?_; intro v2 w2 o2 g2 _f2; have HB2 := hide (Below.grownB (HB.out.alloc HB.out.size _) g2 (HO.out.alloc _) (size_alloc_le HB.out.size)); rw [show [Value.int .i64 s] = intCs [s] from rfl, intCs_append, HSN.out, HLE.out] at o2; have HO2 := hide o2; clear o2 g2 _f2))
                          go_roundw
                          case rel => first | exact ⟨t, HTK.out, by go_num, HO2, HB2⟩ | exact ⟨_, _, _, _, _, _, _, _, _, _, ⟨t, HTK.out, rfl, HO2, HB2⟩, rfl⟩
                          case measure => first | (simp [intOf]; done) | (simp [intOf]; omega)
                        · have hj00 : j = 0 := by omega
                          subst hj00
                          rw [Nat.sub_zero] at HO
                          have HLQ := hide (show (out ++ List.replicate 1 s).length = L + 1 by rw [List.length_append, List.length_replicate, HLL.out])
                          have HFIN := hide (HNX.out wr u6 (by rw [HLQ.out]; exact HO.out) HB.out)
                          obtain ⟨a9, c9, e9, _, _⟩ := own_argI HO.out HLQ.out
                          have HE9 := hide e9
                          clear hj0 hj e9
                          go_wp2
                          go_roundw
                          case rel => exact ⟨i + 1, hlt, by go_num, _, a9, c9, by rw [HLQ.out]; exact HE9.out, HFIN⟩
                          case measure => exact meas_oneW i m hlt
    · have hie : i = m := by omega
      subst hie
      have HD := hide (show unF n [] rs = if (out.length : Int) = n then some out else none by
        rw [HU.out.un, List.drop_of_length_le (by rw [HM.out]; exact Nat.le_refl _)]
        rfl)
      rw [HLL.out] at HD
      have HB := hide HU.out.bel
      by_cases hLn : (L : Int) = n
      · rw [if_pos hLn] at HD
        have HG := hide (un_some HD.out (by rw [HLL.out]; have h := HU.out.own; rw [HLL.out] at h; exact h) HB.out)
        subst hLn
        go_wp2
        go_ret2
        exact HG.out
      · rw [if_neg hLn] at HD
        have HG := hide (un_none HD.out HB.out)
        have bn : ((L : Int) == n) = false := by simp; exact hLn
        clear hLn
        go_wp2
        go_ret2
        exact HG.out

end Go.Proofs.Ytdaflfkknlhllaa
