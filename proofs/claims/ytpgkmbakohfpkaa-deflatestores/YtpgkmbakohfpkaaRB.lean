import Derived.Test.YtpgkmbakohfpkaaRA
import Derived.Test.YtpgkmbakohfpkaaWB
/- Like runs, and like numbers, are told to be: the document's 'Same' of layer 7, and the statements' 'same'. -/
namespace Go.Proofs.Ytpgkmbakohfpkaa
open Go.RowKit Go.Lib

end Go.Proofs.Ytpgkmbakohfpkaa

/- Contracts of the code of layer 7: Bits, Order, least, extras, times, run, row. -/
namespace Go.Proofs.Ytpgkmbakohfpkaa
open Go.RowKit Go.Lib

/-- For how many lengths a symbol stands at least. -/
def leastN (s : Int) : Nat := if s = 16 then 3 else if s = 17 then 3 else if s = 18 then 11 else 1
theorem ls16 : leastN 16 = 3 := by decide
theorem ls17 : leastN 17 = 3 := by decide
theorem ls18 : leastN 18 = 11 := by decide
theorem ls_plain (s : Int) (h : s ≠ 16) (h2 : s ≠ 17) (h3 : s ≠ 18) : leastN s = 1 := by unfold leastN; rw [if_neg h, if_neg h2, if_neg h3]
theorem ls_range (s : Int) : 1 ≤ leastN s ∧ leastN s ≤ 11 := by
  unfold leastN
  split; · omega
  split; · omega
  split; · omega
  omega
/-- How many values a symbol's extra may have. -/
def extN (s : Int) : Nat := 2 ^ xBits s
theorem ex16 : extN 16 = 4 := by decide
theorem ex17 : extN 17 = 8 := by decide
theorem ex18 : extN 18 = 128 := by decide
theorem ex_plain (s : Int) (h : s ≠ 16) (h2 : s ≠ 17) (h3 : s ≠ 18) : extN s = 1 := by unfold extN; rw [(plain_run s h h2 h3).1]
theorem ex_range (s : Int) : 1 ≤ extN s ∧ extN s ≤ 128 := by
  by_cases h1 : s = 16
  · rw [h1, ex16]; omega
  · by_cases h2 : s = 17
    · rw [h2, ex17]; omega
    · by_cases h3 : s = 18
      · rw [h3, ex18]; omega
      · rw [ex_plain s h1 h2 h3]; omega

set_option maxHeartbeats 1000000 in
theorem bits7_same (s : Int) (w : World) :
    Calls Try.prog 49 #[.int .i64 s] w fun e w' => e = .returned (.int .i64 (xBits s : Nat)) ∧ w' = w := by
  by_cases h1 : s = 16
  · subst h1
    go_enter Try.func49, Try.ntmps49
    go_wp2
    go_ret
    exact ⟨rfl, rfl⟩
  · by_cases h2 : s = 17
    · subst h2
      go_enter Try.func49, Try.ntmps49
      go_wp2
      go_ret
      exact ⟨rfl, rfl⟩
    · by_cases h3 : s = 18
      · subst h3
        go_enter Try.func49, Try.ntmps49
        go_wp2
        go_ret
        exact ⟨rfl, rfl⟩
      · rw [(plain_run s h1 h2 h3).1]
        have b1 : (s == 16) = false := by simp; exact h1
        have b2 : (s == 17) = false := by simp; exact h2
        have b3 : (s == 18) = false := by simp; exact h3
        clear h1 h2 h3
        go_enter Try.func49, Try.ntmps49
        go_wp2
        go_ret
        exact ⟨rfl, rfl⟩
theorem bits7_any (s : Int) (w : World) :
    Calls Try.prog 49 #[.int .i64 s] w fun e w' => e = .returned (.int .i64 (xBits s : Nat)) ∧ Below w.heap.size w w' := by
  refine (bits7_same s w).mono ?_
  rintro e w' ⟨rfl, rfl⟩
  exact ⟨rfl, Below.refl _ _⟩

set_option maxRecDepth 20000 in
set_option maxHeartbeats 2000000 in
theorem order7_any (w : World) :
    Calls Try.prog 46 #[] w fun e w' => e = .returned (.agg orderCs.toArray) ∧ Below w.heap.size w w' := by
  obtain ⟨Z, hZn, hv⟩ := Try.zeroOrder
  have hn : orderCs.length = 19 := rfl
  have hst := order_store w Z orderCs hZn hn orderCs_one
  have HLD := hide (order_load (order_range w orderCs) hn)
  have HBD := hide Try.builtOrder
  have HB := hide ((Below.refl _ w).alloc (Nat.le_refl _) (.cells orderCs.toArray 86))
  generalize orderCs = cs at *
  go_enter Try.func46, Try.ntmps46
  go_wp2_with (first
    | (refine wpList_builtK rfl 86 orderPs rfl cs.toArray HBD.out ?_))
  (try simp only [Exit.inBlock, Exit.then])
  refine bodyPost_ret (v := .agg cs.toArray) ?_ rfl ⟨rfl, HB.out⟩
  simp [results, Try.results46, asAddr, HLD.out]

set_option maxHeartbeats 1000000 in
theorem least7 (s : Int) (w : World) :
    Calls Try.prog 67 #[.int .i64 s] w fun e w' => e = .returned (.int .i64 (leastN s : Nat)) ∧ w' = w := by
  by_cases h1 : s = 16
  · subst h1
    go_enter Try.func67, Try.ntmps67
    go_wp2
    go_ret
    exact ⟨rfl, rfl⟩
  · by_cases h2 : s = 17
    · subst h2
      go_enter Try.func67, Try.ntmps67
      go_wp2
      go_ret
      exact ⟨rfl, rfl⟩
    · by_cases h3 : s = 18
      · subst h3
        go_enter Try.func67, Try.ntmps67
        go_wp2
        go_ret
        exact ⟨rfl, rfl⟩
      · rw [ls_plain s h1 h2 h3]
        have b1 : (s == 16) = false := by simp; exact h1
        have b2 : (s == 17) = false := by simp; exact h2
        have b3 : (s == 18) = false := by simp; exact h3
        clear h1 h2 h3
        go_enter Try.func67, Try.ntmps67
        go_wp2
        go_ret
        exact ⟨rfl, rfl⟩

theorem extras_of (s : Int) (x : Nat) (hx : xBits s = x) (hx7 : x = 0 ∨ x = 2 ∨ x = 3 ∨ x = 7) (w : World) :
    Calls Try.prog 77 #[.int .i64 s] w fun e w' => e = .returned (.int .i64 ((2 ^ x : Nat) : Int)) ∧ w' = w := by
  have HB := hide (bits7_same s)
  rw [hx] at HB
  clear hx
  rcases hx7 with rfl | rfl | rfl | rfl
  · go_enter Try.func77, Try.ntmps77
    go_wp2_with fail
    refine (HB.out _).mono ?_
    rintro e w1 ⟨rfl, rfl⟩
    go_wp2
    go_ret
    exact ⟨rfl, rfl⟩
  · go_enter Try.func77, Try.ntmps77
    go_wp2_with fail
    refine (HB.out _).mono ?_
    rintro e w1 ⟨rfl, rfl⟩
    go_wp2
    go_ret
    exact ⟨rfl, rfl⟩
  · go_enter Try.func77, Try.ntmps77
    go_wp2_with fail
    refine (HB.out _).mono ?_
    rintro e w1 ⟨rfl, rfl⟩
    go_wp2
    go_ret
    exact ⟨rfl, rfl⟩
  · go_enter Try.func77, Try.ntmps77
    go_wp2_with fail
    refine (HB.out _).mono ?_
    rintro e w1 ⟨rfl, rfl⟩
    go_wp2
    go_ret
    exact ⟨rfl, rfl⟩
theorem extras7 (s : Int) (w : World) :
    Calls Try.prog 77 #[.int .i64 s] w fun e w' => e = .returned (.int .i64 (extN s : Nat)) ∧ w' = w := by
  refine extras_of s (xBits s) rfl ?_ w
  unfold xBits
  split; · omega
  split; · omega
  split; · omega
  omega

set_option maxHeartbeats 1000000 in
theorem times7 (s e : Int) (he0 : 0 ≤ e) (he : e ≤ 127) (w : World) :
    Calls Try.prog 58 #[.agg #[.int .i64 s, .int .i64 e]] w fun r w' => r = .returned (.int .i64 ((leastN s : Int) + e)) ∧ Below w.heap.size w w' := by
  have HL := hide (least7 s)
  have hls := ls_range s
  have HB := hide (fun n => below_drewN ((Below.refl w.heap.size w).alloc (Nat.le_refl _) (.cells #[.int .i64 s, .int .i64 e] 89)) n)
  generalize leastN s = k at *
  go_enter Try.func58, Try.ntmps58
  go_wp2
  go_quiet ((go_at_call 67; exact Calls.quiet_of_same (HL.out _)))
  go_wp2
  go_ret
  exact ⟨rfl, HB.out _⟩

end Go.Proofs.Ytpgkmbakohfpkaa

/- Contracts of the code of layer 7: run, row, first. -/
namespace Go.Proofs.Ytpgkmbakohfpkaa
open Go.RowKit Go.Lib

set_option maxHeartbeats 1000000 in
theorem run7 (s : Int) (n : Nat) (w : World) (hn : leastN s ≤ n) (hn2 : n ≤ 138) :
    Calls Try.prog 68 #[.int .i64 s, .int .i64 (n : Nat)] w fun e w' => e = .returned (.agg #[.int .i64 s, .int .i64 (min ((n : Int) - (leastN s : Nat)) ((extN s : Nat) - 1))]) ∧ Below w.heap.size w w' := by
  have HL := hide (least7 s)
  have HX := hide (extras7 s)
  have hls := ls_range s
  have hes := ex_range s
  have HB := hide (fun v => (Below.refl w.heap.size w).alloc (Nat.le_refl _) (.cells #[.int .i64 s, v] 89))
  generalize leastN s = k at *
  generalize extN s = x at *
  have z1 : (k : Int) ≤ n := by omega
  go_enter Try.func68, Try.ntmps68
  go_wp2_with fail
  refine (HL.out _).mono ?_
  rintro e w1 ⟨rfl, rfl⟩
  go_wp2_with fail
  refine (HX.out _).mono ?_
  rintro e w1 ⟨rfl, rfl⟩
  go_wp2
  · (try simp only [Exit.inBlock, Exit.then])
    rw [show min ((n : Int) - (k : Nat)) ((x : Nat) - 1) = (x : Int) - 1 by omega]
    refine bodyPost_ret (v := .agg #[.int .i64 s, .int .i64 ((x : Int) - 1)]) ?_ rfl ⟨rfl, HB.out _⟩
    simp [results, Try.results68, asAddr]
    go_simp
  · (try simp only [Exit.inBlock, Exit.then])
    rw [show min ((n : Int) - (k : Nat)) ((x : Nat) - 1) = (n : Int) - (k : Nat) by omega]
    refine bodyPost_ret (v := .agg #[.int .i64 s, .int .i64 ((n : Int) - (k : Nat))]) ?_ rfl ⟨rfl, HB.out _⟩
    simp [results, Try.results68, asAddr]
    go_simp

theorem head_ge (x : Int) (l : List Int) (k : Nat) (hk : k ≤ l.length) (h1 : ∀ i, i < k → l[i]? = some x) : k ≤ headN x l := by
  refine Classical.byContradiction fun h => ?_
  exact head_stop x l (by omega) (h1 _ (by omega))

set_option maxRecDepth 20000 in
set_option maxHeartbeats 2000000 in
theorem row7 (l : List Int) (a : Option Addr) (n cap : Nat) (W : World) (x : Int) (hn : l.length = n) (harg : ArgZ W a l) (hx : l[0]? = some x) (hl : n ≤ 10000) :
    Calls Try.prog 66 #[.slice a n cap] W fun e w' => e = .returned (.int .i64 (min (headN x l) 138 : Nat)) ∧ Below W.heap.size W w' := by
  have hi : 0 < n := by rw [← hn]; exact (List.getElem?_eq_some_iff.1 hx).1
  obtain ⟨b, off, rfl, hb, hc⟩ := harg 0 x hx
  have HA := hide (fun (j : Nat) (y : Int) (hy : l[j]? = some y) => (show W.cell? ⟨b, off + j, none⟩ = some (.int .i64 y) by
    obtain ⟨b2, off2, e, _, h⟩ := harg j y hy
    injection e with e
    injection e with e1 e2
    subst e1
    subst e2
    exact h))
  have HL := hide (least7 18)
  have HE := hide (extras7 18)
  rw [ls18] at HL
  rw [ex18] at HE
  have HN := hide hn
  have HX := hide hx
  have HC := hide hc
  have B0 := hide (Below.refl W.heap.size W)
  have HGE := hide (head_ge x l)
  have HEQ := hide (head_eq x l)
  obtain ⟨H, hH⟩ : ∃ H, headN x l = H := ⟨_, rfl⟩
  rw [hH] at HGE HEQ ⊢
  clear hn harg hx hc hH
  go_enter Try.func66, Try.ntmps66
  go_wp2_with fail
  refine (HL.out _).mono ?_
  rintro e w1 ⟨rfl, rfl⟩
  go_wp2_with fail
  refine (HE.out _).mono ?_
  rintro e w1 ⟨rfl, rfl⟩
  go_wp2
  go_loopw [4] (fun kv wr => ∃ k : Nat, 1 ≤ k ∧ k ≤ n ∧ k ≤ 138 ∧ kv = .int .i64 (k : Nat) ∧ Hid (∀ t, t < k → l[t]? = some x) ∧ Hid (Below w1.heap.size w1 wr)) (fun kv _ => n - (intOf kv).toNat)
  case atStart => exact ⟨1, Nat.le_refl _, hi, by omega, rfl, hide (fun t ht => by rw [show t = 0 by omega]; exact HX.out), B0⟩
  case round =>
    obtain ⟨k, hk1, hk, hk138, rfl, HE, HB⟩ := hrel
    have _c0 := (HB.out.cell (p := ⟨b, off, none⟩) hb).trans HC.out
    by_cases hlt : k < n
    · have zs : (k : Int) < n := by omega
      have ds : decide ((k : Int) < n) = true := decide_eq_true zs
      by_cases h138 : k < 138
      · obtain ⟨y, hy⟩ := getZ? l k (by rw [HN.out]; exact hlt)
        have _c1 := (HB.out.cell (p := ⟨b, off + k, none⟩) hb).trans (HA.out _ _ hy)
        have HY := hide hy
        have d138 : decide ((k : Int) < 138) = true := decide_eq_true (by omega)
        have zi : (0 : Int) < n := by omega
        have HLT := hide hlt
        have H138 := hide h138
        clear hy hlt hk h138
        by_cases e : y = x
        · subst e
          have HE2 := hide (show ∀ t, t < k + 1 → l[t]? = some y from fun t ht => by
            by_cases e : t = k
            · rw [e]; exact HY.out
            · exact HE.out t (by omega))
          go_wp2
          go_quiet (fail)
          go_wp2
          go_roundw
          case rel => exact ⟨k + 1, by omega, HLT.out, H138.out, by go_num, HE2, hide (below_drewN HB.out _)⟩
          case measure => exact meas_oneW k n HLT.out
        · have be : (y == x) = false := by simp; exact e
          have HF := hide (show min H 138 = k by
            have h := HEQ.out k (by rw [HN.out]; have := HLT.out; omega) HE.out (.inr (by
              rw [HY.out]
              intro h
              injection h with h
              exact e h))
            omega)
          clear e
          go_wp2
          go_quiet (fail)
          go_wp2
          go_ret
          exact ⟨by rw [HF.out]; rfl, below_drewN HB.out _⟩
      · have d138 : decide ((k : Int) < 138) = false := decide_eq_false (by omega)
        have HF := hide (show min H 138 = k by
          have h := HGE.out k (by rw [HN.out]; omega) HE.out
          omega)
        clear hlt hk h138
        go_wp2
        go_quiet (fail)
        go_wp2
        go_ret
        exact ⟨by rw [HF.out]; rfl, below_drewN HB.out _⟩
    · obtain rfl : k = n := by omega
      have HF := hide (show min H 138 = k by
        have h := HEQ.out k (by rw [HN.out]; exact hk) HE.out (.inl (by rw [HN.out]))
        omega)
      clear hlt hk
      go_wp2
      go_quiet (fail)
      go_wp2
      go_ret
      exact ⟨by rw [HF.out]; rfl, below_drewN HB.out _⟩

end Go.Proofs.Ytpgkmbakohfpkaa

/- Contracts of the code of layer 7: first. -/
namespace Go.Proofs.Ytpgkmbakohfpkaa
open Go.RowKit Go.Lib

theorem step_fits (p : Option Int) (x : Int) (H : Nat) (r : Int × Int) (K : Nat) (hx0 : 0 ≤ x) (hx : x ≤ 15) (hr : stepF p x H = (r, K)) : 0 ≤ r.2 ∧ r.2 ≤ 127 ∧ (leastN r.1 : Int) + r.2 = (K : Int) := by
  unfold stepF at hr
  split at hr
  · injection hr with h1 h2
    subst h1 h2
    dsimp only
    rw [ls18]
    omega
  · split at hr
    · rename_i h11 _
      injection hr with h1 h2
      subst h1 h2
      dsimp only
      rw [ls17]
      omega
    · split at hr
      · injection hr with h1 h2
        subst h1 h2
        dsimp only
        rw [ls16]
        omega
      · injection hr with h1 h2
        subst h1 h2
        dsimp only
        rw [ls_plain x (by omega) (by omega) (by omega)]
        omega
theorem ArgZ.dropped {w : World} {b off : Nat} {l : List Int} (h : ArgZ w (some ⟨b, off, none⟩) l) (i : Nat) : ArgZ w (some ⟨b, off + i, none⟩) (l.drop i) := by
  intro j x hx
  rw [List.getElem?_drop] at hx
  obtain ⟨b2, off2, e, hb, hc⟩ := h _ _ hx
  injection e with e
  injection e with e1 e2
  subst e1 e2
  exact ⟨b, off + i, rfl, hb, by rw [Nat.add_assoc]; exact hc⟩

set_option maxRecDepth 20000 in
set_option maxHeartbeats 2000000 in
theorem first7 (l : List Int) (a : Option Addr) (n cap i : Nat) (W : World) (x : Int) (hn : l.length = n) (harg : ArgZ W a l) (hx : l[i]? = some x) (hx0 : 0 ≤ x) (hx15 : x ≤ 15) (hl : n ≤ 3000) (hcap : n ≤ cap) (r1 r2 : Int) (K : Nat) (hr : stepF (prevAt l i) x (headN x (l.drop i)) = ((r1, r2), K)) :
    Calls Try.prog 57 #[.slice a n cap, .int .i64 (i : Nat)] W fun e w' => e = .returned (.agg #[.int .i64 r1, .int .i64 r2]) ∧ Below W.heap.size W w' := by
  have hi : i < n := by rw [← hn]; exact (List.getElem?_eq_some_iff.1 hx).1
  obtain ⟨b, off, rfl, hb, hc⟩ := harg i x hx
  have zi : (i : Int) < n := by omega
  have hci : ¬ cap = i := by omega
  obtain ⟨H, hH⟩ : ∃ H, headN x (l.drop i) = H := ⟨_, rfl⟩
  rw [hH] at hr
  have HST := hide (fun (r : Int × Int) (K2 : Nat) (h : stepF (prevAt l i) x H = (r, K2)) => (show (r1, r2) = r by rw [hr] at h; injection h))
  have HP := hide (show ∀ w', Below (W.alloc (.cells #[.int .i64 0, .int .i64 0] 89)).heap.size (W.alloc (.cells #[.int .i64 0, .int .i64 0] 89)) w' → w'.heap[W.heap.size]? = some (.cells #[.int .i64 0, .int .i64 0] 89 (0, 0)) from fun w' h => by
    rw [h.block _ (by show _ < (W.heap.push _).size; simp)]
    show (W.heap.push _)[W.heap.size]? = _
    simp)
  have HRW := hide (row7 (l.drop i) (some ⟨b, off + i, none⟩) (n - i) (cap - i) (W.alloc (.cells #[.int .i64 0, .int .i64 0] 89)) x (by rw [List.length_drop, hn]) ((harg.below (Below.alloc (Below.refl _ W) (Nat.le_refl _) _)).dropped i) (by rw [List.getElem?_drop]; exact hx) (by omega))
  rw [hH] at HRW
  have HPRV := hide (show ∀ y, 0 < i → l[i - 1]? = some y → prevAt l i = some y from fun y h0 hy => by unfold prevAt; rw [if_neg (by omega)]; exact hy)
  have HPR0 := hide (show i = 0 → prevAt l i = none from fun h0 => by unfold prevAt; rw [if_pos h0])
  have HC := hide hc
  have HC2 := hide (fun (k : Nat) (y : Int) (hy : l[k]? = some y) => (show W.cell? ⟨b, off + k, none⟩ = some (.int .i64 y) by
    obtain ⟨b2, off2, e, _, h⟩ := harg k y hy
    injection e with e
    injection e with e1 e2
    subst e1
    subst e2
    exact h))
  have hH1 : 1 ≤ H := by
    obtain ⟨t, ht⟩ := drop_at l i x hx
    rw [← hH, ht]
    exact head_pos x t
  have HN := hide hn
  have HL16 := hide (least7 16)
  rw [ls16] at HL16
  have HL17 := hide (least7 17)
  rw [ls17] at HL17
  have HL18 := hide (least7 18)
  rw [ls18] at HL18
  have HB0 := hide ((Below.refl W.heap.size W).alloc (Nat.le_refl _) (.cells #[.int .i64 0, .int .i64 0] 89))
  have HRX := hide (show ∀ w, Calls Try.prog 68 #[.int .i64 x, .int .i64 1] w fun e w' => e = .returned (.agg #[.int .i64 x, .int .i64 0]) ∧ Below w.heap.size w w' from fun w => by
    have h := run7 x 1 w (by rw [ls_plain x (by omega) (by omega) (by omega)]; exact Nat.le_refl _) (by omega)
    rw [ls_plain x (by omega) (by omega) (by omega), ex_plain x (by omega) (by omega) (by omega)] at h
    exact h)
  clear harg hx hr hc hn hH
  go_enter Try.func57, Try.ntmps57
  go_wp2_with fail
  refine HRW.out.mono ?_
  rintro e w1 ⟨rfl, b1⟩
  have B1 := hide b1
  have BW := hide (HB0.out.trans (b1.mono HB0.out.size))
  have _c := (BW.out.cell (p := ⟨b, off + i, none⟩) hb).trans HC.out
  obtain ⟨R, hR⟩ : ∃ R, min H 138 = R := ⟨_, rfl⟩
  rw [hR]
  have HR := hide hR
  have hR138 : R ≤ 138 := by omega
  clear b1 hR HRW
  by_cases x0 : x = 0
  · subst x0
    by_cases h11 : 11 ≤ R
    · have z11 : (11 : Int) ≤ R := by omega
      obtain ⟨er1, HE2⟩ : r1 = 18 ∧ Hid (r2 = ((min H 138 : Nat) : Int) - 11) := by
        have h := HST.out (18, ((min H 138 : Nat) : Int) - 11) _ (by unfold stepF; rw [if_pos ⟨rfl, by have := HR.out; omega⟩])
        injection h with h1 h2
        exact ⟨h1, hide h2⟩
      subst er1
      have HRN := hide (show ∀ w, Calls Try.prog 68 #[.int .i64 18, .int .i64 (R : Nat)] w fun e w' => e = .returned (.agg #[.int .i64 18, .int .i64 r2]) ∧ Below w.heap.size w w' from fun w => by
        have h := run7 18 R w (by rw [ls18]; omega) hR138
        rw [ls18, ex18, show min ((R : Int) - ((11 : Nat) : Int)) (((128 : Nat) : Int) - 1) = r2 by rw [HE2.out]; have := HR.out; omega] at h
        exact h)
      go_wp2_with fail
      refine (HL18.out _).mono ?_
      rintro e w1b ⟨rfl, rfl⟩
      go_wp2_with fail
      refine (HRN.out _).mono ?_
      rintro e w2 ⟨rfl, b2⟩
      have BQ := B1
      have BV := BW
      obtain ⟨d1, d2, f1, f2⟩ := two_cells (HP.out w2 (BQ.out.trans (b2.mono BQ.out.size)))
      have HF := hide (BV.out.trans (b2.mono BV.out.size))
      clear b2
      go_wp2
      (try simp only [Exit.inBlock, Exit.then])
      refine bodyPost_ret (v := .agg #[.int .i64 18, .int .i64 r2]) ?_ rfl ⟨rfl, (HF.out.setCell (p := ⟨W.heap.size, 0, none⟩) (Nat.le_refl _) _).setCell (p := ⟨W.heap.size, 1, none⟩) (Nat.le_refl _) _⟩
      simp [results, Try.results57, asAddr]
      go_simp
    · have z11 : ¬ (11 : Int) ≤ R := by omega
      by_cases h3 : 3 ≤ R
      · have z3 : (3 : Int) ≤ R := by omega
        obtain ⟨er1, HE2⟩ : r1 = 17 ∧ Hid (r2 = (H : Int) - 3) := by
          have h := HST.out (17, (H : Int) - 3) _ (by unfold stepF; rw [if_neg (fun h => by have := HR.out; omega), if_pos ⟨rfl, by have := HR.out; omega⟩])
          injection h with h1 h2
          exact ⟨h1, hide h2⟩
        subst er1
        have HRN := hide (show ∀ w, Calls Try.prog 68 #[.int .i64 17, .int .i64 (R : Nat)] w fun e w' => e = .returned (.agg #[.int .i64 17, .int .i64 r2]) ∧ Below w.heap.size w w' from fun w => by
          have h := run7 17 R w (by rw [ls17]; omega) hR138
          rw [ls17, ex17, show min ((R : Int) - ((3 : Nat) : Int)) (((8 : Nat) : Int) - 1) = r2 by rw [HE2.out]; have := HR.out; omega] at h
          exact h)
        go_wp2_with fail
        refine (HL18.out _).mono ?_
        rintro e w1b ⟨rfl, rfl⟩
        go_wp2_with fail
        refine (HL17.out _).mono ?_
        rintro e w1c ⟨rfl, rfl⟩
        go_wp2_with fail
        refine (HRN.out _).mono ?_
        rintro e w2 ⟨rfl, b2⟩
        have BQ := B1
        have BV := BW
        obtain ⟨d1, d2, f1, f2⟩ := two_cells (HP.out w2 (BQ.out.trans (b2.mono BQ.out.size)))
        have HF := hide (BV.out.trans (b2.mono BV.out.size))
        clear b2
        go_wp2
        (try simp only [Exit.inBlock, Exit.then])
        refine bodyPost_ret (v := .agg #[.int .i64 17, .int .i64 r2]) ?_ rfl ⟨rfl, (HF.out.setCell (p := ⟨W.heap.size, 0, none⟩) (Nat.le_refl _) _).setCell (p := ⟨W.heap.size, 1, none⟩) (Nat.le_refl _) _⟩
        simp [results, Try.results57, asAddr]
        go_simp
      · have z3 : ¬ (3 : Int) ≤ R := by omega
        have dz3 : decide ((3 : Int) ≤ R) = false := decide_eq_false z3
        by_cases hi0 : i = 0
        · subst hi0
          rw [Nat.add_zero] at _c
          obtain ⟨er1, er2⟩ : r1 = 0 ∧ r2 = 0 := by
            have h := HST.out (0, 0) 1 (by unfold stepF; rw [if_neg (fun h => by have := HR.out; omega), if_neg (fun h => by have := HR.out; omega), if_neg (fun h => by rw [HPR0.out rfl] at h; cases h.1)])
            injection h with h1 h2
            exact ⟨h1, h2⟩
          subst er1 er2
          go_wp2_with fail
          refine (HL18.out _).mono ?_
          rintro e w1b ⟨rfl, rfl⟩
          go_wp2_with fail
          refine (HL17.out _).mono ?_
          rintro e w1c ⟨rfl, rfl⟩
          go_wp2_with fail
          go_quiet (fail)
          go_wp2_with fail
          refine (HRX.out _).mono ?_
          rintro e w2 ⟨rfl, b2⟩
          have BQ := hide (fun q => below_drewN B1.out q)
          have BV := hide (fun q => below_drewN BW.out q)
          obtain ⟨d1, d2, f1, f2⟩ := two_cells (HP.out w2 ((BQ.out _).trans (b2.mono (BQ.out _).size)))
          have HF := hide ((BV.out _).trans (b2.mono (BV.out _).size))
          clear b2
          go_wp2
          (try simp only [Exit.inBlock, Exit.then])
          refine bodyPost_ret (v := .agg #[.int .i64 0, .int .i64 0]) ?_ rfl ⟨rfl, (HF.out.setCell (p := ⟨W.heap.size, 0, none⟩) (Nat.le_refl _) _).setCell (p := ⟨W.heap.size, 1, none⟩) (Nat.le_refl _) _⟩
          simp [results, Try.results57, asAddr]
          go_simp
        · have zi0 : (0 : Int) < i := by omega
          have dzi0 : decide ((0 : Int) < i) = true := decide_eq_true zi0
          have dzn0 : decide (0 < i) = true := decide_eq_true (by omega)
          obtain ⟨y, hy⟩ := getZ? l (i - 1) (by rw [HN.out]; omega)
          have _c3 := (BW.out.cell (p := ⟨b, off + (i - 1), none⟩) hb).trans (HC2.out (i - 1) y hy)
          have HPY := hide (HPRV.out y (by omega) hy)
          have ei : (i : Int) - 1 = ((i - 1 : Nat) : Int) := by omega
          have zi1 : ((i - 1 : Nat) : Int) < n := by omega
          by_cases ey : y = 0
          · subst ey
            obtain ⟨er1, er2⟩ : r1 = 0 ∧ r2 = 0 := by
              have h := HST.out (0, 0) 1 (by unfold stepF; rw [if_neg (fun h => by have := HR.out; omega), if_neg (fun h => by have := HR.out; omega), if_neg (fun h => by have := HR.out; omega)])
              injection h with h1 h2
              exact ⟨h1, h2⟩
            subst er1 er2
            go_wp2_with fail
            refine (HL18.out _).mono ?_
            rintro e w1b ⟨rfl, rfl⟩
            go_wp2_with fail
            refine (HL17.out _).mono ?_
            rintro e w1c ⟨rfl, rfl⟩
            go_wp2_with fail
            go_quiet ((go_at_call 67; exact Calls.quiet_of_same (HL16.out _)))
            go_wp2_with fail
            refine (HRX.out _).mono ?_
            rintro e w2 ⟨rfl, b2⟩
            have BQ := hide (fun q => below_drewN B1.out q)
            have BV := hide (fun q => below_drewN BW.out q)
            obtain ⟨d1, d2, f1, f2⟩ := two_cells (HP.out w2 ((BQ.out _).trans (b2.mono (BQ.out _).size)))
            have HF := hide ((BV.out _).trans (b2.mono (BV.out _).size))
            clear b2
            go_wp2
            (try simp only [Exit.inBlock, Exit.then])
            refine bodyPost_ret (v := .agg #[.int .i64 0, .int .i64 0]) ?_ rfl ⟨rfl, (HF.out.setCell (p := ⟨W.heap.size, 0, none⟩) (Nat.le_refl _) _).setCell (p := ⟨W.heap.size, 1, none⟩) (Nat.le_refl _) _⟩
            simp [results, Try.results57, asAddr]
            go_simp
          · have bey : (0 == y) = false := by simp; exact fun h => ey h.symm
            obtain ⟨er1, er2⟩ : r1 = 0 ∧ r2 = 0 := by
              have h := HST.out (0, 0) 1 (by unfold stepF; rw [if_neg (fun h => by have := HR.out; omega), if_neg (fun h => by have := HR.out; omega), if_neg (fun h => by rw [HPY.out] at h; have h2 := h.1; injection h2 with h2; exact ey h2)])
              injection h with h1 h2
              exact ⟨h1, h2⟩
            subst er1 er2
            clear ey
            go_wp2_with fail
            refine (HL18.out _).mono ?_
            rintro e w1b ⟨rfl, rfl⟩
            go_wp2_with fail
            refine (HL17.out _).mono ?_
            rintro e w1c ⟨rfl, rfl⟩
            go_wp2_with fail
            go_quiet (fail)
            go_wp2_with fail
            refine (HRX.out _).mono ?_
            rintro e w2 ⟨rfl, b2⟩
            have BQ := hide (fun q => below_drewN B1.out q)
            have BV := hide (fun q => below_drewN BW.out q)
            obtain ⟨d1, d2, f1, f2⟩ := two_cells (HP.out w2 ((BQ.out _).trans (b2.mono (BQ.out _).size)))
            have HF := hide ((BV.out _).trans (b2.mono (BV.out _).size))
            clear b2
            go_wp2
            (try simp only [Exit.inBlock, Exit.then])
            refine bodyPost_ret (v := .agg #[.int .i64 0, .int .i64 0]) ?_ rfl ⟨rfl, (HF.out.setCell (p := ⟨W.heap.size, 0, none⟩) (Nat.le_refl _) _).setCell (p := ⟨W.heap.size, 1, none⟩) (Nat.le_refl _) _⟩
            simp [results, Try.results57, asAddr]
            go_simp
  · have bx0 : (x == 0) = false := by simp; exact x0
    by_cases hi0 : i = 0
    · subst hi0
      rw [Nat.add_zero] at _c
      obtain ⟨er1, er2⟩ : r1 = x ∧ r2 = 0 := by
        have h := HST.out (x, 0) 1 (by unfold stepF; rw [if_neg (fun h => by have := HR.out; omega), if_neg (fun h => by have := HR.out; omega), if_neg (fun h => by rw [HPR0.out rfl] at h; cases h.1)])
        injection h with h1 h2
        exact ⟨h1, h2⟩
      subst er1 er2
      go_wp2_with fail
      go_quiet (fail)
      go_wp2_with fail
      refine (HRX.out _).mono ?_
      rintro e w2 ⟨rfl, b2⟩
      have BQ := hide (fun q => below_drewN B1.out q)
      have BV := hide (fun q => below_drewN BW.out q)
      obtain ⟨d1, d2, f1, f2⟩ := two_cells (HP.out w2 ((BQ.out _).trans (b2.mono (BQ.out _).size)))
      have HF := hide ((BV.out _).trans (b2.mono (BV.out _).size))
      clear b2
      go_wp2
      (try simp only [Exit.inBlock, Exit.then])
      refine bodyPost_ret (v := .agg #[.int .i64 r1, .int .i64 0]) ?_ rfl ⟨rfl, (HF.out.setCell (p := ⟨W.heap.size, 0, none⟩) (Nat.le_refl _) _).setCell (p := ⟨W.heap.size, 1, none⟩) (Nat.le_refl _) _⟩
      simp [results, Try.results57, asAddr]
      go_simp
    · have zi0 : (0 : Int) < i := by omega
      have dzi0 : decide ((0 : Int) < i) = true := decide_eq_true zi0
      have dzn0 : decide (0 < i) = true := decide_eq_true (by omega)
      obtain ⟨y, hy⟩ := getZ? l (i - 1) (by rw [HN.out]; omega)
      have _c3 := (BW.out.cell (p := ⟨b, off + (i - 1), none⟩) hb).trans (HC2.out (i - 1) y hy)
      have HPY := hide (HPRV.out y (by omega) hy)
      have ei : (i : Int) - 1 = ((i - 1 : Nat) : Int) := by omega
      have zi1 : ((i - 1 : Nat) : Int) < n := by omega
      by_cases ey : y = x
      · subst ey
        by_cases h3 : 3 ≤ R
        · have z3 : (3 : Int) ≤ R := by omega
          have dz3 : decide ((3 : Int) ≤ R) = true := decide_eq_true z3
          obtain ⟨er1, HE2⟩ : r1 = 16 ∧ Hid (r2 = ((min H 6 : Nat) : Int) - 3) := by
            have h := HST.out (16, ((min H 6 : Nat) : Int) - 3) _ (by unfold stepF; rw [if_neg (fun h => x0 h.1), if_neg (fun h => x0 h.1), if_pos ⟨HPY.out, by have := HR.out; omega⟩])
            injection h with h1 h2
            exact ⟨h1, hide h2⟩
          subst er1
          have HRN := hide (show ∀ w, Calls Try.prog 68 #[.int .i64 16, .int .i64 (R : Nat)] w fun e w' => e = .returned (.agg #[.int .i64 16, .int .i64 r2]) ∧ Below w.heap.size w w' from fun w => by
            have h := run7 16 R w (by rw [ls16]; omega) hR138
            rw [ls16, ex16, show min ((R : Int) - ((3 : Nat) : Int)) (((4 : Nat) : Int) - 1) = r2 by rw [HE2.out]; have := HR.out; omega] at h
            exact h)
          go_wp2_with fail
          go_quiet ((go_at_call 67; exact Calls.quiet_of_same (HL16.out _)))
          go_wp2_with fail
          refine (HRN.out _).mono ?_
          rintro e w2 ⟨rfl, b2⟩
          have BQ := hide (fun q => below_drewN B1.out q)
          have BV := hide (fun q => below_drewN BW.out q)
          obtain ⟨d1, d2, f1, f2⟩ := two_cells (HP.out w2 ((BQ.out _).trans (b2.mono (BQ.out _).size)))
          have HF := hide ((BV.out _).trans (b2.mono (BV.out _).size))
          clear b2
          go_wp2
          (try simp only [Exit.inBlock, Exit.then])
          refine bodyPost_ret (v := .agg #[.int .i64 16, .int .i64 r2]) ?_ rfl ⟨rfl, (HF.out.setCell (p := ⟨W.heap.size, 0, none⟩) (Nat.le_refl _) _).setCell (p := ⟨W.heap.size, 1, none⟩) (Nat.le_refl _) _⟩
          simp [results, Try.results57, asAddr]
          go_simp
        · have z3 : ¬ (3 : Int) ≤ R := by omega
          have dz3 : decide ((3 : Int) ≤ R) = false := decide_eq_false z3
          obtain ⟨er1, er2⟩ : r1 = y ∧ r2 = 0 := by
            have h := HST.out (y, 0) 1 (by unfold stepF; rw [if_neg (fun h => x0 h.1), if_neg (fun h => x0 h.1), if_neg (fun h => by have := HR.out; omega)])
            injection h with h1 h2
            exact ⟨h1, h2⟩
          subst er1 er2
          go_wp2_with fail
          go_quiet ((go_at_call 67; exact Calls.quiet_of_same (HL16.out _)))
          go_wp2_with fail
          refine (HRX.out _).mono ?_
          rintro e w2 ⟨rfl, b2⟩
          have BQ := hide (fun q => below_drewN B1.out q)
          have BV := hide (fun q => below_drewN BW.out q)
          obtain ⟨d1, d2, f1, f2⟩ := two_cells (HP.out w2 ((BQ.out _).trans (b2.mono (BQ.out _).size)))
          have HF := hide ((BV.out _).trans (b2.mono (BV.out _).size))
          clear b2
          go_wp2
          (try simp only [Exit.inBlock, Exit.then])
          refine bodyPost_ret (v := .agg #[.int .i64 r1, .int .i64 0]) ?_ rfl ⟨rfl, (HF.out.setCell (p := ⟨W.heap.size, 0, none⟩) (Nat.le_refl _) _).setCell (p := ⟨W.heap.size, 1, none⟩) (Nat.le_refl _) _⟩
          simp [results, Try.results57, asAddr]
          go_simp
      · have bey : (x == y) = false := by simp; exact fun h => ey h.symm
        obtain ⟨er1, er2⟩ : r1 = x ∧ r2 = 0 := by
          have h := HST.out (x, 0) 1 (by unfold stepF; rw [if_neg (fun h => by have := HR.out; omega), if_neg (fun h => by have := HR.out; omega), if_neg (fun h => by rw [HPY.out] at h; have h2 := h.1; injection h2 with h2; exact ey h2)])
          injection h with h1 h2
          exact ⟨h1, h2⟩
        subst er1 er2
        clear ey
        go_wp2_with fail
        go_quiet (fail)
        go_wp2_with fail
        refine (HRX.out _).mono ?_
        rintro e w2 ⟨rfl, b2⟩
        have BQ := hide (fun q => below_drewN B1.out q)
        have BV := hide (fun q => below_drewN BW.out q)
        obtain ⟨d1, d2, f1, f2⟩ := two_cells (HP.out w2 ((BQ.out _).trans (b2.mono (BQ.out _).size)))
        have HF := hide ((BV.out _).trans (b2.mono (BV.out _).size))
        clear b2
        go_wp2
        (try simp only [Exit.inBlock, Exit.then])
        refine bodyPost_ret (v := .agg #[.int .i64 r1, .int .i64 0]) ?_ rfl ⟨rfl, (HF.out.setCell (p := ⟨W.heap.size, 0, none⟩) (Nat.le_refl _) _).setCell (p := ⟨W.heap.size, 1, none⟩) (Nat.le_refl _) _⟩
        simp [results, Try.results57, asAddr]
        go_simp

end Go.Proofs.Ytpgkmbakohfpkaa

/- Contract of the code of layer 7: Fold. -/
namespace Go.Proofs.Ytpgkmbakohfpkaa
open Go.RowKit Go.Lib

theorem cell_two_at (w : World) (x y : Value) {n : Nat} (hn : w.heap.size = n) (t : TypeId) : ∀ j u, [x, y][j]? = some u → (w.alloc (.cells #[x, y] t)).cell? ((⟨n, 0, none⟩ : Addr).add j) = some u := by
  subst hn
  exact cell_two_new w x y t
theorem size_alloc (w : World) (o : Obj) : (w.alloc o).heap.size = w.heap.size + 1 := by
  show (w.heap.push _).size = _
  simp

theorem run_kept {w1 w2 : World} {B n : Nat} {e : TypeId} {size : Nat} {v x y : Value} {xs : List Value} {t : TypeId} {o : Obj} (h : w1.ownsRow B e size v n xs) (g : ((w1.alloc (.cells #[x, y] t)).alloc o).grownBy w2 v.ownBlock) : w2.cell? ⟨w1.heap.size, 0, none⟩ = some x ∧ w2.cell? ⟨w1.heap.size, 1, none⟩ = some y := by
  have hne : some w1.heap.size ≠ v.ownBlock := fun e => own_ne h (Nat.le_refl _) e.symm
  have hb : ((w1.alloc (.cells #[x, y] t)).alloc o).heap[w1.heap.size]? = some (.cells #[x, y] t (0, 0)) := by
    rw [heap_alloc_old _ _ _ (by rw [size_alloc]; omega)]
    show (w1.heap.push _)[w1.heap.size]? = _
    simp
  obtain ⟨c1, c2, _, _⟩ := two_cells hb
  exact ⟨g.cell c1 hne, g.cell c2 hne⟩

set_option maxRecDepth 20000 in
set_option maxHeartbeats 4000000 in
theorem fold7_new (l : List Int) (a : Option Addr) (cap : Nat) (W : World) (harg : ArgZ W a l) (hl : l.length ≤ 3000) (hcap : l.length ≤ cap) :
    Calls Try.prog 44 #[.slice a l.length cap] W fun e w' => FoldNew W l e w' := by
  have HA := hide harg
  obtain ⟨n, hn⟩ : ∃ n, l.length = n := ⟨_, rfl⟩
  have HN := hide hn
  rw [hn] at hl hcap ⊢
  have HCAP := hide hcap
  obtain ⟨i1, ki, kz0, kz1, kz2⟩ := info_parts Try.infoRun
  clear harg hn hcap
  go_enter Try.func44, Try.ntmps44
  go_wp2
  go_loop [10] (fun iv => ∃ j : Nat, j ≤ n ∧ iv = .int .i64 (j : Nat) ∧ Hid (∀ x ∈ l.take j, 0 ≤ x ∧ x ≤ 15)) (fun iv => n - (intOf iv).toNat)
  case atStart => exact ⟨0, Nat.zero_le _, rfl, hide (fun x hx => by simp at hx)⟩
  case round =>
    obtain ⟨j, hj, rfl, HE⟩ := hrel
    by_cases hlt : j < n
    · obtain ⟨x, hx⟩ := getZ? l j (by rw [HN.out]; exact hlt)
      obtain ⟨b, off, rfl, hb, _c⟩ := HA.out j x hx
      have zj : (j : Int) < n := by omega
      have HX := hide hx
      have HTK := hide (show l.take (j + 1) = l.take j ++ [x] by rw [List.take_add_one, hx]; rfl)
      clear hx
      by_cases q1 : x < 0
      · have HB := hide (show FoldNew W l (.returned (.slice none 0 0)) W from ⟨none, 0, [], rfl, .inr ⟨by
            cases h : lenB l with
            | false => rfl
            | true => have := ((lenB_iff l).1 h x (mem_of_get HX.out)).1; omega, rfl⟩, fun i s e h => by simp at h, fun _ => rfl, Below.refl _ _, fun b off e => by cases e⟩)
        go_wp2
        go_ret
        exact HB.out
      · have q1d : decide (x < 0) = false := decide_eq_false q1
        by_cases q2 : 15 < x
        · have HB := hide (show FoldNew W l (.returned (.slice none 0 0)) W from ⟨none, 0, [], rfl, .inr ⟨by
              cases h : lenB l with
              | false => rfl
              | true => have := ((lenB_iff l).1 h x (mem_of_get HX.out)).2; omega, rfl⟩, fun i s e h => by simp at h, fun _ => rfl, Below.refl _ _, fun b off e => by cases e⟩)
          go_wp2
          go_ret
          exact HB.out
        · have q2d : decide (15 < x) = false := decide_eq_false q2
          have HE2 := hide (show ∀ z ∈ l.take (j + 1), 0 ≤ z ∧ z ≤ 15 from fun z hz => by
            rw [HTK.out] at hz
            rcases List.mem_append.1 hz with e | e
            · exact HE.out z e
            · rw [List.mem_singleton.1 e]; omega)
          clear q1 q2
          go_wp2
          go_round
          case rel => exact ⟨j + 1, hlt, by go_num, HE2⟩
          case measure => exact meas_oneW j n hlt
    · have hje : j = n := by omega
      subst hje
      have HV := hide (show ∀ x ∈ l, 0 ≤ x ∧ x ≤ 15 by have h := HE.out; rw [List.take_of_length_le (by rw [HN.out]; exact Nat.le_refl _)] at h; exact h)
      have HLB := hide ((lenB_iff l).2 HV.out)
      have HF0 := hide (show FoldW W W l 0 [] (.slice none 0 0) from ⟨World.ownsRow_nil _ _ _ _, Below.refl _ _, fun rs h => by rw [List.drop_zero] at h; exact h, Nat.le_refl _⟩)
      clear HE hlt hj
      go_wp2
      go_loopw [5, 6] (fun v iv wr => ∃ i : Nat, i ≤ j ∧ iv = .int .i64 (i : Nat) ∧ ∃ out, Hid (FoldW wr W l i out v)) (fun _ iv _ => j - (intOf iv).toNat)
      case atStart => exact ⟨0, Nat.zero_le _, rfl, [], HF0⟩
      case round =>
        clear HF0
        obtain ⟨i, hi, rfl, out, HF⟩ := hrel
        by_cases hij : i < j
        · obtain ⟨x, hx⟩ := getZ? l i (by rw [HN.out]; exact hij)
          have HX := hide hx
          have hol := HF.out.len
          have HXB := hide (HV.out x (mem_of_get hx))
          obtain ⟨r1, r2, K, hst⟩ : ∃ r1 r2 K, stepF (prevAt l i) x (headN x (l.drop i)) = ((r1, r2), K) := ⟨_, _, _, rfl⟩
          have HST := hide hst
          have HFI := hide (step_fits _ x _ (r1, r2) K HXB.out.1 HXB.out.2 hst)
          have HNX := hide (fold_next l i x out hx HF.out.fold (r1, r2) K hst)
          have HC := hide (fun w' (h : ArgZ w' a l) => first7 l a j cap i w' x HN.out h hx HXB.out.1 HXB.out.2 hl HCAP.out r1 r2 K hst)
          have HTM := hide (times7 r1 r2 HFI.out.1 HFI.out.2.1)
          rw [show (leastN r1 : Int) + r2 = (K : Int) from HFI.out.2.2] at HTM
          have zi : (i : Int) < j := by omega
          have X1 := hide (show out.length + 1 ≤ maxLen by unfold maxLen; omega)
          have X2 := hide (show (out.length + 1) * 16 ≤ 140737488355328 by omega)
          have hK9 : K ≤ 3000 := by have := HNX.out.2.1; rw [HN.out] at this; omega
          clear hx hst hol
          go_wp2_with fail
          refine (HC.out wr (HA.out.belowB HF.out.bel (Nat.le_refl _))).mono ?_
          rintro e w1 ⟨rfl, b1⟩
          have HF1 := hide ((HF.out.below b1).below ((Below.refl _ _).alloc (Nat.le_refl _) (.cells #[.int .i64 r1, .int .i64 r2] 89)))
          have HOW := hide (HF.out.below b1).own
          clear b1 HF HC
          go_wp2_with (first
            | (at_builtin; refine wpList_append_fresh _ rfl _ _ 70 rfl W.heap.size 89 i1 (.agg #[.int .i64 0, .int .i64 0]) 2 16 Try.underlying70 ki kz0 kz1 kz2 rfl (by decide) u5 _ _ rfl (HF1.out.own.alloc _) ⟨w1.heap.size + 1, 0, none⟩ 1 1 [.int .i64 r1, .int .i64 r2] rfl rfl (cell_two_at _ _ _ (size_alloc _ _) _) (two_one _ _) X1.out X2.out (size_alloc_le HF1.out.bel.size) ?_; intro v2 w2 o2 g2 _f2; have HF2 := hide (HF1.out.app x HX.out (r1, r2) K HST.out _ o2 g2); obtain ⟨_c1, _c2⟩ := run_kept HOW.out g2; clear o2 g2 _f2))
          refine (HTM.out _).mono ?_
          rintro e w3 ⟨rfl, b3⟩
          have HF3 := hide (HF2.out.below b3)
          clear b3 HF2
          go_wp2
          go_roundw
          case rel => exact ⟨i + K, by have := HNX.out.2.1; rw [HN.out] at this; exact this, by go_num, _, HF3⟩
          case measure => exact meas_add i K j HNX.out.1 (by have := HNX.out.2.1; rw [HN.out] at this; exact this)
        · have hie : i = j := by omega
          subst hie
          have HD := hide (show FoldNew W l (.returned u5) wr by have h := HF.out; rw [← HN.out] at h; exact h.done HLB.out)
          go_wp2
          go_ret
          exact HD.out
theorem fold7_any (l : List Int) (a : Option Addr) (cap : Nat) (W : World) (harg : ArgZ W a l) (hl : l.length ≤ 3000) (hcap : l.length ≤ cap) :
    Calls Try.prog 44 #[.slice a l.length cap] W fun e w' => FoldPost W l e w' := by
  refine (fold7_new l a cap W harg hl hcap).mono ?_
  intro e w' h
  exact h.post

end Go.Proofs.Ytpgkmbakohfpkaa
