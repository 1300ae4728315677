/- Contracts of the code of layer 7: first. -/
import Derived.Test.YtdaflfkknlhllaaRCodeB
namespace Go.Proofs.Ytdaflfkknlhllaa
open Go.RowKit Go.Lib

theorem two_cells {w : World} {R : Nat} {x y : Value} {t : TypeId} (h : w.heap[R]? = some (.cells #[x, y] t (0, 0))) : w.cell? ⟨R, 0, none⟩ = some x ∧ w.cell? ⟨R, 1, none⟩ = some y ∧ w.frozen? ⟨R, 0, none⟩ = false ∧ w.frozen? ⟨R, 1, none⟩ = false := by
  refine ⟨?_, ?_, by simp [World.frozen?, h], by simp [World.frozen?, h]⟩
  · rw [cell_of_row _ _ 0 _ _ (0, 0) h]; rfl
  · rw [cell_of_row _ _ 1 _ _ (0, 0) h]; rfl

theorem step_fits (p : Option Int) (x : Int) (H : Nat) (r : Int × Int) (K : Nat) (hx0 : 0 ≤ x) (hx : x ≤ 15) (hr : stepF p x H = (r, K)) : 0 ≤ r.2 ∧ r.2 ≤ 127 ∧ (leastN r.1 : Int) + r.2 = (K : Int) := by
  unfold stepF at hr
  split at hr
  · injection hr with h1 h2
    subst h1 h2
    dsimp only
    rw [ls18]
    omega
  · split at hr
    · rename_i h11 _
      injection hr with h1 h2
      subst h1 h2
      dsimp only
      rw [ls17]
      omega
    · split at hr
      · injection hr with h1 h2
        subst h1 h2
        dsimp only
        rw [ls16]
        omega
      · injection hr with h1 h2
        subst h1 h2
        dsimp only
        rw [ls_plain x (by omega) (by omega) (by omega)]
        omega
theorem ArgZ.dropped {w : World} {b off : Nat} {l : List Int} (h : ArgZ w (some ⟨b, off, none⟩) l) (i : Nat) : ArgZ w (some ⟨b, off + i, none⟩) (l.drop i) := by
  intro j x hx
  rw [List.getElem?_drop] at hx
  obtain ⟨b2, off2, e, hb, hc⟩ := h _ _ hx
  injection e with e
  injection e with e1 e2
  subst e1 e2
  exact ⟨b, off + i, rfl, hb, by rw [Nat.add_assoc]; exact hc⟩

set_option maxRecDepth 20000 in
set_option maxHeartbeats 2000000 in
theorem first7 (l : List Int) (a : Option Addr) (n cap i : Nat) (W : World) (x : Int) (hn : l.length = n) (harg : ArgZ W a l) (hx : l[i]? = some x) (hx0 : 0 ≤ x) (hx15 : x ≤ 15) (hl : n ≤ 3000) (hcap : n ≤ cap) (r1 r2 : Int) (K : Nat) (hr : stepF (prevAt l i) x (headN x (l.drop i)) = ((r1, r2), K)) :
    Calls Try.prog 19 #[.slice a n cap, .int .i64 (i : Nat)] W fun e w' => e = .returned (.agg #[.int .i64 r1, .int .i64 r2]) ∧ Below W.heap.size W w' := by
  have hi : i < n := by rw [← hn]; exact (List.getElem?_eq_some_iff.1 hx).1
  obtain ⟨b, off, rfl, hb, hc⟩ := harg i x hx
  have zi : (i : Int) < n := by omega
  have hci : ¬ cap = i := by omega
  obtain ⟨H, hH⟩ : ∃ H, headN x (l.drop i) = H := ⟨_, rfl⟩
  rw [hH] at hr
  have HST := hide (fun (r : Int × Int) (K2 : Nat) (h : stepF (prevAt l i) x H = (r, K2)) => (show (r1, r2) = r by rw [hr] at h; injection h))
  have HP := hide (show ∀ w', Below (W.alloc (.cells #[.int .i64 0, .int .i64 0] 39)).heap.size (W.alloc (.cells #[.int .i64 0, .int .i64 0] 39)) w' → w'.heap[W.heap.size]? = some (.cells #[.int .i64 0, .int .i64 0] 39 (0, 0)) from fun w' h => by
    rw [h.block _ (by show _ < (W.heap.push _).size; simp)]
    show (W.heap.push _)[W.heap.size]? = _
    simp)
  have HRW := hide (row7 (l.drop i) (some ⟨b, off + i, none⟩) (n - i) (cap - i) (W.alloc (.cells #[.int .i64 0, .int .i64 0] 39)) x (by rw [List.length_drop, hn]) ((harg.below (Below.alloc (Below.refl _ W) (Nat.le_refl _) _)).dropped i) (by rw [List.getElem?_drop]; exact hx) (by omega))
  rw [hH] at HRW
  have HPRV := hide (show ∀ y, 0 < i → l[i - 1]? = some y → prevAt l i = some y from fun y h0 hy => by unfold prevAt; rw [if_neg (by omega)]; exact hy)
  have HPR0 := hide (show i = 0 → prevAt l i = none from fun h0 => by unfold prevAt; rw [if_pos h0])
  have HC := hide hc
  have HC2 := hide (fun (k : Nat) (y : Int) (hy : l[k]? = some y) => (show W.cell? ⟨b, off + k, none⟩ = some (.int .i64 y) by
    obtain ⟨b2, off2, e, _, h⟩ := harg k y hy
    injection e with e
    injection e with e1 e2
    subst e1
    subst e2
    exact h))
  have hH1 : 1 ≤ H := by
    obtain ⟨t, ht⟩ := drop_at l i x hx
    rw [← hH, ht]
    exact head_pos x t
  have HN := hide hn
  have HL16 := hide (least7 16)
  rw [ls16] at HL16
  have HL17 := hide (least7 17)
  rw [ls17] at HL17
  have HL18 := hide (least7 18)
  rw [ls18] at HL18
  have HB0 := hide ((Below.refl W.heap.size W).alloc (Nat.le_refl _) (.cells #[.int .i64 0, .int .i64 0] 39))
  have HRX := hide (show ∀ w, Calls Try.prog 25 #[.int .i64 x, .int .i64 1] w fun e w' => e = .returned (.agg #[.int .i64 x, .int .i64 0]) ∧ Below w.heap.size w w' from fun w => by
    have h := run7 x 1 w (by rw [ls_plain x (by omega) (by omega) (by omega)]; exact Nat.le_refl _) (by omega)
    rw [ls_plain x (by omega) (by omega) (by omega), ex_plain x (by omega) (by omega) (by omega)] at h
    exact h)
  clear harg hx hr hc hn hH
  go_enter Try.func19, Try.ntmps19
  go_wp2_with fail
  refine HRW.out.mono ?_
  rintro e w1 ⟨rfl, b1⟩
  have B1 := hide b1
  have BW := hide (HB0.out.trans (b1.mono HB0.out.size))
  have _c := (BW.out.cell (p := ⟨b, off + i, none⟩) hb).trans HC.out
  obtain ⟨R, hR⟩ : ∃ R, min H 138 = R := ⟨_, rfl⟩
  rw [hR]
  have HR := hide hR
  have hR138 : R ≤ 138 := by omega
  clear b1 hR HRW
  by_cases x0 : x = 0
  · subst x0
    by_cases h11 : 11 ≤ R
    · have z11 : (11 : Int) ≤ R := by omega
      obtain ⟨er1, HE2⟩ : r1 = 18 ∧ Hid (r2 = ((min H 138 : Nat) : Int) - 11) := by
        have h := HST.out (18, ((min H 138 : Nat) : Int) - 11) _ (by unfold stepF; rw [if_pos ⟨rfl, by have := HR.out; omega⟩])
        injection h with h1 h2
        exact ⟨h1, hide h2⟩
      subst er1
      have HRN := hide (show ∀ w, Calls Try.prog 25 #[.int .i64 18, .int .i64 (R : Nat)] w fun e w' => e = .returned (.agg #[.int .i64 18, .int .i64 r2]) ∧ Below w.heap.size w w' from fun w => by
        have h := run7 18 R w (by rw [ls18]; omega) hR138
        rw [ls18, ex18, show min ((R : Int) - ((11 : Nat) : Int)) (((128 : Nat) : Int) - 1) = r2 by rw [HE2.out]; have := HR.out; omega] at h
        exact h)
      go_wp2_with fail
      refine (HL18.out _).mono ?_
      rintro e w1b ⟨rfl, rfl⟩
      go_wp2_with fail
      refine (HRN.out _).mono ?_
      rintro e w2 ⟨rfl, b2⟩
      have BQ := B1
      have BV := BW
      obtain ⟨d1, d2, f1, f2⟩ := two_cells (HP.out w2 (BQ.out.trans (b2.mono BQ.out.size)))
      have HF := hide (BV.out.trans (b2.mono BV.out.size))
      clear b2
      go_wp2
      (try simp only [Exit.inBlock, Exit.then])
      refine bodyPost_ret (v := .agg #[.int .i64 18, .int .i64 r2]) ?_ rfl ⟨rfl, (HF.out.setCell (p := ⟨W.heap.size, 0, none⟩) (Nat.le_refl _) _).setCell (p := ⟨W.heap.size, 1, none⟩) (Nat.le_refl _) _⟩
      simp [results, Try.results19, asAddr]
      go_simp
    · have z11 : ¬ (11 : Int) ≤ R := by omega
      by_cases h3 : 3 ≤ R
      · have z3 : (3 : Int) ≤ R := by omega
        obtain ⟨er1, HE2⟩ : r1 = 17 ∧ Hid (r2 = (H : Int) - 3) := by
          have h := HST.out (17, (H : Int) - 3) _ (by unfold stepF; rw [if_neg (fun h => by have := HR.out; omega), if_pos ⟨rfl, by have := HR.out; omega⟩])
          injection h with h1 h2
          exact ⟨h1, hide h2⟩
        subst er1
        have HRN := hide (show ∀ w, Calls Try.prog 25 #[.int .i64 17, .int .i64 (R : Nat)] w fun e w' => e = .returned (.agg #[.int .i64 17, .int .i64 r2]) ∧ Below w.heap.size w w' from fun w => by
          have h := run7 17 R w (by rw [ls17]; omega) hR138
          rw [ls17, ex17, show min ((R : Int) - ((3 : Nat) : Int)) (((8 : Nat) : Int) - 1) = r2 by rw [HE2.out]; have := HR.out; omega] at h
          exact h)
        go_wp2_with fail
        refine (HL18.out _).mono ?_
        rintro e w1b ⟨rfl, rfl⟩
        go_wp2_with fail
        refine (HL17.out _).mono ?_
        rintro e w1c ⟨rfl, rfl⟩
        go_wp2_with fail
        refine (HRN.out _).mono ?_
        rintro e w2 ⟨rfl, b2⟩
        have BQ := B1
        have BV := BW
        obtain ⟨d1, d2, f1, f2⟩ := two_cells (HP.out w2 (BQ.out.trans (b2.mono BQ.out.size)))
        have HF := hide (BV.out.trans (b2.mono BV.out.size))
        clear b2
        go_wp2
        (try simp only [Exit.inBlock, Exit.then])
        refine bodyPost_ret (v := .agg #[.int .i64 17, .int .i64 r2]) ?_ rfl ⟨rfl, (HF.out.setCell (p := ⟨W.heap.size, 0, none⟩) (Nat.le_refl _) _).setCell (p := ⟨W.heap.size, 1, none⟩) (Nat.le_refl _) _⟩
        simp [results, Try.results19, asAddr]
        go_simp
      · have z3 : ¬ (3 : Int) ≤ R := by omega
        have dz3 : decide ((3 : Int) ≤ R) = false := decide_eq_false z3
        by_cases hi0 : i = 0
        · subst hi0
          rw [Nat.add_zero] at _c
          obtain ⟨er1, er2⟩ : r1 = 0 ∧ r2 = 0 := by
            have h := HST.out (0, 0) 1 (by unfold stepF; rw [if_neg (fun h => by have := HR.out; omega), if_neg (fun h => by have := HR.out; omega), if_neg (fun h => by rw [HPR0.out rfl] at h; cases h.1)])
            injection h with h1 h2
            exact ⟨h1, h2⟩
          subst er1 er2
          go_wp2_with fail
          refine (HL18.out _).mono ?_
          rintro e w1b ⟨rfl, rfl⟩
          go_wp2_with fail
          refine (HL17.out _).mono ?_
          rintro e w1c ⟨rfl, rfl⟩
          go_wp2_with fail
          go_quiet (fail)
          go_wp2_with fail
          refine (HRX.out _).mono ?_
          rintro e w2 ⟨rfl, b2⟩
          have BQ := hide (fun q => below_drewN B1.out q)
          have BV := hide (fun q => below_drewN BW.out q)
          obtain ⟨d1, d2, f1, f2⟩ := two_cells (HP.out w2 ((BQ.out _).trans (b2.mono (BQ.out _).size)))
          have HF := hide ((BV.out _).trans (b2.mono (BV.out _).size))
          clear b2
          go_wp2
          (try simp only [Exit.inBlock, Exit.then])
          refine bodyPost_ret (v := .agg #[.int .i64 0, .int .i64 0]) ?_ rfl ⟨rfl, (HF.out.setCell (p := ⟨W.heap.size, 0, none⟩) (Nat.le_refl _) _).setCell (p := ⟨W.heap.size, 1, none⟩) (Nat.le_refl _) _⟩
          simp [results, Try.results19, asAddr]
          go_simp
        · have zi0 : (0 : Int) < i := by omega
          have dzi0 : decide ((0 : Int) < i) = true := decide_eq_true zi0
          have dzn0 : decide (0 < i) = true := decide_eq_true (by omega)
          obtain ⟨y, hy⟩ := getZ? l (i - 1) (by rw [HN.out]; omega)
          have _c3 := (BW.out.cell (p := ⟨b, off + (i - 1), none⟩) hb).trans (HC2.out (i - 1) y hy)
          have HPY := hide (HPRV.out y (by omega) hy)
          have ei : (i : Int) - 1 = ((i - 1 : Nat) : Int) := by omega
          have zi1 : ((i - 1 : Nat) : Int) < n := by omega
          by_cases ey : y = 0
          · subst ey
            obtain ⟨er1, er2⟩ : r1 = 0 ∧ r2 = 0 := by
              have h := HST.out (0, 0) 1 (by unfold stepF; rw [if_neg (fun h => by have := HR.out; omega), if_neg (fun h => by have := HR.out; omega), if_neg (fun h => by have := HR.out; omega)])
              injection h with h1 h2
              exact ⟨h1, h2⟩
            subst er1 er2
            go_wp2_with fail
            refine (HL18.out _).mono ?_
            rintro e w1b ⟨rfl, rfl⟩
            go_wp2_with fail
            refine (HL17.out _).mono ?_
            rintro e w1c ⟨rfl, rfl⟩
            go_wp2_with fail
            go_quiet ((go_at_call 24; exact Calls.quiet_of_same (HL16.out _)))
            go_wp2_with fail
            refine (HRX.out _).mono ?_
            rintro e w2 ⟨rfl, b2⟩
            have BQ := hide (fun q => below_drewN B1.out q)
            have BV := hide (fun q => below_drewN BW.out q)
            obtain ⟨d1, d2, f1, f2⟩ := two_cells (HP.out w2 ((BQ.out _).trans (b2.mono (BQ.out _).size)))
            have HF := hide ((BV.out _).trans (b2.mono (BV.out _).size))
            clear b2
            go_wp2
            (try simp only [Exit.inBlock, Exit.then])
            refine bodyPost_ret (v := .agg #[.int .i64 0, .int .i64 0]) ?_ rfl ⟨rfl, (HF.out.setCell (p := ⟨W.heap.size, 0, none⟩) (Nat.le_refl _) _).setCell (p := ⟨W.heap.size, 1, none⟩) (Nat.le_refl _) _⟩
            simp [results, Try.results19, asAddr]
            go_simp
          · have bey : (0 == y) = false := by simp; exact fun h => ey h.symm
            obtain ⟨er1, er2⟩ : r1 = 0 ∧ r2 = 0 := by
              have h := HST.out (0, 0) 1 (by unfold stepF; rw [if_neg (fun h => by have := HR.out; omega), if_neg (fun h => by have := HR.out; omega), if_neg (fun h => by rw [HPY.out] at h; have h2 := h.1; injection h2 with h2; exact ey h2)])
              injection h with h1 h2
              exact ⟨h1, h2⟩
            subst er1 er2
            clear ey
            go_wp2_with fail
            refine (HL18.out _).mono ?_
            rintro e w1b ⟨rfl, rfl⟩
            go_wp2_with fail
            refine (HL17.out _).mono ?_
            rintro e w1c ⟨rfl, rfl⟩
            go_wp2_with fail
            go_quiet (fail)
            go_wp2_with fail
            refine (HRX.out _).mono ?_
            rintro e w2 ⟨rfl, b2⟩
            have BQ := hide (fun q => below_drewN B1.out q)
            have BV := hide (fun q => below_drewN BW.out q)
            obtain ⟨d1, d2, f1, f2⟩ := two_cells (HP.out w2 ((BQ.out _).trans (b2.mono (BQ.out _).size)))
            have HF := hide ((BV.out _).trans (b2.mono (BV.out _).size))
            clear b2
            go_wp2
            (try simp only [Exit.inBlock, Exit.then])
            refine bodyPost_ret (v := .agg #[.int .i64 0, .int .i64 0]) ?_ rfl ⟨rfl, (HF.out.setCell (p := ⟨W.heap.size, 0, none⟩) (Nat.le_refl _) _).setCell (p := ⟨W.heap.size, 1, none⟩) (Nat.le_refl _) _⟩
            simp [results, Try.results19, asAddr]
            go_simp
  · have bx0 : (x == 0) = false := by simp; exact x0
    by_cases hi0 : i = 0
    · subst hi0
      rw [Nat.add_zero] at _c
      obtain ⟨er1, er2⟩ : r1 = x ∧ r2 = 0 := by
        have h := HST.out (x, 0) 1 (by unfold stepF; rw [if_neg (fun h => by have := HR.out; omega), if_neg (fun h => by have := HR.out; omega), if_neg (fun h => by rw [HPR0.out rfl] at h; cases h.1)])
        injection h with h1 h2
        exact ⟨h1, h2⟩
      subst er1 er2
      go_wp2_with fail
      go_quiet (fail)
      go_wp2_with fail
      refine (HRX.out _).mono ?_
      rintro e w2 ⟨rfl, b2⟩
      have BQ := hide (fun q => below_drewN B1.out q)
      have BV := hide (fun q => below_drewN BW.out q)
      obtain ⟨d1, d2, f1, f2⟩ := two_cells (HP.out w2 ((BQ.out _).trans (b2.mono (BQ.out _).size)))
      have HF := hide ((BV.out _).trans (b2.mono (BV.out _).size))
      clear b2
      go_wp2
      (try simp only [Exit.inBlock, Exit.then])
      refine bodyPost_ret (v := .agg #[.int .i64 r1, .int .i64 0]) ?_ rfl ⟨rfl, (HF.out.setCell (p := ⟨W.heap.size, 0, none⟩) (Nat.le_refl _) _).setCell (p := ⟨W.heap.size, 1, none⟩) (Nat.le_refl _) _⟩
      simp [results, Try.results19, asAddr]
      go_simp
    · have zi0 : (0 : Int) < i := by omega
      have dzi0 : decide ((0 : Int) < i) = true := decide_eq_true zi0
      have dzn0 : decide (0 < i) = true := decide_eq_true (by omega)
      obtain ⟨y, hy⟩ := getZ? l (i - 1) (by rw [HN.out]; omega)
      have _c3 := (BW.out.cell (p := ⟨b, off + (i - 1), none⟩) hb).trans (HC2.out (i - 1) y hy)
      have HPY := hide (HPRV.out y (by omega) hy)
      have ei : (i : Int) - 1 = ((i - 1 : Nat) : Int) := by omega
      have zi1 : ((i - 1 : Nat) : Int) < n := by omega
      by_cases ey : y = x
      · subst ey
        by_cases h3 : 3 ≤ R
        · have z3 : (3 : Int) ≤ R := by omega
          have dz3 : decide ((3 : Int) ≤ R) = true := decide_eq_true z3
          obtain ⟨er1, HE2⟩ : r1 = 16 ∧ Hid (r2 = ((min H 6 : Nat) : Int) - 3) := by
            have h := HST.out (16, ((min H 6 : Nat) : Int) - 3) _ (by unfold stepF; rw [if_neg (fun h => x0 h.1), if_neg (fun h => x0 h.1), if_pos ⟨HPY.out, by have := HR.out; omega⟩])
            injection h with h1 h2
            exact ⟨h1, hide h2⟩
          subst er1
          have HRN := hide (show ∀ w, Calls Try.prog 25 #[.int .i64 16, .int .i64 (R : Nat)] w fun e w' => e = .returned (.agg #[.int .i64 16, .int .i64 r2]) ∧ Below w.heap.size w w' from fun w => by
            have h := run7 16 R w (by rw [ls16]; omega) hR138
            rw [ls16, ex16, show min ((R : Int) - ((3 : Nat) : Int)) (((4 : Nat) : Int) - 1) = r2 by rw [HE2.out]; have := HR.out; omega] at h
            exact h)
          go_wp2_with fail
          go_quiet ((go_at_call 24; exact Calls.quiet_of_same (HL16.out _)))
          go_wp2_with fail
          refine (HRN.out _).mono ?_
          rintro e w2 ⟨rfl, b2⟩
          have BQ := hide (fun q => below_drewN B1.out q)
          have BV := hide (fun q => below_drewN BW.out q)
          obtain ⟨d1, d2, f1, f2⟩ := two_cells (HP.out w2 ((BQ.out _).trans (b2.mono (BQ.out _).size)))
          have HF := hide ((BV.out _).trans (b2.mono (BV.out _).size))
          clear b2
          go_wp2
          (try simp only [Exit.inBlock, Exit.then])
          refine bodyPost_ret (v := .agg #[.int .i64 16, .int .i64 r2]) ?_ rfl ⟨rfl, (HF.out.setCell (p := ⟨W.heap.size, 0, none⟩) (Nat.le_refl _) _).setCell (p := ⟨W.heap.size, 1, none⟩) (Nat.le_refl _) _⟩
          simp [results, Try.results19, asAddr]
          go_simp
        · have z3 : ¬ (3 : Int) ≤ R := by omega
          have dz3 : decide ((3 : Int) ≤ R) = false := decide_eq_false z3
          obtain ⟨er1, er2⟩ : r1 = y ∧ r2 = 0 := by
            have h := HST.out (y, 0) 1 (by unfold stepF; rw [if_neg (fun h => x0 h.1), if_neg (fun h => x0 h.1), if_neg (fun h => by have := HR.out; omega)])
            injection h with h1 h2
            exact ⟨h1, h2⟩
          subst er1 er2
          go_wp2_with fail
          go_quiet ((go_at_call 24; exact Calls.quiet_of_same (HL16.out _)))
          go_wp2_with fail
          refine (HRX.out _).mono ?_
          rintro e w2 ⟨rfl, b2⟩
          have BQ := hide (fun q => below_drewN B1.out q)
          have BV := hide (fun q => below_drewN BW.out q)
          obtain ⟨d1, d2, f1, f2⟩ := two_cells (HP.out w2 ((BQ.out _).trans (b2.mono (BQ.out _).size)))
          have HF := hide ((BV.out _).trans (b2.mono (BV.out _).size))
          clear b2
          go_wp2
          (try simp only [Exit.inBlock, Exit.then])
          refine bodyPost_ret (v := .agg #[.int .i64 r1, .int .i64 0]) ?_ rfl ⟨rfl, (HF.out.setCell (p := ⟨W.heap.size, 0, none⟩) (Nat.le_refl _) _).setCell (p := ⟨W.heap.size, 1, none⟩) (Nat.le_refl _) _⟩
          simp [results, Try.results19, asAddr]
          go_simp
      · have bey : (x == y) = false := by simp; exact fun h => ey h.symm
        obtain ⟨er1, er2⟩ : r1 = x ∧ r2 = 0 := by
          have h := HST.out (x, 0) 1 (by unfold stepF; rw [if_neg (fun h => by have := HR.out; omega), if_neg (fun h => by have := HR.out; omega), if_neg (fun h => by rw [HPY.out] at h; have h2 := h.1; injection h2 with h2; exact ey h2)])
          injection h with h1 h2
          exact ⟨h1, h2⟩
        subst er1 er2
        clear ey
        go_wp2_with fail
        go_quiet (fail)
        go_wp2_with fail
        refine (HRX.out _).mono ?_
        rintro e w2 ⟨rfl, b2⟩
        have BQ := hide (fun q => below_drewN B1.out q)
        have BV := hide (fun q => below_drewN BW.out q)
        obtain ⟨d1, d2, f1, f2⟩ := two_cells (HP.out w2 ((BQ.out _).trans (b2.mono (BQ.out _).size)))
        have HF := hide ((BV.out _).trans (b2.mono (BV.out _).size))
        clear b2
        go_wp2
        (try simp only [Exit.inBlock, Exit.then])
        refine bodyPost_ret (v := .agg #[.int .i64 r1, .int .i64 0]) ?_ rfl ⟨rfl, (HF.out.setCell (p := ⟨W.heap.size, 0, none⟩) (Nat.le_refl _) _).setCell (p := ⟨W.heap.size, 1, none⟩) (Nat.le_refl _) _⟩
        simp [results, Try.results19, asAddr]
        go_simp

end Go.Proofs.Ytdaflfkknlhllaa
