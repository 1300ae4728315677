/- Contracts of layer 6 as it landed. -/
import Derived.Test.YtmfijcphmldcgaaSLen
namespace Go.Proofs.Ytmfijcphmldcgaa
open Go.RowKit Go.Lib

set_option maxHeartbeats 4000000 in
theorem lenbase_any (n : Int) (w : World) :
    Calls Try.prog 11 #[.int .i64 n] w fun e w' => e = .returned (lbV n) ∧ Below w.heap.size w w' := by
  by_cases h1 : n < 257
  · obtain ⟨e1, e2, e3⟩ := lb_no (.inl h1)
    unfold lbV
    rw [e1, e2, e3]
    clear e1 e2 e3
    go_enter Try.func11, Try.ntmps11
    go_wp2
    go_ret3
    exact ⟨rfl, Below.refl _ _⟩
  · by_cases h2 : 285 < n
    · obtain ⟨e1, e2, e3⟩ := lb_no (.inr h2)
      unfold lbV
      rw [e1, e2, e3]
      have h1d : decide (n < 257) = false := decide_eq_false h1
      clear e1 e2 e3
      go_enter Try.func11, Try.ntmps11
      go_wp2
      go_ret3
      exact ⟨rfl, Below.refl _ _⟩
    · have hc : n = 257 ∨ n = 258 ∨ n = 259 ∨ n = 260 ∨ n = 261 ∨ n = 262 ∨ n = 263 ∨ n = 264 ∨ n = 265 ∨ n = 266 ∨ n = 267 ∨ n = 268 ∨ n = 269 ∨ n = 270 ∨ n = 271 ∨ n = 272 ∨ n = 273 ∨ n = 274 ∨ n = 275 ∨ n = 276 ∨ n = 277 ∨ n = 278 ∨ n = 279 ∨ n = 280 ∨ n = 281 ∨ n = 282 ∨ n = 283 ∨ n = 284 ∨ n = 285 := by omega
      clear h1 h2
      rcases hc with rfl | rfl | rfl | rfl | rfl | rfl | rfl | rfl | rfl | rfl | rfl | rfl | rfl | rfl | rfl | rfl | rfl | rfl | rfl | rfl | rfl | rfl | rfl | rfl | rfl | rfl | rfl | rfl | rfl <;>
        (go_enter Try.func11, Try.ntmps11
         go_wp2
         go_ret3
         exact ⟨rfl, Below.refl _ _⟩)

set_option maxHeartbeats 4000000 in
theorem distbase_any (n : Int) (w : World) :
    Calls Try.prog 13 #[.int .i64 n] w fun e w' => e = .returned (dbV n) ∧ Below w.heap.size w w' := by
  by_cases h1 : n < 0
  · obtain ⟨e1, e2, e3⟩ := db_no (.inl h1)
    unfold dbV
    rw [e1, e2, e3]
    clear e1 e2 e3
    go_enter Try.func13, Try.ntmps13
    go_wp2
    go_ret3
    exact ⟨rfl, Below.refl _ _⟩
  · by_cases h2 : 29 < n
    · obtain ⟨e1, e2, e3⟩ := db_no (.inr h2)
      unfold dbV
      rw [e1, e2, e3]
      have h1d : decide (n < 0) = false := decide_eq_false h1
      clear e1 e2 e3
      go_enter Try.func13, Try.ntmps13
      go_wp2
      go_ret3
      exact ⟨rfl, Below.refl _ _⟩
    · have hc : n = 0 ∨ n = 1 ∨ n = 2 ∨ n = 3 ∨ n = 4 ∨ n = 5 ∨ n = 6 ∨ n = 7 ∨ n = 8 ∨ n = 9 ∨ n = 10 ∨ n = 11 ∨ n = 12 ∨ n = 13 ∨ n = 14 ∨ n = 15 ∨ n = 16 ∨ n = 17 ∨ n = 18 ∨ n = 19 ∨ n = 20 ∨ n = 21 ∨ n = 22 ∨ n = 23 ∨ n = 24 ∨ n = 25 ∨ n = 26 ∨ n = 27 ∨ n = 28 ∨ n = 29 := by omega
      clear h1 h2
      rcases hc with rfl | rfl | rfl | rfl | rfl | rfl | rfl | rfl | rfl | rfl | rfl | rfl | rfl | rfl | rfl | rfl | rfl | rfl | rfl | rfl | rfl | rfl | rfl | rfl | rfl | rfl | rfl | rfl | rfl | rfl <;>
        (go_enter Try.func13, Try.ntmps13
         go_wp2
         go_ret3
         exact ⟨rfl, Below.refl _ _⟩)

set_option maxHeartbeats 4000000 in
theorem len_any (n : Int) (w : World) :
    Calls Try.prog 7 #[.int .i64 n] w fun e w' => e = .returned (lnV n) ∧ Below w.heap.size w w' := by
  by_cases h1 : n < 3
  · obtain ⟨e1, e2, e3, e4⟩ := ln_no (.inl h1)
    unfold lnV
    rw [e1, e2, e3, e4]
    clear e1 e2 e3 e4
    go_enter Try.func7, Try.ntmps7
    go_wp2
    (try simp only [Exit.inBlock, Exit.then])
    refine bodyPost_ret (results_tmp4 rfl _ _ _) rfl ?_
    exact ⟨rfl, Below.refl _ _⟩
  have h1d : decide (n < 3) = false := decide_eq_false h1
  by_cases h2 : 258 < n
  · obtain ⟨e1, e2, e3, e4⟩ := ln_no (.inr h2)
    unfold lnV
    rw [e1, e2, e3, e4]
    clear e1 e2 e3 e4
    go_enter Try.func7, Try.ntmps7
    go_wp2
    (try simp only [Exit.inBlock, Exit.then])
    refine bodyPost_ret (results_tmp4 rfl _ _ _) rfl ?_
    exact ⟨rfl, Below.refl _ _⟩
  by_cases h4 : n = 258
  · subst h4
    go_enter Try.func7, Try.ntmps7
    go_wp2
    (try simp only [Exit.inBlock, Exit.then])
    refine bodyPost_ret (results_tmp4 rfl _ _ _) rfl ?_
    exact ⟨rfl, Below.refl _ _⟩
  by_cases h3 : n < 11
  · have hc : n = 3 ∨ n = 4 ∨ n = 5 ∨ n = 6 ∨ n = 7 ∨ n = 8 ∨ n = 9 ∨ n = 10 := by omega
    clear h1 h2 h1d h3 h4
    rcases hc with rfl | rfl | rfl | rfl | rfl | rfl | rfl | rfl <;>
      (go_enter Try.func7, Try.ntmps7
       go_wp2
       (try simp only [Exit.inBlock, Exit.then])
       refine bodyPost_ret (results_tmp4 rfl _ _ _) rfl ?_
       exact ⟨rfl, Below.refl _ _⟩)
  obtain ⟨m, rfl⟩ : ∃ m : Nat, n = ((m + 3 : Nat) : Int) := ⟨(n - 3).toNat, by omega⟩
  have hm1 : 8 ≤ m := by omega
  have hm2 : m ≤ 254 := by omega
  obtain ⟨e, h, c1, c2, c3, c4, c5, c6, c7, c8, c9⟩ := head_at m 3 (by decide) (by decide) hm1 (by omega)
  have c5 : 4 ≤ h := c5
  have c6 : h ≤ 7 := Nat.le_of_lt_succ c6
  have c10 : e ≤ 5 := Classical.byContradiction fun g => by have := Nat.pow_le_pow_right (show 0 < 2 by decide) (show 8 ≤ e + 3 - 1 by omega); omega
  obtain ⟨g1, g2, g3, g4⟩ := ln_heads m e h c10 c1 c6 c5 c7 c8 hm2
  have HC := hide (parted_any m 3 e w (by omega) (by omega) (by omega) c3)
  rw [c4] at HC
  have hS : h * 2 ^ e ≤ m := c7
  unfold lnV
  rw [g1, g2, g3, g4]
  clear g1 g2 g3 g4 h1 h2 h3 h1d c3 c4 c7 c8 c9 h4
  generalize h * 2 ^ e = b at *
  have z1 : ¬ ((m + 3 : Nat) : Int) < 3 := by omega
  have z2 : ¬ 258 < ((m + 3 : Nat) : Int) := by omega
  have z3 : ¬ ((m + 3 : Nat) : Int) < 11 := by omega
  have z4 : ¬ ((m + 3 : Nat) : Int) = 258 := by omega
  have z5 : ((m + 3 : Nat) : Int) - 3 = (m : Int) := by omega
  have HZ := hide z5
  clear z5
  generalize ((m + 3 : Nat) : Int) = N at *
  go_enter Try.func7, Try.ntmps7
  have z5 := HZ.out
  go_wp2_with fail
  refine HC.out.mono ?_
  rintro x w1 ⟨rfl, hb⟩
  have HB := hide hb
  clear hb z5 z1 z2 z3
  go_wp2
  (try simp only [Exit.inBlock, Exit.then])
  refine bodyPost_ret (results_tmp4 rfl _ _ _) rfl ?_
  refine ⟨?_, HB.out⟩
  rw [show (257 : Int) + ((4 * e + h : Nat) : Int) = 265 + 4 * ((e : Int) - 1) + (h : Int) - 4 by omega]
  rfl

set_option maxHeartbeats 4000000 in
theorem dist_any (n : Int) (w : World) :
    Calls Try.prog 9 #[.int .i64 n] w fun e w' => e = .returned (dsV n) ∧ Below w.heap.size w w' := by
  by_cases h1 : n < 1
  · obtain ⟨e1, e2, e3, e4⟩ := ds_no (.inl h1)
    unfold dsV
    rw [e1, e2, e3, e4]
    clear e1 e2 e3 e4
    go_enter Try.func9, Try.ntmps9
    go_wp2
    (try simp only [Exit.inBlock, Exit.then])
    refine bodyPost_ret (results_tmp4 rfl _ _ _) rfl ?_
    exact ⟨rfl, Below.refl _ _⟩
  have h1d : decide (n < 1) = false := decide_eq_false h1
  by_cases h2 : 32768 < n
  · obtain ⟨e1, e2, e3, e4⟩ := ds_no (.inr h2)
    unfold dsV
    rw [e1, e2, e3, e4]
    clear e1 e2 e3 e4
    go_enter Try.func9, Try.ntmps9
    go_wp2
    (try simp only [Exit.inBlock, Exit.then])
    refine bodyPost_ret (results_tmp4 rfl _ _ _) rfl ?_
    exact ⟨rfl, Below.refl _ _⟩
  by_cases h3 : n < 5
  · have hc : n = 1 ∨ n = 2 ∨ n = 3 ∨ n = 4 := by omega
    clear h1 h2 h1d h3
    rcases hc with rfl | rfl | rfl | rfl <;>
      (go_enter Try.func9, Try.ntmps9
       go_wp2
       (try simp only [Exit.inBlock, Exit.then])
       refine bodyPost_ret (results_tmp4 rfl _ _ _) rfl ?_
       exact ⟨rfl, Below.refl _ _⟩)
  obtain ⟨m, rfl⟩ : ∃ m : Nat, n = ((m + 1 : Nat) : Int) := ⟨(n - 1).toNat, by omega⟩
  have hm1 : 4 ≤ m := by omega
  have hm2 : m ≤ 32767 := by omega
  obtain ⟨e, h, c1, c2, c3, c4, c5, c6, c7, c8, c9⟩ := head_at m 2 (by decide) (by decide) hm1 (by omega)
  have c5 : 2 ≤ h := c5
  have c6 : h ≤ 3 := Nat.le_of_lt_succ c6
  have c10 : e ≤ 13 := by omega
  obtain ⟨g1, g2, g3, g4⟩ := ds_heads m e h c10 c1 c6 c5 c7 c8 hm2
  have HC := hide (parted_any m 2 e w (by omega) (by omega) (by omega) c3)
  rw [c4] at HC
  have hS : h * 2 ^ e ≤ m := c7
  unfold dsV
  rw [g1, g2, g3, g4]
  clear g1 g2 g3 g4 h1 h2 h3 h1d c3 c4 c7 c8 c9
  generalize h * 2 ^ e = b at *
  have z1 : ¬ ((m + 1 : Nat) : Int) < 1 := by omega
  have z2 : ¬ 32768 < ((m + 1 : Nat) : Int) := by omega
  have z3 : ¬ ((m + 1 : Nat) : Int) < 5 := by omega

  have z5 : ((m + 1 : Nat) : Int) - 1 = (m : Int) := by omega
  have HZ := hide z5
  clear z5
  generalize ((m + 1 : Nat) : Int) = N at *
  go_enter Try.func9, Try.ntmps9
  have z5 := HZ.out
  go_wp2_with fail
  refine HC.out.mono ?_
  rintro x w1 ⟨rfl, hb⟩
  have HB := hide hb
  clear hb z5 z1 z2 z3
  go_wp2
  (try simp only [Exit.inBlock, Exit.then])
  refine bodyPost_ret (results_tmp4 rfl _ _ _) rfl ?_
  refine ⟨?_, HB.out⟩
  rw [show ((2 * e + h : Nat) : Int) = 4 + 2 * ((e : Int) - 1) + (h : Int) - 2 by omega]
  rfl

end Go.Proofs.Ytmfijcphmldcgaa
