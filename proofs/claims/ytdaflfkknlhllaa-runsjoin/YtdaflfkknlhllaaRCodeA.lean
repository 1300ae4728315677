/- Contracts of the code of layer 7: Bits, Order, least, extras, times, run, row. -/
import Derived.Test.YtdaflfkknlhllaaRSame
namespace Go.Proofs.Ytdaflfkknlhllaa
open Go.RowKit Go.Lib

/-- For how many lengths a symbol stands at least. -/
def leastN (s : Int) : Nat := if s = 16 then 3 else if s = 17 then 3 else if s = 18 then 11 else 1
theorem ls16 : leastN 16 = 3 := by decide
theorem ls17 : leastN 17 = 3 := by decide
theorem ls18 : leastN 18 = 11 := by decide
theorem ls_plain (s : Int) (h : s ≠ 16) (h2 : s ≠ 17) (h3 : s ≠ 18) : leastN s = 1 := by unfold leastN; rw [if_neg h, if_neg h2, if_neg h3]
theorem ls_range (s : Int) : 1 ≤ leastN s ∧ leastN s ≤ 11 := by
  unfold leastN
  split; · omega
  split; · omega
  split; · omega
  omega
/-- How many values a symbol's extra may have. -/
def extN (s : Int) : Nat := 2 ^ xBits s
theorem ex16 : extN 16 = 4 := by decide
theorem ex17 : extN 17 = 8 := by decide
theorem ex18 : extN 18 = 128 := by decide
theorem ex_plain (s : Int) (h : s ≠ 16) (h2 : s ≠ 17) (h3 : s ≠ 18) : extN s = 1 := by unfold extN; rw [(plain_run s h h2 h3).1]
theorem ex_range (s : Int) : 1 ≤ extN s ∧ extN s ≤ 128 := by
  by_cases h1 : s = 16
  · rw [h1, ex16]; omega
  · by_cases h2 : s = 17
    · rw [h2, ex17]; omega
    · by_cases h3 : s = 18
      · rw [h3, ex18]; omega
      · rw [ex_plain s h1 h2 h3]; omega

set_option maxHeartbeats 1000000 in
theorem bits7_same (s : Int) (w : World) :
    Calls Try.prog 12 #[.int .i64 s] w fun e w' => e = .returned (.int .i64 (xBits s : Nat)) ∧ w' = w := by
  by_cases h1 : s = 16
  · subst h1
    go_enter Try.func12, Try.ntmps12
    go_wp2
    go_ret
    exact ⟨rfl, rfl⟩
  · by_cases h2 : s = 17
    · subst h2
      go_enter Try.func12, Try.ntmps12
      go_wp2
      go_ret
      exact ⟨rfl, rfl⟩
    · by_cases h3 : s = 18
      · subst h3
        go_enter Try.func12, Try.ntmps12
        go_wp2
        go_ret
        exact ⟨rfl, rfl⟩
      · rw [(plain_run s h1 h2 h3).1]
        have b1 : (s == 16) = false := by simp; exact h1
        have b2 : (s == 17) = false := by simp; exact h2
        have b3 : (s == 18) = false := by simp; exact h3
        clear h1 h2 h3
        go_enter Try.func12, Try.ntmps12
        go_wp2
        go_ret
        exact ⟨rfl, rfl⟩
theorem bits7_any (s : Int) (w : World) :
    Calls Try.prog 12 #[.int .i64 s] w fun e w' => e = .returned (.int .i64 (xBits s : Nat)) ∧ Below w.heap.size w w' := by
  refine (bits7_same s w).mono ?_
  rintro e w' ⟨rfl, rfl⟩
  exact ⟨rfl, Below.refl _ _⟩

set_option maxRecDepth 20000 in
set_option maxHeartbeats 2000000 in
theorem order7_any (w : World) :
    Calls Try.prog 14 #[] w fun e w' => e = .returned (.agg orderCs.toArray) ∧ Below w.heap.size w w' := by
  obtain ⟨Z, hZn, hv⟩ := Try.zeroOrder
  have hn : orderCs.length = 19 := rfl
  have hst := order_store w Z orderCs hZn hn orderCs_one
  have HLD := hide (order_load (order_range w orderCs) hn)
  have HBD := hide Try.builtOrder
  have HB := hide ((Below.refl _ w).alloc (Nat.le_refl _) (.cells orderCs.toArray 28))
  generalize orderCs = cs at *
  go_enter Try.func14, Try.ntmps14
  go_wp2_with (first
    | (refine wpList_builtK rfl 28 orderPs rfl cs.toArray HBD.out ?_))
  (try simp only [Exit.inBlock, Exit.then])
  refine bodyPost_ret (v := .agg cs.toArray) ?_ rfl ⟨rfl, HB.out⟩
  simp [results, Try.results14, asAddr, HLD.out]

set_option maxHeartbeats 1000000 in
theorem least7 (s : Int) (w : World) :
    Calls Try.prog 24 #[.int .i64 s] w fun e w' => e = .returned (.int .i64 (leastN s : Nat)) ∧ w' = w := by
  by_cases h1 : s = 16
  · subst h1
    go_enter Try.func24, Try.ntmps24
    go_wp2
    go_ret
    exact ⟨rfl, rfl⟩
  · by_cases h2 : s = 17
    · subst h2
      go_enter Try.func24, Try.ntmps24
      go_wp2
      go_ret
      exact ⟨rfl, rfl⟩
    · by_cases h3 : s = 18
      · subst h3
        go_enter Try.func24, Try.ntmps24
        go_wp2
        go_ret
        exact ⟨rfl, rfl⟩
      · rw [ls_plain s h1 h2 h3]
        have b1 : (s == 16) = false := by simp; exact h1
        have b2 : (s == 17) = false := by simp; exact h2
        have b3 : (s == 18) = false := by simp; exact h3
        clear h1 h2 h3
        go_enter Try.func24, Try.ntmps24
        go_wp2
        go_ret
        exact ⟨rfl, rfl⟩

theorem extras_of (s : Int) (x : Nat) (hx : xBits s = x) (hx7 : x = 0 ∨ x = 2 ∨ x = 3 ∨ x = 7) (w : World) :
    Calls Try.prog 26 #[.int .i64 s] w fun e w' => e = .returned (.int .i64 ((2 ^ x : Nat) : Int)) ∧ w' = w := by
  have HB := hide (bits7_same s)
  rw [hx] at HB
  clear hx
  rcases hx7 with rfl | rfl | rfl | rfl
  · go_enter Try.func26, Try.ntmps26
    go_wp2_with fail
    refine (HB.out _).mono ?_
    rintro e w1 ⟨rfl, rfl⟩
    go_wp2
    go_ret
    exact ⟨rfl, rfl⟩
  · go_enter Try.func26, Try.ntmps26
    go_wp2_with fail
    refine (HB.out _).mono ?_
    rintro e w1 ⟨rfl, rfl⟩
    go_wp2
    go_ret
    exact ⟨rfl, rfl⟩
  · go_enter Try.func26, Try.ntmps26
    go_wp2_with fail
    refine (HB.out _).mono ?_
    rintro e w1 ⟨rfl, rfl⟩
    go_wp2
    go_ret
    exact ⟨rfl, rfl⟩
  · go_enter Try.func26, Try.ntmps26
    go_wp2_with fail
    refine (HB.out _).mono ?_
    rintro e w1 ⟨rfl, rfl⟩
    go_wp2
    go_ret
    exact ⟨rfl, rfl⟩
theorem extras7 (s : Int) (w : World) :
    Calls Try.prog 26 #[.int .i64 s] w fun e w' => e = .returned (.int .i64 (extN s : Nat)) ∧ w' = w := by
  refine extras_of s (xBits s) rfl ?_ w
  unfold xBits
  split; · omega
  split; · omega
  split; · omega
  omega

set_option maxHeartbeats 1000000 in
theorem times7 (s e : Int) (he0 : 0 ≤ e) (he : e ≤ 127) (w : World) :
    Calls Try.prog 20 #[.agg #[.int .i64 s, .int .i64 e]] w fun r w' => r = .returned (.int .i64 ((leastN s : Int) + e)) ∧ Below w.heap.size w w' := by
  have HL := hide (least7 s)
  have hls := ls_range s
  have HB := hide (fun n => below_drewN ((Below.refl w.heap.size w).alloc (Nat.le_refl _) (.cells #[.int .i64 s, .int .i64 e] 39)) n)
  generalize leastN s = k at *
  go_enter Try.func20, Try.ntmps20
  go_wp2
  go_quiet ((go_at_call 24; exact Calls.quiet_of_same (HL.out _)))
  go_wp2
  go_ret
  exact ⟨rfl, HB.out _⟩

end Go.Proofs.Ytdaflfkknlhllaa
