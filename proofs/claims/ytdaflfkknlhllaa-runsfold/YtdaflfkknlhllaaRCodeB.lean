/- Contracts of the code of layer 7: run, row, first. -/
import Derived.Test.YtdaflfkknlhllaaRCodeA
namespace Go.Proofs.Ytdaflfkknlhllaa
open Go.RowKit Go.Lib

set_option maxHeartbeats 1000000 in
theorem run7 (s : Int) (n : Nat) (w : World) (hn : leastN s ≤ n) (hn2 : n ≤ 138) :
    Calls Try.prog 25 #[.int .i64 s, .int .i64 (n : Nat)] w fun e w' => e = .returned (.agg #[.int .i64 s, .int .i64 (min ((n : Int) - (leastN s : Nat)) ((extN s : Nat) - 1))]) ∧ Below w.heap.size w w' := by
  have HL := hide (least7 s)
  have HX := hide (extras7 s)
  have hls := ls_range s
  have hes := ex_range s
  have HB := hide (fun v => (Below.refl w.heap.size w).alloc (Nat.le_refl _) (.cells #[.int .i64 s, v] 39))
  generalize leastN s = k at *
  generalize extN s = x at *
  have z1 : (k : Int) ≤ n := by omega
  go_enter Try.func25, Try.ntmps25
  go_wp2_with fail
  refine (HL.out _).mono ?_
  rintro e w1 ⟨rfl, rfl⟩
  go_wp2_with fail
  refine (HX.out _).mono ?_
  rintro e w1 ⟨rfl, rfl⟩
  go_wp2
  · (try simp only [Exit.inBlock, Exit.then])
    rw [show min ((n : Int) - (k : Nat)) ((x : Nat) - 1) = (x : Int) - 1 by omega]
    refine bodyPost_ret (v := .agg #[.int .i64 s, .int .i64 ((x : Int) - 1)]) ?_ rfl ⟨rfl, HB.out _⟩
    simp [results, Try.results25, asAddr]
    go_simp
  · (try simp only [Exit.inBlock, Exit.then])
    rw [show min ((n : Int) - (k : Nat)) ((x : Nat) - 1) = (n : Int) - (k : Nat) by omega]
    refine bodyPost_ret (v := .agg #[.int .i64 s, .int .i64 ((n : Int) - (k : Nat))]) ?_ rfl ⟨rfl, HB.out _⟩
    simp [results, Try.results25, asAddr]
    go_simp

theorem head_ge (x : Int) (l : List Int) (k : Nat) (hk : k ≤ l.length) (h1 : ∀ i, i < k → l[i]? = some x) : k ≤ headN x l := by
  refine Classical.byContradiction fun h => ?_
  exact head_stop x l (by omega) (h1 _ (by omega))

set_option maxRecDepth 20000 in
set_option maxHeartbeats 2000000 in
theorem row7 (l : List Int) (a : Option Addr) (n cap : Nat) (W : World) (x : Int) (hn : l.length = n) (harg : ArgZ W a l) (hx : l[0]? = some x) (hl : n ≤ 10000) :
    Calls Try.prog 23 #[.slice a n cap] W fun e w' => e = .returned (.int .i64 (min (headN x l) 138 : Nat)) ∧ Below W.heap.size W w' := by
  have hi : 0 < n := by rw [← hn]; exact (List.getElem?_eq_some_iff.1 hx).1
  obtain ⟨b, off, rfl, hb, hc⟩ := harg 0 x hx
  have HA := hide (fun (j : Nat) (y : Int) (hy : l[j]? = some y) => (show W.cell? ⟨b, off + j, none⟩ = some (.int .i64 y) by
    obtain ⟨b2, off2, e, _, h⟩ := harg j y hy
    injection e with e
    injection e with e1 e2
    subst e1
    subst e2
    exact h))
  have HL := hide (least7 18)
  have HE := hide (extras7 18)
  rw [ls18] at HL
  rw [ex18] at HE
  have HN := hide hn
  have HX := hide hx
  have HC := hide hc
  have B0 := hide (Below.refl W.heap.size W)
  have HGE := hide (head_ge x l)
  have HEQ := hide (head_eq x l)
  obtain ⟨H, hH⟩ : ∃ H, headN x l = H := ⟨_, rfl⟩
  rw [hH] at HGE HEQ ⊢
  clear hn harg hx hc hH
  go_enter Try.func23, Try.ntmps23
  go_wp2_with fail
  refine (HL.out _).mono ?_
  rintro e w1 ⟨rfl, rfl⟩
  go_wp2_with fail
  refine (HE.out _).mono ?_
  rintro e w1 ⟨rfl, rfl⟩
  go_wp2
  go_loopw [4] (fun kv wr => ∃ k : Nat, 1 ≤ k ∧ k ≤ n ∧ k ≤ 138 ∧ kv = .int .i64 (k : Nat) ∧ Hid (∀ t, t < k → l[t]? = some x) ∧ Hid (Below w1.heap.size w1 wr)) (fun kv _ => n - (intOf kv).toNat)
  case atStart => exact ⟨1, Nat.le_refl _, hi, by omega, rfl, hide (fun t ht => by rw [show t = 0 by omega]; exact HX.out), B0⟩
  case round =>
    obtain ⟨k, hk1, hk, hk138, rfl, HE, HB⟩ := hrel
    have _c0 := (HB.out.cell (p := ⟨b, off, none⟩) hb).trans HC.out
    by_cases hlt : k < n
    · have zs : (k : Int) < n := by omega
      have ds : decide ((k : Int) < n) = true := decide_eq_true zs
      by_cases h138 : k < 138
      · obtain ⟨y, hy⟩ := getZ? l k (by rw [HN.out]; exact hlt)
        have _c1 := (HB.out.cell (p := ⟨b, off + k, none⟩) hb).trans (HA.out _ _ hy)
        have HY := hide hy
        have d138 : decide ((k : Int) < 138) = true := decide_eq_true (by omega)
        have zi : (0 : Int) < n := by omega
        have HLT := hide hlt
        have H138 := hide h138
        clear hy hlt hk h138
        by_cases e : y = x
        · subst e
          have HE2 := hide (show ∀ t, t < k + 1 → l[t]? = some y from fun t ht => by
            by_cases e : t = k
            · rw [e]; exact HY.out
            · exact HE.out t (by omega))
          go_wp2
          go_quiet (fail)
          go_wp2
          go_roundw
          case rel => exact ⟨k + 1, by omega, HLT.out, H138.out, by go_num, HE2, hide (below_drewN HB.out _)⟩
          case measure => exact meas_oneW k n HLT.out
        · have be : (y == x) = false := by simp; exact e
          have HF := hide (show min H 138 = k by
            have h := HEQ.out k (by rw [HN.out]; have := HLT.out; omega) HE.out (.inr (by
              rw [HY.out]
              intro h
              injection h with h
              exact e h))
            omega)
          clear e
          go_wp2
          go_quiet (fail)
          go_wp2
          go_ret
          exact ⟨by rw [HF.out]; rfl, below_drewN HB.out _⟩
      · have d138 : decide ((k : Int) < 138) = false := decide_eq_false (by omega)
        have HF := hide (show min H 138 = k by
          have h := HGE.out k (by rw [HN.out]; omega) HE.out
          omega)
        clear hlt hk h138
        go_wp2
        go_quiet (fail)
        go_wp2
        go_ret
        exact ⟨by rw [HF.out]; rfl, below_drewN HB.out _⟩
    · obtain rfl : k = n := by omega
      have HF := hide (show min H 138 = k by
        have h := HEQ.out k (by rw [HN.out]; exact hk) HE.out (.inl (by rw [HN.out]))
        omega)
      clear hlt hk
      go_wp2
      go_quiet (fail)
      go_wp2
      go_ret
      exact ⟨by rw [HF.out]; rfl, below_drewN HB.out _⟩

end Go.Proofs.Ytdaflfkknlhllaa
