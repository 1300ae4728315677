/- Contract of the code of layer 7: Fold. -/
import Derived.Test.YtdaflfkknlhllaaRCodeC
namespace Go.Proofs.Ytdaflfkknlhllaa
open Go.RowKit Go.Lib

theorem cell_two_at (w : World) (x y : Value) {n : Nat} (hn : w.heap.size = n) (t : TypeId) : ∀ j u, [x, y][j]? = some u → (w.alloc (.cells #[x, y] t)).cell? ((⟨n, 0, none⟩ : Addr).add j) = some u := by
  subst hn
  exact cell_two_new w x y t
theorem size_alloc (w : World) (o : Obj) : (w.alloc o).heap.size = w.heap.size + 1 := by
  show (w.heap.push _).size = _
  simp

theorem run_kept {w1 w2 : World} {B n : Nat} {e : TypeId} {size : Nat} {v x y : Value} {xs : List Value} {t : TypeId} {o : Obj} (h : w1.ownsRow B e size v n xs) (g : ((w1.alloc (.cells #[x, y] t)).alloc o).grownBy w2 v.ownBlock) : w2.cell? ⟨w1.heap.size, 0, none⟩ = some x ∧ w2.cell? ⟨w1.heap.size, 1, none⟩ = some y := by
  have hne : some w1.heap.size ≠ v.ownBlock := fun e => own_ne h (Nat.le_refl _) e.symm
  have hb : ((w1.alloc (.cells #[x, y] t)).alloc o).heap[w1.heap.size]? = some (.cells #[x, y] t (0, 0)) := by
    rw [heap_alloc_old _ _ _ (by rw [size_alloc]; omega)]
    show (w1.heap.push _)[w1.heap.size]? = _
    simp
  obtain ⟨c1, c2, _, _⟩ := two_cells hb
  exact ⟨g.cell c1 hne, g.cell c2 hne⟩

set_option maxRecDepth 20000 in
set_option maxHeartbeats 4000000 in
theorem fold7_new (l : List Int) (a : Option Addr) (cap : Nat) (W : World) (harg : ArgZ W a l) (hl : l.length ≤ 3000) (hcap : l.length ≤ cap) :
    Calls Try.prog 10 #[.slice a l.length cap] W fun e w' => FoldNew W l e w' := by
  have HA := hide harg
  obtain ⟨n, hn⟩ : ∃ n, l.length = n := ⟨_, rfl⟩
  have HN := hide hn
  rw [hn] at hl hcap ⊢
  have HCAP := hide hcap
  obtain ⟨i1, ki, kz0, kz1, kz2⟩ := info_parts Try.infoRun
  clear harg hn hcap
  go_enter Try.func10, Try.ntmps10
  go_wp2
  go_loop [10] (fun iv => ∃ j : Nat, j ≤ n ∧ iv = .int .i64 (j : Nat) ∧ Hid (∀ x ∈ l.take j, 0 ≤ x ∧ x ≤ 15)) (fun iv => n - (intOf iv).toNat)
  case atStart => exact ⟨0, Nat.zero_le _, rfl, hide (fun x hx => by simp at hx)⟩
  case round =>
    obtain ⟨j, hj, rfl, HE⟩ := hrel
    by_cases hlt : j < n
    · obtain ⟨x, hx⟩ := getZ? l j (by rw [HN.out]; exact hlt)
      obtain ⟨b, off, rfl, hb, _c⟩ := HA.out j x hx
      have zj : (j : Int) < n := by omega
      have HX := hide hx
      have HTK := hide (show l.take (j + 1) = l.take j ++ [x] by rw [List.take_add_one, hx]; rfl)
      clear hx
      by_cases q1 : x < 0
      · have HB := hide (show FoldNew W l (.returned (.slice none 0 0)) W from ⟨none, 0, [], rfl, .inr ⟨by
            cases h : lenB l with
            | false => rfl
            | true => have := ((lenB_iff l).1 h x (mem_of_get HX.out)).1; omega, rfl⟩, fun i s e h => by simp at h, fun _ => rfl, Below.refl _ _, fun b off e => by cases e⟩)
        go_wp2
        go_ret
        exact HB.out
      · have q1d : decide (x < 0) = false := decide_eq_false q1
        by_cases q2 : 15 < x
        · have HB := hide (show FoldNew W l (.returned (.slice none 0 0)) W from ⟨none, 0, [], rfl, .inr ⟨by
              cases h : lenB l with
              | false => rfl
              | true => have := ((lenB_iff l).1 h x (mem_of_get HX.out)).2; omega, rfl⟩, fun i s e h => by simp at h, fun _ => rfl, Below.refl _ _, fun b off e => by cases e⟩)
          go_wp2
          go_ret
          exact HB.out
        · have q2d : decide (15 < x) = false := decide_eq_false q2
          have HE2 := hide (show ∀ z ∈ l.take (j + 1), 0 ≤ z ∧ z ≤ 15 from fun z hz => by
            rw [HTK.out] at hz
            rcases List.mem_append.1 hz with e | e
            · exact HE.out z e
            · rw [List.mem_singleton.1 e]; omega)
          clear q1 q2
          go_wp2
          go_round
          case rel => exact ⟨j + 1, hlt, by go_num, HE2⟩
          case measure => exact meas_oneW j n hlt
    · have hje : j = n := by omega
      subst hje
      have HV := hide (show ∀ x ∈ l, 0 ≤ x ∧ x ≤ 15 by have h := HE.out; rw [List.take_of_length_le (by rw [HN.out]; exact Nat.le_refl _)] at h; exact h)
      have HLB := hide ((lenB_iff l).2 HV.out)
      have HF0 := hide (show FoldW W W l 0 [] (.slice none 0 0) from ⟨World.ownsRow_nil _ _ _ _, Below.refl _ _, fun rs h => by rw [List.drop_zero] at h; exact h, Nat.le_refl _⟩)
      clear HE hlt hj
      go_wp2
      go_loopw [5, 6] (fun v iv wr => ∃ i : Nat, i ≤ j ∧ iv = .int .i64 (i : Nat) ∧ ∃ out, Hid (FoldW wr W l i out v)) (fun _ iv _ => j - (intOf iv).toNat)
      case atStart => exact ⟨0, Nat.zero_le _, rfl, [], HF0⟩
      case round =>
        clear HF0
        obtain ⟨i, hi, rfl, out, HF⟩ := hrel
        by_cases hij : i < j
        · obtain ⟨x, hx⟩ := getZ? l i (by rw [HN.out]; exact hij)
          have HX := hide hx
          have hol := HF.out.len
          have HXB := hide (HV.out x (mem_of_get hx))
          obtain ⟨r1, r2, K, hst⟩ : ∃ r1 r2 K, stepF (prevAt l i) x (headN x (l.drop i)) = ((r1, r2), K) := ⟨_, _, _, rfl⟩
          have HST := hide hst
          have HFI := hide (step_fits _ x _ (r1, r2) K HXB.out.1 HXB.out.2 hst)
          have HNX := hide (fold_next l i x out hx HF.out.fold (r1, r2) K hst)
          have HC := hide (fun w' (h : ArgZ w' a l) => first7 l a j cap i w' x HN.out h hx HXB.out.1 HXB.out.2 hl HCAP.out r1 r2 K hst)
          have HTM := hide (times7 r1 r2 HFI.out.1 HFI.out.2.1)
          rw [show (leastN r1 : Int) + r2 = (K : Int) from HFI.out.2.2] at HTM
          have zi : (i : Int) < j := by omega
          have X1 := hide (show out.length + 1 ≤ maxLen by unfold maxLen; omega)
          have X2 := hide (show (out.length + 1) * 16 ≤ 140737488355328 by omega)
          have hK9 : K ≤ 3000 := by have := HNX.out.2.1; rw [HN.out] at this; omega
          clear hx hst hol
          go_wp2_with fail
          refine (HC.out wr (HA.out.belowB HF.out.bel (Nat.le_refl _))).mono ?_
          rintro e w1 ⟨rfl, b1⟩
          have HF1 := hide ((HF.out.below b1).below ((Below.refl _ _).alloc (Nat.le_refl _) (.cells #[.int .i64 r1, .int .i64 r2] 39)))
          have HOW := hide (HF.out.below b1).own
          clear b1 HF HC
          go_wp2_with (first
            | (at_builtin; refine wpList_append_fresh _ rfl _ _ 25 rfl W.heap.size 39 i1 (.agg #[.int .i64 0, .int .i64 0]) 2 16 Try.underlying25 ki kz0 kz1 kz2 rfl (by decide) u5 _ _ rfl (HF1.out.own.alloc _) ⟨w1.heap.size + 1, 0, none⟩ 1 1 [.int .i64 r1, .int .i64 r2] rfl rfl (cell_two_at _ _ _ (size_alloc _ _) _) (two_one _ _) X1.out X2.out (size_alloc_le HF1.out.bel.size) ?_; intro v2 w2 o2 g2 _f2; have HF2 := hide (HF1.out.app x HX.out (r1, r2) K HST.out _ o2 g2); obtain ⟨_c1, _c2⟩ := run_kept HOW.out g2; clear o2 g2 _f2))
          refine (HTM.out _).mono ?_
          rintro e w3 ⟨rfl, b3⟩
          have HF3 := hide (HF2.out.below b3)
          clear b3 HF2
          go_wp2
          go_roundw
          case rel => exact ⟨i + K, by have := HNX.out.2.1; rw [HN.out] at this; exact this, by go_num, _, HF3⟩
          case measure => exact meas_add i K j HNX.out.1 (by have := HNX.out.2.1; rw [HN.out] at this; exact this)
        · have hie : i = j := by omega
          subst hie
          have HD := hide (show FoldNew W l (.returned u5) wr by have h := HF.out; rw [← HN.out] at h; exact h.done HLB.out)
          go_wp2
          go_ret
          exact HD.out
theorem fold7_any (l : List Int) (a : Option Addr) (cap : Nat) (W : World) (harg : ArgZ W a l) (hl : l.length ≤ 3000) (hcap : l.length ≤ cap) :
    Calls Try.prog 10 #[.slice a l.length cap] W fun e w' => FoldPost W l e w' := by
  refine (fold7_new l a cap W harg hl hcap).mono ?_
  intro e w' h
  exact h.post

end Go.Proofs.Ytdaflfkknlhllaa
