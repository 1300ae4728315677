/- Contract of the document's 'Fold' of layer 7. -/
import Derived.Test.YtdaflfkknlhllaaRRef
namespace Go.Proofs.Ytdaflfkknlhllaa
open Go.RowKit Go.Lib

/-- What stands ahead of a place. -/
def prevAt (l : List Int) (i : Nat) : Option Int := if i = 0 then none else l[i - 1]?
theorem drop_at (l : List Int) (i : Nat) (x : Int) (h : l[i]? = some x) : ∃ t, l.drop i = x :: t := by
  obtain ⟨hi, e⟩ := List.getElem?_eq_some_iff.1 h
  exact ⟨l.drop (i + 1), by rw [List.drop_eq_getElem_cons hi, e]⟩
/-- The next run. -/
theorem fold_next (l : List Int) (i : Nat) (x : Int) (out : List (Int × Int)) (hx : l[i]? = some x) (hf : ∀ rs, Folds (prevAt l i) (l.drop i) rs → Folds none l (out ++ rs)) (r : Int × Int) (K : Nat)
    (hr : stepF (prevAt l i) x (headN x (l.drop i)) = (r, K)) : 1 ≤ K ∧ i + K ≤ l.length ∧ ∀ rs, Folds (prevAt l (i + K)) (l.drop (i + K)) rs → Folds none l ((out ++ [r]) ++ rs) := by
  obtain ⟨t, ht⟩ := drop_at l i x hx
  have h1 := head_pos x t
  rw [← ht] at h1
  have h2 := head_le x (l.drop i)
  have h3 := step_takes (prevAt l i) x _ h1
  rw [hr] at h3
  rw [List.length_drop] at h2
  have hi := (List.getElem?_eq_some_iff.1 hx).1
  refine ⟨h3.1, by have := h3.2; omega, fun rs h => ?_⟩
  have hp : prevAt l (i + K) = some x := by
    have h4 := head_get x (l.drop i) (K - 1) (by have := h3.1; have := h3.2; omega)
    rw [List.getElem?_drop] at h4
    unfold prevAt
    rw [if_neg (by have := h3.1; omega), show i + K - 1 = i + (K - 1) by have := h3.1; omega]
    exact h4
  rw [hp] at h
  rw [List.append_assoc]
  refine hf _ ⟨x, t, ht, by rw [hr], ?_⟩
  rw [hr, List.drop_drop]
  exact h

/-- The runs under way. -/
structure FoldW (w W : World) (l : List Int) (i : Nat) (out : List (Int × Int)) (v : Value) : Prop where
  own : w.ownsRow W.heap.size 39 2 v out.length (runCs out)
  bel : Below W.heap.size W w
  fold : ∀ rs, Folds (prevAt l i) (l.drop i) rs → Folds none l (out ++ rs)
  len : out.length ≤ i

theorem FoldW.below {w w' W : World} {l : List Int} {i : Nat} {out : List (Int × Int)} {v : Value} (h : FoldW w W l i out v) (b : Below w.heap.size w w') : FoldW w' W l i out v :=
  ⟨own_below h.own b (Nat.le_refl _), h.bel.trans (b.mono h.bel.size), h.fold, h.len⟩
theorem FoldW.drewN {w W : World} {l : List Int} {i : Nat} {out : List (Int × Int)} {v : Value} (h : FoldW w W l i out v) (n : Nat) : FoldW (w.drewN n) W l i out v := h.below (below_drewN (Below.refl _ _) n)
theorem FoldW.app {w w' W : World} {l : List Int} {i : Nat} {out : List (Int × Int)} {v v' : Value} (h : FoldW w W l i out v) (x : Int) (hx : l[i]? = some x) (r : Int × Int) (K : Nat) (hr : stepF (prevAt l i) x (headN x (l.drop i)) = (r, K)) (o : Obj)
    (ho : w'.ownsRow W.heap.size 39 2 v' (out.length + 1) (runCs out ++ [.int .i64 r.1, .int .i64 r.2])) (hg : (w.alloc o).grownBy w' v.ownBlock) : FoldW w' W l (i + K) (out ++ [r]) v' := by
  obtain ⟨h1, h2, h3⟩ := fold_next l i x out hx h.fold r K hr
  refine ⟨?_, Below.grownB (h.bel.alloc h.bel.size _) hg (h.own.alloc o) (size_alloc_le h.bel.size), h3, ?_⟩
  · rw [List.length_append, runCs_append]
    exact ho
  · rw [List.length_append]
    have := h.len
    show out.length + 1 ≤ i + K
    omega

/-- What a fold gives. -/
def FoldPost (W : World) (l : List Int) (e : Ending) (w' : World) : Prop := ∃ a c rs, e = .returned (.slice a (rs : List (Int × Int)).length c) ∧ FoldRes l rs ∧ ArgR w' a rs ∧ (a = none → c = 0) ∧ Below W.heap.size W w'
/-- The same, and what it gives is new. -/
def FoldNew (W : World) (l : List Int) (e : Ending) (w' : World) : Prop := ∃ a c rs, e = .returned (.slice a (rs : List (Int × Int)).length c) ∧ FoldRes l rs ∧ ArgR w' a rs ∧ (a = none → c = 0) ∧ Below W.heap.size W w' ∧ ∀ b off, a = some ⟨b, off, none⟩ → W.heap.size ≤ b
theorem FoldNew.post {W : World} {l : List Int} {e : Ending} {w' : World} (h : FoldNew W l e w') : FoldPost W l e w' := by
  obtain ⟨a, c, rs, h1, h2, h3, h4, h5, _⟩ := h
  exact ⟨a, c, rs, h1, h2, h3, h4, h5⟩

theorem FoldW.done {w W : World} {l : List Int} {out : List (Int × Int)} {v : Value} (h : FoldW w W l l.length out v) (hl : lenB l = true) : FoldNew W l (.returned v) w := by
  obtain ⟨a, c, e, h1, h2⟩ := own_argR h.own rfl
  have h3 := h.fold [] (by show l.drop l.length = []; simp)
  rw [List.append_nil] at h3
  refine ⟨a, c, out, by rw [e], .inl ⟨hl, h3⟩, h1, fun e => (h2 e).2, h.bel, ?_⟩
  intro b off e1
  subst e1
  have h4 := h.own
  rw [e] at h4
  exact (h4.lt b rfl).1

theorem meas_add (i K n : Nat) (h : 1 ≤ K) (h2 : i + K ≤ n) : n - (intOf (.int .i64 ((i : Int) + (K : Int)))).toNat < n - (intOf (.int .i64 (i : Int))).toNat := by
  show n - ((i : Int) + (K : Int)).toNat < n - ((i : Nat) : Int).toNat
  omega

set_option maxRecDepth 20000 in
set_option maxHeartbeats 8000000 in
theorem qfold_new (l : List Int) (a : Option Addr) (cap : Nat) (W : World) (harg : ArgZ W a l) (hl : l.length ≤ 3000) :
    Calls Try.prog 11 #[.slice a l.length cap] W fun e w' => FoldNew W l e w' := by
  have HA := hide harg
  have HARG := hide harg
  obtain ⟨n, hn⟩ : ∃ n, l.length = n := ⟨_, rfl⟩
  have HN := hide hn
  rw [hn] at hl ⊢
  obtain ⟨i1, ki, kz0, kz1, kz2⟩ := info_parts Try.infoRun
  clear harg hn
  go_enter Try.func11, Try.ntmps11
  go_wp2
  go_loop [3] (fun iv => ∃ j : Nat, j ≤ n ∧ iv = .int .i64 (j : Nat) ∧ Hid (∀ x ∈ l.take j, 0 ≤ x ∧ x ≤ 15)) (fun iv => n - (intOf iv).toNat)
  case atStart => exact ⟨0, Nat.zero_le _, rfl, hide (fun x hx => by simp at hx)⟩
  case round =>
    obtain ⟨j, hj, rfl, HE⟩ := hrel
    by_cases hlt : j < n
    · obtain ⟨x, hx⟩ := getZ? l j (by rw [HN.out]; exact hlt)
      obtain ⟨b, off, rfl, hb, _c⟩ := HA.out j x hx
      have zj : (j : Int) < n := by omega
      have HX := hide hx
      have HTK := hide (show l.take (j + 1) = l.take j ++ [x] by rw [List.take_add_one, hx]; rfl)
      clear hx
      by_cases q1 : x < 0
      · have HB := hide (show FoldNew W l (.returned (.slice none 0 0)) W from ⟨none, 0, [], rfl, .inr ⟨by
            cases h : lenB l with
            | false => rfl
            | true => have := ((lenB_iff l).1 h x (mem_of_get HX.out)).1; omega, rfl⟩, fun i s e h => by simp at h, fun _ => rfl, Below.refl _ _, fun b off e => by cases e⟩)
        go_wp2
        go_ret
        exact HB.out
      · have q1d : decide (x < 0) = false := decide_eq_false q1
        by_cases q2 : 15 < x
        · have HB := hide (show FoldNew W l (.returned (.slice none 0 0)) W from ⟨none, 0, [], rfl, .inr ⟨by
              cases h : lenB l with
              | false => rfl
              | true => have := ((lenB_iff l).1 h x (mem_of_get HX.out)).2; omega, rfl⟩, fun i s e h => by simp at h, fun _ => rfl, Below.refl _ _, fun b off e => by cases e⟩)
          go_wp2
          go_ret
          exact HB.out
        · have q2d : decide (15 < x) = false := decide_eq_false q2
          have HE2 := hide (show ∀ z ∈ l.take (j + 1), 0 ≤ z ∧ z ≤ 15 from fun z hz => by
            rw [HTK.out] at hz
            rcases List.mem_append.1 hz with e | e
            · exact HE.out z e
            · rw [List.mem_singleton.1 e]; omega)
          clear q1 q2
          go_wp2
          go_round
          case rel => exact ⟨j + 1, hlt, by go_num, HE2⟩
          case measure => exact meas_oneW j n hlt
    · have hje : j = n := by omega
      subst hje
      have HV := hide (show ∀ x ∈ l, 0 ≤ x ∧ x ≤ 15 by have h := HE.out; rw [List.take_of_length_le (by rw [HN.out]; exact Nat.le_refl _)] at h; exact h)
      have HLB := hide ((lenB_iff l).2 HV.out)
      have HF0 := hide (show FoldW W W l 0 [] (.slice none 0 0) from ⟨World.ownsRow_nil _ _ _ _, Below.refl _ _, fun rs h => by rw [List.drop_zero] at h; exact h, Nat.le_refl _⟩)
      clear HE hlt hj
      go_wp2
      go_loopw [4, 5] (fun v iv wr => ∃ i : Nat, i ≤ j ∧ iv = .int .i64 (i : Nat) ∧ ∃ out, Hid (FoldW wr W l i out v)) (fun _ iv _ => j - (intOf iv).toNat)
      case atStart => exact ⟨0, Nat.zero_le _, rfl, [], HF0⟩
      case round =>
        clear HF0
        obtain ⟨i, hi, rfl, out, HF⟩ := hrel
        by_cases hij : i < j
        · obtain ⟨x, hx⟩ := getZ? l i (by rw [HN.out]; exact hij)
          have HX := hide hx
          have hol := HF.out.len
          have HSM := hide (fun w' (h : ArgZ w' a l) => qsame7_any l a j cap i w' x HN.out h hx (by omega))
          obtain ⟨b, off, rfl, hb, hc⟩ := HA.out i x hx
          have zi : (i : Int) < j := by omega
          have HXB := hide (HV.out x (mem_of_get hx))
          obtain ⟨H, hH⟩ : ∃ H, headN x (l.drop i) = H := ⟨_, rfl⟩
          have HHD := hide hH
          rw [hH] at HSM
          have hH1 : 1 ≤ H ∧ i + H ≤ j := by
            obtain ⟨t, ht⟩ := drop_at l i x hx
            have h1 := head_pos x t
            have h2 := head_le x (l.drop i)
            rw [List.length_drop, HN.out] at h2
            rw [← ht, hH] at h1
            omega
          have HST := hide (fun (r : Int × Int) (K : Nat) (h : stepF (prevAt l i) x H = (r, K)) => (show stepF (prevAt l i) x (headN x (l.drop i)) = (r, K) by rw [hH]; exact h))
          have X1 := hide (show out.length + 1 ≤ maxLen by unfold maxLen; omega)
          have X2 := hide (show (out.length + 1) * 16 ≤ 140737488355328 by omega)
          have HHB := hide hH1
          have HOL := hide hol
          have HC := hide hc
          have hH9 : H ≤ 3000 := by omega
          clear hx hc hH hH1 hol
          go_wp2_with fail
          refine (HSM.out wr (HA.out.belowB HF.out.bel (Nat.le_refl _))).mono ?_
          rintro e w1 ⟨rfl, b1⟩
          have HF1 := hide (HF.out.below b1)
          have _c := (HF1.out.bel.cell (p := ⟨b, off + i, none⟩) hb).trans HC.out
          have HC2 := hide (fun (k : Nat) (y : Int) (hy : l[k]? = some y) => (show w1.cell? ⟨b, off + k, none⟩ = some (.int .i64 y) by
            obtain ⟨b2, off2, e, _, h⟩ := HA.out k y hy
            injection e with e
            injection e with e1 e2
            subst e1
            subst e2
            exact (HF1.out.bel.cell (p := ⟨b, off + k, none⟩) hb).trans h))
          clear b1 HF HSM
          have zH1 : (1 : Int) ≤ H := by have := HHB.out; omega
          have HFQ := hide (fun n => HF1.out.drewN n)
          by_cases x0 : x = 0
          · subst x0
            by_cases h11 : 11 ≤ H
            · have z11 : (11 : Int) ≤ H := by omega
              by_cases h138 : 138 < H
              · have z138 : (138 : Int) < H := by omega
                have HRUN := hide (HST.out (18, 127) 138 (by unfold stepF; rw [if_pos ⟨rfl, h11⟩, Nat.min_eq_right (by omega)]; rfl))
                clear h11
                go_wp2_with (first
                  | (at_builtin; refine wpList_append_fresh _ rfl _ _ 25 rfl W.heap.size 39 i1 (.agg #[.int .i64 0, .int .i64 0]) 2 16 Try.underlying25 ki kz0 kz1 kz2 rfl (by decide) u4 _ _ rfl (HF1.out.own.alloc _) ⟨w1.heap.size, 0, none⟩ 1 1 [.int .i64 18, .int .i64 127] rfl rfl (cell_two_new _ _ _ _) (two_one _ _) X1.out X2.out (size_alloc_le HF1.out.bel.size) ?_; intro v2 w2 o2 g2 _f2; have HF2 := hide (HF1.out.app 0 HX.out (18, 127) 138 HRUN.out _ o2 g2); clear o2 g2 _f2))
                go_roundw
                case rel => exact ⟨i + 138, by have := HHB.out; omega, by go_num, _, HF2⟩
                case measure => exact meas_add i 138 j (by have := HHB.out; omega) (by have := HHB.out; omega)
              · have z138 : ¬ (138 : Int) < H := by omega
                have HRUN := hide (HST.out (18, (H : Int) - 11) H (by unfold stepF; rw [if_pos ⟨rfl, h11⟩, Nat.min_eq_left (by omega)]))
                clear h11 h138
                go_wp2_with (first
                  | (at_builtin; refine wpList_append_fresh _ rfl _ _ 25 rfl W.heap.size 39 i1 (.agg #[.int .i64 0, .int .i64 0]) 2 16 Try.underlying25 ki kz0 kz1 kz2 rfl (by decide) u4 _ _ rfl (HF1.out.own.alloc _) ⟨w1.heap.size, 0, none⟩ 1 1 [.int .i64 18, .int .i64 ((H : Int) - 11)] rfl rfl (cell_two_new _ _ _ _) (two_one _ _) X1.out X2.out (size_alloc_le HF1.out.bel.size) ?_; intro v2 w2 o2 g2 _f2; have HF2 := hide (HF1.out.app 0 HX.out (18, ((H : Int) - 11)) H HRUN.out _ o2 g2); clear o2 g2 _f2))
                go_roundw
                case rel => exact ⟨i + H, by have := HHB.out; omega, by go_num, _, HF2⟩
                case measure => exact meas_add i H j (by have := HHB.out; omega) (by have := HHB.out; omega)
            · have z11 : decide ((11 : Int) ≤ H) = false := decide_eq_false (by omega)
              by_cases h3 : 3 ≤ H
              · have z3 : (3 : Int) ≤ H := by omega
                have HRUN := hide (HST.out (17, (H : Int) - 3) H (by unfold stepF; rw [if_neg (fun h => h11 h.2), if_pos ⟨rfl, h3⟩]))
                clear h11 h3
                go_wp2_with (first
                  | (at_builtin; refine wpList_append_fresh _ rfl _ _ 25 rfl W.heap.size 39 i1 (.agg #[.int .i64 0, .int .i64 0]) 2 16 Try.underlying25 ki kz0 kz1 kz2 rfl (by decide) u4 _ _ rfl (HF1.out.own.alloc _) ⟨w1.heap.size, 0, none⟩ 1 1 [.int .i64 17, .int .i64 ((H : Int) - 3)] rfl rfl (cell_two_new _ _ _ _) (two_one _ _) X1.out X2.out (size_alloc_le HF1.out.bel.size) ?_; intro v2 w2 o2 g2 _f2; have HF2 := hide (HF1.out.app 0 HX.out (17, ((H : Int) - 3)) H HRUN.out _ o2 g2); clear o2 g2 _f2))
                go_roundw
                case rel => exact ⟨i + H, by have := HHB.out; omega, by go_num, _, HF2⟩
                case measure => exact meas_add i H j (by have := HHB.out; omega) (by have := HHB.out; omega)
              · have z3 : decide ((3 : Int) ≤ H) = false := decide_eq_false (by omega)
                by_cases hi0 : i = 0
                · subst hi0
                  rw [Nat.add_zero] at _c
                  have HRUN := hide (HST.out (0, 0) 1 (by unfold stepF; rw [if_neg (fun h => h11 h.2), if_neg (fun h => h3 h.2), if_neg (fun h => by cases h.1)]))
                  clear h11 h3
                  go_wp2_with fail
                  go_quiet (fail)
                  go_wp2_with (first
                    | (at_builtin; refine wpList_append_fresh _ rfl _ _ 25 rfl W.heap.size 39 i1 (.agg #[.int .i64 0, .int .i64 0]) 2 16 Try.underlying25 ki kz0 kz1 kz2 rfl (by decide) u4 _ _ rfl ((HFQ.out _).own.alloc _) ⟨w1.heap.size, 0, none⟩ 1 1 [.int .i64 0, .int .i64 0] rfl rfl (cell_two_new _ _ _ _) (two_one _ _) X1.out X2.out (size_alloc_le (HFQ.out _).bel.size) ?_; intro v2 w2 o2 g2 _f2; have HF2 := hide ((HFQ.out _).app 0 HX.out (0, 0) 1 HRUN.out _ o2 g2); clear o2 g2 _f2))
                  go_roundw
                  case rel => exact ⟨0 + 1, by have := HHB.out; omega, by go_num, _, HF2⟩
                  case measure => exact meas_add 0 1 j (by have := HHB.out; omega) (by have := HHB.out; omega)
                · have zi0 : (0 : Int) < i := by omega
                  have dzi0 : decide ((0 : Int) < i) = true := decide_eq_true zi0
                  have dzn0 : decide (0 < i) = true := decide_eq_true (by omega)
                  obtain ⟨y, hy⟩ := getZ? l (i - 1) (by rw [HN.out]; omega)
                  have _c3 := HC2.out (i - 1) y hy
                  have HPV := hide (show prevAt l i = some y by unfold prevAt; rw [if_neg hi0]; exact hy)
                  have ei1 : (i : Int) - 1 = ((i - 1 : Nat) : Int) := by omega
                  have ew1 : IntKind.i64.wrap ((i : Int) - 1) = ((i - 1 : Nat) : Int) := by rw [IntKind.wrap_i64]; omega
                  have zp : ((i - 1 : Nat) : Int) < j := by omega
                  generalize i - 1 = q at *
                  clear hy hi0
                  by_cases exy : y = 0
                  · have exy2 := exy
                    rw [exy] at _c3 HPV
                    have HRUN := hide (HST.out (0, 0) 1 (by unfold stepF; rw [if_neg (fun h => h11 h.2), if_neg (fun h => h3 h.2), if_neg (fun h => h3 h.2)]))
                    clear h11 h3 exy exy2
                    go_wp2_with fail
                    go_quiet (fail)
                    go_wp2_with (first
                      | (at_builtin; refine wpList_append_fresh _ rfl _ _ 25 rfl W.heap.size 39 i1 (.agg #[.int .i64 0, .int .i64 0]) 2 16 Try.underlying25 ki kz0 kz1 kz2 rfl (by decide) u4 _ _ rfl ((HFQ.out _).own.alloc _) ⟨w1.heap.size, 0, none⟩ 1 1 [.int .i64 0, .int .i64 0] rfl rfl (cell_two_new _ _ _ _) (two_one _ _) X1.out X2.out (size_alloc_le (HFQ.out _).bel.size) ?_; intro v2 w2 o2 g2 _f2; have HF2 := hide ((HFQ.out _).app 0 HX.out (0, 0) 1 HRUN.out _ o2 g2); clear o2 g2 _f2))
                    go_roundw
                    case rel => exact ⟨i + 1, by have := HHB.out; omega, by go_num, _, HF2⟩
                    case measure => exact meas_add i 1 j (by have := HHB.out; omega) (by have := HHB.out; omega)
                  · have bxy : (y == 0) = false := by simp; exact exy
                    have HRUN := hide (HST.out (0, 0) 1 (by unfold stepF; rw [if_neg (fun h => h11 h.2), if_neg (fun h => h3 h.2), if_neg (fun h => exy (by have h1 := h.1; rw [HPV.out] at h1; injection h1))]))
                    clear h11 h3 exy
                    go_wp2_with fail
                    go_quiet (fail)
                    go_wp2_with (first
                      | (at_builtin; refine wpList_append_fresh _ rfl _ _ 25 rfl W.heap.size 39 i1 (.agg #[.int .i64 0, .int .i64 0]) 2 16 Try.underlying25 ki kz0 kz1 kz2 rfl (by decide) u4 _ _ rfl ((HFQ.out _).own.alloc _) ⟨w1.heap.size, 0, none⟩ 1 1 [.int .i64 0, .int .i64 0] rfl rfl (cell_two_new _ _ _ _) (two_one _ _) X1.out X2.out (size_alloc_le (HFQ.out _).bel.size) ?_; intro v2 w2 o2 g2 _f2; have HF2 := hide ((HFQ.out _).app 0 HX.out (0, 0) 1 HRUN.out _ o2 g2); clear o2 g2 _f2))
                    go_roundw
                    case rel => exact ⟨i + 1, by have := HHB.out; omega, by go_num, _, HF2⟩
                    case measure => exact meas_add i 1 j (by have := HHB.out; omega) (by have := HHB.out; omega)
          · have bx0 : (x == 0) = false := by simp; exact x0
            by_cases h3 : 3 ≤ H
            · have z3 : (3 : Int) ≤ H := by omega
              have dz3 : decide ((3 : Int) ≤ H) = true := decide_eq_true z3
              by_cases hi0 : i = 0
              · subst hi0
                rw [Nat.add_zero] at _c
                have HRUN := hide (HST.out (x, 0) 1 (by unfold stepF; rw [if_neg (fun h => x0 h.1), if_neg (fun h => x0 h.1), if_neg (fun h => by cases h.1)]))
                clear x0 h3
                go_wp2_with fail
                go_quiet (fail)
                go_wp2_with (first
                  | (at_builtin; refine wpList_append_fresh _ rfl _ _ 25 rfl W.heap.size 39 i1 (.agg #[.int .i64 0, .int .i64 0]) 2 16 Try.underlying25 ki kz0 kz1 kz2 rfl (by decide) u4 _ _ rfl ((HFQ.out _).own.alloc _) ⟨w1.heap.size, 0, none⟩ 1 1 [.int .i64 x, .int .i64 0] rfl rfl (cell_two_new _ _ _ _) (two_one _ _) X1.out X2.out (size_alloc_le (HFQ.out _).bel.size) ?_; intro v2 w2 o2 g2 _f2; have HF2 := hide ((HFQ.out _).app x HX.out (x, 0) 1 HRUN.out _ o2 g2); clear o2 g2 _f2))
                go_roundw
                case rel => exact ⟨0 + 1, by have := HHB.out; omega, by go_num, _, HF2⟩
                case measure => exact meas_add 0 1 j (by have := HHB.out; omega) (by have := HHB.out; omega)
              · have zi0 : (0 : Int) < i := by omega
                have dzi0 : decide ((0 : Int) < i) = true := decide_eq_true zi0
                have dzn0 : decide (0 < i) = true := decide_eq_true (by omega)
                obtain ⟨y, hy⟩ := getZ? l (i - 1) (by rw [HN.out]; omega)
                have _c3 := HC2.out (i - 1) y hy
                have HPV := hide (show prevAt l i = some y by unfold prevAt; rw [if_neg hi0]; exact hy)
                have ei1 : (i : Int) - 1 = ((i - 1 : Nat) : Int) := by omega
                have ew1 : IntKind.i64.wrap ((i : Int) - 1) = ((i - 1 : Nat) : Int) := by rw [IntKind.wrap_i64]; omega
                have zp : ((i - 1 : Nat) : Int) < j := by omega
                generalize i - 1 = q at *
                clear hy hi0
                by_cases exy : y = x
                · subst exy
                  by_cases h6 : 6 < H
                  · have z6 : (6 : Int) < H := by omega
                    have HRUN := hide (HST.out (16, 3) 6 (by unfold stepF; rw [if_neg (fun h => x0 h.1), if_neg (fun h => x0 h.1), if_pos ⟨HPV.out, h3⟩, Nat.min_eq_right (by omega)]; rfl))
                    clear x0 h3 h6
                    go_wp2_with fail
                    go_quiet (fail)
                    go_wp2_with (first
                      | (at_builtin; refine wpList_append_fresh _ rfl _ _ 25 rfl W.heap.size 39 i1 (.agg #[.int .i64 0, .int .i64 0]) 2 16 Try.underlying25 ki kz0 kz1 kz2 rfl (by decide) u4 _ _ rfl ((HFQ.out _).own.alloc _) ⟨w1.heap.size, 0, none⟩ 1 1 [.int .i64 16, .int .i64 3] rfl rfl (cell_two_new _ _ _ _) (two_one _ _) X1.out X2.out (size_alloc_le (HFQ.out _).bel.size) ?_; intro v2 w2 o2 g2 _f2; have HF2 := hide ((HFQ.out _).app y HX.out (16, 3) 6 HRUN.out _ o2 g2); clear o2 g2 _f2))
                    go_roundw
                    case rel => exact ⟨i + 6, by have := HHB.out; omega, by go_num, _, HF2⟩
                    case measure => exact meas_add i 6 j (by have := HHB.out; omega) (by have := HHB.out; omega)
                  · have z6 : ¬ (6 : Int) < H := by omega
                    have HRUN := hide (HST.out (16, (H : Int) - 3) H (by unfold stepF; rw [if_neg (fun h => x0 h.1), if_neg (fun h => x0 h.1), if_pos ⟨HPV.out, h3⟩, Nat.min_eq_left (by omega)]))
                    clear x0 h3 h6
                    go_wp2_with fail
                    go_quiet (fail)
                    go_wp2_with (first
                      | (at_builtin; refine wpList_append_fresh _ rfl _ _ 25 rfl W.heap.size 39 i1 (.agg #[.int .i64 0, .int .i64 0]) 2 16 Try.underlying25 ki kz0 kz1 kz2 rfl (by decide) u4 _ _ rfl ((HFQ.out _).own.alloc _) ⟨w1.heap.size, 0, none⟩ 1 1 [.int .i64 16, .int .i64 ((H : Int) - 3)] rfl rfl (cell_two_new _ _ _ _) (two_one _ _) X1.out X2.out (size_alloc_le (HFQ.out _).bel.size) ?_; intro v2 w2 o2 g2 _f2; have HF2 := hide ((HFQ.out _).app y HX.out (16, ((H : Int) - 3)) H HRUN.out _ o2 g2); clear o2 g2 _f2))
                    go_roundw
                    case rel => exact ⟨i + H, by have := HHB.out; omega, by go_num, _, HF2⟩
                    case measure => exact meas_add i H j (by have := HHB.out; omega) (by have := HHB.out; omega)
                · have bxy : (y == x) = false := by simp; exact exy
                  have HRUN := hide (HST.out (x, 0) 1 (by unfold stepF; rw [if_neg (fun h => x0 h.1), if_neg (fun h => x0 h.1), if_neg (fun h => exy (by have h1 := h.1; rw [HPV.out] at h1; injection h1))]))
                  clear x0 h3 exy
                  go_wp2_with fail
                  go_quiet (fail)
                  go_wp2_with (first
                    | (at_builtin; refine wpList_append_fresh _ rfl _ _ 25 rfl W.heap.size 39 i1 (.agg #[.int .i64 0, .int .i64 0]) 2 16 Try.underlying25 ki kz0 kz1 kz2 rfl (by decide) u4 _ _ rfl ((HFQ.out _).own.alloc _) ⟨w1.heap.size, 0, none⟩ 1 1 [.int .i64 x, .int .i64 0] rfl rfl (cell_two_new _ _ _ _) (two_one _ _) X1.out X2.out (size_alloc_le (HFQ.out _).bel.size) ?_; intro v2 w2 o2 g2 _f2; have HF2 := hide ((HFQ.out _).app x HX.out (x, 0) 1 HRUN.out _ o2 g2); clear o2 g2 _f2))
                  go_roundw
                  case rel => exact ⟨i + 1, by have := HHB.out; omega, by go_num, _, HF2⟩
                  case measure => exact meas_add i 1 j (by have := HHB.out; omega) (by have := HHB.out; omega)
            · have z3 : decide ((3 : Int) ≤ H) = false := decide_eq_false (by omega)
              by_cases hi0 : i = 0
              · subst hi0
                rw [Nat.add_zero] at _c
                have HRUN := hide (HST.out (x, 0) 1 (by unfold stepF; rw [if_neg (fun h => x0 h.1), if_neg (fun h => x0 h.1), if_neg (fun h => by cases h.1)]))
                clear x0 h3
                go_wp2_with fail
                go_quiet (fail)
                go_wp2_with (first
                  | (at_builtin; refine wpList_append_fresh _ rfl _ _ 25 rfl W.heap.size 39 i1 (.agg #[.int .i64 0, .int .i64 0]) 2 16 Try.underlying25 ki kz0 kz1 kz2 rfl (by decide) u4 _ _ rfl ((HFQ.out _).own.alloc _) ⟨w1.heap.size, 0, none⟩ 1 1 [.int .i64 x, .int .i64 0] rfl rfl (cell_two_new _ _ _ _) (two_one _ _) X1.out X2.out (size_alloc_le (HFQ.out _).bel.size) ?_; intro v2 w2 o2 g2 _f2; have HF2 := hide ((HFQ.out _).app x HX.out (x, 0) 1 HRUN.out _ o2 g2); clear o2 g2 _f2))
                go_roundw
                case rel => exact ⟨0 + 1, by have := HHB.out; omega, by go_num, _, HF2⟩
                case measure => exact meas_add 0 1 j (by have := HHB.out; omega) (by have := HHB.out; omega)
              · have zi0 : (0 : Int) < i := by omega
                have dzi0 : decide ((0 : Int) < i) = true := decide_eq_true zi0
                have dzn0 : decide (0 < i) = true := decide_eq_true (by omega)
                obtain ⟨y, hy⟩ := getZ? l (i - 1) (by rw [HN.out]; omega)
                have _c3 := HC2.out (i - 1) y hy
                have HPV := hide (show prevAt l i = some y by unfold prevAt; rw [if_neg hi0]; exact hy)
                have ei1 : (i : Int) - 1 = ((i - 1 : Nat) : Int) := by omega
                have ew1 : IntKind.i64.wrap ((i : Int) - 1) = ((i - 1 : Nat) : Int) := by rw [IntKind.wrap_i64]; omega
                have zp : ((i - 1 : Nat) : Int) < j := by omega
                generalize i - 1 = q at *
                clear hy hi0
                by_cases exy : y = x
                · subst exy
                  have HRUN := hide (HST.out (y, 0) 1 (by unfold stepF; rw [if_neg (fun h => x0 h.1), if_neg (fun h => x0 h.1), if_neg (fun h => h3 h.2)]))
                  clear x0 h3
                  go_wp2_with fail
                  go_quiet (fail)
                  go_wp2_with (first
                    | (at_builtin; refine wpList_append_fresh _ rfl _ _ 25 rfl W.heap.size 39 i1 (.agg #[.int .i64 0, .int .i64 0]) 2 16 Try.underlying25 ki kz0 kz1 kz2 rfl (by decide) u4 _ _ rfl ((HFQ.out _).own.alloc _) ⟨w1.heap.size, 0, none⟩ 1 1 [.int .i64 y, .int .i64 0] rfl rfl (cell_two_new _ _ _ _) (two_one _ _) X1.out X2.out (size_alloc_le (HFQ.out _).bel.size) ?_; intro v2 w2 o2 g2 _f2; have HF2 := hide ((HFQ.out _).app y HX.out (y, 0) 1 HRUN.out _ o2 g2); clear o2 g2 _f2))
                  go_roundw
                  case rel => exact ⟨i + 1, by have := HHB.out; omega, by go_num, _, HF2⟩
                  case measure => exact meas_add i 1 j (by have := HHB.out; omega) (by have := HHB.out; omega)
                · have bxy : (y == x) = false := by simp; exact exy
                  have HRUN := hide (HST.out (x, 0) 1 (by unfold stepF; rw [if_neg (fun h => x0 h.1), if_neg (fun h => x0 h.1), if_neg (fun h => exy (by have h1 := h.1; rw [HPV.out] at h1; injection h1))]))
                  clear x0 h3 exy
                  go_wp2_with fail
                  go_quiet (fail)
                  go_wp2_with (first
                    | (at_builtin; refine wpList_append_fresh _ rfl _ _ 25 rfl W.heap.size 39 i1 (.agg #[.int .i64 0, .int .i64 0]) 2 16 Try.underlying25 ki kz0 kz1 kz2 rfl (by decide) u4 _ _ rfl ((HFQ.out _).own.alloc _) ⟨w1.heap.size, 0, none⟩ 1 1 [.int .i64 x, .int .i64 0] rfl rfl (cell_two_new _ _ _ _) (two_one _ _) X1.out X2.out (size_alloc_le (HFQ.out _).bel.size) ?_; intro v2 w2 o2 g2 _f2; have HF2 := hide ((HFQ.out _).app x HX.out (x, 0) 1 HRUN.out _ o2 g2); clear o2 g2 _f2))
                  go_roundw
                  case rel => exact ⟨i + 1, by have := HHB.out; omega, by go_num, _, HF2⟩
                  case measure => exact meas_add i 1 j (by have := HHB.out; omega) (by have := HHB.out; omega)
        · have hie : i = j := by omega
          subst hie
          have HD := hide (show FoldNew W l (.returned u4) wr by have h := HF.out; rw [← HN.out] at h; exact h.done HLB.out)
          go_wp2
          go_ret
          exact HD.out

theorem qfold_any (l : List Int) (a : Option Addr) (cap : Nat) (W : World) (harg : ArgZ W a l) (hl : l.length ≤ 3000) :
    Calls Try.prog 11 #[.slice a l.length cap] W fun e w' => FoldPost W l e w' :=
  (qfold_new l a cap W harg hl).mono fun _ _ h => h.post

end Go.Proofs.Ytdaflfkknlhllaa
