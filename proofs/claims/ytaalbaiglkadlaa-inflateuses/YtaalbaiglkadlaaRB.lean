import Derived.Test.YtaalbaiglkadlaaRA
import Derived.Test.YtaalbaiglkadlaaWB
/- Contract of the document's 'Unfold' of layer 7. -/
namespace Go.Proofs.Ytaalbaiglkadlaa
open Go.RowKit Go.Lib

/-- What an unfolding gives. -/
def UnPost (W : World) (rs : List (Int × Int)) (n : Int) (e : Ending) (w' : World) : Prop := ∃ a c, e = .returned (.tuple #[.slice a (unO rs n).length c, .bool (unB rs n)]) ∧ ArgZ w' a (unO rs n) ∧ (a = none → c = 0) ∧ Below W.heap.size W w'

theorem un_none {W w : World} {rs : List (Int × Int)} {n : Int} (h : unF n [] rs = none) (b : Below W.heap.size W w) : UnPost W rs n (.returned (.tuple #[.slice none 0 0, .bool false])) w := by
  have h1 : unO rs n = [] := by unfold unO; rw [h]; rfl
  have h2 : unB rs n = false := by unfold unB; rw [h]; rfl
  refine ⟨none, 0, by rw [h1, h2]; rfl, ?_, fun _ => rfl, b⟩
  rw [h1]
  intro i x hx
  simp at hx
theorem un_some {W w : World} {rs : List (Int × Int)} {n : Int} {out : List Int} {v : Value} (h : unF n [] rs = some out) (ho : w.ownsRow W.heap.size 3 1 v out.length (intCs out)) (b : Below W.heap.size W w) : UnPost W rs n (.returned (.tuple #[v, .bool true])) w := by
  have h1 : unO rs n = out := by unfold unO; rw [h]; rfl
  have h2 : unB rs n = true := by unfold unB; rw [h]; rfl
  obtain ⟨a, c, e, g1, g2⟩ := own_argI ho rfl
  exact ⟨a, c, by rw [h1, h2, e], by rw [h1]; exact g1, fun e => (g2 e).2, b⟩

/-- The lengths under way. -/
structure UnW (w W : World) (rs : List (Int × Int)) (n : Int) (i : Nat) (out : List Int) (v : Value) : Prop where
  own : w.ownsRow W.heap.size 3 1 v out.length (intCs out)
  bel : Below W.heap.size W w
  un : unF n [] rs = unF n out (rs.drop i)
  len : out.length ≤ 138 * i
  room : out = [] ∨ (out.length : Int) ≤ n

theorem UnW.bad {w w' W : World} {rs : List (Int × Int)} {n : Int} {i : Nat} {out : List Int} {v : Value} (h : UnW w W rs n i out v) (r : Int × Int) (hr : rs[i]? = some r) (hb : runB n out r = false) (b : Below W.heap.size W w') : UnPost W rs n (.returned (.tuple #[.slice none 0 0, .bool false])) w' := by
  refine un_none ?_ b
  obtain ⟨hi, e⟩ := List.getElem?_eq_some_iff.1 hr
  rw [h.un, List.drop_eq_getElem_cons hi, e]
  show (if runB n out r = true then _ else none) = none
  rw [hb]
  rfl
theorem runB_false (n : Int) (out : List Int) (r : Int × Int) (h : ¬ (¬ (r.1 = 16 ∧ out = []) ∧ 0 ≤ r.1 ∧ r.1 ≤ 18 ∧ 0 ≤ r.2 ∧ r.2 < ((2 ^ xBits r.1 : Nat) : Int) ∧ timesR r ≤ n - (out.length : Int))) : runB n out r = false := by
  cases hb : runB n out r with
  | false => rfl
  | true => exact absurd ((runB_iff n out r).1 hb) h
/-- Behind a run that may be. -/
theorem UnW.next {w w' W : World} {rs : List (Int × Int)} {n : Int} {i : Nat} {out : List Int} {v v' : Value} (h : UnW w W rs n i out v) (r : Int × Int) (hr : rs[i]? = some r) (hb : runB n out r = true) (k : Nat) (hk : (timesR r).toNat = k) (x : Int) (hx : valR out r.1 = x)
    (ho : w'.ownsRow W.heap.size 3 1 v' (out ++ List.replicate k x).length (intCs (out ++ List.replicate k x))) (b : Below W.heap.size W w') : UnW w' W rs n (i + 1) (out ++ List.replicate k x) v' := by
  obtain ⟨hi, e⟩ := List.getElem?_eq_some_iff.1 hr
  obtain ⟨g1, g2, g3, g4, g5, g6⟩ := (runB_iff n out r).1 hb
  have h138 : k ≤ 138 := by
    have hx : xBits r.1 ≤ 7 := by unfold xBits; split; · omega
                                  split; · omega
                                  split; · omega
                                  omega
    have hp : (2 : Nat) ^ xBits r.1 ≤ 2 ^ 7 := Nat.pow_le_pow_right (by decide) hx
    rw [← hk]
    unfold timesR
    split; · rename_i e2; rw [e2, xb16] at g5; omega
    split; · rename_i e2; rw [e2, xb17] at g5; omega
    split; · omega
    omega
  refine ⟨ho, b, ?_, ?_, .inr ?_⟩
  · rw [h.un, List.drop_eq_getElem_cons hi, e]
    show (if runB n out r = true then unF n (out ++ List.replicate (timesR r).toNat (valR out r.1)) _ else none) = _
    rw [if_pos hb, hk, hx]
  · rw [List.length_append, List.length_replicate]
    have := h.len
    omega
  · rw [List.length_append, List.length_replicate]
    have : timesR r ≤ (k : Int) ∨ True := .inr trivial
    have h0 : 0 ≤ timesR r := by
      unfold timesR
      split; · omega
      split; · omega
      split; · omega
      omega
    omega

theorem wrap_less (n : Int) (L : Nat) (h1 : -9223372036854775808 ≤ n) (h2 : n ≤ 9223372036854775807) (h : L = 0 ∨ (L : Int) ≤ n) : IntKind.i64.wrap (n - (L : Int)) = n - (L : Int) ∧ wrap64 (n - (L : Int)) = n - (L : Int) := by
  constructor
  · rw [IntKind.wrap_i64]; omega
  · unfold wrap64; omega

theorem UnW.alloc {w W : World} {rs : List (Int × Int)} {n : Int} {i : Nat} {out : List Int} {v : Value} (h : UnW w W rs n i out v) (o : Obj) : UnW (w.alloc o) W rs n i out v :=
  ⟨h.own.alloc o, h.bel.alloc h.bel.size o, h.un, h.len, h.room⟩
theorem UnW.drewN {w W : World} {rs : List (Int × Int)} {n : Int} {i : Nat} {out : List Int} {v : Value} (h : UnW w W rs n i out v) (k : Nat) : UnW (w.drewN k) W rs n i out v :=
  ⟨own_below h.own (below_drewN (Below.refl w.heap.size w) k) (Nat.le_refl _), below_drewN h.bel k, h.un, h.len, h.room⟩
theorem last_at (out : List Int) (h : out ≠ []) : out[out.length - 1]? = some (out.getLastD 0) := by
  obtain ⟨o, x, rfl⟩ : ∃ o x, out = o ++ [x] := ⟨out.dropLast, out.getLast h, (List.dropLast_concat_getLast h).symm⟩
  simp
theorem rep_snoc (out : List Int) (k j : Nat) (x : Int) (h : j < k) : (out ++ List.replicate (k - (j + 1)) x) ++ [x] = out ++ List.replicate (k - j) x := by
  rw [List.append_assoc, ← List.replicate_succ', show k - (j + 1) + 1 = k - j by omega]

end Go.Proofs.Ytaalbaiglkadlaa

/- Like runs, and like numbers, are told to be: the document's 'Same' of layer 7, and the statements' 'same'. -/
namespace Go.Proofs.Ytaalbaiglkadlaa
open Go.RowKit Go.Lib

end Go.Proofs.Ytaalbaiglkadlaa

/- Contracts of the code of layer 7: Bits, Order, least, extras, times, run, row. -/
namespace Go.Proofs.Ytaalbaiglkadlaa
open Go.RowKit Go.Lib

/-- For how many lengths a symbol stands at least. -/
def leastN (s : Int) : Nat := if s = 16 then 3 else if s = 17 then 3 else if s = 18 then 11 else 1
theorem ls16 : leastN 16 = 3 := by decide
theorem ls17 : leastN 17 = 3 := by decide
theorem ls18 : leastN 18 = 11 := by decide
theorem ls_plain (s : Int) (h : s ≠ 16) (h2 : s ≠ 17) (h3 : s ≠ 18) : leastN s = 1 := by unfold leastN; rw [if_neg h, if_neg h2, if_neg h3]
theorem ls_range (s : Int) : 1 ≤ leastN s ∧ leastN s ≤ 11 := by
  unfold leastN
  split; · omega
  split; · omega
  split; · omega
  omega
/-- How many values a symbol's extra may have. -/
def extN (s : Int) : Nat := 2 ^ xBits s
theorem ex16 : extN 16 = 4 := by decide
theorem ex17 : extN 17 = 8 := by decide
theorem ex18 : extN 18 = 128 := by decide
theorem ex_plain (s : Int) (h : s ≠ 16) (h2 : s ≠ 17) (h3 : s ≠ 18) : extN s = 1 := by unfold extN; rw [(plain_run s h h2 h3).1]
theorem ex_range (s : Int) : 1 ≤ extN s ∧ extN s ≤ 128 := by
  by_cases h1 : s = 16
  · rw [h1, ex16]; omega
  · by_cases h2 : s = 17
    · rw [h2, ex17]; omega
    · by_cases h3 : s = 18
      · rw [h3, ex18]; omega
      · rw [ex_plain s h1 h2 h3]; omega

set_option maxHeartbeats 1000000 in
theorem bits7_same (s : Int) (w : World) :
    Calls Try.prog 92 #[.int .i64 s] w fun e w' => e = .returned (.int .i64 (xBits s : Nat)) ∧ w' = w := by
  by_cases h1 : s = 16
  · subst h1
    go_enter Try.func92, Try.ntmps92
    go_wp2
    go_ret
    exact ⟨rfl, rfl⟩
  · by_cases h2 : s = 17
    · subst h2
      go_enter Try.func92, Try.ntmps92
      go_wp2
      go_ret
      exact ⟨rfl, rfl⟩
    · by_cases h3 : s = 18
      · subst h3
        go_enter Try.func92, Try.ntmps92
        go_wp2
        go_ret
        exact ⟨rfl, rfl⟩
      · rw [(plain_run s h1 h2 h3).1]
        have b1 : (s == 16) = false := by simp; exact h1
        have b2 : (s == 17) = false := by simp; exact h2
        have b3 : (s == 18) = false := by simp; exact h3
        clear h1 h2 h3
        go_enter Try.func92, Try.ntmps92
        go_wp2
        go_ret
        exact ⟨rfl, rfl⟩
theorem bits7_any (s : Int) (w : World) :
    Calls Try.prog 92 #[.int .i64 s] w fun e w' => e = .returned (.int .i64 (xBits s : Nat)) ∧ Below w.heap.size w w' := by
  refine (bits7_same s w).mono ?_
  rintro e w' ⟨rfl, rfl⟩
  exact ⟨rfl, Below.refl _ _⟩

set_option maxRecDepth 20000 in
set_option maxHeartbeats 2000000 in
theorem order7_any (w : World) :
    Calls Try.prog 85 #[] w fun e w' => e = .returned (.agg orderCs.toArray) ∧ Below w.heap.size w w' := by
  obtain ⟨Z, hZn, hv⟩ := Try.zeroOrder
  have hn : orderCs.length = 19 := rfl
  have hst := order_store w Z orderCs hZn hn orderCs_one
  have HLD := hide (order_load (order_range w orderCs) hn)
  have HBD := hide Try.builtOrder
  have HB := hide ((Below.refl _ w).alloc (Nat.le_refl _) (.cells orderCs.toArray 87))
  generalize orderCs = cs at *
  go_enter Try.func85, Try.ntmps85
  go_wp2_with (first
    | (refine wpList_builtK rfl 87 orderPs rfl cs.toArray HBD.out ?_))
  (try simp only [Exit.inBlock, Exit.then])
  refine bodyPost_ret (v := .agg cs.toArray) ?_ rfl ⟨rfl, HB.out⟩
  simp [results, Try.results85, asAddr, HLD.out]

set_option maxHeartbeats 1000000 in
theorem least7 (s : Int) (w : World) :
    Calls Try.prog 96 #[.int .i64 s] w fun e w' => e = .returned (.int .i64 (leastN s : Nat)) ∧ w' = w := by
  by_cases h1 : s = 16
  · subst h1
    go_enter Try.func96, Try.ntmps96
    go_wp2
    go_ret
    exact ⟨rfl, rfl⟩
  · by_cases h2 : s = 17
    · subst h2
      go_enter Try.func96, Try.ntmps96
      go_wp2
      go_ret
      exact ⟨rfl, rfl⟩
    · by_cases h3 : s = 18
      · subst h3
        go_enter Try.func96, Try.ntmps96
        go_wp2
        go_ret
        exact ⟨rfl, rfl⟩
      · rw [ls_plain s h1 h2 h3]
        have b1 : (s == 16) = false := by simp; exact h1
        have b2 : (s == 17) = false := by simp; exact h2
        have b3 : (s == 18) = false := by simp; exact h3
        clear h1 h2 h3
        go_enter Try.func96, Try.ntmps96
        go_wp2
        go_ret
        exact ⟨rfl, rfl⟩

theorem extras_of (s : Int) (x : Nat) (hx : xBits s = x) (hx7 : x = 0 ∨ x = 2 ∨ x = 3 ∨ x = 7) (w : World) :
    Calls Try.prog 95 #[.int .i64 s] w fun e w' => e = .returned (.int .i64 ((2 ^ x : Nat) : Int)) ∧ w' = w := by
  have HB := hide (bits7_same s)
  rw [hx] at HB
  clear hx
  rcases hx7 with rfl | rfl | rfl | rfl
  · go_enter Try.func95, Try.ntmps95
    go_wp2_with fail
    refine (HB.out _).mono ?_
    rintro e w1 ⟨rfl, rfl⟩
    go_wp2
    go_ret
    exact ⟨rfl, rfl⟩
  · go_enter Try.func95, Try.ntmps95
    go_wp2_with fail
    refine (HB.out _).mono ?_
    rintro e w1 ⟨rfl, rfl⟩
    go_wp2
    go_ret
    exact ⟨rfl, rfl⟩
  · go_enter Try.func95, Try.ntmps95
    go_wp2_with fail
    refine (HB.out _).mono ?_
    rintro e w1 ⟨rfl, rfl⟩
    go_wp2
    go_ret
    exact ⟨rfl, rfl⟩
  · go_enter Try.func95, Try.ntmps95
    go_wp2_with fail
    refine (HB.out _).mono ?_
    rintro e w1 ⟨rfl, rfl⟩
    go_wp2
    go_ret
    exact ⟨rfl, rfl⟩
theorem extras7 (s : Int) (w : World) :
    Calls Try.prog 95 #[.int .i64 s] w fun e w' => e = .returned (.int .i64 (extN s : Nat)) ∧ w' = w := by
  refine extras_of s (xBits s) rfl ?_ w
  unfold xBits
  split; · omega
  split; · omega
  split; · omega
  omega

set_option maxHeartbeats 1000000 in
theorem times7 (s e : Int) (he0 : 0 ≤ e) (he : e ≤ 127) (w : World) :
    Calls Try.prog 94 #[.agg #[.int .i64 s, .int .i64 e]] w fun r w' => r = .returned (.int .i64 ((leastN s : Int) + e)) ∧ Below w.heap.size w w' := by
  have HL := hide (least7 s)
  have hls := ls_range s
  have HB := hide (fun n => below_drewN ((Below.refl w.heap.size w).alloc (Nat.le_refl _) (.cells #[.int .i64 s, .int .i64 e] 99)) n)
  generalize leastN s = k at *
  go_enter Try.func94, Try.ntmps94
  go_wp2
  go_quiet ((go_at_call 96; exact Calls.quiet_of_same (HL.out _)))
  go_wp2
  go_ret
  exact ⟨rfl, HB.out _⟩

end Go.Proofs.Ytaalbaiglkadlaa

/- Contracts of the code of layer 7: run, row, first. -/
namespace Go.Proofs.Ytaalbaiglkadlaa
open Go.RowKit Go.Lib

theorem head_ge (x : Int) (l : List Int) (k : Nat) (hk : k ≤ l.length) (h1 : ∀ i, i < k → l[i]? = some x) : k ≤ headN x l := by
  refine Classical.byContradiction fun h => ?_
  exact head_stop x l (by omega) (h1 _ (by omega))

end Go.Proofs.Ytaalbaiglkadlaa

/- Contracts of the code of layer 7: first. -/
namespace Go.Proofs.Ytaalbaiglkadlaa
open Go.RowKit Go.Lib

theorem step_fits (p : Option Int) (x : Int) (H : Nat) (r : Int × Int) (K : Nat) (hx0 : 0 ≤ x) (hx : x ≤ 15) (hr : stepF p x H = (r, K)) : 0 ≤ r.2 ∧ r.2 ≤ 127 ∧ (leastN r.1 : Int) + r.2 = (K : Int) := by
  unfold stepF at hr
  split at hr
  · injection hr with h1 h2
    subst h1 h2
    dsimp only
    rw [ls18]
    omega
  · split at hr
    · rename_i h11 _
      injection hr with h1 h2
      subst h1 h2
      dsimp only
      rw [ls17]
      omega
    · split at hr
      · injection hr with h1 h2
        subst h1 h2
        dsimp only
        rw [ls16]
        omega
      · injection hr with h1 h2
        subst h1 h2
        dsimp only
        rw [ls_plain x (by omega) (by omega) (by omega)]
        omega
theorem ArgZ.dropped {w : World} {b off : Nat} {l : List Int} (h : ArgZ w (some ⟨b, off, none⟩) l) (i : Nat) : ArgZ w (some ⟨b, off + i, none⟩) (l.drop i) := by
  intro j x hx
  rw [List.getElem?_drop] at hx
  obtain ⟨b2, off2, e, hb, hc⟩ := h _ _ hx
  injection e with e
  injection e with e1 e2
  subst e1 e2
  exact ⟨b, off + i, rfl, hb, by rw [Nat.add_assoc]; exact hc⟩

end Go.Proofs.Ytaalbaiglkadlaa

/- Contract of the code of layer 7: Fold. -/
namespace Go.Proofs.Ytaalbaiglkadlaa
open Go.RowKit Go.Lib

theorem cell_two_at (w : World) (x y : Value) {n : Nat} (hn : w.heap.size = n) (t : TypeId) : ∀ j u, [x, y][j]? = some u → (w.alloc (.cells #[x, y] t)).cell? ((⟨n, 0, none⟩ : Addr).add j) = some u := by
  subst hn
  exact cell_two_new w x y t
theorem size_alloc (w : World) (o : Obj) : (w.alloc o).heap.size = w.heap.size + 1 := by
  show (w.heap.push _).size = _
  simp

theorem run_kept {w1 w2 : World} {B n : Nat} {e : TypeId} {size : Nat} {v x y : Value} {xs : List Value} {t : TypeId} {o : Obj} (h : w1.ownsRow B e size v n xs) (g : ((w1.alloc (.cells #[x, y] t)).alloc o).grownBy w2 v.ownBlock) : w2.cell? ⟨w1.heap.size, 0, none⟩ = some x ∧ w2.cell? ⟨w1.heap.size, 1, none⟩ = some y := by
  have hne : some w1.heap.size ≠ v.ownBlock := fun e => own_ne h (Nat.le_refl _) e.symm
  have hb : ((w1.alloc (.cells #[x, y] t)).alloc o).heap[w1.heap.size]? = some (.cells #[x, y] t (0, 0)) := by
    rw [heap_alloc_old _ _ _ (by rw [size_alloc]; omega)]
    show (w1.heap.push _)[w1.heap.size]? = _
    simp
  obtain ⟨c1, c2, _, _⟩ := two_cells hb
  exact ⟨g.cell c1 hne, g.cell c2 hne⟩

end Go.Proofs.Ytaalbaiglkadlaa

/- Contracts of the code of layer 7: counted, Unfold. -/
namespace Go.Proofs.Ytaalbaiglkadlaa
open Go.RowKit Go.Lib

/-- A run that may be, where so many lengths are counted. -/
def okR (S : Int) (r : Int × Int) : Prop := 0 ≤ r.1 ∧ r.1 ≤ 18 ∧ 0 ≤ r.2 ∧ r.2 < (extN r.1 : Int) ∧ ¬ (r.1 = 16 ∧ S = 0)
/-- How many lengths runs stand for, behind so many. -/
def cntU (S : Int) : List (Int × Int) → Option Int
  | [] => some S
  | r :: rs => if 0 ≤ r.1 ∧ r.1 ≤ 18 ∧ 0 ≤ r.2 ∧ r.2 < (extN r.1 : Int) ∧ ¬ (r.1 = 16 ∧ S = 0) then cntU (S + ((leastN r.1 : Int) + r.2)) rs else none

theorem cnt_ok {S : Int} {r : Int × Int} (h : okR S r) (rs : List (Int × Int)) : cntU S (r :: rs) = cntU (S + ((leastN r.1 : Int) + r.2)) rs := by
  exact if_pos h
theorem cnt_bad {S : Int} {r : Int × Int} (h : ¬ okR S r) (rs : List (Int × Int)) : cntU S (r :: rs) = none := by
  exact if_neg h
theorem okR_of {S c : Int} {r : Int × Int} {rs : List (Int × Int)} (h : cntU S (r :: rs) = some c) : okR S r := by
  refine Classical.byContradiction fun hn => ?_
  rw [cnt_bad hn] at h
  cases h
theorem okR.times {S : Int} {r : Int × Int} (h : okR S r) : timesR r = (leastN r.1 : Int) + r.2 ∧ 1 ≤ timesR r ∧ timesR r ≤ 138 := by
  obtain ⟨s, e⟩ := r
  obtain ⟨h1, h2, h3, h4, _⟩ := h
  dsimp only at h1 h2 h3 h4 ⊢
  by_cases a1 : s = 16
  · subst a1; rw [ex16] at h4; rw [tm16, ls16]; omega
  · by_cases a2 : s = 17
    · subst a2; rw [ex17] at h4; rw [tm17, ls17]; omega
    · by_cases a3 : s = 18
      · subst a3; rw [ex18] at h4; rw [tm18, ls18]; omega
      · rw [ex_plain s a1 a2 a3] at h4; rw [(plain_run s a1 a2 a3).2.1, ls_plain s a1 a2 a3]; omega
theorem cnt_ge : ∀ (rs : List (Int × Int)) (S c : Int), cntU S rs = some c → S ≤ c
  | [], S, c, h => by
    injection h with h
    omega
  | r :: rs, S, c, h => by
    have h1 := okR_of h
    have h2 := h1.times
    rw [cnt_ok h1, ← h2.1] at h
    have h3 := cnt_ge rs _ _ h
    omega
theorem cntU_le : ∀ (rs : List (Int × Int)) (S c : Int), cntU S rs = some c → c ≤ S + 138 * (rs.length : Int)
  | [], S, c, h => by
    injection h with h
    rw [List.length_nil]
    omega
  | r :: rs, S, c, h => by
    have h1 := okR_of h
    have h2 := h1.times
    rw [cnt_ok h1, ← h2.1] at h
    have h3 := cntU_le rs _ _ h
    rw [List.length_cons]
    omega
/-- The next run may be, where all are counted. -/
theorem cnt_run {n : Int} {out : List Int} {r : Int × Int} {rs : List (Int × Int)} (h : cntU (out.length : Int) (r :: rs) = some n) : runB n out r = true ∧ okR (out.length : Int) r ∧ cntU ((out.length : Int) + ((leastN r.1 : Int) + r.2)) rs = some n := by
  have h1 := okR_of h
  have h2 := h1.times
  rw [cnt_ok h1] at h
  refine ⟨?_, h1, h⟩
  have h3 := cnt_ge rs _ _ h
  obtain ⟨g1, g2, g3, g4, g5⟩ := h1
  rw [runB_iff]
  refine ⟨fun hh => g5 ⟨hh.1, by rw [hh.2]; rfl⟩, g1, g2, g3, g4, ?_⟩
  omega
/-- What is unfolded was counted. -/
theorem un_cnt (n : Int) : ∀ (rs : List (Int × Int)) (out o : List Int), unF n out rs = some o → cntU (out.length : Int) rs = some n
  | [], out, o, h => by
    unfold unF at h
    split at h
    · rename_i h2; show some _ = _; rw [h2]
    · cases h
  | r :: rs, out, o, h => by
    unfold unF at h
    split at h
    · rename_i hb
      obtain ⟨g1, g2, g3, g4, g5, g6⟩ := (runB_iff n out r).1 hb
      have h1 : okR (out.length : Int) r := ⟨g2, g3, g4, g5, fun hh => g1 ⟨hh.1, by
        cases out with
        | nil => rfl
        | cons a b => have := hh.2; rw [List.length_cons] at this; omega⟩⟩
      have h2 := h1.times
      have ih := un_cnt n rs _ o h
      rw [List.length_append, List.length_replicate] at ih
      rw [cnt_ok h1, ← h2.1]
      rw [show (out.length : Int) + timesR r = ((out.length + (timesR r).toNat : Nat) : Int) by omega]
      exact ih
    · cases h
theorem un_no {n : Int} {rs : List (Int × Int)} (h : cntU 0 rs ≠ some n) : unF n [] rs = none := by
  cases hu : unF n [] rs with
  | none => rfl
  | some o => exact absurd (un_cnt n rs [] o hu) h

/-- The counting under way. -/
structure CntW (w W : World) (rs : List (Int × Int)) (i : Nat) (S : Nat) : Prop where
  bel : Below W.heap.size W w
  cnt : cntU 0 rs = cntU (S : Int) (rs.drop i)
  len : S ≤ 138 * i
/-- What a counting gives. -/
def CntPost (W : World) (rs : List (Int × Int)) (e : Ending) (w' : World) : Prop := e = .returned (.tuple #[.int .i64 ((cntU 0 rs).getD 0), .bool (cntU 0 rs).isSome]) ∧ Below W.heap.size W w'
theorem cnt_none {W w : World} {rs : List (Int × Int)} (h : cntU 0 rs = none) (b : Below W.heap.size W w) : CntPost W rs (.returned (.tuple #[.int .i64 0, .bool false])) w := ⟨by rw [h]; rfl, b⟩
theorem cnt_some {W w : World} {rs : List (Int × Int)} {S : Int} (h : cntU 0 rs = some S) (b : Below W.heap.size W w) : CntPost W rs (.returned (.tuple #[.int .i64 S, .bool true])) w := ⟨by rw [h]; rfl, b⟩
theorem CntW.bad {w w' W : World} {rs : List (Int × Int)} {i S : Nat} (h : CntW w W rs i S) (r : Int × Int) (hr : rs[i]? = some r) (hb : ¬ okR (S : Int) r) (b : Below W.heap.size W w') : CntPost W rs (.returned (.tuple #[.int .i64 0, .bool false])) w' := by
  refine cnt_none ?_ b
  obtain ⟨hi, e⟩ := List.getElem?_eq_some_iff.1 hr
  rw [h.cnt, List.drop_eq_getElem_cons hi, e]
  exact cnt_bad hb _
theorem CntW.next {w w' W : World} {rs : List (Int × Int)} {i S : Nat} (h : CntW w W rs i S) (r : Int × Int) (hr : rs[i]? = some r) (hb : okR (S : Int) r) (T : Nat) (hT : (leastN r.1 : Int) + r.2 = (T : Int)) (b : Below W.heap.size W w') : CntW w' W rs (i + 1) (S + T) := by
  obtain ⟨hi, e⟩ := List.getElem?_eq_some_iff.1 hr
  refine ⟨b, ?_, ?_⟩
  · rw [h.cnt, List.drop_eq_getElem_cons hi, e, cnt_ok hb, hT, Int.natCast_add]
  · have h1 := h.len
    have h2 := hb.times
    omega

set_option maxRecDepth 20000 in
set_option maxHeartbeats 4000000 in
theorem counted7 (rs : List (Int × Int)) (a : Option Addr) (m cap : Nat) (W : World) (hm : rs.length = m) (harg : ArgR W a rs) (hl : m ≤ 2000) :
    Calls Try.prog 93 #[.slice a m cap] W fun e w' => CntPost W rs e w' := by
  have HA := hide harg
  have HM := hide hm
  have HC0 := hide (show CntW W W rs 0 0 from ⟨Below.refl _ _, by rw [List.drop_zero]; rfl, Nat.le_refl _⟩)
  clear harg hm
  go_enter Try.func93, Try.ntmps93
  go_wp2
  go_loopw [4, 9] (fun sv iv wr => ∃ i S : Nat, i ≤ m ∧ iv = .int .i64 (i : Nat) ∧ sv = .int .i64 (S : Nat) ∧ Hid (CntW wr W rs i S)) (fun _ iv _ => m - (intOf iv).toNat)
  case atStart => exact ⟨0, 0, Nat.zero_le _, rfl, rfl, HC0⟩
  case round =>
    clear HC0
    obtain ⟨i, S, hi, rfl, rfl, HC⟩ := hrel
    have hlen := HC.out.len
    by_cases hlt : i < m
    · obtain ⟨⟨s, e⟩, hr⟩ : ∃ r, rs[i]? = some r := ⟨_, List.getElem?_eq_getElem (by rw [HM.out]; exact hlt)⟩
      have HR := hide hr
      obtain ⟨b, off, rfl, hb, hc1, hc2⟩ := HA.out i s e hr
      have _c1 := (HC.out.bel.cell (p := ⟨b, off + i * 2, none⟩) hb).trans hc1
      have _c2 := (HC.out.bel.cell (p := ⟨b, off + i * 2 + 1, none⟩) hb).trans hc2
      have zi : (i : Int) < m := by omega
      have HB1 := hide (HC.out.bel.alloc HC.out.bel.size (.cells #[.int .i64 s, .int .i64 e] 99))
      have HBK := hide (fun q => below_drewN HB1.out q)
      have HBAD := hide (fun (h : ¬ okR (S : Int) (s, e)) w' (hb : Below W.heap.size W w') => HC.out.bad (w' := w') (s, e) HR.out h hb)
      have HX := hide (extras7 s)
      clear hr hc1 hc2
      by_cases s0 : s < 0
      · have HG := hide (HBAD.out (fun h => by have := h.1; dsimp only at this; omega))
        go_wp2
        go_ret2
        exact HG.out _ HB1.out
      · have ds0 : decide (s < 0) = false := decide_eq_false s0
        by_cases s18 : 18 < s
        · have HG := hide (HBAD.out (fun h => by have := h.2.1; dsimp only at this; omega))
          have ds18 : decide (18 < s) = true := decide_eq_true s18
          go_wp2
          go_ret2
          exact HG.out _ HB1.out
        · have ds18 : decide (18 < s) = false := decide_eq_false s18
          by_cases e0 : e < 0
          · have HG := hide (HBAD.out (fun h => by have := h.2.2.1; dsimp only at this; omega))
            have de0 : decide (e < 0) = true := decide_eq_true e0
            go_wp2
            go_quiet (fail)
            go_wp2
            go_ret2
            exact HG.out _ (HBK.out _)
          · have de0 : decide (e < 0) = false := decide_eq_false e0
            by_cases ex : (extN s : Int) ≤ e
            · have HG := hide (HBAD.out (fun h => by have := h.2.2.2.1; dsimp only at this; omega))
              have dex : decide ((extN s : Int) ≤ e) = true := decide_eq_true ex
              generalize extN s = X at HX ex dex
              go_wp2_with fail
              go_quiet ((go_at_call 95; exact Calls.quiet_of_same (HX.out _)))
              go_wp2
              go_ret2
              exact HG.out _ (HBK.out _)
            · have dex : decide ((extN s : Int) ≤ e) = false := decide_eq_false ex
              by_cases h16 : s = 16 ∧ S = 0
              · obtain ⟨rfl, rfl⟩ := h16
                have HG := hide (HBAD.out (fun h => h.2.2.2.2 ⟨rfl, rfl⟩))
                generalize extN 16 = X at HX ex dex
                go_wp2_with fail
                go_quiet ((go_at_call 95; exact Calls.quiet_of_same (HX.out _)))
                go_wp2
                go_ret2
                exact HG.out _ (HBK.out _)
              · have HOK := hide (show okR (S : Int) (s, e) from ⟨by dsimp only; omega, by dsimp only; omega, by dsimp only; omega, by dsimp only; omega, fun h => h16 ⟨h.1, by have := h.2; omega⟩⟩)
                have HT := HOK.out.times
                obtain ⟨T, hT⟩ : ∃ T : Nat, (leastN s : Int) + e = (T : Int) := ⟨(timesR (s, e)).toNat, by have := HT.1; dsimp only at this; omega⟩
                have HNX := hide (fun w' (hb : Below W.heap.size W w') => HC.out.next (w' := w') (s, e) HR.out HOK.out T hT hb)
                have HTM := hide (times7 s e (by omega) (by have := ex_range s; omega))
                rw [hT] at HTM
                have hT9 : T ≤ 138 := by have := HT.1; dsimp only at this; omega
                clear HT hT HOK HBAD
                generalize extN s = X at HX ex dex
                by_cases s16 : s = 16
                · subst s16
                  have hS0 : S ≠ 0 := fun h => h16 ⟨rfl, h⟩
                  have bS : ((S : Int) == 0) = false := by simp; exact hS0
                  go_wp2_with fail
                  go_quiet ((go_at_call 95; exact Calls.quiet_of_same (HX.out _)))
                  go_wp2_with fail
                  refine (HTM.out _).mono ?_
                  rintro r w2 ⟨rfl, b2⟩
                  have HN := hide (HNX.out w2 ((HBK.out _).trans (b2.mono (HBK.out _).size)))
                  clear b2
                  go_wp2
                  go_roundw
                  case rel => exact ⟨i + 1, S + T, hlt, by go_num, by go_num, HN⟩
                  case measure => exact meas_oneW i m hlt
                · have bs16 : (s == 16) = false := by simp; exact s16
                  go_wp2_with fail
                  go_quiet ((go_at_call 95; exact Calls.quiet_of_same (HX.out _)))
                  go_wp2_with fail
                  refine (HTM.out _).mono ?_
                  rintro r w2 ⟨rfl, b2⟩
                  have HN := hide (HNX.out w2 ((HBK.out _).trans (b2.mono (HBK.out _).size)))
                  clear b2
                  go_wp2
                  go_roundw
                  case rel => exact ⟨i + 1, S + T, hlt, by go_num, by go_num, HN⟩
                  case measure => exact meas_oneW i m hlt
    · have hie : i = m := by omega
      subst hie
      have HG := hide (show CntPost W rs (.returned (.tuple #[.int .i64 (S : Int), .bool true])) wr from cnt_some (by
        rw [HC.out.cnt, List.drop_of_length_le (by rw [HM.out]; exact Nat.le_refl _)]
        rfl) HC.out.bel)
      go_wp2
      go_ret2
      exact HG.out

theorem rep_more (out : List Int) (j : Nat) (x : Int) : (out ++ List.replicate j x) ++ [x] = out ++ List.replicate (j + 1) x := by
  rw [List.append_assoc, ← List.replicate_succ']
theorem last_rep (out : List Int) (T : Nat) (x : Int) (h : 1 ≤ T) : (out ++ List.replicate T x).getLastD 0 = x := by
  obtain ⟨k, rfl⟩ : ∃ k, T = k + 1 := ⟨T - 1, by omega⟩
  rw [← rep_more]
  simp
theorem made_own (w : World) (n : Nat) (B : Nat) (hB : B ≤ w.heap.size) (hn : n ≤ 276000) : (w.alloc (.cells (madeCells #[.int .i64 0] n) 3)).ownsRow B 3 1 (.slice (some ⟨w.heap.size, 0, none⟩) 0 n) 0 (intCs []) :=
  World.ownsRow_made w _ n hB (by unfold maxLen; omega) (by rw [size_madeCells]; omega)
/-- The lengths under way, all of them counted. -/
structure UnC (w W : World) (rs : List (Int × Int)) (n : Int) (i : Nat) (out : List Int) (v : Value) : Prop where
  un : UnW w W rs n i out v
  cnt : cntU (out.length : Int) (rs.drop i) = some n

set_option maxRecDepth 20000 in
set_option maxHeartbeats 8000000 in
theorem unfold7_any (rs : List (Int × Int)) (a : Option Addr) (cap : Nat) (n : Int) (W : World) (harg : ArgR W a rs) (hl : rs.length ≤ 2000) (_hn1 : -9223372036854775808 ≤ n) (_hn2 : n ≤ 9223372036854775807) :
    Calls Try.prog 88 #[.slice a rs.length cap, .int .i64 n] W fun e w' => UnPost W rs n e w' := by
  have HA := hide harg
  obtain ⟨m, hm⟩ : ∃ m, rs.length = m := ⟨_, rfl⟩
  have HM := hide hm
  rw [hm] at hl ⊢
  have HCT := hide (counted7 rs a m cap W hm harg hl)
  have HLS := hide (show ∀ c, cntU 0 rs = some c → 0 ≤ c ∧ c ≤ 138 * (rs.length : Int) from fun c hc => ⟨cnt_ge rs 0 c hc, by have := cntU_le rs 0 c hc; omega⟩)
  rw [hm] at HLS
  obtain ⟨i1, ki, kz0, kz1, kz2⟩ := info_parts Try.infoInt
  clear harg hm
  go_enter Try.func88, Try.ntmps88
  go_wp2_with fail
  refine HCT.out.mono ?_
  rintro e w1 ⟨rfl, b1⟩
  cases hcn : cntU 0 rs with
  | none =>
    have HG := hide (un_none (n := n) (un_no (by rw [hcn]; intro h; cases h)) b1)
    go_wp2
    go_ret2
    exact HG.out
  | some c =>
    by_cases ec : c = n
    · subst ec
      obtain ⟨N, rfl⟩ : ∃ N : Nat, c = (N : Int) := ⟨c.toNat, by have := (HLS.out c hcn).1; omega⟩
      have hN : N ≤ 276000 := by have := (HLS.out _ hcn).2; omega
      have HU0 := hide (show UnC (w1.alloc (.cells (madeCells #[.int .i64 0] N) 3)) W rs (N : Int) 0 [] (.slice (some ⟨w1.heap.size, 0, none⟩) 0 N) from ⟨⟨made_own w1 N _ b1.size hN, b1.alloc b1.size _, by rw [List.drop_zero], Nat.le_refl _, .inl rfl⟩, by rw [List.drop_zero]; exact hcn⟩)
      have hmk : ∀ w : World, (Instr.makeSlice 59 (.int .i64 0) (.int .i64 (N : Int))).run Try.prog w = .ok (.slice (some ⟨w.heap.size, 0, none⟩) 0 N) (w.alloc (.cells (madeCells #[.int .i64 0] N) 3)) := fun w => by
        have h := run_make (P := Try.prog) w 59 3 i1 (.int .i64 0) Try.underlying59 ki kz0 .i64 .i64 0 (N : Int) (Int.le_refl _) (by omega) (by rw [kz2]; omega) (by omega)
        rw [kz1, Int.toNat_zero, Int.toNat_natCast, Nat.mul_one] at h
        exact h
      clear hcn HLS HCT b1
      go_wp2
      go_loopw [8, 9, 28] (fun v lv iv wr => ∃ i : Nat, i ≤ m ∧ iv = .int .i64 (i : Nat) ∧ ∃ out z, lv = .int .i64 z ∧ Hid (out.getLastD 0 = z) ∧ Hid (UnC wr W rs (N : Int) i out v)) (fun _ _ iv _ => m - (intOf iv).toNat)
      case atStart => exact ⟨0, Nat.zero_le _, rfl, [], 0, rfl, hide rfl, HU0⟩
      case round =>
        clear HU0
        obtain ⟨i, hi, rfl, out, z, rfl, HZ, HU⟩ := hrel
        by_cases hlt : i < m
        · obtain ⟨⟨s, e⟩, hr⟩ : ∃ r, rs[i]? = some r := ⟨_, List.getElem?_eq_getElem (by rw [HM.out]; exact hlt)⟩
          have HR := hide hr
          obtain ⟨b, off, rfl, hb, hc1, hc2⟩ := HA.out i s e hr
          have _c1 := (HU.out.un.bel.cell (p := ⟨b, off + i * 2, none⟩) hb).trans hc1
          have _c2 := (HU.out.un.bel.cell (p := ⟨b, off + i * 2 + 1, none⟩) hb).trans hc2
          have zi : (i : Int) < m := by omega
          have HDR := hide (show rs.drop i = (s, e) :: rs.drop (i + 1) by
            obtain ⟨hi2, e2⟩ := List.getElem?_eq_some_iff.1 hr
            rw [List.drop_eq_getElem_cons hi2, e2])
          have hcr := cnt_run (show cntU (out.length : Int) ((s, e) :: rs.drop (i + 1)) = some (N : Int) by rw [← HDR.out]; exact HU.out.cnt)
          obtain ⟨hrb, hok, hcn⟩ := hcr
          have ht := hok.times
          obtain ⟨T, hT⟩ : ∃ T : Nat, (leastN s : Int) + e = (T : Int) := ⟨(timesR (s, e)).toNat, by have := ht.1; dsimp only at this; omega⟩
          have hT2 : timesR (s, e) = (T : Int) := by rw [ht.1]; exact hT
          have hT9 : 1 ≤ T ∧ T ≤ 138 := by omega
          have hlen := HU.out.un.len
          obtain ⟨x, hx⟩ : ∃ x, valR out s = x := ⟨_, rfl⟩
          have HX := hide hx
          have HNX := hide (fun w' v' (ho : w'.ownsRow W.heap.size 3 1 v' (out ++ List.replicate T x).length (intCs (out ++ List.replicate T x))) (hb : Below W.heap.size W w') => (show UnC w' W rs (N : Int) (i + 1) (out ++ List.replicate T x) v' from ⟨HU.out.un.next (w' := w') (v' := v') (s, e) HR.out hrb T (by rw [hT2]; exact Int.toNat_natCast T) x hx ho hb, by
            rw [List.length_append, List.length_replicate, Int.natCast_add, ← hT]
            exact hcn⟩))
          have HLR := hide (last_rep out T x hT9.1)
          have HTM := hide (times7 s e hok.2.2.1 (by have h4 := hok.2.2.2.1; dsimp only at h4; have := ex_range s; omega))
          rw [hT] at HTM
          have HOW := hide (HU.out.un.own)
          have HBL := hide (HU.out.un.bel)
          obtain ⟨L, hL⟩ : ∃ L, out.length = L := ⟨_, rfl⟩
          have HLL := hide hL
          rw [hL] at HOW hlen
          have hL9 : L ≤ 276000 := by omega
          clear hr hc1 hc2 hrb hcn ht hT hT2 hx HU hL hok HDR
          by_cases x16 : s = 16
          · subst x16
            have ez : x = z := by rw [← HX.out, vl16]; exact HZ.out
            subst ez
            have HAL := hide (HBL.out.alloc HBL.out.size (.cells #[.int .i64 16, .int .i64 e] 99))
            have HOA := hide (HOW.out.alloc (.cells #[.int .i64 16, .int .i64 e] 99))
            go_wp2_with fail
            refine (HTM.out _).mono ?_
            rintro r w2 ⟨rfl, b2⟩
            have HB2 := hide (HAL.out.trans (b2.mono HAL.out.size))
            have HO2 := hide (own_below HOA.out b2 (Nat.le_refl _))
            clear b2
            go_wp2
            rename World => wq
            go_loopw [8, 43] (fun v kv wt => ∃ j : Nat, j ≤ T ∧ kv = .int .i64 (j : Nat) ∧ Hid (wt.ownsRow W.heap.size 3 1 v (L + j) (intCs (out ++ List.replicate j x))) ∧ Hid (Below W.heap.size W wt)) (fun _ kv _ => T - (intOf kv).toNat)
            case atStart =>
              refine ⟨0, Nat.zero_le _, rfl, hide ?_, HB2⟩
              rw [Nat.add_zero, List.replicate_zero, List.append_nil]
              exact HO2.out
            case round =>
              obtain ⟨j, hj, rfl, HO, HB⟩ := hrel
              by_cases hjT : j < T
              · have zj : (j : Int) < T := by omega
                have HSN := hide (rep_more out j x)
                have X1 := hide (show L + j + 1 ≤ maxLen by unfold maxLen; omega)
                have X2 := hide (show (L + j + 1) * 8 ≤ 140737488355328 by omega)
                go_wp2_with (first
                  | (at_builtin; refine wpList_append_fresh _ rfl _ _ 59 rfl W.heap.size 3 i1 (.int .i64 0) 1 8 Try.underlying59 ki kz0 kz1 kz2 rfl (by decide) u8 _ _ rfl (HO.out.alloc _) ⟨wr.heap.size, 0, none⟩ 1 1 [.int .i64 x] rfl rfl (cell_one_new _ _ _) (one_int _) X1.out X2.out (size_alloc_le HB.out.size) ?_; intro v2 w3 o2 g2 _f2; have HB3 := hide (Below.grownB (HB.out.alloc HB.out.size _) g2 (HO.out.alloc _) (size_alloc_le HB.out.size)); rw [show [Value.int .i64 x] = intCs [x] from rfl, intCs_append, HSN.out, Nat.add_assoc] at o2; have HO3 := hide o2; clear o2 g2 _f2))
                go_roundw
                case rel => exact ⟨j + 1, hjT, by go_num, HO3, HB3⟩
                case measure => exact meas_oneW j T hjT
              · have hjT2 : j = T := by omega
                subst hjT2
                have HFIN := hide (HNX.out wr u8 (by rw [List.length_append, List.length_replicate, HLL.out]; exact HO.out) HB.out)
                go_wp2
                go_roundw
                case rel => exact ⟨i + 1, hlt, by go_num, _, x, rfl, HLR, HFIN⟩
                case measure => exact meas_oneW i m hlt
          · have b16 : (s == 16) = false := by simp; exact x16
            by_cases x17 : s = 17
            · subst x17
              have ez : x = 0 := by rw [← HX.out, vl17]
              subst ez
              have HAL := hide (HBL.out.alloc HBL.out.size (.cells #[.int .i64 17, .int .i64 e] 99))
              have HOA := hide (HOW.out.alloc (.cells #[.int .i64 17, .int .i64 e] 99))
              go_wp2_with fail
              refine (HTM.out _).mono ?_
              rintro r w2 ⟨rfl, b2⟩
              have HB2 := hide (HAL.out.trans (b2.mono HAL.out.size))
              have HO2 := hide (own_below HOA.out b2 (Nat.le_refl _))
              clear b2
              go_wp2
              rename World => wq
              go_loopw [8, 43] (fun v kv wt => ∃ j : Nat, j ≤ T ∧ kv = .int .i64 (j : Nat) ∧ Hid (wt.ownsRow W.heap.size 3 1 v (L + j) (intCs (out ++ List.replicate j 0))) ∧ Hid (Below W.heap.size W wt)) (fun _ kv _ => T - (intOf kv).toNat)
              case atStart =>
                refine ⟨0, Nat.zero_le _, rfl, hide ?_, HB2⟩
                rw [Nat.add_zero, List.replicate_zero, List.append_nil]
                exact HO2.out
              case round =>
                obtain ⟨j, hj, rfl, HO, HB⟩ := hrel
                by_cases hjT : j < T
                · have zj : (j : Int) < T := by omega
                  have HSN := hide (rep_more out j 0)
                  have X1 := hide (show L + j + 1 ≤ maxLen by unfold maxLen; omega)
                  have X2 := hide (show (L + j + 1) * 8 ≤ 140737488355328 by omega)
                  go_wp2_with (first
                    | (at_builtin; refine wpList_append_fresh _ rfl _ _ 59 rfl W.heap.size 3 i1 (.int .i64 0) 1 8 Try.underlying59 ki kz0 kz1 kz2 rfl (by decide) u8 _ _ rfl (HO.out.alloc _) ⟨wr.heap.size, 0, none⟩ 1 1 [.int .i64 0] rfl rfl (cell_one_new _ _ _) (one_int _) X1.out X2.out (size_alloc_le HB.out.size) ?_; intro v2 w3 o2 g2 _f2; have HB3 := hide (Below.grownB (HB.out.alloc HB.out.size _) g2 (HO.out.alloc _) (size_alloc_le HB.out.size)); rw [show [Value.int .i64 0] = intCs [0] from rfl, intCs_append, HSN.out, Nat.add_assoc] at o2; have HO3 := hide o2; clear o2 g2 _f2))
                  go_roundw
                  case rel => exact ⟨j + 1, hjT, by go_num, HO3, HB3⟩
                  case measure => exact meas_oneW j T hjT
                · have hjT2 : j = T := by omega
                  subst hjT2
                  have HFIN := hide (HNX.out wr u8 (by rw [List.length_append, List.length_replicate, HLL.out]; exact HO.out) HB.out)
                  go_wp2
                  go_roundw
                  case rel => exact ⟨i + 1, hlt, by go_num, _, 0, rfl, HLR, HFIN⟩
                  case measure => exact meas_oneW i m hlt
            · have b17 : (s == 17) = false := by simp; exact x17
              by_cases x18 : s = 18
              · subst x18
                have ez : x = 0 := by rw [← HX.out, vl18]
                subst ez
                have HAL := hide (HBL.out.alloc HBL.out.size (.cells #[.int .i64 18, .int .i64 e] 99))
                have HOA := hide (HOW.out.alloc (.cells #[.int .i64 18, .int .i64 e] 99))
                go_wp2_with fail
                refine (HTM.out _).mono ?_
                rintro r w2 ⟨rfl, b2⟩
                have HB2 := hide (HAL.out.trans (b2.mono HAL.out.size))
                have HO2 := hide (own_below HOA.out b2 (Nat.le_refl _))
                clear b2
                go_wp2
                rename World => wq
                go_loopw [8, 43] (fun v kv wt => ∃ j : Nat, j ≤ T ∧ kv = .int .i64 (j : Nat) ∧ Hid (wt.ownsRow W.heap.size 3 1 v (L + j) (intCs (out ++ List.replicate j 0))) ∧ Hid (Below W.heap.size W wt)) (fun _ kv _ => T - (intOf kv).toNat)
                case atStart =>
                  refine ⟨0, Nat.zero_le _, rfl, hide ?_, HB2⟩
                  rw [Nat.add_zero, List.replicate_zero, List.append_nil]
                  exact HO2.out
                case round =>
                  obtain ⟨j, hj, rfl, HO, HB⟩ := hrel
                  by_cases hjT : j < T
                  · have zj : (j : Int) < T := by omega
                    have HSN := hide (rep_more out j 0)
                    have X1 := hide (show L + j + 1 ≤ maxLen by unfold maxLen; omega)
                    have X2 := hide (show (L + j + 1) * 8 ≤ 140737488355328 by omega)
                    go_wp2_with (first
                      | (at_builtin; refine wpList_append_fresh _ rfl _ _ 59 rfl W.heap.size 3 i1 (.int .i64 0) 1 8 Try.underlying59 ki kz0 kz1 kz2 rfl (by decide) u8 _ _ rfl (HO.out.alloc _) ⟨wr.heap.size, 0, none⟩ 1 1 [.int .i64 0] rfl rfl (cell_one_new _ _ _) (one_int _) X1.out X2.out (size_alloc_le HB.out.size) ?_; intro v2 w3 o2 g2 _f2; have HB3 := hide (Below.grownB (HB.out.alloc HB.out.size _) g2 (HO.out.alloc _) (size_alloc_le HB.out.size)); rw [show [Value.int .i64 0] = intCs [0] from rfl, intCs_append, HSN.out, Nat.add_assoc] at o2; have HO3 := hide o2; clear o2 g2 _f2))
                    go_roundw
                    case rel => exact ⟨j + 1, hjT, by go_num, HO3, HB3⟩
                    case measure => exact meas_oneW j T hjT
                  · have hjT2 : j = T := by omega
                    subst hjT2
                    have HFIN := hide (HNX.out wr u8 (by rw [List.length_append, List.length_replicate, HLL.out]; exact HO.out) HB.out)
                    go_wp2
                    go_roundw
                    case rel => exact ⟨i + 1, hlt, by go_num, _, 0, rfl, HLR, HFIN⟩
                    case measure => exact meas_oneW i m hlt
              · have b18 : (s == 18) = false := by simp; exact x18
                have ez : x = s := by rw [← HX.out, (plain_run s x16 x17 x18).2.2]
                subst ez
                clear x16 x17 x18
                have HAL := hide (HBL.out.alloc HBL.out.size (.cells #[.int .i64 x, .int .i64 e] 99))
                have HOA := hide (HOW.out.alloc (.cells #[.int .i64 x, .int .i64 e] 99))
                go_wp2_with fail
                refine (HTM.out _).mono ?_
                rintro r w2 ⟨rfl, b2⟩
                have HB2 := hide (HAL.out.trans (b2.mono HAL.out.size))
                have HO2 := hide (own_below HOA.out b2 (Nat.le_refl _))
                clear b2
                go_wp2
                rename World => wq
                go_loopw [8, 43] (fun v kv wt => ∃ j : Nat, j ≤ T ∧ kv = .int .i64 (j : Nat) ∧ Hid (wt.ownsRow W.heap.size 3 1 v (L + j) (intCs (out ++ List.replicate j x))) ∧ Hid (Below W.heap.size W wt)) (fun _ kv _ => T - (intOf kv).toNat)
                case atStart =>
                  refine ⟨0, Nat.zero_le _, rfl, hide ?_, HB2⟩
                  rw [Nat.add_zero, List.replicate_zero, List.append_nil]
                  exact HO2.out
                case round =>
                  obtain ⟨j, hj, rfl, HO, HB⟩ := hrel
                  by_cases hjT : j < T
                  · have zj : (j : Int) < T := by omega
                    have HSN := hide (rep_more out j x)
                    have X1 := hide (show L + j + 1 ≤ maxLen by unfold maxLen; omega)
                    have X2 := hide (show (L + j + 1) * 8 ≤ 140737488355328 by omega)
                    go_wp2_with (first
                      | (at_builtin; refine wpList_append_fresh _ rfl _ _ 59 rfl W.heap.size 3 i1 (.int .i64 0) 1 8 Try.underlying59 ki kz0 kz1 kz2 rfl (by decide) u8 _ _ rfl (HO.out.alloc _) ⟨wr.heap.size, 0, none⟩ 1 1 [.int .i64 x] rfl rfl (cell_one_new _ _ _) (one_int _) X1.out X2.out (size_alloc_le HB.out.size) ?_; intro v2 w3 o2 g2 _f2; have HB3 := hide (Below.grownB (HB.out.alloc HB.out.size _) g2 (HO.out.alloc _) (size_alloc_le HB.out.size)); rw [show [Value.int .i64 x] = intCs [x] from rfl, intCs_append, HSN.out, Nat.add_assoc] at o2; have HO3 := hide o2; clear o2 g2 _f2))
                    go_roundw
                    case rel => exact ⟨j + 1, hjT, by go_num, HO3, HB3⟩
                    case measure => exact meas_oneW j T hjT
                  · have hjT2 : j = T := by omega
                    subst hjT2
                    have HFIN := hide (HNX.out wr u8 (by rw [List.length_append, List.length_replicate, HLL.out]; exact HO.out) HB.out)
                    go_wp2
                    go_roundw
                    case rel => exact ⟨i + 1, hlt, by go_num, _, x, rfl, HLR, HFIN⟩
                    case measure => exact meas_oneW i m hlt
        · have hie : i = m := by omega
          subst hie
          have HD := hide (show unF (N : Int) [] rs = some out by
            have h := HU.out.un.un
            rw [List.drop_of_length_le (by rw [HM.out]; exact Nat.le_refl _)] at h
            have h2 := HU.out.cnt
            rw [List.drop_of_length_le (by rw [HM.out]; exact Nat.le_refl _)] at h2
            injection h2 with h2
            rw [h]
            exact if_pos h2)
          have HG := hide (un_some HD.out HU.out.un.own HU.out.un.bel)
          go_wp2
          go_ret2
          exact HG.out
    · have bc : (c == n) = false := by simp; exact ec
      have HG := hide (un_none (n := n) (un_no (by rw [hcn]; intro h; injection h with h; exact ec h)) b1)
      go_wp2
      go_ret2
      exact HG.out

end Go.Proofs.Ytaalbaiglkadlaa

/- The program's Unfold of layer 7, with the row that it gives. -/
namespace Go.Proofs.Ytaalbaiglkadlaa
open Go.RowKit Go.Lib

/-- What unfolding gives: a row of its own. -/
def UnRow (W : World) (rs : List (Int × Int)) (n : Int) (e : Ending) (w' : World) : Prop := Below W.heap.size W w' ∧
  ((unF n [] rs = none ∧ e = .returned (.tuple #[.slice none 0 0, .bool false])) ∨
   (∃ out v, unF n [] rs = some out ∧ e = .returned (.tuple #[v, .bool true]) ∧ w'.ownsRow W.heap.size 3 1 v out.length (intCs out)))
theorem unrow_none {W w : World} {rs : List (Int × Int)} {n : Int} (h : unF n [] rs = none) (b : Below W.heap.size W w) : UnRow W rs n (.returned (.tuple #[.slice none 0 0, .bool false])) w := ⟨b, .inl ⟨h, rfl⟩⟩
theorem unrow_some {W w : World} {rs : List (Int × Int)} {n : Int} {out : List Int} {v : Value} (h : unF n [] rs = some out) (ho : w.ownsRow W.heap.size 3 1 v out.length (intCs out)) (b : Below W.heap.size W w) : UnRow W rs n (.returned (.tuple #[v, .bool true])) w := ⟨b, .inr ⟨out, v, h, rfl, ho⟩⟩

set_option maxRecDepth 20000 in
set_option maxHeartbeats 8000000 in
theorem unfold7_row (rs : List (Int × Int)) (a : Option Addr) (cap : Nat) (n : Int) (W : World) (harg : ArgR W a rs) (hl : rs.length ≤ 2000) (_hn1 : -9223372036854775808 ≤ n) (_hn2 : n ≤ 9223372036854775807) :
    Calls Try.prog 88 #[.slice a rs.length cap, .int .i64 n] W fun e w' => UnRow W rs n e w' := by
  have HA := hide harg
  obtain ⟨m, hm⟩ : ∃ m, rs.length = m := ⟨_, rfl⟩
  have HM := hide hm
  rw [hm] at hl ⊢
  have HCT := hide (counted7 rs a m cap W hm harg hl)
  have HLS := hide (show ∀ c, cntU 0 rs = some c → 0 ≤ c ∧ c ≤ 138 * (rs.length : Int) from fun c hc => ⟨cnt_ge rs 0 c hc, by have := cntU_le rs 0 c hc; omega⟩)
  rw [hm] at HLS
  obtain ⟨i1, ki, kz0, kz1, kz2⟩ := info_parts Try.infoInt
  clear harg hm
  go_enter Try.func88, Try.ntmps88
  go_wp2_with fail
  refine HCT.out.mono ?_
  rintro e w1 ⟨rfl, b1⟩
  cases hcn : cntU 0 rs with
  | none =>
    have HG := hide (unrow_none (n := n) (un_no (by rw [hcn]; intro h; cases h)) b1)
    go_wp2
    go_ret2
    exact HG.out
  | some c =>
    by_cases ec : c = n
    · subst ec
      obtain ⟨N, rfl⟩ : ∃ N : Nat, c = (N : Int) := ⟨c.toNat, by have := (HLS.out c hcn).1; omega⟩
      have hN : N ≤ 276000 := by have := (HLS.out _ hcn).2; omega
      have HU0 := hide (show UnC (w1.alloc (.cells (madeCells #[.int .i64 0] N) 3)) W rs (N : Int) 0 [] (.slice (some ⟨w1.heap.size, 0, none⟩) 0 N) from ⟨⟨made_own w1 N _ b1.size hN, b1.alloc b1.size _, by rw [List.drop_zero], Nat.le_refl _, .inl rfl⟩, by rw [List.drop_zero]; exact hcn⟩)
      have hmk : ∀ w : World, (Instr.makeSlice 59 (.int .i64 0) (.int .i64 (N : Int))).run Try.prog w = .ok (.slice (some ⟨w.heap.size, 0, none⟩) 0 N) (w.alloc (.cells (madeCells #[.int .i64 0] N) 3)) := fun w => by
        have h := run_make (P := Try.prog) w 59 3 i1 (.int .i64 0) Try.underlying59 ki kz0 .i64 .i64 0 (N : Int) (Int.le_refl _) (by omega) (by rw [kz2]; omega) (by omega)
        rw [kz1, Int.toNat_zero, Int.toNat_natCast, Nat.mul_one] at h
        exact h
      clear hcn HLS HCT b1
      go_wp2
      go_loopw [8, 9, 28] (fun v lv iv wr => ∃ i : Nat, i ≤ m ∧ iv = .int .i64 (i : Nat) ∧ ∃ out z, lv = .int .i64 z ∧ Hid (out.getLastD 0 = z) ∧ Hid (UnC wr W rs (N : Int) i out v)) (fun _ _ iv _ => m - (intOf iv).toNat)
      case atStart => exact ⟨0, Nat.zero_le _, rfl, [], 0, rfl, hide rfl, HU0⟩
      case round =>
        clear HU0
        obtain ⟨i, hi, rfl, out, z, rfl, HZ, HU⟩ := hrel
        by_cases hlt : i < m
        · obtain ⟨⟨s, e⟩, hr⟩ : ∃ r, rs[i]? = some r := ⟨_, List.getElem?_eq_getElem (by rw [HM.out]; exact hlt)⟩
          have HR := hide hr
          obtain ⟨b, off, rfl, hb, hc1, hc2⟩ := HA.out i s e hr
          have _c1 := (HU.out.un.bel.cell (p := ⟨b, off + i * 2, none⟩) hb).trans hc1
          have _c2 := (HU.out.un.bel.cell (p := ⟨b, off + i * 2 + 1, none⟩) hb).trans hc2
          have zi : (i : Int) < m := by omega
          have HDR := hide (show rs.drop i = (s, e) :: rs.drop (i + 1) by
            obtain ⟨hi2, e2⟩ := List.getElem?_eq_some_iff.1 hr
            rw [List.drop_eq_getElem_cons hi2, e2])
          have hcr := cnt_run (show cntU (out.length : Int) ((s, e) :: rs.drop (i + 1)) = some (N : Int) by rw [← HDR.out]; exact HU.out.cnt)
          obtain ⟨hrb, hok, hcn⟩ := hcr
          have ht := hok.times
          obtain ⟨T, hT⟩ : ∃ T : Nat, (leastN s : Int) + e = (T : Int) := ⟨(timesR (s, e)).toNat, by have := ht.1; dsimp only at this; omega⟩
          have hT2 : timesR (s, e) = (T : Int) := by rw [ht.1]; exact hT
          have hT9 : 1 ≤ T ∧ T ≤ 138 := by omega
          have hlen := HU.out.un.len
          obtain ⟨x, hx⟩ : ∃ x, valR out s = x := ⟨_, rfl⟩
          have HX := hide hx
          have HNX := hide (fun w' v' (ho : w'.ownsRow W.heap.size 3 1 v' (out ++ List.replicate T x).length (intCs (out ++ List.replicate T x))) (hb : Below W.heap.size W w') => (show UnC w' W rs (N : Int) (i + 1) (out ++ List.replicate T x) v' from ⟨HU.out.un.next (w' := w') (v' := v') (s, e) HR.out hrb T (by rw [hT2]; exact Int.toNat_natCast T) x hx ho hb, by
            rw [List.length_append, List.length_replicate, Int.natCast_add, ← hT]
            exact hcn⟩))
          have HLR := hide (last_rep out T x hT9.1)
          have HTM := hide (times7 s e hok.2.2.1 (by have h4 := hok.2.2.2.1; dsimp only at h4; have := ex_range s; omega))
          rw [hT] at HTM
          have HOW := hide (HU.out.un.own)
          have HBL := hide (HU.out.un.bel)
          obtain ⟨L, hL⟩ : ∃ L, out.length = L := ⟨_, rfl⟩
          have HLL := hide hL
          rw [hL] at HOW hlen
          have hL9 : L ≤ 276000 := by omega
          clear hr hc1 hc2 hrb hcn ht hT hT2 hx HU hL hok HDR
          by_cases x16 : s = 16
          · subst x16
            have ez : x = z := by rw [← HX.out, vl16]; exact HZ.out
            subst ez
            have HAL := hide (HBL.out.alloc HBL.out.size (.cells #[.int .i64 16, .int .i64 e] 99))
            have HOA := hide (HOW.out.alloc (.cells #[.int .i64 16, .int .i64 e] 99))
            go_wp2_with fail
            refine (HTM.out _).mono ?_
            rintro r w2 ⟨rfl, b2⟩
            have HB2 := hide (HAL.out.trans (b2.mono HAL.out.size))
            have HO2 := hide (own_below HOA.out b2 (Nat.le_refl _))
            clear b2
            go_wp2
            rename World => wq
            go_loopw [8, 43] (fun v kv wt => ∃ j : Nat, j ≤ T ∧ kv = .int .i64 (j : Nat) ∧ Hid (wt.ownsRow W.heap.size 3 1 v (L + j) (intCs (out ++ List.replicate j x))) ∧ Hid (Below W.heap.size W wt)) (fun _ kv _ => T - (intOf kv).toNat)
            case atStart =>
              refine ⟨0, Nat.zero_le _, rfl, hide ?_, HB2⟩
              rw [Nat.add_zero, List.replicate_zero, List.append_nil]
              exact HO2.out
            case round =>
              obtain ⟨j, hj, rfl, HO, HB⟩ := hrel
              by_cases hjT : j < T
              · have zj : (j : Int) < T := by omega
                have HSN := hide (rep_more out j x)
                have X1 := hide (show L + j + 1 ≤ maxLen by unfold maxLen; omega)
                have X2 := hide (show (L + j + 1) * 8 ≤ 140737488355328 by omega)
                go_wp2_with (first
                  | (at_builtin; refine wpList_append_fresh _ rfl _ _ 59 rfl W.heap.size 3 i1 (.int .i64 0) 1 8 Try.underlying59 ki kz0 kz1 kz2 rfl (by decide) u8 _ _ rfl (HO.out.alloc _) ⟨wr.heap.size, 0, none⟩ 1 1 [.int .i64 x] rfl rfl (cell_one_new _ _ _) (one_int _) X1.out X2.out (size_alloc_le HB.out.size) ?_; intro v2 w3 o2 g2 _f2; have HB3 := hide (Below.grownB (HB.out.alloc HB.out.size _) g2 (HO.out.alloc _) (size_alloc_le HB.out.size)); rw [show [Value.int .i64 x] = intCs [x] from rfl, intCs_append, HSN.out, Nat.add_assoc] at o2; have HO3 := hide o2; clear o2 g2 _f2))
                go_roundw
                case rel => exact ⟨j + 1, hjT, by go_num, HO3, HB3⟩
                case measure => exact meas_oneW j T hjT
              · have hjT2 : j = T := by omega
                subst hjT2
                have HFIN := hide (HNX.out wr u8 (by rw [List.length_append, List.length_replicate, HLL.out]; exact HO.out) HB.out)
                go_wp2
                go_roundw
                case rel => exact ⟨i + 1, hlt, by go_num, _, x, rfl, HLR, HFIN⟩
                case measure => exact meas_oneW i m hlt
          · have b16 : (s == 16) = false := by simp; exact x16
            by_cases x17 : s = 17
            · subst x17
              have ez : x = 0 := by rw [← HX.out, vl17]
              subst ez
              have HAL := hide (HBL.out.alloc HBL.out.size (.cells #[.int .i64 17, .int .i64 e] 99))
              have HOA := hide (HOW.out.alloc (.cells #[.int .i64 17, .int .i64 e] 99))
              go_wp2_with fail
              refine (HTM.out _).mono ?_
              rintro r w2 ⟨rfl, b2⟩
              have HB2 := hide (HAL.out.trans (b2.mono HAL.out.size))
              have HO2 := hide (own_below HOA.out b2 (Nat.le_refl _))
              clear b2
              go_wp2
              rename World => wq
              go_loopw [8, 43] (fun v kv wt => ∃ j : Nat, j ≤ T ∧ kv = .int .i64 (j : Nat) ∧ Hid (wt.ownsRow W.heap.size 3 1 v (L + j) (intCs (out ++ List.replicate j 0))) ∧ Hid (Below W.heap.size W wt)) (fun _ kv _ => T - (intOf kv).toNat)
              case atStart =>
                refine ⟨0, Nat.zero_le _, rfl, hide ?_, HB2⟩
                rw [Nat.add_zero, List.replicate_zero, List.append_nil]
                exact HO2.out
              case round =>
                obtain ⟨j, hj, rfl, HO, HB⟩ := hrel
                by_cases hjT : j < T
                · have zj : (j : Int) < T := by omega
                  have HSN := hide (rep_more out j 0)
                  have X1 := hide (show L + j + 1 ≤ maxLen by unfold maxLen; omega)
                  have X2 := hide (show (L + j + 1) * 8 ≤ 140737488355328 by omega)
                  go_wp2_with (first
                    | (at_builtin; refine wpList_append_fresh _ rfl _ _ 59 rfl W.heap.size 3 i1 (.int .i64 0) 1 8 Try.underlying59 ki kz0 kz1 kz2 rfl (by decide) u8 _ _ rfl (HO.out.alloc _) ⟨wr.heap.size, 0, none⟩ 1 1 [.int .i64 0] rfl rfl (cell_one_new _ _ _) (one_int _) X1.out X2.out (size_alloc_le HB.out.size) ?_; intro v2 w3 o2 g2 _f2; have HB3 := hide (Below.grownB (HB.out.alloc HB.out.size _) g2 (HO.out.alloc _) (size_alloc_le HB.out.size)); rw [show [Value.int .i64 0] = intCs [0] from rfl, intCs_append, HSN.out, Nat.add_assoc] at o2; have HO3 := hide o2; clear o2 g2 _f2))
                  go_roundw
                  case rel => exact ⟨j + 1, hjT, by go_num, HO3, HB3⟩
                  case measure => exact meas_oneW j T hjT
                · have hjT2 : j = T := by omega
                  subst hjT2
                  have HFIN := hide (HNX.out wr u8 (by rw [List.length_append, List.length_replicate, HLL.out]; exact HO.out) HB.out)
                  go_wp2
                  go_roundw
                  case rel => exact ⟨i + 1, hlt, by go_num, _, 0, rfl, HLR, HFIN⟩
                  case measure => exact meas_oneW i m hlt
            · have b17 : (s == 17) = false := by simp; exact x17
              by_cases x18 : s = 18
              · subst x18
                have ez : x = 0 := by rw [← HX.out, vl18]
                subst ez
                have HAL := hide (HBL.out.alloc HBL.out.size (.cells #[.int .i64 18, .int .i64 e] 99))
                have HOA := hide (HOW.out.alloc (.cells #[.int .i64 18, .int .i64 e] 99))
                go_wp2_with fail
                refine (HTM.out _).mono ?_
                rintro r w2 ⟨rfl, b2⟩
                have HB2 := hide (HAL.out.trans (b2.mono HAL.out.size))
                have HO2 := hide (own_below HOA.out b2 (Nat.le_refl _))
                clear b2
                go_wp2
                rename World => wq
                go_loopw [8, 43] (fun v kv wt => ∃ j : Nat, j ≤ T ∧ kv = .int .i64 (j : Nat) ∧ Hid (wt.ownsRow W.heap.size 3 1 v (L + j) (intCs (out ++ List.replicate j 0))) ∧ Hid (Below W.heap.size W wt)) (fun _ kv _ => T - (intOf kv).toNat)
                case atStart =>
                  refine ⟨0, Nat.zero_le _, rfl, hide ?_, HB2⟩
                  rw [Nat.add_zero, List.replicate_zero, List.append_nil]
                  exact HO2.out
                case round =>
                  obtain ⟨j, hj, rfl, HO, HB⟩ := hrel
                  by_cases hjT : j < T
                  · have zj : (j : Int) < T := by omega
                    have HSN := hide (rep_more out j 0)
                    have X1 := hide (show L + j + 1 ≤ maxLen by unfold maxLen; omega)
                    have X2 := hide (show (L + j + 1) * 8 ≤ 140737488355328 by omega)
                    go_wp2_with (first
                      | (at_builtin; refine wpList_append_fresh _ rfl _ _ 59 rfl W.heap.size 3 i1 (.int .i64 0) 1 8 Try.underlying59 ki kz0 kz1 kz2 rfl (by decide) u8 _ _ rfl (HO.out.alloc _) ⟨wr.heap.size, 0, none⟩ 1 1 [.int .i64 0] rfl rfl (cell_one_new _ _ _) (one_int _) X1.out X2.out (size_alloc_le HB.out.size) ?_; intro v2 w3 o2 g2 _f2; have HB3 := hide (Below.grownB (HB.out.alloc HB.out.size _) g2 (HO.out.alloc _) (size_alloc_le HB.out.size)); rw [show [Value.int .i64 0] = intCs [0] from rfl, intCs_append, HSN.out, Nat.add_assoc] at o2; have HO3 := hide o2; clear o2 g2 _f2))
                    go_roundw
                    case rel => exact ⟨j + 1, hjT, by go_num, HO3, HB3⟩
                    case measure => exact meas_oneW j T hjT
                  · have hjT2 : j = T := by omega
                    subst hjT2
                    have HFIN := hide (HNX.out wr u8 (by rw [List.length_append, List.length_replicate, HLL.out]; exact HO.out) HB.out)
                    go_wp2
                    go_roundw
                    case rel => exact ⟨i + 1, hlt, by go_num, _, 0, rfl, HLR, HFIN⟩
                    case measure => exact meas_oneW i m hlt
              · have b18 : (s == 18) = false := by simp; exact x18
                have ez : x = s := by rw [← HX.out, (plain_run s x16 x17 x18).2.2]
                subst ez
                clear x16 x17 x18
                have HAL := hide (HBL.out.alloc HBL.out.size (.cells #[.int .i64 x, .int .i64 e] 99))
                have HOA := hide (HOW.out.alloc (.cells #[.int .i64 x, .int .i64 e] 99))
                go_wp2_with fail
                refine (HTM.out _).mono ?_
                rintro r w2 ⟨rfl, b2⟩
                have HB2 := hide (HAL.out.trans (b2.mono HAL.out.size))
                have HO2 := hide (own_below HOA.out b2 (Nat.le_refl _))
                clear b2
                go_wp2
                rename World => wq
                go_loopw [8, 43] (fun v kv wt => ∃ j : Nat, j ≤ T ∧ kv = .int .i64 (j : Nat) ∧ Hid (wt.ownsRow W.heap.size 3 1 v (L + j) (intCs (out ++ List.replicate j x))) ∧ Hid (Below W.heap.size W wt)) (fun _ kv _ => T - (intOf kv).toNat)
                case atStart =>
                  refine ⟨0, Nat.zero_le _, rfl, hide ?_, HB2⟩
                  rw [Nat.add_zero, List.replicate_zero, List.append_nil]
                  exact HO2.out
                case round =>
                  obtain ⟨j, hj, rfl, HO, HB⟩ := hrel
                  by_cases hjT : j < T
                  · have zj : (j : Int) < T := by omega
                    have HSN := hide (rep_more out j x)
                    have X1 := hide (show L + j + 1 ≤ maxLen by unfold maxLen; omega)
                    have X2 := hide (show (L + j + 1) * 8 ≤ 140737488355328 by omega)
                    go_wp2_with (first
                      | (at_builtin; refine wpList_append_fresh _ rfl _ _ 59 rfl W.heap.size 3 i1 (.int .i64 0) 1 8 Try.underlying59 ki kz0 kz1 kz2 rfl (by decide) u8 _ _ rfl (HO.out.alloc _) ⟨wr.heap.size, 0, none⟩ 1 1 [.int .i64 x] rfl rfl (cell_one_new _ _ _) (one_int _) X1.out X2.out (size_alloc_le HB.out.size) ?_; intro v2 w3 o2 g2 _f2; have HB3 := hide (Below.grownB (HB.out.alloc HB.out.size _) g2 (HO.out.alloc _) (size_alloc_le HB.out.size)); rw [show [Value.int .i64 x] = intCs [x] from rfl, intCs_append, HSN.out, Nat.add_assoc] at o2; have HO3 := hide o2; clear o2 g2 _f2))
                    go_roundw
                    case rel => exact ⟨j + 1, hjT, by go_num, HO3, HB3⟩
                    case measure => exact meas_oneW j T hjT
                  · have hjT2 : j = T := by omega
                    subst hjT2
                    have HFIN := hide (HNX.out wr u8 (by rw [List.length_append, List.length_replicate, HLL.out]; exact HO.out) HB.out)
                    go_wp2
                    go_roundw
                    case rel => exact ⟨i + 1, hlt, by go_num, _, x, rfl, HLR, HFIN⟩
                    case measure => exact meas_oneW i m hlt
        · have hie : i = m := by omega
          subst hie
          have HD := hide (show unF (N : Int) [] rs = some out by
            have h := HU.out.un.un
            rw [List.drop_of_length_le (by rw [HM.out]; exact Nat.le_refl _)] at h
            have h2 := HU.out.cnt
            rw [List.drop_of_length_le (by rw [HM.out]; exact Nat.le_refl _)] at h2
            injection h2 with h2
            rw [h]
            exact if_pos h2)
          have HG := hide (unrow_some HD.out HU.out.un.own HU.out.un.bel)
          go_wp2
          go_ret2
          exact HG.out
    · have bc : (c == n) = false := by simp; exact ec
      have HG := hide (unrow_none (n := n) (un_no (by rw [hcn]; intro h; injection h with h; exact ec h)) b1)
      go_wp2
      go_ret2
      exact HG.out

end Go.Proofs.Ytaalbaiglkadlaa
