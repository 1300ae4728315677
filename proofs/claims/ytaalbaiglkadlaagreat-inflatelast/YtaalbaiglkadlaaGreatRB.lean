import Derived.Test.YtaalbaiglkadlaaGreatRA
import Derived.Test.YtaalbaiglkadlaaGreatWB
/- Contract of the document's 'Unfold' of layer 7. -/
namespace Go.Proofs.YtaalbaiglkadlaaGreat
open Go.RowKit Go.Lib

/-- What an unfolding gives. -/
def UnPost (W : World) (rs : List (Int × Int)) (n : Int) (e : Ending) (w' : World) : Prop := ∃ a c, e = .returned (.tuple #[.slice a (unO rs n).length c, .bool (unB rs n)]) ∧ ArgZ w' a (unO rs n) ∧ (a = none → c = 0) ∧ Below W.heap.size W w'

theorem un_none {W w : World} {rs : List (Int × Int)} {n : Int} (h : unF n [] rs = none) (b : Below W.heap.size W w) : UnPost W rs n (.returned (.tuple #[.slice none 0 0, .bool false])) w := by
  have h1 : unO rs n = [] := by unfold unO; rw [h]; rfl
  have h2 : unB rs n = false := by unfold unB; rw [h]; rfl
  refine ⟨none, 0, by rw [h1, h2]; rfl, ?_, fun _ => rfl, b⟩
  rw [h1]
  intro i x hx
  simp at hx
theorem un_some {W w : World} {rs : List (Int × Int)} {n : Int} {out : List Int} {v : Value} (h : unF n [] rs = some out) (ho : w.ownsRow W.heap.size 3 1 v out.length (intCs out)) (b : Below W.heap.size W w) : UnPost W rs n (.returned (.tuple #[v, .bool true])) w := by
  have h1 : unO rs n = out := by unfold unO; rw [h]; rfl
  have h2 : unB rs n = true := by unfold unB; rw [h]; rfl
  obtain ⟨a, c, e, g1, g2⟩ := own_argI ho rfl
  exact ⟨a, c, by rw [h1, h2, e], by rw [h1]; exact g1, fun e => (g2 e).2, b⟩

/-- The lengths under way. -/
structure UnW (w W : World) (rs : List (Int × Int)) (n : Int) (i : Nat) (out : List Int) (v : Value) : Prop where
  own : w.ownsRow W.heap.size 3 1 v out.length (intCs out)
  bel : Below W.heap.size W w
  un : unF n [] rs = unF n out (rs.drop i)
  len : out.length ≤ 138 * i
  room : out = [] ∨ (out.length : Int) ≤ n

theorem UnW.bad {w w' W : World} {rs : List (Int × Int)} {n : Int} {i : Nat} {out : List Int} {v : Value} (h : UnW w W rs n i out v) (r : Int × Int) (hr : rs[i]? = some r) (hb : runB n out r = false) (b : Below W.heap.size W w') : UnPost W rs n (.returned (.tuple #[.slice none 0 0, .bool false])) w' := by
  refine un_none ?_ b
  obtain ⟨hi, e⟩ := List.getElem?_eq_some_iff.1 hr
  rw [h.un, List.drop_eq_getElem_cons hi, e]
  show (if runB n out r = true then _ else none) = none
  rw [hb]
  rfl
theorem runB_false (n : Int) (out : List Int) (r : Int × Int) (h : ¬ (¬ (r.1 = 16 ∧ out = []) ∧ 0 ≤ r.1 ∧ r.1 ≤ 18 ∧ 0 ≤ r.2 ∧ r.2 < ((2 ^ xBits r.1 : Nat) : Int) ∧ timesR r ≤ n - (out.length : Int))) : runB n out r = false := by
  cases hb : runB n out r with
  | false => rfl
  | true => exact absurd ((runB_iff n out r).1 hb) h
/-- Behind a run that may be. -/
theorem UnW.next {w w' W : World} {rs : List (Int × Int)} {n : Int} {i : Nat} {out : List Int} {v v' : Value} (h : UnW w W rs n i out v) (r : Int × Int) (hr : rs[i]? = some r) (hb : runB n out r = true) (k : Nat) (hk : (timesR r).toNat = k) (x : Int) (hx : valR out r.1 = x)
    (ho : w'.ownsRow W.heap.size 3 1 v' (out ++ List.replicate k x).length (intCs (out ++ List.replicate k x))) (b : Below W.heap.size W w') : UnW w' W rs n (i + 1) (out ++ List.replicate k x) v' := by
  obtain ⟨hi, e⟩ := List.getElem?_eq_some_iff.1 hr
  obtain ⟨g1, g2, g3, g4, g5, g6⟩ := (runB_iff n out r).1 hb
  have h138 : k ≤ 138 := by
    have hx : xBits r.1 ≤ 7 := by unfold xBits; split; · omega
                                  split; · omega
                                  split; · omega
                                  omega
    have hp : (2 : Nat) ^ xBits r.1 ≤ 2 ^ 7 := Nat.pow_le_pow_right (by decide) hx
    rw [← hk]
    unfold timesR
    split; · rename_i e2; rw [e2, xb16] at g5; omega
    split; · rename_i e2; rw [e2, xb17] at g5; omega
    split; · omega
    omega
  refine ⟨ho, b, ?_, ?_, .inr ?_⟩
  · rw [h.un, List.drop_eq_getElem_cons hi, e]
    show (if runB n out r = true then unF n (out ++ List.replicate (timesR r).toNat (valR out r.1)) _ else none) = _
    rw [if_pos hb, hk, hx]
  · rw [List.length_append, List.length_replicate]
    have := h.len
    omega
  · rw [List.length_append, List.length_replicate]
    have : timesR r ≤ (k : Int) ∨ True := .inr trivial
    have h0 : 0 ≤ timesR r := by
      unfold timesR
      split; · omega
      split; · omega
      split; · omega
      omega
    omega

theorem wrap_less (n : Int) (L : Nat) (h1 : -9223372036854775808 ≤ n) (h2 : n ≤ 9223372036854775807) (h : L = 0 ∨ (L : Int) ≤ n) : IntKind.i64.wrap (n - (L : Int)) = n - (L : Int) ∧ wrap64 (n - (L : Int)) = n - (L : Int) := by
  constructor
  · rw [IntKind.wrap_i64]; omega
  · unfold wrap64; omega

theorem UnW.alloc {w W : World} {rs : List (Int × Int)} {n : Int} {i : Nat} {out : List Int} {v : Value} (h : UnW w W rs n i out v) (o : Obj) : UnW (w.alloc o) W rs n i out v :=
  ⟨h.own.alloc o, h.bel.alloc h.bel.size o, h.un, h.len, h.room⟩
theorem UnW.drewN {w W : World} {rs : List (Int × Int)} {n : Int} {i : Nat} {out : List Int} {v : Value} (h : UnW w W rs n i out v) (k : Nat) : UnW (w.drewN k) W rs n i out v :=
  ⟨own_below h.own (below_drewN (Below.refl w.heap.size w) k) (Nat.le_refl _), below_drewN h.bel k, h.un, h.len, h.room⟩
theorem last_at (out : List Int) (h : out ≠ []) : out[out.length - 1]? = some (out.getLastD 0) := by
  obtain ⟨o, x, rfl⟩ : ∃ o x, out = o ++ [x] := ⟨out.dropLast, out.getLast h, (List.dropLast_concat_getLast h).symm⟩
  simp
theorem rep_snoc (out : List Int) (k j : Nat) (x : Int) (h : j < k) : (out ++ List.replicate (k - (j + 1)) x) ++ [x] = out ++ List.replicate (k - j) x := by
  rw [List.append_assoc, ← List.replicate_succ', show k - (j + 1) + 1 = k - j by omega]

end Go.Proofs.YtaalbaiglkadlaaGreat

/- Like runs, and like numbers, are told to be: the document's 'Same' of layer 7, and the statements' 'same'. -/
namespace Go.Proofs.YtaalbaiglkadlaaGreat
open Go.RowKit Go.Lib

end Go.Proofs.YtaalbaiglkadlaaGreat

/- Contracts of the code of layer 7: Bits, Order, least, extras, times, run, row. -/
namespace Go.Proofs.YtaalbaiglkadlaaGreat
open Go.RowKit Go.Lib

/-- For how many lengths a symbol stands at least. -/
def leastN (s : Int) : Nat := if s = 16 then 3 else if s = 17 then 3 else if s = 18 then 11 else 1
theorem ls16 : leastN 16 = 3 := by decide
theorem ls17 : leastN 17 = 3 := by decide
theorem ls18 : leastN 18 = 11 := by decide
theorem ls_plain (s : Int) (h : s ≠ 16) (h2 : s ≠ 17) (h3 : s ≠ 18) : leastN s = 1 := by unfold leastN; rw [if_neg h, if_neg h2, if_neg h3]
theorem ls_range (s : Int) : 1 ≤ leastN s ∧ leastN s ≤ 11 := by
  unfold leastN
  split; · omega
  split; · omega
  split; · omega
  omega
/-- How many values a symbol's extra may have. -/
def extN (s : Int) : Nat := 2 ^ xBits s
theorem ex16 : extN 16 = 4 := by decide
theorem ex17 : extN 17 = 8 := by decide
theorem ex18 : extN 18 = 128 := by decide
theorem ex_plain (s : Int) (h : s ≠ 16) (h2 : s ≠ 17) (h3 : s ≠ 18) : extN s = 1 := by unfold extN; rw [(plain_run s h h2 h3).1]
theorem ex_range (s : Int) : 1 ≤ extN s ∧ extN s ≤ 128 := by
  by_cases h1 : s = 16
  · rw [h1, ex16]; omega
  · by_cases h2 : s = 17
    · rw [h2, ex17]; omega
    · by_cases h3 : s = 18
      · rw [h3, ex18]; omega
      · rw [ex_plain s h1 h2 h3]; omega

set_option maxHeartbeats 1000000 in
theorem bits7_same (s : Int) (w : World) :
    Calls Tryz.prog 72 #[.int .i64 s] w fun e w' => e = .returned (.int .i64 (xBits s : Nat)) ∧ w' = w := by
  by_cases h1 : s = 16
  · subst h1
    go_enter Tryz.func72, Tryz.ntmps72
    go_wp2
    go_ret
    exact ⟨rfl, rfl⟩
  · by_cases h2 : s = 17
    · subst h2
      go_enter Tryz.func72, Tryz.ntmps72
      go_wp2
      go_ret
      exact ⟨rfl, rfl⟩
    · by_cases h3 : s = 18
      · subst h3
        go_enter Tryz.func72, Tryz.ntmps72
        go_wp2
        go_ret
        exact ⟨rfl, rfl⟩
      · rw [(plain_run s h1 h2 h3).1]
        have b1 : (s == 16) = false := by simp; exact h1
        have b2 : (s == 17) = false := by simp; exact h2
        have b3 : (s == 18) = false := by simp; exact h3
        clear h1 h2 h3
        go_enter Tryz.func72, Tryz.ntmps72
        go_wp2
        go_ret
        exact ⟨rfl, rfl⟩
theorem bits7_any (s : Int) (w : World) :
    Calls Tryz.prog 72 #[.int .i64 s] w fun e w' => e = .returned (.int .i64 (xBits s : Nat)) ∧ Below w.heap.size w w' := by
  refine (bits7_same s w).mono ?_
  rintro e w' ⟨rfl, rfl⟩
  exact ⟨rfl, Below.refl _ _⟩

set_option maxRecDepth 20000 in
set_option maxHeartbeats 2000000 in
theorem order7_any (w : World) :
    Calls Tryz.prog 69 #[] w fun e w' => e = .returned (.agg orderCs.toArray) ∧ Below w.heap.size w w' := by
  obtain ⟨Z, hZn, hv⟩ := Tryz.zeroOrder
  have hn : orderCs.length = 19 := rfl
  have hst := order_store w Z orderCs hZn hn orderCs_one
  have HLD := hide (order_load (order_range w orderCs) hn)
  have HBD := hide Tryz.builtOrder
  have HB := hide ((Below.refl _ w).alloc (Nat.le_refl _) (.cells orderCs.toArray 119))
  generalize orderCs = cs at *
  go_enter Tryz.func69, Tryz.ntmps69
  go_wp2_with (first
    | (refine wpList_builtK rfl 119 orderPs rfl cs.toArray HBD.out ?_))
  (try simp only [Exit.inBlock, Exit.then])
  refine bodyPost_ret (v := .agg cs.toArray) ?_ rfl ⟨rfl, HB.out⟩
  simp [results, Tryz.results69, asAddr, HLD.out]

set_option maxHeartbeats 1000000 in
theorem least7 (s : Int) (w : World) :
    Calls Tryz.prog 98 #[.int .i64 s] w fun e w' => e = .returned (.int .i64 (leastN s : Nat)) ∧ w' = w := by
  by_cases h1 : s = 16
  · subst h1
    go_enter Tryz.func98, Tryz.ntmps98
    go_wp2
    go_ret
    exact ⟨rfl, rfl⟩
  · by_cases h2 : s = 17
    · subst h2
      go_enter Tryz.func98, Tryz.ntmps98
      go_wp2
      go_ret
      exact ⟨rfl, rfl⟩
    · by_cases h3 : s = 18
      · subst h3
        go_enter Tryz.func98, Tryz.ntmps98
        go_wp2
        go_ret
        exact ⟨rfl, rfl⟩
      · rw [ls_plain s h1 h2 h3]
        have b1 : (s == 16) = false := by simp; exact h1
        have b2 : (s == 17) = false := by simp; exact h2
        have b3 : (s == 18) = false := by simp; exact h3
        clear h1 h2 h3
        go_enter Tryz.func98, Tryz.ntmps98
        go_wp2
        go_ret
        exact ⟨rfl, rfl⟩

theorem extras_of (s : Int) (x : Nat) (hx : xBits s = x) (hx7 : x = 0 ∨ x = 2 ∨ x = 3 ∨ x = 7) (w : World) :
    Calls Tryz.prog 104 #[.int .i64 s] w fun e w' => e = .returned (.int .i64 ((2 ^ x : Nat) : Int)) ∧ w' = w := by
  have HB := hide (bits7_same s)
  rw [hx] at HB
  clear hx
  rcases hx7 with rfl | rfl | rfl | rfl
  · go_enter Tryz.func104, Tryz.ntmps104
    go_wp2_with fail
    refine (HB.out _).mono ?_
    rintro e w1 ⟨rfl, rfl⟩
    go_wp2
    go_ret
    exact ⟨rfl, rfl⟩
  · go_enter Tryz.func104, Tryz.ntmps104
    go_wp2_with fail
    refine (HB.out _).mono ?_
    rintro e w1 ⟨rfl, rfl⟩
    go_wp2
    go_ret
    exact ⟨rfl, rfl⟩
  · go_enter Tryz.func104, Tryz.ntmps104
    go_wp2_with fail
    refine (HB.out _).mono ?_
    rintro e w1 ⟨rfl, rfl⟩
    go_wp2
    go_ret
    exact ⟨rfl, rfl⟩
  · go_enter Tryz.func104, Tryz.ntmps104
    go_wp2_with fail
    refine (HB.out _).mono ?_
    rintro e w1 ⟨rfl, rfl⟩
    go_wp2
    go_ret
    exact ⟨rfl, rfl⟩
theorem extras7 (s : Int) (w : World) :
    Calls Tryz.prog 104 #[.int .i64 s] w fun e w' => e = .returned (.int .i64 (extN s : Nat)) ∧ w' = w := by
  refine extras_of s (xBits s) rfl ?_ w
  unfold xBits
  split; · omega
  split; · omega
  split; · omega
  omega

set_option maxHeartbeats 1000000 in
theorem times7 (s e : Int) (he0 : 0 ≤ e) (he : e ≤ 127) (w : World) :
    Calls Tryz.prog 86 #[.agg #[.int .i64 s, .int .i64 e]] w fun r w' => r = .returned (.int .i64 ((leastN s : Int) + e)) ∧ Below w.heap.size w w' := by
  have HL := hide (least7 s)
  have hls := ls_range s
  have HB := hide (fun n => below_drewN ((Below.refl w.heap.size w).alloc (Nat.le_refl _) (.cells #[.int .i64 s, .int .i64 e] 122)) n)
  generalize leastN s = k at *
  go_enter Tryz.func86, Tryz.ntmps86
  go_wp2
  go_quiet ((go_at_call 98; exact Calls.quiet_of_same (HL.out _)))
  go_wp2
  go_ret
  exact ⟨rfl, HB.out _⟩

end Go.Proofs.YtaalbaiglkadlaaGreat

/- Contracts of the code of layer 7: run, row, first. -/
namespace Go.Proofs.YtaalbaiglkadlaaGreat
open Go.RowKit Go.Lib

set_option maxHeartbeats 1000000 in
theorem run7 (s : Int) (n : Nat) (w : World) (hn : leastN s ≤ n) (hn2 : n ≤ 138) :
    Calls Tryz.prog 99 #[.int .i64 s, .int .i64 (n : Nat)] w fun e w' => e = .returned (.agg #[.int .i64 s, .int .i64 (min ((n : Int) - (leastN s : Nat)) ((extN s : Nat) - 1))]) ∧ Below w.heap.size w w' := by
  have HL := hide (least7 s)
  have HX := hide (extras7 s)
  have hls := ls_range s
  have hes := ex_range s
  have HB := hide (fun v => (Below.refl w.heap.size w).alloc (Nat.le_refl _) (.cells #[.int .i64 s, v] 122))
  generalize leastN s = k at *
  generalize extN s = x at *
  have z1 : (k : Int) ≤ n := by omega
  go_enter Tryz.func99, Tryz.ntmps99
  go_wp2_with fail
  refine (HL.out _).mono ?_
  rintro e w1 ⟨rfl, rfl⟩
  go_wp2_with fail
  refine (HX.out _).mono ?_
  rintro e w1 ⟨rfl, rfl⟩
  go_wp2
  · (try simp only [Exit.inBlock, Exit.then])
    rw [show min ((n : Int) - (k : Nat)) ((x : Nat) - 1) = (x : Int) - 1 by omega]
    refine bodyPost_ret (v := .agg #[.int .i64 s, .int .i64 ((x : Int) - 1)]) ?_ rfl ⟨rfl, HB.out _⟩
    simp [results, Tryz.results99, asAddr]
    go_simp
  · (try simp only [Exit.inBlock, Exit.then])
    rw [show min ((n : Int) - (k : Nat)) ((x : Nat) - 1) = (n : Int) - (k : Nat) by omega]
    refine bodyPost_ret (v := .agg #[.int .i64 s, .int .i64 ((n : Int) - (k : Nat))]) ?_ rfl ⟨rfl, HB.out _⟩
    simp [results, Tryz.results99, asAddr]
    go_simp

theorem head_ge (x : Int) (l : List Int) (k : Nat) (hk : k ≤ l.length) (h1 : ∀ i, i < k → l[i]? = some x) : k ≤ headN x l := by
  refine Classical.byContradiction fun h => ?_
  exact head_stop x l (by omega) (h1 _ (by omega))

set_option maxRecDepth 20000 in
set_option maxHeartbeats 2000000 in
theorem row7 (l : List Int) (a : Option Addr) (n cap : Nat) (W : World) (x : Int) (hn : l.length = n) (harg : ArgZ W a l) (hx : l[0]? = some x) (hl : n ≤ 10000) :
    Calls Tryz.prog 97 #[.slice a n cap] W fun e w' => e = .returned (.int .i64 (min (headN x l) 138 : Nat)) ∧ Below W.heap.size W w' := by
  have hi : 0 < n := by rw [← hn]; exact (List.getElem?_eq_some_iff.1 hx).1
  obtain ⟨b, off, rfl, hb, hc⟩ := harg 0 x hx
  have HA := hide (fun (j : Nat) (y : Int) (hy : l[j]? = some y) => (show W.cell? ⟨b, off + j, none⟩ = some (.int .i64 y) by
    obtain ⟨b2, off2, e, _, h⟩ := harg j y hy
    injection e with e
    injection e with e1 e2
    subst e1
    subst e2
    exact h))
  have HL := hide (least7 18)
  have HE := hide (extras7 18)
  rw [ls18] at HL
  rw [ex18] at HE
  have HN := hide hn
  have HX := hide hx
  have HC := hide hc
  have B0 := hide (Below.refl W.heap.size W)
  have HGE := hide (head_ge x l)
  have HEQ := hide (head_eq x l)
  obtain ⟨H, hH⟩ : ∃ H, headN x l = H := ⟨_, rfl⟩
  rw [hH] at HGE HEQ ⊢
  clear hn harg hx hc hH
  go_enter Tryz.func97, Tryz.ntmps97
  go_wp2_with fail
  refine (HL.out _).mono ?_
  rintro e w1 ⟨rfl, rfl⟩
  go_wp2_with fail
  refine (HE.out _).mono ?_
  rintro e w1 ⟨rfl, rfl⟩
  go_wp2
  go_loopw [4] (fun kv wr => ∃ k : Nat, 1 ≤ k ∧ k ≤ n ∧ k ≤ 138 ∧ kv = .int .i64 (k : Nat) ∧ Hid (∀ t, t < k → l[t]? = some x) ∧ Hid (Below w1.heap.size w1 wr)) (fun kv _ => n - (intOf kv).toNat)
  case atStart => exact ⟨1, Nat.le_refl _, hi, by omega, rfl, hide (fun t ht => by rw [show t = 0 by omega]; exact HX.out), B0⟩
  case round =>
    obtain ⟨k, hk1, hk, hk138, rfl, HE, HB⟩ := hrel
    have _c0 := (HB.out.cell (p := ⟨b, off, none⟩) hb).trans HC.out
    by_cases hlt : k < n
    · have zs : (k : Int) < n := by omega
      have ds : decide ((k : Int) < n) = true := decide_eq_true zs
      by_cases h138 : k < 138
      · obtain ⟨y, hy⟩ := getZ? l k (by rw [HN.out]; exact hlt)
        have _c1 := (HB.out.cell (p := ⟨b, off + k, none⟩) hb).trans (HA.out _ _ hy)
        have HY := hide hy
        have d138 : decide ((k : Int) < 138) = true := decide_eq_true (by omega)
        have zi : (0 : Int) < n := by omega
        have HLT := hide hlt
        have H138 := hide h138
        clear hy hlt hk h138
        by_cases e : y = x
        · subst e
          have HE2 := hide (show ∀ t, t < k + 1 → l[t]? = some y from fun t ht => by
            by_cases e : t = k
            · rw [e]; exact HY.out
            · exact HE.out t (by omega))
          go_wp2
          go_quiet (fail)
          go_wp2
          go_roundw
          case rel => exact ⟨k + 1, by omega, HLT.out, H138.out, by go_num, HE2, hide (below_drewN HB.out _)⟩
          case measure => exact meas_oneW k n HLT.out
        · have be : (y == x) = false := by simp; exact e
          have HF := hide (show min H 138 = k by
            have h := HEQ.out k (by rw [HN.out]; have := HLT.out; omega) HE.out (.inr (by
              rw [HY.out]
              intro h
              injection h with h
              exact e h))
            omega)
          clear e
          go_wp2
          go_quiet (fail)
          go_wp2
          go_ret
          exact ⟨by rw [HF.out]; rfl, below_drewN HB.out _⟩
      · have d138 : decide ((k : Int) < 138) = false := decide_eq_false (by omega)
        have HF := hide (show min H 138 = k by
          have h := HGE.out k (by rw [HN.out]; omega) HE.out
          omega)
        clear hlt hk h138
        go_wp2
        go_quiet (fail)
        go_wp2
        go_ret
        exact ⟨by rw [HF.out]; rfl, below_drewN HB.out _⟩
    · obtain rfl : k = n := by omega
      have HF := hide (show min H 138 = k by
        have h := HEQ.out k (by rw [HN.out]; exact hk) HE.out (.inl (by rw [HN.out]))
        omega)
      clear hlt hk
      go_wp2
      go_quiet (fail)
      go_wp2
      go_ret
      exact ⟨by rw [HF.out]; rfl, below_drewN HB.out _⟩

end Go.Proofs.YtaalbaiglkadlaaGreat

/- Contracts of the code of layer 7: first. -/
namespace Go.Proofs.YtaalbaiglkadlaaGreat
open Go.RowKit Go.Lib

theorem step_fits (p : Option Int) (x : Int) (H : Nat) (r : Int × Int) (K : Nat) (hx0 : 0 ≤ x) (hx : x ≤ 15) (hr : stepF p x H = (r, K)) : 0 ≤ r.2 ∧ r.2 ≤ 127 ∧ (leastN r.1 : Int) + r.2 = (K : Int) := by
  unfold stepF at hr
  split at hr
  · injection hr with h1 h2
    subst h1 h2
    dsimp only
    rw [ls18]
    omega
  · split at hr
    · rename_i h11 _
      injection hr with h1 h2
      subst h1 h2
      dsimp only
      rw [ls17]
      omega
    · split at hr
      · injection hr with h1 h2
        subst h1 h2
        dsimp only
        rw [ls16]
        omega
      · injection hr with h1 h2
        subst h1 h2
        dsimp only
        rw [ls_plain x (by omega) (by omega) (by omega)]
        omega
theorem ArgZ.dropped {w : World} {b off : Nat} {l : List Int} (h : ArgZ w (some ⟨b, off, none⟩) l) (i : Nat) : ArgZ w (some ⟨b, off + i, none⟩) (l.drop i) := by
  intro j x hx
  rw [List.getElem?_drop] at hx
  obtain ⟨b2, off2, e, hb, hc⟩ := h _ _ hx
  injection e with e
  injection e with e1 e2
  subst e1 e2
  exact ⟨b, off + i, rfl, hb, by rw [Nat.add_assoc]; exact hc⟩

set_option maxRecDepth 20000 in
set_option maxHeartbeats 2000000 in
theorem first7 (l : List Int) (a : Option Addr) (n cap i : Nat) (W : World) (x : Int) (hn : l.length = n) (harg : ArgZ W a l) (hx : l[i]? = some x) (hx0 : 0 ≤ x) (hx15 : x ≤ 15) (hl : n ≤ 3000) (hcap : n ≤ cap) (r1 r2 : Int) (K : Nat) (hr : stepF (prevAt l i) x (headN x (l.drop i)) = ((r1, r2), K)) :
    Calls Tryz.prog 85 #[.slice a n cap, .int .i64 (i : Nat)] W fun e w' => e = .returned (.agg #[.int .i64 r1, .int .i64 r2]) ∧ Below W.heap.size W w' := by
  have hi : i < n := by rw [← hn]; exact (List.getElem?_eq_some_iff.1 hx).1
  obtain ⟨b, off, rfl, hb, hc⟩ := harg i x hx
  have zi : (i : Int) < n := by omega
  have hci : ¬ cap = i := by omega
  obtain ⟨H, hH⟩ : ∃ H, headN x (l.drop i) = H := ⟨_, rfl⟩
  rw [hH] at hr
  have HST := hide (fun (r : Int × Int) (K2 : Nat) (h : stepF (prevAt l i) x H = (r, K2)) => (show (r1, r2) = r by rw [hr] at h; injection h))
  have HP := hide (show ∀ w', Below (W.alloc (.cells #[.int .i64 0, .int .i64 0] 122)).heap.size (W.alloc (.cells #[.int .i64 0, .int .i64 0] 122)) w' → w'.heap[W.heap.size]? = some (.cells #[.int .i64 0, .int .i64 0] 122 (0, 0)) from fun w' h => by
    rw [h.block _ (by show _ < (W.heap.push _).size; simp)]
    show (W.heap.push _)[W.heap.size]? = _
    simp)
  have HRW := hide (row7 (l.drop i) (some ⟨b, off + i, none⟩) (n - i) (cap - i) (W.alloc (.cells #[.int .i64 0, .int .i64 0] 122)) x (by rw [List.length_drop, hn]) ((harg.below (Below.alloc (Below.refl _ W) (Nat.le_refl _) _)).dropped i) (by rw [List.getElem?_drop]; exact hx) (by omega))
  rw [hH] at HRW
  have HPRV := hide (show ∀ y, 0 < i → l[i - 1]? = some y → prevAt l i = some y from fun y h0 hy => by unfold prevAt; rw [if_neg (by omega)]; exact hy)
  have HPR0 := hide (show i = 0 → prevAt l i = none from fun h0 => by unfold prevAt; rw [if_pos h0])
  have HC := hide hc
  have HC2 := hide (fun (k : Nat) (y : Int) (hy : l[k]? = some y) => (show W.cell? ⟨b, off + k, none⟩ = some (.int .i64 y) by
    obtain ⟨b2, off2, e, _, h⟩ := harg k y hy
    injection e with e
    injection e with e1 e2
    subst e1
    subst e2
    exact h))
  have hH1 : 1 ≤ H := by
    obtain ⟨t, ht⟩ := drop_at l i x hx
    rw [← hH, ht]
    exact head_pos x t
  have HN := hide hn
  have HL16 := hide (least7 16)
  rw [ls16] at HL16
  have HL17 := hide (least7 17)
  rw [ls17] at HL17
  have HL18 := hide (least7 18)
  rw [ls18] at HL18
  have HB0 := hide ((Below.refl W.heap.size W).alloc (Nat.le_refl _) (.cells #[.int .i64 0, .int .i64 0] 122))
  have HRX := hide (show ∀ w, Calls Tryz.prog 99 #[.int .i64 x, .int .i64 1] w fun e w' => e = .returned (.agg #[.int .i64 x, .int .i64 0]) ∧ Below w.heap.size w w' from fun w => by
    have h := run7 x 1 w (by rw [ls_plain x (by omega) (by omega) (by omega)]; exact Nat.le_refl _) (by omega)
    rw [ls_plain x (by omega) (by omega) (by omega), ex_plain x (by omega) (by omega) (by omega)] at h
    exact h)
  clear harg hx hr hc hn hH
  go_enter Tryz.func85, Tryz.ntmps85
  go_wp2_with fail
  refine HRW.out.mono ?_
  rintro e w1 ⟨rfl, b1⟩
  have B1 := hide b1
  have BW := hide (HB0.out.trans (b1.mono HB0.out.size))
  have _c := (BW.out.cell (p := ⟨b, off + i, none⟩) hb).trans HC.out
  obtain ⟨R, hR⟩ : ∃ R, min H 138 = R := ⟨_, rfl⟩
  rw [hR]
  have HR := hide hR
  have hR138 : R ≤ 138 := by omega
  clear b1 hR HRW
  by_cases x0 : x = 0
  · subst x0
    by_cases h11 : 11 ≤ R
    · have z11 : (11 : Int) ≤ R := by omega
      obtain ⟨er1, HE2⟩ : r1 = 18 ∧ Hid (r2 = ((min H 138 : Nat) : Int) - 11) := by
        have h := HST.out (18, ((min H 138 : Nat) : Int) - 11) _ (by unfold stepF; rw [if_pos ⟨rfl, by have := HR.out; omega⟩])
        injection h with h1 h2
        exact ⟨h1, hide h2⟩
      subst er1
      have HRN := hide (show ∀ w, Calls Tryz.prog 99 #[.int .i64 18, .int .i64 (R : Nat)] w fun e w' => e = .returned (.agg #[.int .i64 18, .int .i64 r2]) ∧ Below w.heap.size w w' from fun w => by
        have h := run7 18 R w (by rw [ls18]; omega) hR138
        rw [ls18, ex18, show min ((R : Int) - ((11 : Nat) : Int)) (((128 : Nat) : Int) - 1) = r2 by rw [HE2.out]; have := HR.out; omega] at h
        exact h)
      go_wp2_with fail
      refine (HL18.out _).mono ?_
      rintro e w1b ⟨rfl, rfl⟩
      go_wp2_with fail
      refine (HRN.out _).mono ?_
      rintro e w2 ⟨rfl, b2⟩
      have BQ := B1
      have BV := BW
      obtain ⟨d1, d2, f1, f2⟩ := two_cells (HP.out w2 (BQ.out.trans (b2.mono BQ.out.size)))
      have HF := hide (BV.out.trans (b2.mono BV.out.size))
      clear b2
      go_wp2
      (try simp only [Exit.inBlock, Exit.then])
      refine bodyPost_ret (v := .agg #[.int .i64 18, .int .i64 r2]) ?_ rfl ⟨rfl, (HF.out.setCell (p := ⟨W.heap.size, 0, none⟩) (Nat.le_refl _) _).setCell (p := ⟨W.heap.size, 1, none⟩) (Nat.le_refl _) _⟩
      simp [results, Tryz.results85, asAddr]
      go_simp
    · have z11 : ¬ (11 : Int) ≤ R := by omega
      by_cases h3 : 3 ≤ R
      · have z3 : (3 : Int) ≤ R := by omega
        obtain ⟨er1, HE2⟩ : r1 = 17 ∧ Hid (r2 = (H : Int) - 3) := by
          have h := HST.out (17, (H : Int) - 3) _ (by unfold stepF; rw [if_neg (fun h => by have := HR.out; omega), if_pos ⟨rfl, by have := HR.out; omega⟩])
          injection h with h1 h2
          exact ⟨h1, hide h2⟩
        subst er1
        have HRN := hide (show ∀ w, Calls Tryz.prog 99 #[.int .i64 17, .int .i64 (R : Nat)] w fun e w' => e = .returned (.agg #[.int .i64 17, .int .i64 r2]) ∧ Below w.heap.size w w' from fun w => by
          have h := run7 17 R w (by rw [ls17]; omega) hR138
          rw [ls17, ex17, show min ((R : Int) - ((3 : Nat) : Int)) (((8 : Nat) : Int) - 1) = r2 by rw [HE2.out]; have := HR.out; omega] at h
          exact h)
        go_wp2_with fail
        refine (HL18.out _).mono ?_
        rintro e w1b ⟨rfl, rfl⟩
        go_wp2_with fail
        refine (HL17.out _).mono ?_
        rintro e w1c ⟨rfl, rfl⟩
        go_wp2_with fail
        refine (HRN.out _).mono ?_
        rintro e w2 ⟨rfl, b2⟩
        have BQ := B1
        have BV := BW
        obtain ⟨d1, d2, f1, f2⟩ := two_cells (HP.out w2 (BQ.out.trans (b2.mono BQ.out.size)))
        have HF := hide (BV.out.trans (b2.mono BV.out.size))
        clear b2
        go_wp2
        (try simp only [Exit.inBlock, Exit.then])
        refine bodyPost_ret (v := .agg #[.int .i64 17, .int .i64 r2]) ?_ rfl ⟨rfl, (HF.out.setCell (p := ⟨W.heap.size, 0, none⟩) (Nat.le_refl _) _).setCell (p := ⟨W.heap.size, 1, none⟩) (Nat.le_refl _) _⟩
        simp [results, Tryz.results85, asAddr]
        go_simp
      · have z3 : ¬ (3 : Int) ≤ R := by omega
        have dz3 : decide ((3 : Int) ≤ R) = false := decide_eq_false z3
        by_cases hi0 : i = 0
        · subst hi0
          rw [Nat.add_zero] at _c
          obtain ⟨er1, er2⟩ : r1 = 0 ∧ r2 = 0 := by
            have h := HST.out (0, 0) 1 (by unfold stepF; rw [if_neg (fun h => by have := HR.out; omega), if_neg (fun h => by have := HR.out; omega), if_neg (fun h => by rw [HPR0.out rfl] at h; cases h.1)])
            injection h with h1 h2
            exact ⟨h1, h2⟩
          subst er1 er2
          go_wp2_with fail
          refine (HL18.out _).mono ?_
          rintro e w1b ⟨rfl, rfl⟩
          go_wp2_with fail
          refine (HL17.out _).mono ?_
          rintro e w1c ⟨rfl, rfl⟩
          go_wp2_with fail
          go_quiet (fail)
          go_wp2_with fail
          refine (HRX.out _).mono ?_
          rintro e w2 ⟨rfl, b2⟩
          have BQ := hide (fun q => below_drewN B1.out q)
          have BV := hide (fun q => below_drewN BW.out q)
          obtain ⟨d1, d2, f1, f2⟩ := two_cells (HP.out w2 ((BQ.out _).trans (b2.mono (BQ.out _).size)))
          have HF := hide ((BV.out _).trans (b2.mono (BV.out _).size))
          clear b2
          go_wp2
          (try simp only [Exit.inBlock, Exit.then])
          refine bodyPost_ret (v := .agg #[.int .i64 0, .int .i64 0]) ?_ rfl ⟨rfl, (HF.out.setCell (p := ⟨W.heap.size, 0, none⟩) (Nat.le_refl _) _).setCell (p := ⟨W.heap.size, 1, none⟩) (Nat.le_refl _) _⟩
          simp [results, Tryz.results85, asAddr]
          go_simp
        · have zi0 : (0 : Int) < i := by omega
          have dzi0 : decide ((0 : Int) < i) = true := decide_eq_true zi0
          have dzn0 : decide (0 < i) = true := decide_eq_true (by omega)
          obtain ⟨y, hy⟩ := getZ? l (i - 1) (by rw [HN.out]; omega)
          have _c3 := (BW.out.cell (p := ⟨b, off + (i - 1), none⟩) hb).trans (HC2.out (i - 1) y hy)
          have HPY := hide (HPRV.out y (by omega) hy)
          have ei : (i : Int) - 1 = ((i - 1 : Nat) : Int) := by omega
          have zi1 : ((i - 1 : Nat) : Int) < n := by omega
          by_cases ey : y = 0
          · subst ey
            obtain ⟨er1, er2⟩ : r1 = 0 ∧ r2 = 0 := by
              have h := HST.out (0, 0) 1 (by unfold stepF; rw [if_neg (fun h => by have := HR.out; omega), if_neg (fun h => by have := HR.out; omega), if_neg (fun h => by have := HR.out; omega)])
              injection h with h1 h2
              exact ⟨h1, h2⟩
            subst er1 er2
            go_wp2_with fail
            refine (HL18.out _).mono ?_
            rintro e w1b ⟨rfl, rfl⟩
            go_wp2_with fail
            refine (HL17.out _).mono ?_
            rintro e w1c ⟨rfl, rfl⟩
            go_wp2_with fail
            go_quiet ((go_at_call 98; exact Calls.quiet_of_same (HL16.out _)))
            go_wp2_with fail
            refine (HRX.out _).mono ?_
            rintro e w2 ⟨rfl, b2⟩
            have BQ := hide (fun q => below_drewN B1.out q)
            have BV := hide (fun q => below_drewN BW.out q)
            obtain ⟨d1, d2, f1, f2⟩ := two_cells (HP.out w2 ((BQ.out _).trans (b2.mono (BQ.out _).size)))
            have HF := hide ((BV.out _).trans (b2.mono (BV.out _).size))
            clear b2
            go_wp2
            (try simp only [Exit.inBlock, Exit.then])
            refine bodyPost_ret (v := .agg #[.int .i64 0, .int .i64 0]) ?_ rfl ⟨rfl, (HF.out.setCell (p := ⟨W.heap.size, 0, none⟩) (Nat.le_refl _) _).setCell (p := ⟨W.heap.size, 1, none⟩) (Nat.le_refl _) _⟩
            simp [results, Tryz.results85, asAddr]
            go_simp
          · have bey : (0 == y) = false := by simp; exact fun h => ey h.symm
            obtain ⟨er1, er2⟩ : r1 = 0 ∧ r2 = 0 := by
              have h := HST.out (0, 0) 1 (by unfold stepF; rw [if_neg (fun h => by have := HR.out; omega), if_neg (fun h => by have := HR.out; omega), if_neg (fun h => by rw [HPY.out] at h; have h2 := h.1; injection h2 with h2; exact ey h2)])
              injection h with h1 h2
              exact ⟨h1, h2⟩
            subst er1 er2
            clear ey
            go_wp2_with fail
            refine (HL18.out _).mono ?_
            rintro e w1b ⟨rfl, rfl⟩
            go_wp2_with fail
            refine (HL17.out _).mono ?_
            rintro e w1c ⟨rfl, rfl⟩
            go_wp2_with fail
            go_quiet (fail)
            go_wp2_with fail
            refine (HRX.out _).mono ?_
            rintro e w2 ⟨rfl, b2⟩
            have BQ := hide (fun q => below_drewN B1.out q)
            have BV := hide (fun q => below_drewN BW.out q)
            obtain ⟨d1, d2, f1, f2⟩ := two_cells (HP.out w2 ((BQ.out _).trans (b2.mono (BQ.out _).size)))
            have HF := hide ((BV.out _).trans (b2.mono (BV.out _).size))
            clear b2
            go_wp2
            (try simp only [Exit.inBlock, Exit.then])
            refine bodyPost_ret (v := .agg #[.int .i64 0, .int .i64 0]) ?_ rfl ⟨rfl, (HF.out.setCell (p := ⟨W.heap.size, 0, none⟩) (Nat.le_refl _) _).setCell (p := ⟨W.heap.size, 1, none⟩) (Nat.le_refl _) _⟩
            simp [results, Tryz.results85, asAddr]
            go_simp
  · have bx0 : (x == 0) = false := by simp; exact x0
    by_cases hi0 : i = 0
    · subst hi0
      rw [Nat.add_zero] at _c
      obtain ⟨er1, er2⟩ : r1 = x ∧ r2 = 0 := by
        have h := HST.out (x, 0) 1 (by unfold stepF; rw [if_neg (fun h => by have := HR.out; omega), if_neg (fun h => by have := HR.out; omega), if_neg (fun h => by rw [HPR0.out rfl] at h; cases h.1)])
        injection h with h1 h2
        exact ⟨h1, h2⟩
      subst er1 er2
      go_wp2_with fail
      go_quiet (fail)
      go_wp2_with fail
      refine (HRX.out _).mono ?_
      rintro e w2 ⟨rfl, b2⟩
      have BQ := hide (fun q => below_drewN B1.out q)
      have BV := hide (fun q => below_drewN BW.out q)
      obtain ⟨d1, d2, f1, f2⟩ := two_cells (HP.out w2 ((BQ.out _).trans (b2.mono (BQ.out _).size)))
      have HF := hide ((BV.out _).trans (b2.mono (BV.out _).size))
      clear b2
      go_wp2
      (try simp only [Exit.inBlock, Exit.then])
      refine bodyPost_ret (v := .agg #[.int .i64 r1, .int .i64 0]) ?_ rfl ⟨rfl, (HF.out.setCell (p := ⟨W.heap.size, 0, none⟩) (Nat.le_refl _) _).setCell (p := ⟨W.heap.size, 1, none⟩) (Nat.le_refl _) _⟩
      simp [results, Tryz.results85, asAddr]
      go_simp
    · have zi0 : (0 : Int) < i := by omega
      have dzi0 : decide ((0 : Int) < i) = true := decide_eq_true zi0
      have dzn0 : decide (0 < i) = true := decide_eq_true (by omega)
      obtain ⟨y, hy⟩ := getZ? l (i - 1) (by rw [HN.out]; omega)
      have _c3 := (BW.out.cell (p := ⟨b, off + (i - 1), none⟩) hb).trans (HC2.out (i - 1) y hy)
      have HPY := hide (HPRV.out y (by omega) hy)
      have ei : (i : Int) - 1 = ((i - 1 : Nat) : Int) := by omega
      have zi1 : ((i - 1 : Nat) : Int) < n := by omega
      by_cases ey : y = x
      · subst ey
        by_cases h3 : 3 ≤ R
        · have z3 : (3 : Int) ≤ R := by omega
          have dz3 : decide ((3 : Int) ≤ R) = true := decide_eq_true z3
          obtain ⟨er1, HE2⟩ : r1 = 16 ∧ Hid (r2 = ((min H 6 : Nat) : Int) - 3) := by
            have h := HST.out (16, ((min H 6 : Nat) : Int) - 3) _ (by unfold stepF; rw [if_neg (fun h => x0 h.1), if_neg (fun h => x0 h.1), if_pos ⟨HPY.out, by have := HR.out; omega⟩])
            injection h with h1 h2
            exact ⟨h1, hide h2⟩
          subst er1
          have HRN := hide (show ∀ w, Calls Tryz.prog 99 #[.int .i64 16, .int .i64 (R : Nat)] w fun e w' => e = .returned (.agg #[.int .i64 16, .int .i64 r2]) ∧ Below w.heap.size w w' from fun w => by
            have h := run7 16 R w (by rw [ls16]; omega) hR138
            rw [ls16, ex16, show min ((R : Int) - ((3 : Nat) : Int)) (((4 : Nat) : Int) - 1) = r2 by rw [HE2.out]; have := HR.out; omega] at h
            exact h)
          go_wp2_with fail
          go_quiet ((go_at_call 98; exact Calls.quiet_of_same (HL16.out _)))
          go_wp2_with fail
          refine (HRN.out _).mono ?_
          rintro e w2 ⟨rfl, b2⟩
          have BQ := hide (fun q => below_drewN B1.out q)
          have BV := hide (fun q => below_drewN BW.out q)
          obtain ⟨d1, d2, f1, f2⟩ := two_cells (HP.out w2 ((BQ.out _).trans (b2.mono (BQ.out _).size)))
          have HF := hide ((BV.out _).trans (b2.mono (BV.out _).size))
          clear b2
          go_wp2
          (try simp only [Exit.inBlock, Exit.then])
          refine bodyPost_ret (v := .agg #[.int .i64 16, .int .i64 r2]) ?_ rfl ⟨rfl, (HF.out.setCell (p := ⟨W.heap.size, 0, none⟩) (Nat.le_refl _) _).setCell (p := ⟨W.heap.size, 1, none⟩) (Nat.le_refl _) _⟩
          simp [results, Tryz.results85, asAddr]
          go_simp
        · have z3 : ¬ (3 : Int) ≤ R := by omega
          have dz3 : decide ((3 : Int) ≤ R) = false := decide_eq_false z3
          obtain ⟨er1, er2⟩ : r1 = y ∧ r2 = 0 := by
            have h := HST.out (y, 0) 1 (by unfold stepF; rw [if_neg (fun h => x0 h.1), if_neg (fun h => x0 h.1), if_neg (fun h => by have := HR.out; omega)])
            injection h with h1 h2
            exact ⟨h1, h2⟩
          subst er1 er2
          go_wp2_with fail
          go_quiet ((go_at_call 98; exact Calls.quiet_of_same (HL16.out _)))
          go_wp2_with fail
          refine (HRX.out _).mono ?_
          rintro e w2 ⟨rfl, b2⟩
          have BQ := hide (fun q => below_drewN B1.out q)
          have BV := hide (fun q => below_drewN BW.out q)
          obtain ⟨d1, d2, f1, f2⟩ := two_cells (HP.out w2 ((BQ.out _).trans (b2.mono (BQ.out _).size)))
          have HF := hide ((BV.out _).trans (b2.mono (BV.out _).size))
          clear b2
          go_wp2
          (try simp only [Exit.inBlock, Exit.then])
          refine bodyPost_ret (v := .agg #[.int .i64 r1, .int .i64 0]) ?_ rfl ⟨rfl, (HF.out.setCell (p := ⟨W.heap.size, 0, none⟩) (Nat.le_refl _) _).setCell (p := ⟨W.heap.size, 1, none⟩) (Nat.le_refl _) _⟩
          simp [results, Tryz.results85, asAddr]
          go_simp
      · have bey : (x == y) = false := by simp; exact fun h => ey h.symm
        obtain ⟨er1, er2⟩ : r1 = x ∧ r2 = 0 := by
          have h := HST.out (x, 0) 1 (by unfold stepF; rw [if_neg (fun h => by have := HR.out; omega), if_neg (fun h => by have := HR.out; omega), if_neg (fun h => by rw [HPY.out] at h; have h2 := h.1; injection h2 with h2; exact ey h2)])
          injection h with h1 h2
          exact ⟨h1, h2⟩
        subst er1 er2
        clear ey
        go_wp2_with fail
        go_quiet (fail)
        go_wp2_with fail
        refine (HRX.out _).mono ?_
        rintro e w2 ⟨rfl, b2⟩
        have BQ := hide (fun q => below_drewN B1.out q)
        have BV := hide (fun q => below_drewN BW.out q)
        obtain ⟨d1, d2, f1, f2⟩ := two_cells (HP.out w2 ((BQ.out _).trans (b2.mono (BQ.out _).size)))
        have HF := hide ((BV.out _).trans (b2.mono (BV.out _).size))
        clear b2
        go_wp2
        (try simp only [Exit.inBlock, Exit.then])
        refine bodyPost_ret (v := .agg #[.int .i64 r1, .int .i64 0]) ?_ rfl ⟨rfl, (HF.out.setCell (p := ⟨W.heap.size, 0, none⟩) (Nat.le_refl _) _).setCell (p := ⟨W.heap.size, 1, none⟩) (Nat.le_refl _) _⟩
        simp [results, Tryz.results85, asAddr]
        go_simp

end Go.Proofs.YtaalbaiglkadlaaGreat

/- Contract of the code of layer 7: Fold. -/
namespace Go.Proofs.YtaalbaiglkadlaaGreat
open Go.RowKit Go.Lib

theorem cell_two_at (w : World) (x y : Value) {n : Nat} (hn : w.heap.size = n) (t : TypeId) : ∀ j u, [x, y][j]? = some u → (w.alloc (.cells #[x, y] t)).cell? ((⟨n, 0, none⟩ : Addr).add j) = some u := by
  subst hn
  exact cell_two_new w x y t
theorem size_alloc (w : World) (o : Obj) : (w.alloc o).heap.size = w.heap.size + 1 := by
  show (w.heap.push _).size = _
  simp

theorem run_kept {w1 w2 : World} {B n : Nat} {e : TypeId} {size : Nat} {v x y : Value} {xs : List Value} {t : TypeId} {o : Obj} (h : w1.ownsRow B e size v n xs) (g : ((w1.alloc (.cells #[x, y] t)).alloc o).grownBy w2 v.ownBlock) : w2.cell? ⟨w1.heap.size, 0, none⟩ = some x ∧ w2.cell? ⟨w1.heap.size, 1, none⟩ = some y := by
  have hne : some w1.heap.size ≠ v.ownBlock := fun e => own_ne h (Nat.le_refl _) e.symm
  have hb : ((w1.alloc (.cells #[x, y] t)).alloc o).heap[w1.heap.size]? = some (.cells #[x, y] t (0, 0)) := by
    rw [heap_alloc_old _ _ _ (by rw [size_alloc]; omega)]
    show (w1.heap.push _)[w1.heap.size]? = _
    simp
  obtain ⟨c1, c2, _, _⟩ := two_cells hb
  exact ⟨g.cell c1 hne, g.cell c2 hne⟩

set_option maxRecDepth 20000 in
set_option maxHeartbeats 4000000 in
theorem fold7_new (l : List Int) (a : Option Addr) (cap : Nat) (W : World) (harg : ArgZ W a l) (hl : l.length ≤ 3000) (hcap : l.length ≤ cap) :
    Calls Tryz.prog 67 #[.slice a l.length cap] W fun e w' => FoldNew W l e w' := by
  have HA := hide harg
  obtain ⟨n, hn⟩ : ∃ n, l.length = n := ⟨_, rfl⟩
  have HN := hide hn
  rw [hn] at hl hcap ⊢
  have HCAP := hide hcap
  obtain ⟨i1, ki, kz0, kz1, kz2⟩ := info_parts Tryz.infoRun
  clear harg hn hcap
  go_enter Tryz.func67, Tryz.ntmps67
  go_wp2
  go_loop [10] (fun iv => ∃ j : Nat, j ≤ n ∧ iv = .int .i64 (j : Nat) ∧ Hid (∀ x ∈ l.take j, 0 ≤ x ∧ x ≤ 15)) (fun iv => n - (intOf iv).toNat)
  case atStart => exact ⟨0, Nat.zero_le _, rfl, hide (fun x hx => by simp at hx)⟩
  case round =>
    obtain ⟨j, hj, rfl, HE⟩ := hrel
    by_cases hlt : j < n
    · obtain ⟨x, hx⟩ := getZ? l j (by rw [HN.out]; exact hlt)
      obtain ⟨b, off, rfl, hb, _c⟩ := HA.out j x hx
      have zj : (j : Int) < n := by omega
      have HX := hide hx
      have HTK := hide (show l.take (j + 1) = l.take j ++ [x] by rw [List.take_add_one, hx]; rfl)
      clear hx
      by_cases q1 : x < 0
      · have HB := hide (show FoldNew W l (.returned (.slice none 0 0)) W from ⟨none, 0, [], rfl, .inr ⟨by
            cases h : lenB l with
            | false => rfl
            | true => have := ((lenB_iff l).1 h x (mem_of_get HX.out)).1; omega, rfl⟩, fun i s e h => by simp at h, fun _ => rfl, Below.refl _ _, fun b off e => by cases e⟩)
        go_wp2
        go_ret
        exact HB.out
      · have q1d : decide (x < 0) = false := decide_eq_false q1
        by_cases q2 : 15 < x
        · have HB := hide (show FoldNew W l (.returned (.slice none 0 0)) W from ⟨none, 0, [], rfl, .inr ⟨by
              cases h : lenB l with
              | false => rfl
              | true => have := ((lenB_iff l).1 h x (mem_of_get HX.out)).2; omega, rfl⟩, fun i s e h => by simp at h, fun _ => rfl, Below.refl _ _, fun b off e => by cases e⟩)
          go_wp2
          go_ret
          exact HB.out
        · have q2d : decide (15 < x) = false := decide_eq_false q2
          have HE2 := hide (show ∀ z ∈ l.take (j + 1), 0 ≤ z ∧ z ≤ 15 from fun z hz => by
            rw [HTK.out] at hz
            rcases List.mem_append.1 hz with e | e
            · exact HE.out z e
            · rw [List.mem_singleton.1 e]; omega)
          clear q1 q2
          go_wp2
          go_round
          case rel => exact ⟨j + 1, hlt, by go_num, HE2⟩
          case measure => exact meas_oneW j n hlt
    · have hje : j = n := by omega
      subst hje
      have HV := hide (show ∀ x ∈ l, 0 ≤ x ∧ x ≤ 15 by have h := HE.out; rw [List.take_of_length_le (by rw [HN.out]; exact Nat.le_refl _)] at h; exact h)
      have HLB := hide ((lenB_iff l).2 HV.out)
      have HF0 := hide (show FoldW W W l 0 [] (.slice none 0 0) from ⟨World.ownsRow_nil _ _ _ _, Below.refl _ _, fun rs h => by rw [List.drop_zero] at h; exact h, Nat.le_refl _⟩)
      clear HE hlt hj
      go_wp2
      go_loopw [5, 6] (fun v iv wr => ∃ i : Nat, i ≤ j ∧ iv = .int .i64 (i : Nat) ∧ ∃ out, Hid (FoldW wr W l i out v)) (fun _ iv _ => j - (intOf iv).toNat)
      case atStart => exact ⟨0, Nat.zero_le _, rfl, [], HF0⟩
      case round =>
        clear HF0
        obtain ⟨i, hi, rfl, out, HF⟩ := hrel
        by_cases hij : i < j
        · obtain ⟨x, hx⟩ := getZ? l i (by rw [HN.out]; exact hij)
          have HX := hide hx
          have hol := HF.out.len
          have HXB := hide (HV.out x (mem_of_get hx))
          obtain ⟨r1, r2, K, hst⟩ : ∃ r1 r2 K, stepF (prevAt l i) x (headN x (l.drop i)) = ((r1, r2), K) := ⟨_, _, _, rfl⟩
          have HST := hide hst
          have HFI := hide (step_fits _ x _ (r1, r2) K HXB.out.1 HXB.out.2 hst)
          have HNX := hide (fold_next l i x out hx HF.out.fold (r1, r2) K hst)
          have HC := hide (fun w' (h : ArgZ w' a l) => first7 l a j cap i w' x HN.out h hx HXB.out.1 HXB.out.2 hl HCAP.out r1 r2 K hst)
          have HTM := hide (times7 r1 r2 HFI.out.1 HFI.out.2.1)
          rw [show (leastN r1 : Int) + r2 = (K : Int) from HFI.out.2.2] at HTM
          have zi : (i : Int) < j := by omega
          have X1 := hide (show out.length + 1 ≤ maxLen by unfold maxLen; omega)
          have X2 := hide (show (out.length + 1) * 16 ≤ 140737488355328 by omega)
          have hK9 : K ≤ 3000 := by have := HNX.out.2.1; rw [HN.out] at this; omega
          clear hx hst hol
          go_wp2_with fail
          refine (HC.out wr (HA.out.belowB HF.out.bel (Nat.le_refl _))).mono ?_
          rintro e w1 ⟨rfl, b1⟩
          have HF1 := hide ((HF.out.below b1).below ((Below.refl _ _).alloc (Nat.le_refl _) (.cells #[.int .i64 r1, .int .i64 r2] 122)))
          have HOW := hide (HF.out.below b1).own
          clear b1 HF HC
          go_wp2_with (first
            | (at_builtin; refine wpList_append_fresh _ rfl _ _ 94 rfl W.heap.size 122 i1 (.agg #[.int .i64 0, .int .i64 0]) 2 16 Tryz.underlying94 ki kz0 kz1 kz2 rfl (by decide) u5 _ _ rfl (HF1.out.own.alloc _) ⟨w1.heap.size + 1, 0, none⟩ 1 1 [.int .i64 r1, .int .i64 r2] rfl rfl (cell_two_at _ _ _ (size_alloc _ _) _) (two_one _ _) X1.out X2.out (size_alloc_le HF1.out.bel.size) ?_; intro v2 w2 o2 g2 _f2; have HF2 := hide (HF1.out.app x HX.out (r1, r2) K HST.out _ o2 g2); obtain ⟨_c1, _c2⟩ := run_kept HOW.out g2; clear o2 g2 _f2))
          refine (HTM.out _).mono ?_
          rintro e w3 ⟨rfl, b3⟩
          have HF3 := hide (HF2.out.below b3)
          clear b3 HF2
          go_wp2
          go_roundw
          case rel => exact ⟨i + K, by have := HNX.out.2.1; rw [HN.out] at this; exact this, by go_num, _, HF3⟩
          case measure => exact meas_add i K j HNX.out.1 (by have := HNX.out.2.1; rw [HN.out] at this; exact this)
        · have hie : i = j := by omega
          subst hie
          have HD := hide (show FoldNew W l (.returned u5) wr by have h := HF.out; rw [← HN.out] at h; exact h.done HLB.out)
          go_wp2
          go_ret
          exact HD.out
theorem fold7_any (l : List Int) (a : Option Addr) (cap : Nat) (W : World) (harg : ArgZ W a l) (hl : l.length ≤ 3000) (hcap : l.length ≤ cap) :
    Calls Tryz.prog 67 #[.slice a l.length cap] W fun e w' => FoldPost W l e w' := by
  refine (fold7_new l a cap W harg hl hcap).mono ?_
  intro e w' h
  exact h.post

end Go.Proofs.YtaalbaiglkadlaaGreat

/- Contracts of the code of layer 7: counted, Unfold. -/
namespace Go.Proofs.YtaalbaiglkadlaaGreat
open Go.RowKit Go.Lib

/-- A run that may be, where so many lengths are counted. -/
def okR (S : Int) (r : Int × Int) : Prop := 0 ≤ r.1 ∧ r.1 ≤ 18 ∧ 0 ≤ r.2 ∧ r.2 < (extN r.1 : Int) ∧ ¬ (r.1 = 16 ∧ S = 0)
/-- How many lengths runs stand for, behind so many. -/
def cntU (S : Int) : List (Int × Int) → Option Int
  | [] => some S
  | r :: rs => if 0 ≤ r.1 ∧ r.1 ≤ 18 ∧ 0 ≤ r.2 ∧ r.2 < (extN r.1 : Int) ∧ ¬ (r.1 = 16 ∧ S = 0) then cntU (S + ((leastN r.1 : Int) + r.2)) rs else none

theorem cnt_ok {S : Int} {r : Int × Int} (h : okR S r) (rs : List (Int × Int)) : cntU S (r :: rs) = cntU (S + ((leastN r.1 : Int) + r.2)) rs := by
  exact if_pos h
theorem cnt_bad {S : Int} {r : Int × Int} (h : ¬ okR S r) (rs : List (Int × Int)) : cntU S (r :: rs) = none := by
  exact if_neg h
theorem okR_of {S c : Int} {r : Int × Int} {rs : List (Int × Int)} (h : cntU S (r :: rs) = some c) : okR S r := by
  refine Classical.byContradiction fun hn => ?_
  rw [cnt_bad hn] at h
  cases h
theorem okR.times {S : Int} {r : Int × Int} (h : okR S r) : timesR r = (leastN r.1 : Int) + r.2 ∧ 1 ≤ timesR r ∧ timesR r ≤ 138 := by
  obtain ⟨s, e⟩ := r
  obtain ⟨h1, h2, h3, h4, _⟩ := h
  dsimp only at h1 h2 h3 h4 ⊢
  by_cases a1 : s = 16
  · subst a1; rw [ex16] at h4; rw [tm16, ls16]; omega
  · by_cases a2 : s = 17
    · subst a2; rw [ex17] at h4; rw [tm17, ls17]; omega
    · by_cases a3 : s = 18
      · subst a3; rw [ex18] at h4; rw [tm18, ls18]; omega
      · rw [ex_plain s a1 a2 a3] at h4; rw [(plain_run s a1 a2 a3).2.1, ls_plain s a1 a2 a3]; omega
theorem cnt_ge : ∀ (rs : List (Int × Int)) (S c : Int), cntU S rs = some c → S ≤ c
  | [], S, c, h => by
    injection h with h
    omega
  | r :: rs, S, c, h => by
    have h1 := okR_of h
    have h2 := h1.times
    rw [cnt_ok h1, ← h2.1] at h
    have h3 := cnt_ge rs _ _ h
    omega
theorem cntU_le : ∀ (rs : List (Int × Int)) (S c : Int), cntU S rs = some c → c ≤ S + 138 * (rs.length : Int)
  | [], S, c, h => by
    injection h with h
    rw [List.length_nil]
    omega
  | r :: rs, S, c, h => by
    have h1 := okR_of h
    have h2 := h1.times
    rw [cnt_ok h1, ← h2.1] at h
    have h3 := cntU_le rs _ _ h
    rw [List.length_cons]
    omega
/-- The next run may be, where all are counted. -/
theorem cnt_run {n : Int} {out : List Int} {r : Int × Int} {rs : List (Int × Int)} (h : cntU (out.length : Int) (r :: rs) = some n) : runB n out r = true ∧ okR (out.length : Int) r ∧ cntU ((out.length : Int) + ((leastN r.1 : Int) + r.2)) rs = some n := by
  have h1 := okR_of h
  have h2 := h1.times
  rw [cnt_ok h1] at h
  refine ⟨?_, h1, h⟩
  have h3 := cnt_ge rs _ _ h
  obtain ⟨g1, g2, g3, g4, g5⟩ := h1
  rw [runB_iff]
  refine ⟨fun hh => g5 ⟨hh.1, by rw [hh.2]; rfl⟩, g1, g2, g3, g4, ?_⟩
  omega
/-- What is unfolded was counted. -/
theorem un_cnt (n : Int) : ∀ (rs : List (Int × Int)) (out o : List Int), unF n out rs = some o → cntU (out.length : Int) rs = some n
  | [], out, o, h => by
    unfold unF at h
    split at h
    · rename_i h2; show some _ = _; rw [h2]
    · cases h
  | r :: rs, out, o, h => by
    unfold unF at h
    split at h
    · rename_i hb
      obtain ⟨g1, g2, g3, g4, g5, g6⟩ := (runB_iff n out r).1 hb
      have h1 : okR (out.length : Int) r := ⟨g2, g3, g4, g5, fun hh => g1 ⟨hh.1, by
        cases out with
        | nil => rfl
        | cons a b => have := hh.2; rw [List.length_cons] at this; omega⟩⟩
      have h2 := h1.times
      have ih := un_cnt n rs _ o h
      rw [List.length_append, List.length_replicate] at ih
      rw [cnt_ok h1, ← h2.1]
      rw [show (out.length : Int) + timesR r = ((out.length + (timesR r).toNat : Nat) : Int) by omega]
      exact ih
    · cases h
theorem un_no {n : Int} {rs : List (Int × Int)} (h : cntU 0 rs ≠ some n) : unF n [] rs = none := by
  cases hu : unF n [] rs with
  | none => rfl
  | some o => exact absurd (un_cnt n rs [] o hu) h

/-- The counting under way. -/
structure CntW (w W : World) (rs : List (Int × Int)) (i : Nat) (S : Nat) : Prop where
  bel : Below W.heap.size W w
  cnt : cntU 0 rs = cntU (S : Int) (rs.drop i)
  len : S ≤ 138 * i
/-- What a counting gives. -/
def CntPost (W : World) (rs : List (Int × Int)) (e : Ending) (w' : World) : Prop := e = .returned (.tuple #[.int .i64 ((cntU 0 rs).getD 0), .bool (cntU 0 rs).isSome]) ∧ Below W.heap.size W w'
theorem cnt_none {W w : World} {rs : List (Int × Int)} (h : cntU 0 rs = none) (b : Below W.heap.size W w) : CntPost W rs (.returned (.tuple #[.int .i64 0, .bool false])) w := ⟨by rw [h]; rfl, b⟩
theorem cnt_some {W w : World} {rs : List (Int × Int)} {S : Int} (h : cntU 0 rs = some S) (b : Below W.heap.size W w) : CntPost W rs (.returned (.tuple #[.int .i64 S, .bool true])) w := ⟨by rw [h]; rfl, b⟩
theorem CntW.bad {w w' W : World} {rs : List (Int × Int)} {i S : Nat} (h : CntW w W rs i S) (r : Int × Int) (hr : rs[i]? = some r) (hb : ¬ okR (S : Int) r) (b : Below W.heap.size W w') : CntPost W rs (.returned (.tuple #[.int .i64 0, .bool false])) w' := by
  refine cnt_none ?_ b
  obtain ⟨hi, e⟩ := List.getElem?_eq_some_iff.1 hr
  rw [h.cnt, List.drop_eq_getElem_cons hi, e]
  exact cnt_bad hb _
theorem CntW.next {w w' W : World} {rs : List (Int × Int)} {i S : Nat} (h : CntW w W rs i S) (r : Int × Int) (hr : rs[i]? = some r) (hb : okR (S : Int) r) (T : Nat) (hT : (leastN r.1 : Int) + r.2 = (T : Int)) (b : Below W.heap.size W w') : CntW w' W rs (i + 1) (S + T) := by
  obtain ⟨hi, e⟩ := List.getElem?_eq_some_iff.1 hr
  refine ⟨b, ?_, ?_⟩
  · rw [h.cnt, List.drop_eq_getElem_cons hi, e, cnt_ok hb, hT, Int.natCast_add]
  · have h1 := h.len
    have h2 := hb.times
    omega

set_option maxRecDepth 20000 in
set_option maxHeartbeats 4000000 in
theorem counted7 (rs : List (Int × Int)) (a : Option Addr) (m cap : Nat) (W : World) (hm : rs.length = m) (harg : ArgR W a rs) (hl : m ≤ 2000) :
    Calls Tryz.prog 95 #[.slice a m cap] W fun e w' => CntPost W rs e w' := by
  have HA := hide harg
  have HM := hide hm
  have HC0 := hide (show CntW W W rs 0 0 from ⟨Below.refl _ _, by rw [List.drop_zero]; rfl, Nat.le_refl _⟩)
  clear harg hm
  go_enter Tryz.func95, Tryz.ntmps95
  go_wp2
  go_loopw [4, 9] (fun sv iv wr => ∃ i S : Nat, i ≤ m ∧ iv = .int .i64 (i : Nat) ∧ sv = .int .i64 (S : Nat) ∧ Hid (CntW wr W rs i S)) (fun _ iv _ => m - (intOf iv).toNat)
  case atStart => exact ⟨0, 0, Nat.zero_le _, rfl, rfl, HC0⟩
  case round =>
    clear HC0
    obtain ⟨i, S, hi, rfl, rfl, HC⟩ := hrel
    have hlen := HC.out.len
    by_cases hlt : i < m
    · obtain ⟨⟨s, e⟩, hr⟩ : ∃ r, rs[i]? = some r := ⟨_, List.getElem?_eq_getElem (by rw [HM.out]; exact hlt)⟩
      have HR := hide hr
      obtain ⟨b, off, rfl, hb, hc1, hc2⟩ := HA.out i s e hr
      have _c1 := (HC.out.bel.cell (p := ⟨b, off + i * 2, none⟩) hb).trans hc1
      have _c2 := (HC.out.bel.cell (p := ⟨b, off + i * 2 + 1, none⟩) hb).trans hc2
      have zi : (i : Int) < m := by omega
      have HB1 := hide (HC.out.bel.alloc HC.out.bel.size (.cells #[.int .i64 s, .int .i64 e] 122))
      have HBK := hide (fun q => below_drewN HB1.out q)
      have HBAD := hide (fun (h : ¬ okR (S : Int) (s, e)) w' (hb : Below W.heap.size W w') => HC.out.bad (w' := w') (s, e) HR.out h hb)
      have HX := hide (extras7 s)
      clear hr hc1 hc2
      by_cases s0 : s < 0
      · have HG := hide (HBAD.out (fun h => by have := h.1; dsimp only at this; omega))
        go_wp2
        go_ret2
        exact HG.out _ HB1.out
      · have ds0 : decide (s < 0) = false := decide_eq_false s0
        by_cases s18 : 18 < s
        · have HG := hide (HBAD.out (fun h => by have := h.2.1; dsimp only at this; omega))
          have ds18 : decide (18 < s) = true := decide_eq_true s18
          go_wp2
          go_ret2
          exact HG.out _ HB1.out
        · have ds18 : decide (18 < s) = false := decide_eq_false s18
          by_cases e0 : e < 0
          · have HG := hide (HBAD.out (fun h => by have := h.2.2.1; dsimp only at this; omega))
            have de0 : decide (e < 0) = true := decide_eq_true e0
            go_wp2
            go_quiet (fail)
            go_wp2
            go_ret2
            exact HG.out _ (HBK.out _)
          · have de0 : decide (e < 0) = false := decide_eq_false e0
            by_cases ex : (extN s : Int) ≤ e
            · have HG := hide (HBAD.out (fun h => by have := h.2.2.2.1; dsimp only at this; omega))
              have dex : decide ((extN s : Int) ≤ e) = true := decide_eq_true ex
              generalize extN s = X at HX ex dex
              go_wp2_with fail
              go_quiet ((go_at_call 104; exact Calls.quiet_of_same (HX.out _)))
              go_wp2
              go_ret2
              exact HG.out _ (HBK.out _)
            · have dex : decide ((extN s : Int) ≤ e) = false := decide_eq_false ex
              by_cases h16 : s = 16 ∧ S = 0
              · obtain ⟨rfl, rfl⟩ := h16
                have HG := hide (HBAD.out (fun h => h.2.2.2.2 ⟨rfl, rfl⟩))
                generalize extN 16 = X at HX ex dex
                go_wp2_with fail
                go_quiet ((go_at_call 104; exact Calls.quiet_of_same (HX.out _)))
                go_wp2
                go_ret2
                exact HG.out _ (HBK.out _)
              · have HOK := hide (show okR (S : Int) (s, e) from ⟨by dsimp only; omega, by dsimp only; omega, by dsimp only; omega, by dsimp only; omega, fun h => h16 ⟨h.1, by have := h.2; omega⟩⟩)
                have HT := HOK.out.times
                obtain ⟨T, hT⟩ : ∃ T : Nat, (leastN s : Int) + e = (T : Int) := ⟨(timesR (s, e)).toNat, by have := HT.1; dsimp only at this; omega⟩
                have HNX := hide (fun w' (hb : Below W.heap.size W w') => HC.out.next (w' := w') (s, e) HR.out HOK.out T hT hb)
                have HTM := hide (times7 s e (by omega) (by have := ex_range s; omega))
                rw [hT] at HTM
                have hT9 : T ≤ 138 := by have := HT.1; dsimp only at this; omega
                clear HT hT HOK HBAD
                generalize extN s = X at HX ex dex
                by_cases s16 : s = 16
                · subst s16
                  have hS0 : S ≠ 0 := fun h => h16 ⟨rfl, h⟩
                  have bS : ((S : Int) == 0) = false := by simp; exact hS0
                  go_wp2_with fail
                  go_quiet ((go_at_call 104; exact Calls.quiet_of_same (HX.out _)))
                  go_wp2_with fail
                  refine (HTM.out _).mono ?_
                  rintro r w2 ⟨rfl, b2⟩
                  have HN := hide (HNX.out w2 ((HBK.out _).trans (b2.mono (HBK.out _).size)))
                  clear b2
                  go_wp2
                  go_roundw
                  case rel => exact ⟨i + 1, S + T, hlt, by go_num, by go_num, HN⟩
                  case measure => exact meas_oneW i m hlt
                · have bs16 : (s == 16) = false := by simp; exact s16
                  go_wp2_with fail
                  go_quiet ((go_at_call 104; exact Calls.quiet_of_same (HX.out _)))
                  go_wp2_with fail
                  refine (HTM.out _).mono ?_
                  rintro r w2 ⟨rfl, b2⟩
                  have HN := hide (HNX.out w2 ((HBK.out _).trans (b2.mono (HBK.out _).size)))
                  clear b2
                  go_wp2
                  go_roundw
                  case rel => exact ⟨i + 1, S + T, hlt, by go_num, by go_num, HN⟩
                  case measure => exact meas_oneW i m hlt
    · have hie : i = m := by omega
      subst hie
      have HG := hide (show CntPost W rs (.returned (.tuple #[.int .i64 (S : Int), .bool true])) wr from cnt_some (by
        rw [HC.out.cnt, List.drop_of_length_le (by rw [HM.out]; exact Nat.le_refl _)]
        rfl) HC.out.bel)
      go_wp2
      go_ret2
      exact HG.out

theorem rep_more (out : List Int) (j : Nat) (x : Int) : (out ++ List.replicate j x) ++ [x] = out ++ List.replicate (j + 1) x := by
  rw [List.append_assoc, ← List.replicate_succ']
theorem last_rep (out : List Int) (T : Nat) (x : Int) (h : 1 ≤ T) : (out ++ List.replicate T x).getLastD 0 = x := by
  obtain ⟨k, rfl⟩ : ∃ k, T = k + 1 := ⟨T - 1, by omega⟩
  rw [← rep_more]
  simp
theorem made_own (w : World) (n : Nat) (B : Nat) (hB : B ≤ w.heap.size) (hn : n ≤ 276000) : (w.alloc (.cells (madeCells #[.int .i64 0] n) 3)).ownsRow B 3 1 (.slice (some ⟨w.heap.size, 0, none⟩) 0 n) 0 (intCs []) :=
  World.ownsRow_made w _ n hB (by unfold maxLen; omega) (by rw [size_madeCells]; omega)
/-- The lengths under way, all of them counted. -/
structure UnC (w W : World) (rs : List (Int × Int)) (n : Int) (i : Nat) (out : List Int) (v : Value) : Prop where
  un : UnW w W rs n i out v
  cnt : cntU (out.length : Int) (rs.drop i) = some n

set_option maxRecDepth 20000 in
set_option maxHeartbeats 8000000 in
theorem unfold7_any (rs : List (Int × Int)) (a : Option Addr) (cap : Nat) (n : Int) (W : World) (harg : ArgR W a rs) (hl : rs.length ≤ 2000) (_hn1 : -9223372036854775808 ≤ n) (_hn2 : n ≤ 9223372036854775807) :
    Calls Tryz.prog 80 #[.slice a rs.length cap, .int .i64 n] W fun e w' => UnPost W rs n e w' := by
  have HA := hide harg
  obtain ⟨m, hm⟩ : ∃ m, rs.length = m := ⟨_, rfl⟩
  have HM := hide hm
  rw [hm] at hl ⊢
  have HCT := hide (counted7 rs a m cap W hm harg hl)
  have HLS := hide (show ∀ c, cntU 0 rs = some c → 0 ≤ c ∧ c ≤ 138 * (rs.length : Int) from fun c hc => ⟨cnt_ge rs 0 c hc, by have := cntU_le rs 0 c hc; omega⟩)
  rw [hm] at HLS
  obtain ⟨i1, ki, kz0, kz1, kz2⟩ := info_parts Tryz.infoInt
  clear harg hm
  go_enter Tryz.func80, Tryz.ntmps80
  go_wp2_with fail
  refine HCT.out.mono ?_
  rintro e w1 ⟨rfl, b1⟩
  cases hcn : cntU 0 rs with
  | none =>
    have HG := hide (un_none (n := n) (un_no (by rw [hcn]; intro h; cases h)) b1)
    go_wp2
    go_ret2
    exact HG.out
  | some c =>
    by_cases ec : c = n
    · subst ec
      obtain ⟨N, rfl⟩ : ∃ N : Nat, c = (N : Int) := ⟨c.toNat, by have := (HLS.out c hcn).1; omega⟩
      have hN : N ≤ 276000 := by have := (HLS.out _ hcn).2; omega
      have HU0 := hide (show UnC (w1.alloc (.cells (madeCells #[.int .i64 0] N) 3)) W rs (N : Int) 0 [] (.slice (some ⟨w1.heap.size, 0, none⟩) 0 N) from ⟨⟨made_own w1 N _ b1.size hN, b1.alloc b1.size _, by rw [List.drop_zero], Nat.le_refl _, .inl rfl⟩, by rw [List.drop_zero]; exact hcn⟩)
      have hmk : ∀ w : World, (Instr.makeSlice 63 (.int .i64 0) (.int .i64 (N : Int))).run Tryz.prog w = .ok (.slice (some ⟨w.heap.size, 0, none⟩) 0 N) (w.alloc (.cells (madeCells #[.int .i64 0] N) 3)) := fun w => by
        have h := run_make (P := Tryz.prog) w 63 3 i1 (.int .i64 0) Tryz.underlying63 ki kz0 .i64 .i64 0 (N : Int) (Int.le_refl _) (by omega) (by rw [kz2]; omega) (by omega)
        rw [kz1, Int.toNat_zero, Int.toNat_natCast, Nat.mul_one] at h
        exact h
      clear hcn HLS HCT b1
      go_wp2
      go_loopw [8, 9, 28] (fun v lv iv wr => ∃ i : Nat, i ≤ m ∧ iv = .int .i64 (i : Nat) ∧ ∃ out z, lv = .int .i64 z ∧ Hid (out.getLastD 0 = z) ∧ Hid (UnC wr W rs (N : Int) i out v)) (fun _ _ iv _ => m - (intOf iv).toNat)
      case atStart => exact ⟨0, Nat.zero_le _, rfl, [], 0, rfl, hide rfl, HU0⟩
      case round =>
        clear HU0
        obtain ⟨i, hi, rfl, out, z, rfl, HZ, HU⟩ := hrel
        by_cases hlt : i < m
        · obtain ⟨⟨s, e⟩, hr⟩ : ∃ r, rs[i]? = some r := ⟨_, List.getElem?_eq_getElem (by rw [HM.out]; exact hlt)⟩
          have HR := hide hr
          obtain ⟨b, off, rfl, hb, hc1, hc2⟩ := HA.out i s e hr
          have _c1 := (HU.out.un.bel.cell (p := ⟨b, off + i * 2, none⟩) hb).trans hc1
          have _c2 := (HU.out.un.bel.cell (p := ⟨b, off + i * 2 + 1, none⟩) hb).trans hc2
          have zi : (i : Int) < m := by omega
          have HDR := hide (show rs.drop i = (s, e) :: rs.drop (i + 1) by
            obtain ⟨hi2, e2⟩ := List.getElem?_eq_some_iff.1 hr
            rw [List.drop_eq_getElem_cons hi2, e2])
          have hcr := cnt_run (show cntU (out.length : Int) ((s, e) :: rs.drop (i + 1)) = some (N : Int) by rw [← HDR.out]; exact HU.out.cnt)
          obtain ⟨hrb, hok, hcn⟩ := hcr
          have ht := hok.times
          obtain ⟨T, hT⟩ : ∃ T : Nat, (leastN s : Int) + e = (T : Int) := ⟨(timesR (s, e)).toNat, by have := ht.1; dsimp only at this; omega⟩
          have hT2 : timesR (s, e) = (T : Int) := by rw [ht.1]; exact hT
          have hT9 : 1 ≤ T ∧ T ≤ 138 := by omega
          have hlen := HU.out.un.len
          obtain ⟨x, hx⟩ : ∃ x, valR out s = x := ⟨_, rfl⟩
          have HX := hide hx
          have HNX := hide (fun w' v' (ho : w'.ownsRow W.heap.size 3 1 v' (out ++ List.replicate T x).length (intCs (out ++ List.replicate T x))) (hb : Below W.heap.size W w') => (show UnC w' W rs (N : Int) (i + 1) (out ++ List.replicate T x) v' from ⟨HU.out.un.next (w' := w') (v' := v') (s, e) HR.out hrb T (by rw [hT2]; exact Int.toNat_natCast T) x hx ho hb, by
            rw [List.length_append, List.length_replicate, Int.natCast_add, ← hT]
            exact hcn⟩))
          have HLR := hide (last_rep out T x hT9.1)
          have HTM := hide (times7 s e hok.2.2.1 (by have h4 := hok.2.2.2.1; dsimp only at h4; have := ex_range s; omega))
          rw [hT] at HTM
          have HOW := hide (HU.out.un.own)
          have HBL := hide (HU.out.un.bel)
          obtain ⟨L, hL⟩ : ∃ L, out.length = L := ⟨_, rfl⟩
          have HLL := hide hL
          rw [hL] at HOW hlen
          have hL9 : L ≤ 276000 := by omega
          clear hr hc1 hc2 hrb hcn ht hT hT2 hx HU hL hok HDR
          by_cases x16 : s = 16
          · subst x16
            have ez : x = z := by rw [← HX.out, vl16]; exact HZ.out
            subst ez
            have HAL := hide (HBL.out.alloc HBL.out.size (.cells #[.int .i64 16, .int .i64 e] 122))
            have HOA := hide (HOW.out.alloc (.cells #[.int .i64 16, .int .i64 e] 122))
            go_wp2_with fail
            refine (HTM.out _).mono ?_
            rintro r w2 ⟨rfl, b2⟩
            have HB2 := hide (HAL.out.trans (b2.mono HAL.out.size))
            have HO2 := hide (own_below HOA.out b2 (Nat.le_refl _))
            clear b2
            go_wp2
            rename World => wq
            go_loopw [8, 43] (fun v kv wt => ∃ j : Nat, j ≤ T ∧ kv = .int .i64 (j : Nat) ∧ Hid (wt.ownsRow W.heap.size 3 1 v (L + j) (intCs (out ++ List.replicate j x))) ∧ Hid (Below W.heap.size W wt)) (fun _ kv _ => T - (intOf kv).toNat)
            case atStart =>
              refine ⟨0, Nat.zero_le _, rfl, hide ?_, HB2⟩
              rw [Nat.add_zero, List.replicate_zero, List.append_nil]
              exact HO2.out
            case round =>
              obtain ⟨j, hj, rfl, HO, HB⟩ := hrel
              by_cases hjT : j < T
              · have zj : (j : Int) < T := by omega
                have HSN := hide (rep_more out j x)
                have X1 := hide (show L + j + 1 ≤ maxLen by unfold maxLen; omega)
                have X2 := hide (show (L + j + 1) * 8 ≤ 140737488355328 by omega)
                go_wp2_with (first
                  | (at_builtin; refine wpList_append_fresh _ rfl _ _ 63 rfl W.heap.size 3 i1 (.int .i64 0) 1 8 Tryz.underlying63 ki kz0 kz1 kz2 rfl (by decide) u8 _ _ rfl (HO.out.alloc _) ⟨wr.heap.size, 0, none⟩ 1 1 [.int .i64 x] rfl rfl (cell_one_new _ _ _) (one_int _) X1.out X2.out (size_alloc_le HB.out.size) ?_; intro v2 w3 o2 g2 _f2; have HB3 := hide (Below.grownB (HB.out.alloc HB.out.size _) g2 (HO.out.alloc _) (size_alloc_le HB.out.size)); rw [show [Value.int .i64 x] = intCs [x] from rfl, intCs_append, HSN.out, Nat.add_assoc] at o2; have HO3 := hide o2; clear o2 g2 _f2))
                go_roundw
                case rel => exact ⟨j + 1, hjT, by go_num, HO3, HB3⟩
                case measure => exact meas_oneW j T hjT
              · have hjT2 : j = T := by omega
                subst hjT2
                have HFIN := hide (HNX.out wr u8 (by rw [List.length_append, List.length_replicate, HLL.out]; exact HO.out) HB.out)
                go_wp2
                go_roundw
                case rel => exact ⟨i + 1, hlt, by go_num, _, x, rfl, HLR, HFIN⟩
                case measure => exact meas_oneW i m hlt
          · have b16 : (s == 16) = false := by simp; exact x16
            by_cases x17 : s = 17
            · subst x17
              have ez : x = 0 := by rw [← HX.out, vl17]
              subst ez
              have HAL := hide (HBL.out.alloc HBL.out.size (.cells #[.int .i64 17, .int .i64 e] 122))
              have HOA := hide (HOW.out.alloc (.cells #[.int .i64 17, .int .i64 e] 122))
              go_wp2_with fail
              refine (HTM.out _).mono ?_
              rintro r w2 ⟨rfl, b2⟩
              have HB2 := hide (HAL.out.trans (b2.mono HAL.out.size))
              have HO2 := hide (own_below HOA.out b2 (Nat.le_refl _))
              clear b2
              go_wp2
              rename World => wq
              go_loopw [8, 43] (fun v kv wt => ∃ j : Nat, j ≤ T ∧ kv = .int .i64 (j : Nat) ∧ Hid (wt.ownsRow W.heap.size 3 1 v (L + j) (intCs (out ++ List.replicate j 0))) ∧ Hid (Below W.heap.size W wt)) (fun _ kv _ => T - (intOf kv).toNat)
              case atStart =>
                refine ⟨0, Nat.zero_le _, rfl, hide ?_, HB2⟩
                rw [Nat.add_zero, List.replicate_zero, List.append_nil]
                exact HO2.out
              case round =>
                obtain ⟨j, hj, rfl, HO, HB⟩ := hrel
                by_cases hjT : j < T
                · have zj : (j : Int) < T := by omega
                  have HSN := hide (rep_more out j 0)
                  have X1 := hide (show L + j + 1 ≤ maxLen by unfold maxLen; omega)
                  have X2 := hide (show (L + j + 1) * 8 ≤ 140737488355328 by omega)
                  go_wp2_with (first
                    | (at_builtin; refine wpList_append_fresh _ rfl _ _ 63 rfl W.heap.size 3 i1 (.int .i64 0) 1 8 Tryz.underlying63 ki kz0 kz1 kz2 rfl (by decide) u8 _ _ rfl (HO.out.alloc _) ⟨wr.heap.size, 0, none⟩ 1 1 [.int .i64 0] rfl rfl (cell_one_new _ _ _) (one_int _) X1.out X2.out (size_alloc_le HB.out.size) ?_; intro v2 w3 o2 g2 _f2; have HB3 := hide (Below.grownB (HB.out.alloc HB.out.size _) g2 (HO.out.alloc _) (size_alloc_le HB.out.size)); rw [show [Value.int .i64 0] = intCs [0] from rfl, intCs_append, HSN.out, Nat.add_assoc] at o2; have HO3 := hide o2; clear o2 g2 _f2))
                  go_roundw
                  case rel => exact ⟨j + 1, hjT, by go_num, HO3, HB3⟩
                  case measure => exact meas_oneW j T hjT
                · have hjT2 : j = T := by omega
                  subst hjT2
                  have HFIN := hide (HNX.out wr u8 (by rw [List.length_append, List.length_replicate, HLL.out]; exact HO.out) HB.out)
                  go_wp2
                  go_roundw
                  case rel => exact ⟨i + 1, hlt, by go_num, _, 0, rfl, HLR, HFIN⟩
                  case measure => exact meas_oneW i m hlt
            · have b17 : (s == 17) = false := by simp; exact x17
              by_cases x18 : s = 18
              · subst x18
                have ez : x = 0 := by rw [← HX.out, vl18]
                subst ez
                have HAL := hide (HBL.out.alloc HBL.out.size (.cells #[.int .i64 18, .int .i64 e] 122))
                have HOA := hide (HOW.out.alloc (.cells #[.int .i64 18, .int .i64 e] 122))
                go_wp2_with fail
                refine (HTM.out _).mono ?_
                rintro r w2 ⟨rfl, b2⟩
                have HB2 := hide (HAL.out.trans (b2.mono HAL.out.size))
                have HO2 := hide (own_below HOA.out b2 (Nat.le_refl _))
                clear b2
                go_wp2
                rename World => wq
                go_loopw [8, 43] (fun v kv wt => ∃ j : Nat, j ≤ T ∧ kv = .int .i64 (j : Nat) ∧ Hid (wt.ownsRow W.heap.size 3 1 v (L + j) (intCs (out ++ List.replicate j 0))) ∧ Hid (Below W.heap.size W wt)) (fun _ kv _ => T - (intOf kv).toNat)
                case atStart =>
                  refine ⟨0, Nat.zero_le _, rfl, hide ?_, HB2⟩
                  rw [Nat.add_zero, List.replicate_zero, List.append_nil]
                  exact HO2.out
                case round =>
                  obtain ⟨j, hj, rfl, HO, HB⟩ := hrel
                  by_cases hjT : j < T
                  · have zj : (j : Int) < T := by omega
                    have HSN := hide (rep_more out j 0)
                    have X1 := hide (show L + j + 1 ≤ maxLen by unfold maxLen; omega)
                    have X2 := hide (show (L + j + 1) * 8 ≤ 140737488355328 by omega)
                    go_wp2_with (first
                      | (at_builtin; refine wpList_append_fresh _ rfl _ _ 63 rfl W.heap.size 3 i1 (.int .i64 0) 1 8 Tryz.underlying63 ki kz0 kz1 kz2 rfl (by decide) u8 _ _ rfl (HO.out.alloc _) ⟨wr.heap.size, 0, none⟩ 1 1 [.int .i64 0] rfl rfl (cell_one_new _ _ _) (one_int _) X1.out X2.out (size_alloc_le HB.out.size) ?_; intro v2 w3 o2 g2 _f2; have HB3 := hide (Below.grownB (HB.out.alloc HB.out.size _) g2 (HO.out.alloc _) (size_alloc_le HB.out.size)); rw [show [Value.int .i64 0] = intCs [0] from rfl, intCs_append, HSN.out, Nat.add_assoc] at o2; have HO3 := hide o2; clear o2 g2 _f2))
                    go_roundw
                    case rel => exact ⟨j + 1, hjT, by go_num, HO3, HB3⟩
                    case measure => exact meas_oneW j T hjT
                  · have hjT2 : j = T := by omega
                    subst hjT2
                    have HFIN := hide (HNX.out wr u8 (by rw [List.length_append, List.length_replicate, HLL.out]; exact HO.out) HB.out)
                    go_wp2
                    go_roundw
                    case rel => exact ⟨i + 1, hlt, by go_num, _, 0, rfl, HLR, HFIN⟩
                    case measure => exact meas_oneW i m hlt
              · have b18 : (s == 18) = false := by simp; exact x18
                have ez : x = s := by rw [← HX.out, (plain_run s x16 x17 x18).2.2]
                subst ez
                clear x16 x17 x18
                have HAL := hide (HBL.out.alloc HBL.out.size (.cells #[.int .i64 x, .int .i64 e] 122))
                have HOA := hide (HOW.out.alloc (.cells #[.int .i64 x, .int .i64 e] 122))
                go_wp2_with fail
                refine (HTM.out _).mono ?_
                rintro r w2 ⟨rfl, b2⟩
                have HB2 := hide (HAL.out.trans (b2.mono HAL.out.size))
                have HO2 := hide (own_below HOA.out b2 (Nat.le_refl _))
                clear b2
                go_wp2
                rename World => wq
                go_loopw [8, 43] (fun v kv wt => ∃ j : Nat, j ≤ T ∧ kv = .int .i64 (j : Nat) ∧ Hid (wt.ownsRow W.heap.size 3 1 v (L + j) (intCs (out ++ List.replicate j x))) ∧ Hid (Below W.heap.size W wt)) (fun _ kv _ => T - (intOf kv).toNat)
                case atStart =>
                  refine ⟨0, Nat.zero_le _, rfl, hide ?_, HB2⟩
                  rw [Nat.add_zero, List.replicate_zero, List.append_nil]
                  exact HO2.out
                case round =>
                  obtain ⟨j, hj, rfl, HO, HB⟩ := hrel
                  by_cases hjT : j < T
                  · have zj : (j : Int) < T := by omega
                    have HSN := hide (rep_more out j x)
                    have X1 := hide (show L + j + 1 ≤ maxLen by unfold maxLen; omega)
                    have X2 := hide (show (L + j + 1) * 8 ≤ 140737488355328 by omega)
                    go_wp2_with (first
                      | (at_builtin; refine wpList_append_fresh _ rfl _ _ 63 rfl W.heap.size 3 i1 (.int .i64 0) 1 8 Tryz.underlying63 ki kz0 kz1 kz2 rfl (by decide) u8 _ _ rfl (HO.out.alloc _) ⟨wr.heap.size, 0, none⟩ 1 1 [.int .i64 x] rfl rfl (cell_one_new _ _ _) (one_int _) X1.out X2.out (size_alloc_le HB.out.size) ?_; intro v2 w3 o2 g2 _f2; have HB3 := hide (Below.grownB (HB.out.alloc HB.out.size _) g2 (HO.out.alloc _) (size_alloc_le HB.out.size)); rw [show [Value.int .i64 x] = intCs [x] from rfl, intCs_append, HSN.out, Nat.add_assoc] at o2; have HO3 := hide o2; clear o2 g2 _f2))
                    go_roundw
                    case rel => exact ⟨j + 1, hjT, by go_num, HO3, HB3⟩
                    case measure => exact meas_oneW j T hjT
                  · have hjT2 : j = T := by omega
                    subst hjT2
                    have HFIN := hide (HNX.out wr u8 (by rw [List.length_append, List.length_replicate, HLL.out]; exact HO.out) HB.out)
                    go_wp2
                    go_roundw
                    case rel => exact ⟨i + 1, hlt, by go_num, _, x, rfl, HLR, HFIN⟩
                    case measure => exact meas_oneW i m hlt
        · have hie : i = m := by omega
          subst hie
          have HD := hide (show unF (N : Int) [] rs = some out by
            have h := HU.out.un.un
            rw [List.drop_of_length_le (by rw [HM.out]; exact Nat.le_refl _)] at h
            have h2 := HU.out.cnt
            rw [List.drop_of_length_le (by rw [HM.out]; exact Nat.le_refl _)] at h2
            injection h2 with h2
            rw [h]
            exact if_pos h2)
          have HG := hide (un_some HD.out HU.out.un.own HU.out.un.bel)
          go_wp2
          go_ret2
          exact HG.out
    · have bc : (c == n) = false := by simp; exact ec
      have HG := hide (un_none (n := n) (un_no (by rw [hcn]; intro h; injection h with h; exact ec h)) b1)
      go_wp2
      go_ret2
      exact HG.out

end Go.Proofs.YtaalbaiglkadlaaGreat

/- The program's Unfold of layer 7, with the row that it gives. -/
namespace Go.Proofs.YtaalbaiglkadlaaGreat
open Go.RowKit Go.Lib

/-- What unfolding gives: a row of its own. -/
def UnRow (W : World) (rs : List (Int × Int)) (n : Int) (e : Ending) (w' : World) : Prop := Below W.heap.size W w' ∧
  ((unF n [] rs = none ∧ e = .returned (.tuple #[.slice none 0 0, .bool false])) ∨
   (∃ out v, unF n [] rs = some out ∧ e = .returned (.tuple #[v, .bool true]) ∧ w'.ownsRow W.heap.size 3 1 v out.length (intCs out)))
theorem unrow_none {W w : World} {rs : List (Int × Int)} {n : Int} (h : unF n [] rs = none) (b : Below W.heap.size W w) : UnRow W rs n (.returned (.tuple #[.slice none 0 0, .bool false])) w := ⟨b, .inl ⟨h, rfl⟩⟩
theorem unrow_some {W w : World} {rs : List (Int × Int)} {n : Int} {out : List Int} {v : Value} (h : unF n [] rs = some out) (ho : w.ownsRow W.heap.size 3 1 v out.length (intCs out)) (b : Below W.heap.size W w) : UnRow W rs n (.returned (.tuple #[v, .bool true])) w := ⟨b, .inr ⟨out, v, h, rfl, ho⟩⟩

set_option maxRecDepth 20000 in
set_option maxHeartbeats 8000000 in
theorem unfold7_row (rs : List (Int × Int)) (a : Option Addr) (cap : Nat) (n : Int) (W : World) (harg : ArgR W a rs) (hl : rs.length ≤ 2000) (_hn1 : -9223372036854775808 ≤ n) (_hn2 : n ≤ 9223372036854775807) :
    Calls Tryz.prog 80 #[.slice a rs.length cap, .int .i64 n] W fun e w' => UnRow W rs n e w' := by
  have HA := hide harg
  obtain ⟨m, hm⟩ : ∃ m, rs.length = m := ⟨_, rfl⟩
  have HM := hide hm
  rw [hm] at hl ⊢
  have HCT := hide (counted7 rs a m cap W hm harg hl)
  have HLS := hide (show ∀ c, cntU 0 rs = some c → 0 ≤ c ∧ c ≤ 138 * (rs.length : Int) from fun c hc => ⟨cnt_ge rs 0 c hc, by have := cntU_le rs 0 c hc; omega⟩)
  rw [hm] at HLS
  obtain ⟨i1, ki, kz0, kz1, kz2⟩ := info_parts Tryz.infoInt
  clear harg hm
  go_enter Tryz.func80, Tryz.ntmps80
  go_wp2_with fail
  refine HCT.out.mono ?_
  rintro e w1 ⟨rfl, b1⟩
  cases hcn : cntU 0 rs with
  | none =>
    have HG := hide (unrow_none (n := n) (un_no (by rw [hcn]; intro h; cases h)) b1)
    go_wp2
    go_ret2
    exact HG.out
  | some c =>
    by_cases ec : c = n
    · subst ec
      obtain ⟨N, rfl⟩ : ∃ N : Nat, c = (N : Int) := ⟨c.toNat, by have := (HLS.out c hcn).1; omega⟩
      have hN : N ≤ 276000 := by have := (HLS.out _ hcn).2; omega
      have HU0 := hide (show UnC (w1.alloc (.cells (madeCells #[.int .i64 0] N) 3)) W rs (N : Int) 0 [] (.slice (some ⟨w1.heap.size, 0, none⟩) 0 N) from ⟨⟨made_own w1 N _ b1.size hN, b1.alloc b1.size _, by rw [List.drop_zero], Nat.le_refl _, .inl rfl⟩, by rw [List.drop_zero]; exact hcn⟩)
      have hmk : ∀ w : World, (Instr.makeSlice 63 (.int .i64 0) (.int .i64 (N : Int))).run Tryz.prog w = .ok (.slice (some ⟨w.heap.size, 0, none⟩) 0 N) (w.alloc (.cells (madeCells #[.int .i64 0] N) 3)) := fun w => by
        have h := run_make (P := Tryz.prog) w 63 3 i1 (.int .i64 0) Tryz.underlying63 ki kz0 .i64 .i64 0 (N : Int) (Int.le_refl _) (by omega) (by rw [kz2]; omega) (by omega)
        rw [kz1, Int.toNat_zero, Int.toNat_natCast, Nat.mul_one] at h
        exact h
      clear hcn HLS HCT b1
      go_wp2
      go_loopw [8, 9, 28] (fun v lv iv wr => ∃ i : Nat, i ≤ m ∧ iv = .int .i64 (i : Nat) ∧ ∃ out z, lv = .int .i64 z ∧ Hid (out.getLastD 0 = z) ∧ Hid (UnC wr W rs (N : Int) i out v)) (fun _ _ iv _ => m - (intOf iv).toNat)
      case atStart => exact ⟨0, Nat.zero_le _, rfl, [], 0, rfl, hide rfl, HU0⟩
      case round =>
        clear HU0
        obtain ⟨i, hi, rfl, out, z, rfl, HZ, HU⟩ := hrel
        by_cases hlt : i < m
        · obtain ⟨⟨s, e⟩, hr⟩ : ∃ r, rs[i]? = some r := ⟨_, List.getElem?_eq_getElem (by rw [HM.out]; exact hlt)⟩
          have HR := hide hr
          obtain ⟨b, off, rfl, hb, hc1, hc2⟩ := HA.out i s e hr
          have _c1 := (HU.out.un.bel.cell (p := ⟨b, off + i * 2, none⟩) hb).trans hc1
          have _c2 := (HU.out.un.bel.cell (p := ⟨b, off + i * 2 + 1, none⟩) hb).trans hc2
          have zi : (i : Int) < m := by omega
          have HDR := hide (show rs.drop i = (s, e) :: rs.drop (i + 1) by
            obtain ⟨hi2, e2⟩ := List.getElem?_eq_some_iff.1 hr
            rw [List.drop_eq_getElem_cons hi2, e2])
          have hcr := cnt_run (show cntU (out.length : Int) ((s, e) :: rs.drop (i + 1)) = some (N : Int) by rw [← HDR.out]; exact HU.out.cnt)
          obtain ⟨hrb, hok, hcn⟩ := hcr
          have ht := hok.times
          obtain ⟨T, hT⟩ : ∃ T : Nat, (leastN s : Int) + e = (T : Int) := ⟨(timesR (s, e)).toNat, by have := ht.1; dsimp only at this; omega⟩
          have hT2 : timesR (s, e) = (T : Int) := by rw [ht.1]; exact hT
          have hT9 : 1 ≤ T ∧ T ≤ 138 := by omega
          have hlen := HU.out.un.len
          obtain ⟨x, hx⟩ : ∃ x, valR out s = x := ⟨_, rfl⟩
          have HX := hide hx
          have HNX := hide (fun w' v' (ho : w'.ownsRow W.heap.size 3 1 v' (out ++ List.replicate T x).length (intCs (out ++ List.replicate T x))) (hb : Below W.heap.size W w') => (show UnC w' W rs (N : Int) (i + 1) (out ++ List.replicate T x) v' from ⟨HU.out.un.next (w' := w') (v' := v') (s, e) HR.out hrb T (by rw [hT2]; exact Int.toNat_natCast T) x hx ho hb, by
            rw [List.length_append, List.length_replicate, Int.natCast_add, ← hT]
            exact hcn⟩))
          have HLR := hide (last_rep out T x hT9.1)
          have HTM := hide (times7 s e hok.2.2.1 (by have h4 := hok.2.2.2.1; dsimp only at h4; have := ex_range s; omega))
          rw [hT] at HTM
          have HOW := hide (HU.out.un.own)
          have HBL := hide (HU.out.un.bel)
          obtain ⟨L, hL⟩ : ∃ L, out.length = L := ⟨_, rfl⟩
          have HLL := hide hL
          rw [hL] at HOW hlen
          have hL9 : L ≤ 276000 := by omega
          clear hr hc1 hc2 hrb hcn ht hT hT2 hx HU hL hok HDR
          by_cases x16 : s = 16
          · subst x16
            have ez : x = z := by rw [← HX.out, vl16]; exact HZ.out
            subst ez
            have HAL := hide (HBL.out.alloc HBL.out.size (.cells #[.int .i64 16, .int .i64 e] 122))
            have HOA := hide (HOW.out.alloc (.cells #[.int .i64 16, .int .i64 e] 122))
            go_wp2_with fail
            refine (HTM.out _).mono ?_
            rintro r w2 ⟨rfl, b2⟩
            have HB2 := hide (HAL.out.trans (b2.mono HAL.out.size))
            have HO2 := hide (own_below HOA.out b2 (Nat.le_refl _))
            clear b2
            go_wp2
            rename World => wq
            go_loopw [8, 43] (fun v kv wt => ∃ j : Nat, j ≤ T ∧ kv = .int .i64 (j : Nat) ∧ Hid (wt.ownsRow W.heap.size 3 1 v (L + j) (intCs (out ++ List.replicate j x))) ∧ Hid (Below W.heap.size W wt)) (fun _ kv _ => T - (intOf kv).toNat)
            case atStart =>
              refine ⟨0, Nat.zero_le _, rfl, hide ?_, HB2⟩
              rw [Nat.add_zero, List.replicate_zero, List.append_nil]
              exact HO2.out
            case round =>
              obtain ⟨j, hj, rfl, HO, HB⟩ := hrel
              by_cases hjT : j < T
              · have zj : (j : Int) < T := by omega
                have HSN := hide (rep_more out j x)
                have X1 := hide (show L + j + 1 ≤ maxLen by unfold maxLen; omega)
                have X2 := hide (show (L + j + 1) * 8 ≤ 140737488355328 by omega)
                go_wp2_with (first
                  | (at_builtin; refine wpList_append_fresh _ rfl _ _ 63 rfl W.heap.size 3 i1 (.int .i64 0) 1 8 Tryz.underlying63 ki kz0 kz1 kz2 rfl (by decide) u8 _ _ rfl (HO.out.alloc _) ⟨wr.heap.size, 0, none⟩ 1 1 [.int .i64 x] rfl rfl (cell_one_new _ _ _) (one_int _) X1.out X2.out (size_alloc_le HB.out.size) ?_; intro v2 w3 o2 g2 _f2; have HB3 := hide (Below.grownB (HB.out.alloc HB.out.size _) g2 (HO.out.alloc _) (size_alloc_le HB.out.size)); rw [show [Value.int .i64 x] = intCs [x] from rfl, intCs_append, HSN.out, Nat.add_assoc] at o2; have HO3 := hide o2; clear o2 g2 _f2))
                go_roundw
                case rel => exact ⟨j + 1, hjT, by go_num, HO3, HB3⟩
                case measure => exact meas_oneW j T hjT
              · have hjT2 : j = T := by omega
                subst hjT2
                have HFIN := hide (HNX.out wr u8 (by rw [List.length_append, List.length_replicate, HLL.out]; exact HO.out) HB.out)
                go_wp2
                go_roundw
                case rel => exact ⟨i + 1, hlt, by go_num, _, x, rfl, HLR, HFIN⟩
                case measure => exact meas_oneW i m hlt
          · have b16 : (s == 16) = false := by simp; exact x16
            by_cases x17 : s = 17
            · subst x17
              have ez : x = 0 := by rw [← HX.out, vl17]
              subst ez
              have HAL := hide (HBL.out.alloc HBL.out.size (.cells #[.int .i64 17, .int .i64 e] 122))
              have HOA := hide (HOW.out.alloc (.cells #[.int .i64 17, .int .i64 e] 122))
              go_wp2_with fail
              refine (HTM.out _).mono ?_
              rintro r w2 ⟨rfl, b2⟩
              have HB2 := hide (HAL.out.trans (b2.mono HAL.out.size))
              have HO2 := hide (own_below HOA.out b2 (Nat.le_refl _))
              clear b2
              go_wp2
              rename World => wq
              go_loopw [8, 43] (fun v kv wt => ∃ j : Nat, j ≤ T ∧ kv = .int .i64 (j : Nat) ∧ Hid (wt.ownsRow W.heap.size 3 1 v (L + j) (intCs (out ++ List.replicate j 0))) ∧ Hid (Below W.heap.size W wt)) (fun _ kv _ => T - (intOf kv).toNat)
              case atStart =>
                refine ⟨0, Nat.zero_le _, rfl, hide ?_, HB2⟩
                rw [Nat.add_zero, List.replicate_zero, List.append_nil]
                exact HO2.out
              case round =>
                obtain ⟨j, hj, rfl, HO, HB⟩ := hrel
                by_cases hjT : j < T
                · have zj : (j : Int) < T := by omega
                  have HSN := hide (rep_more out j 0)
                  have X1 := hide (show L + j + 1 ≤ maxLen by unfold maxLen; omega)
                  have X2 := hide (show (L + j + 1) * 8 ≤ 140737488355328 by omega)
                  go_wp2_with (first
                    | (at_builtin; refine wpList_append_fresh _ rfl _ _ 63 rfl W.heap.size 3 i1 (.int .i64 0) 1 8 Tryz.underlying63 ki kz0 kz1 kz2 rfl (by decide) u8 _ _ rfl (HO.out.alloc _) ⟨wr.heap.size, 0, none⟩ 1 1 [.int .i64 0] rfl rfl (cell_one_new _ _ _) (one_int _) X1.out X2.out (size_alloc_le HB.out.size) ?_; intro v2 w3 o2 g2 _f2; have HB3 := hide (Below.grownB (HB.out.alloc HB.out.size _) g2 (HO.out.alloc _) (size_alloc_le HB.out.size)); rw [show [Value.int .i64 0] = intCs [0] from rfl, intCs_append, HSN.out, Nat.add_assoc] at o2; have HO3 := hide o2; clear o2 g2 _f2))
                  go_roundw
                  case rel => exact ⟨j + 1, hjT, by go_num, HO3, HB3⟩
                  case measure => exact meas_oneW j T hjT
                · have hjT2 : j = T := by omega
                  subst hjT2
                  have HFIN := hide (HNX.out wr u8 (by rw [List.length_append, List.length_replicate, HLL.out]; exact HO.out) HB.out)
                  go_wp2
                  go_roundw
                  case rel => exact ⟨i + 1, hlt, by go_num, _, 0, rfl, HLR, HFIN⟩
                  case measure => exact meas_oneW i m hlt
            · have b17 : (s == 17) = false := by simp; exact x17
              by_cases x18 : s = 18
              · subst x18
                have ez : x = 0 := by rw [← HX.out, vl18]
                subst ez
                have HAL := hide (HBL.out.alloc HBL.out.size (.cells #[.int .i64 18, .int .i64 e] 122))
                have HOA := hide (HOW.out.alloc (.cells #[.int .i64 18, .int .i64 e] 122))
                go_wp2_with fail
                refine (HTM.out _).mono ?_
                rintro r w2 ⟨rfl, b2⟩
                have HB2 := hide (HAL.out.trans (b2.mono HAL.out.size))
                have HO2 := hide (own_below HOA.out b2 (Nat.le_refl _))
                clear b2
                go_wp2
                rename World => wq
                go_loopw [8, 43] (fun v kv wt => ∃ j : Nat, j ≤ T ∧ kv = .int .i64 (j : Nat) ∧ Hid (wt.ownsRow W.heap.size 3 1 v (L + j) (intCs (out ++ List.replicate j 0))) ∧ Hid (Below W.heap.size W wt)) (fun _ kv _ => T - (intOf kv).toNat)
                case atStart =>
                  refine ⟨0, Nat.zero_le _, rfl, hide ?_, HB2⟩
                  rw [Nat.add_zero, List.replicate_zero, List.append_nil]
                  exact HO2.out
                case round =>
                  obtain ⟨j, hj, rfl, HO, HB⟩ := hrel
                  by_cases hjT : j < T
                  · have zj : (j : Int) < T := by omega
                    have HSN := hide (rep_more out j 0)
                    have X1 := hide (show L + j + 1 ≤ maxLen by unfold maxLen; omega)
                    have X2 := hide (show (L + j + 1) * 8 ≤ 140737488355328 by omega)
                    go_wp2_with (first
                      | (at_builtin; refine wpList_append_fresh _ rfl _ _ 63 rfl W.heap.size 3 i1 (.int .i64 0) 1 8 Tryz.underlying63 ki kz0 kz1 kz2 rfl (by decide) u8 _ _ rfl (HO.out.alloc _) ⟨wr.heap.size, 0, none⟩ 1 1 [.int .i64 0] rfl rfl (cell_one_new _ _ _) (one_int _) X1.out X2.out (size_alloc_le HB.out.size) ?_; intro v2 w3 o2 g2 _f2; have HB3 := hide (Below.grownB (HB.out.alloc HB.out.size _) g2 (HO.out.alloc _) (size_alloc_le HB.out.size)); rw [show [Value.int .i64 0] = intCs [0] from rfl, intCs_append, HSN.out, Nat.add_assoc] at o2; have HO3 := hide o2; clear o2 g2 _f2))
                    go_roundw
                    case rel => exact ⟨j + 1, hjT, by go_num, HO3, HB3⟩
                    case measure => exact meas_oneW j T hjT
                  · have hjT2 : j = T := by omega
                    subst hjT2
                    have HFIN := hide (HNX.out wr u8 (by rw [List.length_append, List.length_replicate, HLL.out]; exact HO.out) HB.out)
                    go_wp2
                    go_roundw
                    case rel => exact ⟨i + 1, hlt, by go_num, _, 0, rfl, HLR, HFIN⟩
                    case measure => exact meas_oneW i m hlt
              · have b18 : (s == 18) = false := by simp; exact x18
                have ez : x = s := by rw [← HX.out, (plain_run s x16 x17 x18).2.2]
                subst ez
                clear x16 x17 x18
                have HAL := hide (HBL.out.alloc HBL.out.size (.cells #[.int .i64 x, .int .i64 e] 122))
                have HOA := hide (HOW.out.alloc (.cells #[.int .i64 x, .int .i64 e] 122))
                go_wp2_with fail
                refine (HTM.out _).mono ?_
                rintro r w2 ⟨rfl, b2⟩
                have HB2 := hide (HAL.out.trans (b2.mono HAL.out.size))
                have HO2 := hide (own_below HOA.out b2 (Nat.le_refl _))
                clear b2
                go_wp2
                rename World => wq
                go_loopw [8, 43] (fun v kv wt => ∃ j : Nat, j ≤ T ∧ kv = .int .i64 (j : Nat) ∧ Hid (wt.ownsRow W.heap.size 3 1 v (L + j) (intCs (out ++ List.replicate j x))) ∧ Hid (Below W.heap.size W wt)) (fun _ kv _ => T - (intOf kv).toNat)
                case atStart =>
                  refine ⟨0, Nat.zero_le _, rfl, hide ?_, HB2⟩
                  rw [Nat.add_zero, List.replicate_zero, List.append_nil]
                  exact HO2.out
                case round =>
                  obtain ⟨j, hj, rfl, HO, HB⟩ := hrel
                  by_cases hjT : j < T
                  · have zj : (j : Int) < T := by omega
                    have HSN := hide (rep_more out j x)
                    have X1 := hide (show L + j + 1 ≤ maxLen by unfold maxLen; omega)
                    have X2 := hide (show (L + j + 1) * 8 ≤ 140737488355328 by omega)
                    go_wp2_with (first
                      | (at_builtin; refine wpList_append_fresh _ rfl _ _ 63 rfl W.heap.size 3 i1 (.int .i64 0) 1 8 Tryz.underlying63 ki kz0 kz1 kz2 rfl (by decide) u8 _ _ rfl (HO.out.alloc _) ⟨wr.heap.size, 0, none⟩ 1 1 [.int .i64 x] rfl rfl (cell_one_new _ _ _) (one_int _) X1.out X2.out (size_alloc_le HB.out.size) ?_; intro v2 w3 o2 g2 _f2; have HB3 := hide (Below.grownB (HB.out.alloc HB.out.size _) g2 (HO.out.alloc _) (size_alloc_le HB.out.size)); rw [show [Value.int .i64 x] = intCs [x] from rfl, intCs_append, HSN.out, Nat.add_assoc] at o2; have HO3 := hide o2; clear o2 g2 _f2))
                    go_roundw
                    case rel => exact ⟨j + 1, hjT, by go_num, HO3, HB3⟩
                    case measure => exact meas_oneW j T hjT
                  · have hjT2 : j = T := by omega
                    subst hjT2
                    have HFIN := hide (HNX.out wr u8 (by rw [List.length_append, List.length_replicate, HLL.out]; exact HO.out) HB.out)
                    go_wp2
                    go_roundw
                    case rel => exact ⟨i + 1, hlt, by go_num, _, x, rfl, HLR, HFIN⟩
                    case measure => exact meas_oneW i m hlt
        · have hie : i = m := by omega
          subst hie
          have HD := hide (show unF (N : Int) [] rs = some out by
            have h := HU.out.un.un
            rw [List.drop_of_length_le (by rw [HM.out]; exact Nat.le_refl _)] at h
            have h2 := HU.out.cnt
            rw [List.drop_of_length_le (by rw [HM.out]; exact Nat.le_refl _)] at h2
            injection h2 with h2
            rw [h]
            exact if_pos h2)
          have HG := hide (unrow_some HD.out HU.out.un.own HU.out.un.bel)
          go_wp2
          go_ret2
          exact HG.out
    · have bc : (c == n) = false := by simp; exact ec
      have HG := hide (unrow_none (n := n) (un_no (by rw [hcn]; intro h; injection h with h; exact ec h)) b1)
      go_wp2
      go_ret2
      exact HG.out

end Go.Proofs.YtaalbaiglkadlaaGreat
