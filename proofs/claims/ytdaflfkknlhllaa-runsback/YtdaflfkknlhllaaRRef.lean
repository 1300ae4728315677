/- Contracts of the document's 'Bits', 'Order' and 'same' of layer 7. -/
import Derived.Test.YtdaflfkknlhllaaRRow
import Derived.Laws.ResultCell
import Derived.Laws.Tables
import Derived.Deep.WholeRow
import Derived.Deep.MidRow
import Derived.BigQuiet
namespace Go.Proofs.Ytdaflfkknlhllaa
open Go.RowKit Go.Lib

set_option maxHeartbeats 1000000 in
theorem qbits_any (s : Int) (w : World) :
    Calls Try.prog 13 #[.int .i64 s] w fun e w' => e = .returned (.int .i64 (xBits s : Nat)) ∧ w' = w := by
  by_cases h1 : s = 16
  · subst h1
    go_enter Try.func13, Try.ntmps13
    go_wp2
    go_ret
    exact ⟨rfl, rfl⟩
  · by_cases h2 : s = 17
    · subst h2
      go_enter Try.func13, Try.ntmps13
      go_wp2
      go_ret
      exact ⟨rfl, rfl⟩
    · by_cases h3 : s = 18
      · subst h3
        go_enter Try.func13, Try.ntmps13
        go_wp2
        go_ret
        exact ⟨rfl, rfl⟩
      · rw [(plain_run s h1 h2 h3).1]
        have b1 : (s == 16) = false := by simp; exact h1
        have b2 : (s == 17) = false := by simp; exact h2
        have b3 : (s == 18) = false := by simp; exact h3
        clear h1 h2 h3
        go_enter Try.func13, Try.ntmps13
        go_wp2
        go_ret
        exact ⟨rfl, rfl⟩

/-- The order of the code lengths' own lengths. -/
def orderCs : List Value := [.int .i64 16, .int .i64 17, .int .i64 18, .int .i64 0, .int .i64 8, .int .i64 7, .int .i64 9, .int .i64 6, .int .i64 10, .int .i64 5, .int .i64 11, .int .i64 4, .int .i64 12, .int .i64 3, .int .i64 13, .int .i64 2, .int .i64 14, .int .i64 1, .int .i64 15]

/-- An array that is built of constants. -/
theorem wpList_builtK {P : Program} {ops : Array Oper} {rest : List Oper} {o : Oper} {a : Act} {w : World} {Q : Exit → Act → World → Prop} (hg : o.guard = none) (t : TypeId) (cs : List (Nat × Value)) (ho : o.op = .build t (cs.map fun p => (p.1, Operand.const p.2)).toArray)
    (cells : Array Value) (hc : P.built t cs = some cells)
    (h : wpList P ops Q rest (a.put o.dst (.agg cells)) w) : wpList P ops Q (o :: rest) a w := by
  have hp : ((cs.map fun p => (p.1, Operand.const p.2)).toArray.map fun (i, x) => (i, a.eval x)).toList = cs := by
    simp [Function.comp_def, Act.eval]
  exact wpList_build hg t _ ho (by rw [hp, hc]; rfl) (by rw [hp, hc]; exact h)

theorem Try.sizeOrder : (Try.prog.info? 28).map (·.size) = some 19 := by kernel_rfl
def orderPs : List (Nat × Value) := [(0, .int .i64 16), (1, .int .i64 17), (2, .int .i64 18), (3, .int .i64 0), (4, .int .i64 8), (5, .int .i64 7), (6, .int .i64 9), (7, .int .i64 6), (8, .int .i64 10), (9, .int .i64 5), (10, .int .i64 11), (11, .int .i64 4), (12, .int .i64 12), (13, .int .i64 3), (14, .int .i64 13), (15, .int .i64 2), (16, .int .i64 14), (17, .int .i64 1), (18, .int .i64 15)]
theorem Try.builtOrder : Try.prog.built 28 orderPs = some orderCs.toArray := by kernel_rfl
theorem orderCs_one : ∀ u ∈ orderCs, u.oneCell' = true := by
  intro u hu
  unfold orderCs at hu
  simp only [List.mem_cons, List.not_mem_nil, or_false] at hu
  rcases hu with rfl | rfl | rfl | rfl | rfl | rfl | rfl | rfl | rfl | rfl | rfl | rfl | rfl | rfl | rfl | rfl | rfl | rfl | rfl <;> rfl
theorem Try.zeroOrder : ∃ Z : List Value, Z.length = 19 ∧ ∀ w : World, (zeroValue 28).run Try.prog w = .ok (.agg Z.toArray) w := by
  have h : (Try.prog.info? 28).map (·.zero) = some (some (.agg (List.replicate 19 (.int .i64 0)).toArray)) := by kernel_rfl
  refine ⟨List.replicate 19 (.int .i64 0), by simp, fun w => ?_⟩
  cases hq : Try.prog.info? 28 with
  | none => rw [hq] at h; cases h
  | some i =>
    rw [hq] at h
    have hz : i.zero = some (.agg (List.replicate 19 (.int .i64 0)).toArray) := by simpa using h
    simp [zeroValue, typeInfo, hq, hz]
theorem order_store (w : World) (Z cs : List Value) (hz : Z.length = 19) (hn : cs.length = 19) (h1 : ∀ v ∈ cs, v.oneCell' = true) :
    (storeCells ⟨w.heap.size, 0, none⟩ cs).run Try.prog (w.alloc (.cells Z.toArray 28)) = .ok () (w.alloc (.cells cs.toArray 28)) := by
  have h := run_storeCells_new (P := Try.prog) w 28 Z.toArray cs.toArray (by rw [List.size_toArray, hn]; exact Try.sizeOrder) (by rw [List.size_toArray, List.size_toArray, hn, hz]) (all_oneCell_toArray h1)
  exact h
theorem order_range (w : World) (cs : List Value) : (w.alloc (.cells cs.toArray 28)).rangeAt w.heap.size 0 cs := by
  intro j v hv
  have hh : (w.alloc (.cells cs.toArray 28)).heap[w.heap.size]? = some (.cells cs.toArray 28 (0, 0)) := by show (w.heap.push _)[w.heap.size]? = _; simp
  rw [Nat.zero_add, cell_of_row _ _ j _ _ (0, 0) hh, List.getElem?_toArray]
  exact hv
theorem order_load {w : World} {P : Nat} {cs : List Value} (h : w.rangeAt P 0 cs) (hn : cs.length = 19) : (loadVar 28 ⟨P, 0, none⟩).run Try.prog w = .ok (.agg cs.toArray) w :=
  run_loadVar_mid w P 0 28 cs _ h Try.underlying28 rfl (by rw [hn]; exact Try.sizeOrder)

set_option maxRecDepth 20000 in
set_option maxHeartbeats 2000000 in
theorem qorder_any (w : World) :
    Calls Try.prog 15 #[] w fun e w' => e = .returned (.agg orderCs.toArray) ∧ Below w.heap.size w w' := by
  obtain ⟨Z, hZn, hv⟩ := Try.zeroOrder
  have hn : orderCs.length = 19 := rfl
  have hst := order_store w Z orderCs hZn hn orderCs_one
  have HLD := hide (order_load (order_range w orderCs) hn)
  have HBD := hide Try.builtOrder
  have HB := hide ((Below.refl _ w).alloc (Nat.le_refl _) (.cells orderCs.toArray 28))
  generalize orderCs = cs at *
  go_enter Try.func15, Try.ntmps15
  go_wp2_with (first
    | (refine wpList_builtK rfl 28 orderPs rfl cs.toArray HBD.out ?_))
  (try simp only [Exit.inBlock, Exit.then])
  refine bodyPost_ret (v := .agg cs.toArray) ?_ rfl ⟨rfl, HB.out⟩
  simp [results, Try.results15, asAddr, HLD.out]

set_option maxRecDepth 20000 in
set_option maxHeartbeats 2000000 in
theorem qsame7_any (l : List Int) (a : Option Addr) (n cap i : Nat) (W : World) (x : Int) (hn : l.length = n) (harg : ArgZ W a l) (hx : l[i]? = some x) (hl : n ≤ 10000) :
    Calls Try.prog 21 #[.slice a n cap, .int .i64 (i : Nat)] W fun e w' => e = .returned (.int .i64 (headN x (l.drop i) : Nat)) ∧ Below W.heap.size W w' := by
  have hi : i < n := by rw [← hn]; exact (List.getElem?_eq_some_iff.1 hx).1
  obtain ⟨b, off, rfl, hb, hc⟩ := harg i x hx
  have HA := hide (fun (j : Nat) (y : Int) (hy : l[j]? = some y) => (show W.cell? ⟨b, off + j, none⟩ = some (.int .i64 y) by
    obtain ⟨b2, off2, e, _, h⟩ := harg j y hy
    injection e with e
    injection e with e1 e2
    subst e1
    subst e2
    exact h))
  have HN := hide hn
  have HX := hide hx
  have HC := hide hc
  have B0 := hide (Below.refl W.heap.size W)
  obtain ⟨H, hH⟩ : ∃ H, headN x (l.drop i) = H := ⟨_, rfl⟩
  have HH := hide hH
  rw [hH]
  clear hn harg hx hc hH
  go_enter Try.func21, Try.ntmps21
  go_wp2
  go_loopw [5] (fun kv wr => ∃ k : Nat, 1 ≤ k ∧ i + k ≤ n ∧ kv = .int .i64 (k : Nat) ∧ Hid (∀ t, t < k → l[i + t]? = some x) ∧ Hid (Below W.heap.size W wr)) (fun kv _ => n - (intOf kv).toNat)
  case atStart => exact ⟨1, Nat.le_refl _, by omega, rfl, hide (fun t ht => by rw [show t = 0 by omega]; exact HX.out), B0⟩
  case round =>
    obtain ⟨k, hk1, hk, rfl, HE, HB⟩ := hrel
    have _c0 := (HB.out.cell (p := ⟨b, off + i, none⟩) hb).trans HC.out
    by_cases hlt : i + k < n
    · obtain ⟨y, hy⟩ := getZ? l (i + k) (by rw [HN.out]; exact hlt)
      have _c1 := (HB.out.cell (p := ⟨b, off + (i + k), none⟩) hb).trans (HA.out _ _ hy)
      have HY := hide hy
      obtain ⟨s, hs⟩ : ∃ s, i + k = s := ⟨_, rfl⟩
      have es : (i : Int) + (k : Int) = (s : Int) := by omega
      rw [hs] at _c1
      have zs : (s : Int) < n := by omega
      have zi : (i : Int) < n := by omega
      have ds : decide ((s : Int) < n) = true := decide_eq_true zs
      have ew : IntKind.i64.wrap (s : Int) = (s : Int) := by rw [IntKind.wrap_i64]; omega
      have HLT := hide hlt
      have HS := hide hs
      clear hy hs hlt hk
      by_cases e : y = x
      · subst e
        have HE2 := hide (show ∀ t, t < k + 1 → l[i + t]? = some y from fun t ht => by
          by_cases e : t = k
          · rw [e]; exact HY.out
          · exact HE.out t (by omega))
        go_wp2
        go_quiet (fail)
        go_wp2
        go_roundw
        case rel => exact ⟨k + 1, by omega, by have := HLT.out; omega, by go_num, HE2, hide (below_drewN HB.out _)⟩
        case measure => exact meas_oneW k n (by have := HLT.out; omega)
      · have be : (y == x) = false := by simp; exact e
        have HF := hide (show H = k by
          rw [← HH.out]
          refine head_eq x (l.drop i) k (by rw [List.length_drop, HN.out]; have := HLT.out; omega) (fun t ht => by rw [List.getElem?_drop]; exact HE.out t ht) (.inr ?_)
          rw [List.getElem?_drop, HY.out]
          intro h
          injection h with h
          exact e h)
        clear e
        go_wp2
        go_quiet (fail)
        go_wp2
        go_ret
        exact ⟨by rw [HF.out]; rfl, below_drewN HB.out _⟩
    · have ds : decide ((i : Int) + (k : Int) < n) = false := decide_eq_false (by omega)
      have hke : i + k = n := by omega
      have HF := hide (show H = k by
        rw [← HH.out]
        refine head_eq x (l.drop i) k (by rw [List.length_drop, HN.out]; omega) (fun t ht => by rw [List.getElem?_drop]; exact HE.out t ht) (.inl ?_)
        rw [List.length_drop, HN.out]
        omega)
      have es : (i : Int) + (k : Int) = (n : Int) := by omega
      clear hke hlt hk
      go_wp2
      go_quiet (fail)
      go_wp2
      go_ret
      exact ⟨by rw [HF.out]; rfl, below_drewN HB.out _⟩

end Go.Proofs.Ytdaflfkknlhllaa
