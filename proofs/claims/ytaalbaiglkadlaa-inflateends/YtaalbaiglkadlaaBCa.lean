import Derived.Test.YtaalbaiglkadlaaBS
import Derived.Test.YtaalbaiglkadlaaAppArg
import Derived.Lib.AppendZeros
import Derived.Lib.MinMax
import Derived.Test.YtaalbaiglkadlaaKB
/- Contracts of the code of layer 9: slices.Concat, trimmed, Plain, Weights, Own. -/
namespace Go.Proofs.Ytaalbaiglkadlaa
open Go.RowKit Go.Lib

/-- An append whose run is known. -/
theorem wpList_append_run {P : Program} {w : World} {ops : Array Oper} {rest : List Oper} {o : Oper} {a : Act} {Q : Exit → Act → World → Prop} (hgd : o.guard = none) (s x : Operand) (t tn : TypeId)
    (ho : o.op = .call { callee := .builtin .append, args := #[s, x], argTypes := #[t, tn] }) (u v r : Value) (w' : World) (hs : a.eval s = u) (hx : a.eval x = v)
    (hr : (Builtin.append_ #[t, tn] o.type #[u, v]).run P w = .ok r w') (h : wpList P ops Q rest (a.put o.dst r) w') : wpList P ops Q (o :: rest) a w := by
  refine wpList_plain hgd fun K hK => ?_
  unfold Oper.wp execOp
  simp only [ho, resolve, invoke, builtin, Sem.run_bind, Sem.run_pure, Result.andThen_ok, List.map_toArray, List.map_cons, List.map_nil, hs, hx, hr]
  exact hK _ _ h

set_option maxHeartbeats 4000000 in
theorem plain9 (W : World) :
    Calls Try.prog 43 #[] W fun e w' => TwoNew W plainL plainD e w' := by
  have hm1 : ∀ w, (Instr.makeSlice 59 (.int .i64 288) (.int .i64 288)).run Try.prog w = _ := make_int 288 (by omega)
  have hm2 : ∀ w, (Instr.makeSlice 59 (.int .i64 32) (.int .i64 32)).run Try.prog w = _ := make_int 32 (by omega)
  have O0 := hide (own_made W plainF 288 (by omega))
  have B0 := hide ((Below.refl W.heap.size W).alloc (Nat.le_refl _) (.cells (madeCells #[.int .i64 0] 288) 3))
  go_enter Try.func43, Try.ntmps43
  go_wp2
  go_loopw [9] (fun c wr => ∃ j : Nat, j ≤ 288 ∧ c = .int .i64 (j : Nat) ∧ Hid (wr.ownsRow W.heap.size 3 1 (.slice (some ⟨W.heap.size, 0, none⟩) 288 288) 288 (natCs (fillTo plainF 288 j))) ∧ Hid (Below W.heap.size W wr)) (fun c _ => 288 - (intOf c).toNat)
  case atStart => exact ⟨0, by omega, rfl, O0, B0⟩
  case round =>
    clear O0 B0
    obtain ⟨j, hj, rfl, HO, HB⟩ := hrel
    by_cases hlt : j < 288
    · have zj : (j : Int) < 288 := by omega
      have hz : (fillTo plainF 288 j)[j]? = some 0 := by rw [fillTo_get _ _ _ j hlt, if_neg (by omega)]
      have ho := HO.out
      obtain ⟨_c2, _f2⟩ := own_nat (by rw [fillTo_length]; exact ho) hz
      have HSET := hide (own_set ho j (plainF j))
      rw [fillTo_set plainF 288 j hlt] at HSET
      have HBS := hide (fun v => HB.out.setCell (p := ⟨W.heap.size, j, none⟩) (Nat.le_refl _) v)
      clear hz ho hm1 hm2
      by_cases g1 : j < 144
      · have e : plainF j = 8 := by unfold plainF; rw [if_pos g1]
        rw [e] at HSET
        have z1 : (j : Int) < 144 := by omega
        clear e
        go_wp2
        go_roundw
        case rel => exact ⟨j + 1, by omega, by go_num, HSET, hide (HBS.out _)⟩
        case measure => exact meas_oneW j 288 hlt
      · by_cases g2 : j < 256
        · have e : plainF j = 9 := by unfold plainF; rw [if_neg g1, if_pos g2]
          rw [e] at HSET
          have z1 : ¬ (j : Int) < 144 := by omega
          have z2 : (j : Int) < 256 := by omega
          clear e
          go_wp2
          go_roundw
          case rel => exact ⟨j + 1, by omega, by go_num, HSET, hide (HBS.out _)⟩
          case measure => exact meas_oneW j 288 hlt
        · by_cases g3 : j < 280
          · have e : plainF j = 7 := by unfold plainF; rw [if_neg g1, if_neg g2, if_pos g3]
            rw [e] at HSET
            have z1 : ¬ (j : Int) < 144 := by omega
            have z2 : ¬ (j : Int) < 256 := by omega
            have z3 : (j : Int) < 280 := by omega
            clear e
            go_wp2
            go_roundw
            case rel => exact ⟨j + 1, by omega, by go_num, HSET, hide (HBS.out _)⟩
            case measure => exact meas_oneW j 288 hlt
          · have e : plainF j = 8 := by unfold plainF; rw [if_neg g1, if_neg g2, if_neg g3]
            rw [e] at HSET
            have z1 : ¬ (j : Int) < 144 := by omega
            have z2 : ¬ (j : Int) < 256 := by omega
            have z3 : ¬ (j : Int) < 280 := by omega
            clear e
            go_wp2
            go_roundw
            case rel => exact ⟨j + 1, by omega, by go_num, HSET, hide (HBS.out _)⟩
            case measure => exact meas_oneW j 288 hlt
    · have hj2 : j = 288 := by omega
      subst hj2
      have HT0 := hide (show TwoRows (wr.alloc (.cells (madeCells #[.int .i64 0] 32) 3)) W W.heap.size wr.heap.size 288 32 (fillTo plainF 288 288) (fillTo (fun _ => 5) 32 0) from
        ⟨HO.out.alloc _, ownsRow_base (own_made wr (fun _ => 5) 32 (by omega)) HB.out.size, by have := (HO.out.lt W.heap.size rfl).2; omega, HB.out.alloc HB.out.size _⟩)
      have HNE := hide HT0.out.ne
      go_wp2
      generalize (wr.alloc (.cells (madeCells #[.int .i64 0] 32) 3)) = w2 at *
      generalize wr.heap.size = P2 at *
      clear hm1 hm2 HO HB
      rename World => wm
      go_loopw [37] (fun c wr => ∃ j : Nat, j ≤ 32 ∧ c = .int .i64 (j : Nat) ∧ Hid (TwoRows wr W W.heap.size P2 288 32 (fillTo plainF 288 288) (fillTo (fun _ => 5) 32 j))) (fun c _ => 32 - (intOf c).toNat)
      case atStart => exact ⟨0, by omega, rfl, HT0⟩
      case round =>
        clear HT0
        obtain ⟨j, hj, rfl, HT⟩ := hrel
        by_cases hlt : j < 32
        · have zj : (j : Int) < 32 := by omega
          obtain ⟨_c1, _f1⟩ := HT.out.c2 (j := j) (z := 0) (by rw [fillTo_length]) (by rw [fillTo_get _ _ _ j hlt, if_neg (by omega)])
          have HS := hide (HT.out.set2 j 5)
          rw [fillTo_set (fun _ => 5) 32 j hlt] at HS
          go_wp2
          go_roundw
          case rel => exact ⟨j + 1, by omega, by go_num, HS⟩
          case measure => exact meas_oneW j 32 hlt
        · have hj2 : j = 32 := by omega
          subst hj2
          have HD := hide (HT.out.done (by rw [fillTo_length]) (by rw [fillTo_length]))
          rw [fill_end, fill_end] at HD
          go_wp2
          go_ret2
          exact HD.out

end Go.Proofs.Ytaalbaiglkadlaa

/- Contracts of the code of layer 9: Weights, Own. -/
namespace Go.Proofs.Ytaalbaiglkadlaa
open Go.RowKit Go.Lib

/-- How often, without the end. -/
def litW0 (l : List (Nat × Int × Int)) : List Nat := (List.range 286).map fun s => l.countP (fun t => symT t == s)
theorem litW0_length (l : List (Nat × Int × Int)) : (litW0 l).length = 286 := by simp [litW0]
theorem litW0_get (l : List (Nat × Int × Int)) (i : Nat) (h : i < 286) : (litW0 l)[i]? = some (l.countP (fun t => symT t == i)) := by
  unfold litW0
  rw [List.getElem?_map, List.getElem?_range h]
  rfl
theorem litW0_nil : litW0 [] = List.replicate 286 0 := by decide +kernel
theorem litW0_snoc (l : List (Nat × Int × Int)) (t : Nat × Int × Int) (h : symT t < 286) : litW0 (l ++ [t]) = (litW0 l).set (symT t) (l.countP (fun u => symT u == symT t) + 1) := by
  refine set_map_range (fun s => l.countP (fun u => symT u == s)) (fun s => (l ++ [t]).countP (fun u => symT u == s)) 286 (symT t) _ h ?_ ?_
  · rw [List.countP_append, List.countP_singleton]
    simp
  · intro i hi
    have hb : (symT t == i) = false := by simp; exact fun e => hi e.symm
    rw [List.countP_append, List.countP_singleton, hb]
    simp
theorem litW0_end (l : List (Nat × Int × Int)) : litWs l = (litW0 l).set 256 (l.countP (fun u => symT u == 256) + 1) := by
  refine set_map_range (fun s => l.countP (fun u => symT u == s)) (wL l) 286 256 _ (by omega) ?_ ?_
  · unfold wL
    rw [if_pos rfl, Nat.add_comm]
  · intro i hi
    unfold wL
    rw [if_neg hi, Nat.zero_add]
theorem cnt_le (f : Nat × Int × Int → Bool) (l : List (Nat × Int × Int)) : l.countP f ≤ l.length := List.countP_le_length

end Go.Proofs.Ytaalbaiglkadlaa

/- Contracts of the code of layer 9: a symbol's code, begin, coded, tokens. -/
namespace Go.Proofs.Ytaalbaiglkadlaa
open Go.RowKit Go.Lib

/-- A code that a writer does not turn. -/
structure CodeK (p : Nat) (v : Value) (w : World) (la : List Nat) (x o c y d : Nat) : Prop where
  fx : FreeB p v w x
  fy : FreeB p v w y
  cx : ∀ k, k < la.length → w.cell? ⟨x, o + k, none⟩ = some (.int .i64 ((la.getD k 0 : Nat) : Int))
  cy : ∀ k, k < la.length → w.cell? ⟨y, 0 + k, none⟩ = some (.int .i64 ((codeN la k : Nat) : Int))
theorem CodeK.step {p : Nat} {v v' : Value} {w w' : World} {la : List Nat} {x o c y d : Nat} (h : CodeK p v w la x o c y d) (s : Step p v v' w w') : CodeK p v' w' la x o c y d :=
  ⟨h.fx.step s, h.fy.step s, fun k hk => (h.fx.cell s (o + k)).trans (h.cx k hk), fun k hk => (h.fy.cell s (0 + k)).trans (h.cy k hk)⟩
def codeV9 (la : List Nat) (x o c y d : Nat) : Value := .agg #[.slice (some ⟨x, o, none⟩) la.length c, .slice (some ⟨y, 0, none⟩) la.length d]
theorem set_two (w : World) (p : Nat) (a b x y : Value) (T : TypeId) (h : w.heap[p]? = some (.cells #[a, b] T (0, 0))) : ((w.setCell ⟨p, 0, none⟩ x).setCell ⟨p, 1, none⟩ y).heap[p]? = some (.cells #[x, y] T (0, 0)) := by
  have h1 := heap_setCell_same w p 0 x _ _ _ h
  exact heap_setCell_same _ p 1 y _ _ _ h1
theorem frozen_row9 {w : World} {b : Nat} {cs : Array Value} {t : TypeId} (h : w.heap[b]? = some (.cells cs t (0, 0))) (o : Nat) : w.frozen? ⟨b, o, none⟩ = false := by simp [World.frozen?, h]

end Go.Proofs.Ytaalbaiglkadlaa

/- Contract of the code of layer 9: tokens are written. -/
namespace Go.Proofs.Ytaalbaiglkadlaa
open Go.RowKit Go.Lib

theorem high_len (x : Int) (k : Nat) : (highBits x k).length = k := by unfold highBits; rw [List.length_reverse, lowBits_length]

theorem new_box (w : World) (o : Obj) : (w.alloc o).heap[w.heap.size]? = some o := by show (w.heap.push _)[w.heap.size]? = _; simp
theorem two_boxes (W : World) (va vb : Obj) : ((W.alloc va).alloc vb).heap[W.heap.size]? = some va ∧ ((W.alloc va).alloc vb).heap[W.heap.size + 1]? = some vb ∧ Below W.heap.size W ((W.alloc va).alloc vb) := by
  have s1 : (W.alloc va).heap.size = W.heap.size + 1 := by show (W.heap.push _).size = _; simp
  refine ⟨?_, ?_, ((Below.refl _ _).alloc (Nat.le_refl _) _).alloc (by rw [s1]; omega) _⟩
  · rw [heap_alloc_old _ _ _ (by omega)]; exact new_box W va
  · have h := new_box (W.alloc va) vb
    rw [s1] at h
    exact h

end Go.Proofs.Ytaalbaiglkadlaa
