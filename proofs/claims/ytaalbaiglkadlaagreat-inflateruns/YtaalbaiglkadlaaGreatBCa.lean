import Derived.Test.YtaalbaiglkadlaaGreatBS
import Derived.Test.YtaalbaiglkadlaaGreatAppArg
import Derived.Lib.AppendZeros
import Derived.Lib.MinMax
import Derived.Test.YtaalbaiglkadlaaGreatKB
/- Contracts of the code of layer 9: slices.Concat, trimmed, Plain, Weights, Own. -/
namespace Go.Proofs.YtaalbaiglkadlaaGreat
open Go.RowKit Go.Lib

theorem trimmed9 (l : List Nat) (a : Option Addr) (cap least : Nat) (W : World) (harg : ArgN W a l) (hl : l.length ≤ 2000) (hle : least ≤ l.length) (h1 : 1 ≤ least) (hcap : l.length ≤ cap) (hv : ∀ x ∈ l, x ≤ 1000) :
    Calls Tryz.prog 71 #[.slice a l.length cap, .int .i64 (least : Nat)] W fun e w' => (∃ c, e = .returned (.slice a (cutL l least).length c) ∧ (cutL l least).length ≤ c) ∧ w' = W := by
  have HARG := hide harg
  have HV := hide hv
  obtain ⟨n, hn⟩ : ∃ n, l.length = n := ⟨_, rfl⟩
  have HN := hide hn
  have HCL := hide (cutL_length l least)
  have HCA := hide hcap
  rw [hn] at hl hle hcap HCL HCA ⊢
  clear harg hn hv
  go_enter Tryz.func71, Tryz.ntmps71
  go_wp2
  go_loop [5] (fun v => ∃ m : Nat, least ≤ m ∧ m ≤ n ∧ Hid (cutN l least m = cutN l least n) ∧ v = .int .i64 (m : Nat)) (fun v => (intOf v).toNat)
  case atStart => exact ⟨n, hle, Nat.le_refl _, rfl, rfl⟩
  case round =>
    obtain ⟨m, hm1, hm2, HM, rfl⟩ := hrel
    obtain ⟨k, rfl⟩ : ∃ k, m = k + 1 := ⟨m - 1, by omega⟩
    have ek : ((k + 1 : Nat) : Int) = (k : Int) + 1 := by omega
    rw [ek]
    obtain ⟨z, hz⟩ : ∃ z, l[k]? = some z := ⟨_, List.getElem?_eq_getElem (by rw [HN.out]; omega)⟩
    have hgd : l.getD k 0 = z := by rw [List.getD_eq_getElem?_getD, hz]; rfl
    have hz9 := HV.out z (List.mem_of_getElem? hz)
    obtain ⟨x, offx, rfl, hx, hcx⟩ := HARG.out k _ hz
    have zk : (k : Int) + 1 - 1 = (k : Int) := by omega
    have zkn : (k : Int) < n := by omega
    clear hx
    by_cases hlt : least < k + 1
    · have zl : (least : Int) < (k : Int) + 1 := by omega
      by_cases h0 : z = 0
      · subst h0
        have HST := hide (cutN_step l least k hlt hgd)
        have hcx : W.cell? ⟨x, offx + k, none⟩ = some (.int .i64 0) := hcx
        have hk1 : 1 ≤ k := by omega
        clear hgd hz
        go_wp2
        go_round
        case rel => exact ⟨k, by omega, by omega, hide (HST.out.symm.trans HM.out), rfl⟩
        case measure =>
          show ((k : Nat) : Int).toNat < (((k : Nat) : Int) + 1).toNat
          omega
      · have HST := hide (cutN_stop l least (k + 1) (fun g => h0 (by rw [Nat.add_sub_cancel, hgd] at g; exact g.2)))
        have hzb : ((z : Int) == 0) = false := by simp; omega
        have zc : (k : Int) + 1 ≤ cap := by omega
        have HF := hide (show cutN l least n = k + 1 by rw [← HM.out, HST.out])
        clear hgd hz
        go_wp2
        go_ret
        exact ⟨⟨cap, by rw [HCL.out, HF.out]; rfl, by rw [HCL.out, HF.out]; omega⟩, rfl⟩
    · have HST := hide (cutN_stop l least (k + 1) (fun g => hlt g.1))
      have zl : ¬ (least : Int) < (k : Int) + 1 := by omega
      have zc : (k : Int) + 1 ≤ cap := by omega
      have HF := hide (show cutN l least n = k + 1 by rw [← HM.out, HST.out])
      clear hgd hz
      go_wp2
      go_ret
      exact ⟨⟨cap, by rw [HCL.out, HF.out]; rfl, by rw [HCL.out, HF.out]; omega⟩, rfl⟩

/-- An append whose run is known. -/
theorem wpList_append_run {P : Program} {w : World} {ops : Array Oper} {rest : List Oper} {o : Oper} {a : Act} {Q : Exit → Act → World → Prop} (hgd : o.guard = none) (s x : Operand) (t tn : TypeId)
    (ho : o.op = .call { callee := .builtin .append, args := #[s, x], argTypes := #[t, tn] }) (u v r : Value) (w' : World) (hs : a.eval s = u) (hx : a.eval x = v)
    (hr : (Builtin.append_ #[t, tn] o.type #[u, v]).run P w = .ok r w') (h : wpList P ops Q rest (a.put o.dst r) w') : wpList P ops Q (o :: rest) a w := by
  refine wpList_plain hgd fun K hK => ?_
  unfold Oper.wp execOp
  simp only [ho, resolve, invoke, builtin, Sem.run_bind, Sem.run_pure, Result.andThen_ok, List.map_toArray, List.map_cons, List.map_nil, hs, hx, hr]
  exact hK _ _ h

set_option maxRecDepth 20000 in
/-- A new row of noughts, of which none is taken. -/
theorem grow9 (n : Nat) (w : World) (h0 : 0 < n) (hn : n ≤ 10000) :
    Calls Tryz.prog 87 #[.slice none 0 0, .int .i64 (n : Nat)] w fun e w' => ∃ g cap, e = .returned (.slice (some ⟨g, 0, none⟩) 0 cap) ∧ w'.ownsRow w.heap.size 3 1 (.slice (some ⟨g, 0, none⟩) 0 cap) 0 [] ∧ Below w.heap.size w w' := by
  have zn : (0 : Int) < n := by omega
  obtain ⟨i1, ki, kz0, kz1, kz2⟩ := info_parts Tryz.infoInt
  have hap := fun (w : World) (ty : TypeId) => run_append_nil_zeros (P := Tryz.prog) w 63 3 ty 3 i1 (.int .i64 0) .i64 .i64 Tryz.underlying63 Tryz.underlying3 ki kz0 n h0 (by rw [kz1]; omega) (by omega) (by rw [kz2]; omega)
  have hg1 := grownCap_ge w n 0 3
  have hg2 := grownCap_le_maxLen w n 0 3 (by unfold maxLen; omega)
  have HO := hide (World.ownsRow_made (base := w.heap.size) (e := 3) (size := 1) w.drew (Builtin.zeroCells (Value.int .i64 0).cells n ++ Builtin.zeroCells (Value.int .i64 0).cells (grownCap w n 0 3 - n)) (grownCap w n 0 3) (Nat.le_refl _) hg2 (by
    have hc : (Value.int .i64 0).cells.size = 1 := rfl
    rw [Array.size_append, size_zeroCells, size_zeroCells, hc]
    omega))
  have HB := hide ((Below.refl w.heap.size w).drew.alloc (Nat.le_refl _) (.cells (Builtin.zeroCells (Value.int .i64 0).cells n ++ Builtin.zeroCells (Value.int .i64 0).cells (grownCap w n 0 3 - n)) 3))
  have HAP := hide (fun ty => hap w ty)
  clear hap
  generalize (Builtin.zeroCells (Value.int .i64 0).cells n ++ Builtin.zeroCells (Value.int .i64 0).cells (grownCap w n 0 3 - n)) = cs at *
  generalize grownCap w n 0 3 = cp at *
  clear hg2
  go_enter Tryz.func87, Tryz.ntmps87
  go_wp2_with (first | (at_builtin; refine wpList_append_run rfl _ _ 63 3 rfl _ _ _ _ rfl rfl (HAP.out _) ?_))
  go_ret
  exact ⟨_, cp, rfl, HO.out, HB.out⟩

set_option maxRecDepth 20000 in
set_option maxHeartbeats 4000000 in
theorem concat9 (x y : List Nat) (a1 a2 : Option Addr) (n m c1 c2 pb : Nat) (W : World) (hn : x.length = n) (hm : y.length = m) (k1 : ArgN W a1 x) (k2 : ArgN W a2 y) (hx1 : 1 ≤ n) (hx2 : n ≤ 400) (hy1 : 1 ≤ m) (hy2 : m ≤ 400) (hp : pb < W.heap.size) (_c1 : W.cell? ⟨pb, 0, none⟩ = some (.slice a1 n c1)) (_c2 : W.cell? ⟨pb, 1, none⟩ = some (.slice a2 m c2)) :
    Calls Tryz.prog 68 #[.slice (some ⟨pb, 0, none⟩) 2 2] W fun e w' => ∃ v, e = .returned v ∧ w'.ownsRow W.heap.size 3 1 v (n + m) (natCs (x ++ y)) ∧ Below W.heap.size W w' := by
  have K1 := hide k1
  have K2 := hide k2
  have HX := hide hn
  have HY := hide hm
  have HG := hide (grow9 (n + m) W (by omega) (by omega))
  have en : ((n + m : Nat) : Int) = (n : Int) + (m : Int) := by omega
  rw [en] at HG
  obtain ⟨i1, ki, kz0, kz1, kz2⟩ := info_parts Tryz.infoInt
  have HC1 := hide _c1
  have HC2 := hide _c2
  clear k1 k2 hn hm
  go_enter Tryz.func68, Tryz.ntmps68
  go_wp2
  refine wp_loop_rounds 3 ?_
  rw [rounds_succ]
  go_wp2
  rw [rounds_succ]
  go_wp2
  rw [rounds_succ]
  go_wp2_with fail
  refine HG.out.mono ?_
  rintro e w1 ⟨g, cp, rfl, ho1, b1⟩
  have HO1 := hide ho1
  have HB1 := hide b1
  have A1 := hide (K1.out.below b1 (Nat.le_refl _))
  have A2 := hide (K2.out.below b1 (Nat.le_refl _))
  have _d1 := (b1.cell (p := ⟨pb, 0, none⟩) hp).trans HC1.out
  have _d2 := (b1.cell (p := ⟨pb, 1, none⟩) hp).trans HC2.out
  clear ho1 b1 _c1 _c2 en
  go_wp2
  refine wp_loop_rounds 3 ?_
  rw [rounds_succ]
  go_wp2_with (first
    | (at_builtin; refine wpList_append_arg rfl _ _ 63 rfl W.heap.size 3 i1 (.int .i64 0) 1 8 Tryz.underlying63 ki kz0 kz1 kz2 rfl (by decide) _ _ _ rfl HO1.out a1 n _ (natCs x) rfl (by rw [natCs_len, HX.out]; omega) (fun e => by have h := argN_none A1.out e; rw [HX.out] at h; exact h) (fun ad e => argN_news A1.out ad e) (natCs_one _) (by unfold maxLen; omega) (by omega) HB1.out.size ?_; intro v2 w2 o2 g2))
  have HO2 := hide o2
  have HB2 := hide (Below.grownB HB1.out g2 HO1.out HB1.out.size)
  have A2b := hide (K2.out.below HB2.out (Nat.le_refl _))
  clear o2 g2
  have _e2 : w2.cell? ⟨pb, 1, none⟩ = some (.slice a2 m c2) := (HB2.out.cell (p := ⟨pb, 1, none⟩) hp).trans HC2.out
  rw [rounds_succ]
  go_wp2_with (first
    | (at_builtin; refine wpList_append_arg rfl _ _ 63 rfl W.heap.size 3 i1 (.int .i64 0) 1 8 Tryz.underlying63 ki kz0 kz1 kz2 rfl (by decide) _ _ _ rfl HO2.out a2 m _ (natCs y) rfl (by rw [natCs_len, HY.out]; omega) (fun e => by have h := argN_none A2b.out e; rw [HY.out] at h; exact h) (fun ad e => argN_news A2b.out ad e) (natCs_one _) (by unfold maxLen; omega) (by omega) HB2.out.size ?_; intro v3 w3 o3 g3))
  have HO3 := hide (show w3.ownsRow W.heap.size 3 1 v3 (n + m) (natCs (x ++ y)) by
    rw [← natCs_append]
    rw [Nat.zero_add, List.nil_append] at o3
    exact o3)
  have HB3 := hide (Below.grownB HB2.out g3 HO2.out HB2.out.size)
  clear o3 g3
  rw [rounds_succ]
  go_wp2
  go_ret
  exact ⟨v3, rfl, HO3.out, HB3.out⟩

set_option maxHeartbeats 4000000 in
theorem plain9 (W : World) :
    Calls Tryz.prog 26 #[] W fun e w' => TwoNew W plainL plainD e w' := by
  have hm1 : ∀ w, (Instr.makeSlice 63 (.int .i64 288) (.int .i64 288)).run Tryz.prog w = _ := make_int 288 (by omega)
  have hm2 : ∀ w, (Instr.makeSlice 63 (.int .i64 32) (.int .i64 32)).run Tryz.prog w = _ := make_int 32 (by omega)
  have O0 := hide (own_made W plainF 288 (by omega))
  have B0 := hide ((Below.refl W.heap.size W).alloc (Nat.le_refl _) (.cells (madeCells #[.int .i64 0] 288) 3))
  go_enter Tryz.func26, Tryz.ntmps26
  go_wp2
  go_loopw [9] (fun c wr => ∃ j : Nat, j ≤ 288 ∧ c = .int .i64 (j : Nat) ∧ Hid (wr.ownsRow W.heap.size 3 1 (.slice (some ⟨W.heap.size, 0, none⟩) 288 288) 288 (natCs (fillTo plainF 288 j))) ∧ Hid (Below W.heap.size W wr)) (fun c _ => 288 - (intOf c).toNat)
  case atStart => exact ⟨0, by omega, rfl, O0, B0⟩
  case round =>
    clear O0 B0
    obtain ⟨j, hj, rfl, HO, HB⟩ := hrel
    by_cases hlt : j < 288
    · have zj : (j : Int) < 288 := by omega
      have hz : (fillTo plainF 288 j)[j]? = some 0 := by rw [fillTo_get _ _ _ j hlt, if_neg (by omega)]
      have ho := HO.out
      obtain ⟨_c2, _f2⟩ := own_nat (by rw [fillTo_length]; exact ho) hz
      have HSET := hide (own_set ho j (plainF j))
      rw [fillTo_set plainF 288 j hlt] at HSET
      have HBS := hide (fun v => HB.out.setCell (p := ⟨W.heap.size, j, none⟩) (Nat.le_refl _) v)
      clear hz ho hm1 hm2
      by_cases g1 : j < 144
      · have e : plainF j = 8 := by unfold plainF; rw [if_pos g1]
        rw [e] at HSET
        have z1 : (j : Int) < 144 := by omega
        clear e
        go_wp2
        go_roundw
        case rel => exact ⟨j + 1, by omega, by go_num, HSET, hide (HBS.out _)⟩
        case measure => exact meas_oneW j 288 hlt
      · by_cases g2 : j < 256
        · have e : plainF j = 9 := by unfold plainF; rw [if_neg g1, if_pos g2]
          rw [e] at HSET
          have z1 : ¬ (j : Int) < 144 := by omega
          have z2 : (j : Int) < 256 := by omega
          clear e
          go_wp2
          go_roundw
          case rel => exact ⟨j + 1, by omega, by go_num, HSET, hide (HBS.out _)⟩
          case measure => exact meas_oneW j 288 hlt
        · by_cases g3 : j < 280
          · have e : plainF j = 7 := by unfold plainF; rw [if_neg g1, if_neg g2, if_pos g3]
            rw [e] at HSET
            have z1 : ¬ (j : Int) < 144 := by omega
            have z2 : ¬ (j : Int) < 256 := by omega
            have z3 : (j : Int) < 280 := by omega
            clear e
            go_wp2
            go_roundw
            case rel => exact ⟨j + 1, by omega, by go_num, HSET, hide (HBS.out _)⟩
            case measure => exact meas_oneW j 288 hlt
          · have e : plainF j = 8 := by unfold plainF; rw [if_neg g1, if_neg g2, if_neg g3]
            rw [e] at HSET
            have z1 : ¬ (j : Int) < 144 := by omega
            have z2 : ¬ (j : Int) < 256 := by omega
            have z3 : ¬ (j : Int) < 280 := by omega
            clear e
            go_wp2
            go_roundw
            case rel => exact ⟨j + 1, by omega, by go_num, HSET, hide (HBS.out _)⟩
            case measure => exact meas_oneW j 288 hlt
    · have hj2 : j = 288 := by omega
      subst hj2
      have HT0 := hide (show TwoRows (wr.alloc (.cells (madeCells #[.int .i64 0] 32) 3)) W W.heap.size wr.heap.size 288 32 (fillTo plainF 288 288) (fillTo (fun _ => 5) 32 0) from
        ⟨HO.out.alloc _, ownsRow_base (own_made wr (fun _ => 5) 32 (by omega)) HB.out.size, by have := (HO.out.lt W.heap.size rfl).2; omega, HB.out.alloc HB.out.size _⟩)
      have HNE := hide HT0.out.ne
      go_wp2
      generalize (wr.alloc (.cells (madeCells #[.int .i64 0] 32) 3)) = w2 at *
      generalize wr.heap.size = P2 at *
      clear hm1 hm2 HO HB
      rename World => wm
      go_loopw [37] (fun c wr => ∃ j : Nat, j ≤ 32 ∧ c = .int .i64 (j : Nat) ∧ Hid (TwoRows wr W W.heap.size P2 288 32 (fillTo plainF 288 288) (fillTo (fun _ => 5) 32 j))) (fun c _ => 32 - (intOf c).toNat)
      case atStart => exact ⟨0, by omega, rfl, HT0⟩
      case round =>
        clear HT0
        obtain ⟨j, hj, rfl, HT⟩ := hrel
        by_cases hlt : j < 32
        · have zj : (j : Int) < 32 := by omega
          obtain ⟨_c1, _f1⟩ := HT.out.c2 (j := j) (z := 0) (by rw [fillTo_length]) (by rw [fillTo_get _ _ _ j hlt, if_neg (by omega)])
          have HS := hide (HT.out.set2 j 5)
          rw [fillTo_set (fun _ => 5) 32 j hlt] at HS
          go_wp2
          go_roundw
          case rel => exact ⟨j + 1, by omega, by go_num, HS⟩
          case measure => exact meas_oneW j 32 hlt
        · have hj2 : j = 32 := by omega
          subst hj2
          have HD := hide (HT.out.done (by rw [fillTo_length]) (by rw [fillTo_length]))
          rw [fill_end, fill_end] at HD
          go_wp2
          go_ret2
          exact HD.out

end Go.Proofs.YtaalbaiglkadlaaGreat

/- Contracts of the code of layer 9: Weights, Own. -/
namespace Go.Proofs.YtaalbaiglkadlaaGreat
open Go.RowKit Go.Lib

/-- How often, without the end. -/
def litW0 (l : List (Nat × Int × Int)) : List Nat := (List.range 286).map fun s => l.countP (fun t => symT t == s)
theorem litW0_length (l : List (Nat × Int × Int)) : (litW0 l).length = 286 := by simp [litW0]
theorem litW0_get (l : List (Nat × Int × Int)) (i : Nat) (h : i < 286) : (litW0 l)[i]? = some (l.countP (fun t => symT t == i)) := by
  unfold litW0
  rw [List.getElem?_map, List.getElem?_range h]
  rfl
theorem litW0_nil : litW0 [] = List.replicate 286 0 := by decide +kernel
theorem litW0_snoc (l : List (Nat × Int × Int)) (t : Nat × Int × Int) (h : symT t < 286) : litW0 (l ++ [t]) = (litW0 l).set (symT t) (l.countP (fun u => symT u == symT t) + 1) := by
  refine set_map_range (fun s => l.countP (fun u => symT u == s)) (fun s => (l ++ [t]).countP (fun u => symT u == s)) 286 (symT t) _ h ?_ ?_
  · rw [List.countP_append, List.countP_singleton]
    simp
  · intro i hi
    have hb : (symT t == i) = false := by simp; exact fun e => hi e.symm
    rw [List.countP_append, List.countP_singleton, hb]
    simp
theorem litW0_end (l : List (Nat × Int × Int)) : litWs l = (litW0 l).set 256 (l.countP (fun u => symT u == 256) + 1) := by
  refine set_map_range (fun s => l.countP (fun u => symT u == s)) (wL l) 286 256 _ (by omega) ?_ ?_
  · unfold wL
    rw [if_pos rfl, Nat.add_comm]
  · intro i hi
    unfold wL
    rw [if_neg hi, Nat.zero_add]
theorem cnt_le (f : Nat × Int × Int → Bool) (l : List (Nat × Int × Int)) : l.countP f ≤ l.length := List.countP_le_length

set_option maxHeartbeats 8000000 in
theorem weights9 (l : List (Nat × Int × Int)) (a : Option Addr) (cap : Nat) (W : World) (harg : ArgT W a l) (hr : ∀ t ∈ l, RightT t) (hl : l.length ≤ 2000) :
    Calls Tryz.prog 59 #[.slice a l.length cap] W fun e w' => TwoNew W (litWs l) (distWs l) e w' := by
  have hm1 : ∀ w, (Instr.makeSlice 63 (.int .i64 286) (.int .i64 286)).run Tryz.prog w = _ := make_int 286 (by omega)
  have hm2 : ∀ w, (Instr.makeSlice 63 (.int .i64 30) (.int .i64 30)).run Tryz.prog w = _ := make_int 30 (by omega)
  have HA := hide (TwoRows.made W 286 30 (by omega) (by omega))
  have HB := hide (TwoRows.made' W 286 30 (by omega) (by omega))
  rw [← litW0_nil, ← distWs_nil] at HA HB
  have HARG := hide harg
  have HR := hide hr
  obtain ⟨n, hn⟩ : ∃ n, l.length = n := ⟨_, rfl⟩
  have HN := hide hn
  rw [hn] at hl ⊢
  clear harg hr hn
  go_enter Tryz.func59, Tryz.ntmps59
  go_wp2
  go_region
  case' _ => clear HB; generalize W.heap.size + 1 = P2 at HA ⊢; generalize W.heap.size = P1 at HA ⊢; generalize ((W.alloc (.cells (madeCells #[.int .i64 0] 286) 3)).alloc (.cells (madeCells #[.int .i64 0] 30) 3)).drew = w1 at HA ⊢
  rotate_left
  case' _ => clear HA; have HA := hide HB.out; clear HB; generalize W.heap.size + 1 = P1 at HA ⊢; generalize W.heap.size = P2 at HA ⊢; generalize ((W.alloc (.cells (madeCells #[.int .i64 0] 30) 3)).alloc (.cells (madeCells #[.int .i64 0] 286) 3)).drew = w1 at HA ⊢
  all_goals clear hm1 hm2
  all_goals (
    have HS := HA
    clear HA
    go_wp2
    go_loopw [16] (fun c wr => ∃ j : Nat, j ≤ n ∧ c = .int .i64 (j : Nat) ∧ Hid (TwoRows wr W P1 P2 286 30 (litW0 (l.take j)) (distWs (l.take j)))) (fun c _ => n - (intOf c).toNat)
    case atStart => exact ⟨0, Nat.zero_le _, rfl, HS⟩
    case round =>
      clear HS
      obtain ⟨j, hj, rfl, HT⟩ := hrel
      by_cases hlt : j < n
      · obtain ⟨⟨b, ln, d⟩, ht⟩ : ∃ r, l[j]? = some r := ⟨_, List.getElem?_eq_getElem (by rw [HN.out]; exact hlt)⟩
        obtain ⟨x, offx, rfl, hx, hcx, hdx, hex⟩ := HARG.out j _ ht
        have BB := hide HT.out.bel
        have _c1 := (BB.out.cell (p := ⟨x, offx + j * 3, none⟩) hx).trans hcx
        have _d1 := (BB.out.cell (p := ⟨x, offx + j * 3 + 1, none⟩) hx).trans hdx
        have _e1 := (BB.out.cell (p := ⟨x, offx + j * 3 + 2, none⟩) hx).trans hex
        dsimp only at _c1 _d1 _e1
        have hrt := HR.out _ (List.mem_of_getElem? ht)
        have hb8 : b < 256 := hrt.1
        have zj : (j : Int) < n := by omega
        have HTK := hide (take_snocT l j _ ht)
        have HP1 := hide (HT.out.o1.lt P1 rfl).2
        have HT1 := hide (HT.out.below ((Below.refl _ _).alloc (Nat.le_refl _) (.cells #[.int .i64 ln, .int .i64 d, .int .u8 (b : Int)] 58)))
        have HTB := hide (show (wr.alloc (.cells #[.int .i64 ln, .int .i64 d, .int .u8 (b : Int)] 58)).heap[wr.heap.size]? = some (.cells #[.int .i64 ln, .int .i64 d, .int .u8 (b : Int)] 58 (0, 0)) by show (wr.heap.push _)[wr.heap.size]? = _; simp)
        clear hx hcx hdx hex
        by_cases hm : ln ≤ 0
        · have hs : symT (b, ln, d) = b := by unfold symT; rw [if_pos hm]
          obtain ⟨q1, q2⟩ := HT1.out.c1 (litW0_length _) (litW0_get (l.take j) b (by omega))
          have hw := cnt_le (fun u => symT u == b) (l.take j)
          rw [List.length_take] at hw
          have HS := hide (HT1.out.set1 b ((l.take j).countP (fun u => symT u == b) + 1))
          have e1 := litW0_snoc (l.take j) (b, ln, d) (by rw [hs]; omega)
          rw [hs] at e1
          rw [← e1, ← distWs_lit (l.take j) (b, ln, d) hm, ← HTK.out] at HS
          generalize (l.take j).countP (fun u => symT u == b) = wv at *
          have zb : (b : Int) < 286 := by omega
          have zb2 : (b : Int) ≤ 255 := by omega
          clear e1 hrt ht hs
          go_wp2
          go_roundw
          case rel => exact ⟨j + 1, hlt, by go_num, HS⟩
          case measure => exact meas_oneW j n hlt
        · have hm : 0 < ln := by omega
          obtain ⟨hr1, hr2⟩ := hrt.2 hm
          have hs : symT (b, ln, d) = 257 + lnT ln := by unfold symT; rw [if_neg (by dsimp only; omega)]
          have hs2 : farT (b, ln, d) = dsT d := rfl
          have hk := lnT_le ln
          have hk2 := dsT_le d
          have HQ1 := hide (fun w' (h : TwoRows w' W P1 P2 286 30 (litW0 (l.take j)) (distWs (l.take j))) => h.c1 (litW0_length _) (litW0_get (l.take j) (257 + lnT ln) (by omega)))
          have HQ2 := hide (fun w' (z : List Nat) (h : TwoRows w' W P1 P2 286 30 z (distWs (l.take j))) => h.c2 (distWs_length _) (distWs_get (l.take j) (dsT d) (by omega)))
          have hw := cnt_le (fun u => symT u == 257 + lnT ln) (l.take j)
          have hw2 := wD_le (l.take j) (dsT d)
          rw [List.length_take] at hw hw2
          have e1 := litW0_snoc (l.take j) (b, ln, d) (by rw [hs]; omega)
          have e2 := distWs_mat (l.take j) (b, ln, d) hm
          rw [hs] at e1
          rw [hs2] at e2
          rw [← HTK.out] at e1 e2
          have HE1 := hide e1
          have HE2 := hide e2
          have HC1 := hide (slen_any ln)
          have HC2 := hide (sdist_any d)
          rw [ln_val ln hr1] at HC1
          rw [ds_val d hr2] at HC2
          clear e1 e2 hrt ht hs hs2 hr1 hr2
          generalize (l.take j).countP (fun u => symT u == 257 + lnT ln) = wv at *
          generalize wD (l.take j) (dsT d) = wv2 at *
          generalize lenBits (lnT ln) = x1 at *
          generalize ln - (lenBase (lnT ln) : Int) = x2 at *
          generalize distBits (dsT d) = x3 at *
          generalize d - (distBase (dsT d) : Int) = x4 at *
          generalize lnT ln = kk at *
          generalize dsT d = kd at *
          obtain ⟨K, hK⟩ : ∃ K, 257 + kk = K := ⟨_, rfl⟩
          rw [hK] at HQ1 HE1 HC1
          have hK2 : K < 286 := by omega
          have zK : (K : Int) < 286 := by omega
          have zk : (kd : Int) < 30 := by omega
          have zm : ¬ ln ≤ 0 := by omega
          clear hK
          go_wp2_with fail
          refine (HC1.out _).mono ?_
          rintro e w2 ⟨rfl, b2⟩
          have HT2 := hide (HT1.out.below b2)
          obtain ⟨q1, q2⟩ := HQ1.out _ HT2.out
          have HT3 := hide (HT2.out.set1 K (wv + 1))
          have HTB2 := hide (show w2.heap[wr.heap.size]? = some (.cells #[.int .i64 ln, .int .i64 d, .int .u8 (b : Int)] 58 (0, 0)) by rw [b2.block _ (Array.getElem?_eq_some_iff.1 HTB.out).1]; exact HTB.out)
          have _t1 : ∀ u, (w2.setCell ⟨P1, K, none⟩ u).cell? ⟨wr.heap.size, 1, none⟩ = some (.int .i64 d) := fun u => by
            have h := HTB2.out
            rw [← Below.heap_setCell w2 ⟨P1, K, none⟩ u wr.heap.size (by have := HP1.out; show wr.heap.size ≠ P1; omega)] at h
            rw [cell_of_row _ _ 1 _ _ (0, 0) h]
            rfl
          clear b2 HT1 HTB
          go_wp2_with fail
          refine (HC2.out _).mono ?_
          rintro e w4 ⟨rfl, b4⟩
          have HT4 := hide (HT3.out.below b4)
          obtain ⟨q3, q4⟩ := HQ2.out _ _ HT4.out
          have HS := hide (HT4.out.set2 kd (wv2 + 1))
          rw [← HE1.out, ← HE2.out] at HS
          clear b4 _t1 q1 q2
          go_wp2
          go_roundw
          case rel => exact ⟨j + 1, hlt, by go_num, HS⟩
          case measure => exact meas_oneW j n hlt
      · have hj2 : j = n := by omega
        subst hj2
        have hz : ¬ (j : Int) < (j : Int) := by omega
        have htk : l.take j = l := by rw [← HN.out]; exact List.take_length
        rw [htk] at HT
        obtain ⟨q1, q2⟩ := HT.out.c1 (litW0_length _) (litW0_get l 256 (by omega))
        have hw := cnt_le (fun u => symT u == 256) l
        rw [HN.out] at hw
        have HD := hide ((HT.out.set1 256 (l.countP (fun u => symT u == 256) + 1)).done (by rw [List.length_set]; exact litW0_length _) (distWs_length _))
        rw [← litW0_end] at HD
        generalize l.countP (fun u => symT u == 256) = wv at *
        clear htk HT
        go_wp2
        go_ret2
        exact HD.out)

set_option maxHeartbeats 4000000 in
theorem fitted9 (l : List (Nat × Int × Int)) (a1 b1 : Option Addr) (c1 d1 : Nat) (W : World) (hA : ArgN W a1 (litWs l)) (hB : ArgN W b1 (distWs l)) (hn1 : a1 = none → c1 = 0) (hn2 : b1 = none → d1 = 0) (hl : l.length ≤ 2000) :
    Calls Tryz.prog 61 #[.slice a1 286 c1, .slice b1 30 d1] W fun e w' => TwoNew W (ownLit l) (ownDist l) e w' := by
  have hs1 := litWs_sum l
  have hs2 := distWs_sum l
  have HS1 := hide (show (litWs l).sum < 2584 by omega)
  have HS2 := hide (show (distWs l).sum < 2584 by omega)
  have HM1 := hide (litWs_mem l hl)
  have HM2 := hide (distWs_mem l hl)
  have HB := hide hB
  have HL1 := hide (lengths_any _ 15 a1 c1 W hA.toZ hn1)
  rw [List.length_map] at HL1
  have HN2 := hide hn2
  rw [litWs_length] at HL1
  clear hA hB hn1 hn2 hl hs1 hs2
  go_enter Tryz.func61, Tryz.ntmps61
  go_wp2_with fail
  refine HL1.out.mono ?_
  rintro e w2 ⟨r, rfl, hres, hb⟩
  obtain ⟨g1, k1, rfl, ho1⟩ := lens_res hres HS1.out (by rw [litWs_length]; omega) HM1.out
  rw [litWs_length] at ho1 ⊢
  have HO1 := hide ho1
  have HB2 := hide hb
  have HL2 := hide (lengths_any _ 15 b1 d1 w2 (HB.out.below hb (Nat.le_refl _)).toZ HN2.out)
  rw [List.length_map, distWs_length] at HL2
  clear hres hb ho1
  go_wp2_with fail
  refine HL2.out.mono ?_
  rintro e w3 ⟨r, rfl, hres, hb⟩
  obtain ⟨g2, k2, rfl, ho2⟩ := lens_res hres HS2.out (by rw [distWs_length]; omega) HM2.out
  rw [distWs_length] at ho2 ⊢
  have HO2 := hide ho2
  have HO3 := hide (own_below HO1.out hb (Nat.le_refl _))
  have HB3 := hide hb
  have HC1 := hide (trimmed9 (lens (litWs l)) g1 k1 257 w3 (own_arg HO3.out (by rw [lens_length, litWs_length])) (by rw [lens_length, litWs_length]; omega) (by rw [lens_length, litWs_length]; omega) (by omega) (by rw [lens_length, litWs_length]; exact (own_capA HO3.out).1) (lens_short _ HS1.out))
  have HC2 := hide (trimmed9 (lens (distWs l)) g2 k2 1 w3 (own_arg HO2.out (by rw [lens_length, distWs_length])) (by rw [lens_length, distWs_length]; omega) (by rw [lens_length, distWs_length]; omega) (by omega) (by rw [lens_length, distWs_length]; exact (own_capA HO2.out).1) (lens_short _ HS2.out))
  rw [lens_length, litWs_length] at HC1
  rw [lens_length, distWs_length] at HC2
  clear hres hb ho2
  go_wp2_with fail
  refine HC1.out.mono ?_
  rintro e w4 ⟨⟨c5, rfl, _⟩, rfl⟩
  go_wp2_with fail
  refine HC2.out.mono ?_
  rintro e w4 ⟨⟨c6, rfl, _⟩, rfl⟩
  go_wp2
  go_ret2
  have n1 : g1 ≠ none := fun e => by
    obtain ⟨g, c, h⟩ := own_slice HO3.out (by omega)
    rw [e] at h
    cases h
  have n2 : g2 ≠ none := fun e => by
    obtain ⟨g, c, h⟩ := own_slice HO2.out (by omega)
    rw [e] at h
    cases h
  have z2 := HB2.out.size
  refine ⟨g1, c5, g2, c6, rfl, (own_arg HO3.out (by rw [lens_length, litWs_length])).take _, (own_arg HO2.out (by rw [lens_length, distWs_length])).take _, fun e => absurd e n1, fun e => absurd e n2, HB2.out.trans (HB3.out.mono z2), ?_, ?_⟩
  · intro b off e
    exact own_new HO3.out b off e
  · intro b off e
    have := own_new HO2.out b off e
    omega

set_option maxHeartbeats 4000000 in
theorem own9 (l : List (Nat × Int × Int)) (a : Option Addr) (cap : Nat) (W : World) (harg : ArgT W a l) (hr : ∀ t ∈ l, RightT t) (hl : l.length ≤ 2000) :
    Calls Tryz.prog 47 #[.slice a l.length cap] W fun e w' => TwoNew W (ownLit l) (ownDist l) e w' := by
  have HW := hide (weights9 l a cap W harg hr hl)
  have HLL := hide hl
  clear harg hr hl
  go_enter Tryz.func47, Tryz.ntmps47
  go_wp2_with fail
  refine HW.out.mono ?_
  rintro e w1 ⟨a1, c1, b1, d1, rfl, hA, hB, hn1, hn2, hb, _, _⟩
  have HF := hide (fitted9 l a1 b1 c1 d1 w1 hA hB hn1 hn2 HLL.out)
  have HBE := hide hb
  simp only [litWs_length, distWs_length]
  clear hA hB hn1 hn2 hb
  go_wp2_with fail
  refine HF.out.mono ?_
  rintro e w2 ⟨a2, c2, b2, d2, rfl, hA, hB, hn1, hn2, hb, hx, hy⟩
  have HD := hide (show TwoNew W (ownLit l) (ownDist l) (.returned (.tuple #[.slice a2 (ownLit l).length c2, .slice b2 (ownDist l).length d2])) w2 from
    ⟨a2, c2, b2, d2, rfl, hA, hB, hn1, hn2, HBE.out.trans (hb.mono HBE.out.size), fun g off e => Nat.le_trans HBE.out.size (hx g off e), fun g off e => Nat.le_trans HBE.out.size (hy g off e)⟩)
  clear hA hB hn1 hn2 hb hx hy
  go_wp2
  go_ret2
  exact HD.out

end Go.Proofs.YtaalbaiglkadlaaGreat

/- Contracts of the code of layer 9: a symbol's code, begin, coded, tokens. -/
namespace Go.Proofs.YtaalbaiglkadlaaGreat
open Go.RowKit Go.Lib

theorem Wr.drewN {w : World} {p : Nat} {v : Value} {bs : List Bool} (h : Wr w p v bs) (n : Nat) : Wr (w.drewN n) p v bs := h.below (below_drewN (Below.refl _ _) n)

set_option maxRecDepth 20000 in
set_option maxHeartbeats 4000000 in
/-- A symbol's code is written. -/
theorem cwrite9 (p : Nat) (v : Value) (bs : List Bool) (x o n c y u m d k lv cv : Nat) (w : World) (hw : Wr w p v bs) (hbs : bs.length ≤ 800000) (fx : FreeB p v w x) (fy : FreeB p v w y) (hk : k < n) (hk2 : k < m) (hx : w.cell? ⟨x, o + k, none⟩ = some (.int .i64 (lv : Nat))) (hy : w.cell? ⟨y, u + k, none⟩ = some (.int .i64 (cv : Nat))) (hlv : lv ≤ 15) :
    Calls Tryz.prog 63 #[.agg #[.slice (some ⟨x, o, none⟩) n c, .slice (some ⟨y, u, none⟩) m d], .pointer (some ⟨p, 0, none⟩), .int .i64 (k : Nat)] w fun e w' => e = .returned (.tuple #[]) ∧ ∃ v', Wr w' p v' (bs ++ highBits (cv : Int) lv) ∧ Step p v v' w w' := by
  have HB0 := hide ((Below.refl w.heap.size w).alloc (Nat.le_refl _) (.cells #[.slice (some ⟨x, o, none⟩) n c, .slice (some ⟨y, u, none⟩) m d] 91))
  have HS0 := hide (Step.ofBelow (p := p) (v := v) HB0.out)
  have HW1 := hide (hw.below HB0.out)
  have FX := hide (fx.step HS0.out)
  have FY := hide (fy.step HS0.out)
  have hx1 := (fx.cell HS0.out (o + k)).trans hx
  have hy1 := (fy.cell HS0.out (u + k)).trans hy
  obtain ⟨hp, hv⟩ := hw.old
  have hbox : (w.alloc (.cells #[.slice (some ⟨x, o, none⟩) n c, .slice (some ⟨y, u, none⟩) m d] 91)).heap[w.heap.size]? = some (.cells #[.slice (some ⟨x, o, none⟩) n c, .slice (some ⟨y, u, none⟩) m d] 91 (0, 0)) := by show (w.heap.push _)[w.heap.size]? = _; simp
  have FB := hide (free_new (w := w.alloc (.cells #[.slice (some ⟨x, o, none⟩) n c, .slice (some ⟨y, u, none⟩) m d] 91)) (b := w.heap.size) hp hv (Nat.le_refl _) (Array.getElem?_eq_some_iff.1 hbox).1)
  have _b0 : (w.alloc (.cells #[.slice (some ⟨x, o, none⟩) n c, .slice (some ⟨y, u, none⟩) m d] 91)).cell? ⟨w.heap.size, 0, none⟩ = some (.slice (some ⟨x, o, none⟩) n c) := by rw [cell_of_row _ _ 0 _ _ (0, 0) hbox]; rfl
  have _b1 : (w.alloc (.cells #[.slice (some ⟨x, o, none⟩) n c, .slice (some ⟨y, u, none⟩) m d] 91)).cell? ⟨w.heap.size, 1, none⟩ = some (.slice (some ⟨y, u, none⟩) m d) := by rw [cell_of_row _ _ 1 _ _ (0, 0) hbox]; rfl
  have HT := hide (fun w' (h : Wr w' p v bs) => wturn_any p v bs (cv : Int) (lv : Int) w' lv (takenI_nat lv (by omega)) h (by omega))
  have zk : (k : Int) < n := by omega
  have zk2 : (k : Int) < m := by omega
  clear hw fx fy hx hy hp hv hbox HB0
  go_enter Tryz.func63, Tryz.ntmps63
  go_wp2_with fail
  generalize (w.alloc (.cells #[.slice (some ⟨x, o, none⟩) n c, .slice (some ⟨y, u, none⟩) m d] 91)) = w1 at *
  generalize w.heap.size = PB at *
  have HX := hide hx1
  have HY := hide hy1
  have HC0 := hide _b0
  have HC1 := hide _b1
  have HWD := hide (HW1.out.drewN 1)
  go_region_held3 (fun w' => w'.cell? ⟨PB, 0, none⟩ = some (.slice (some ⟨x, o, none⟩) n c) ∧ w'.cell? ⟨PB, 1, none⟩ = some (.slice (some ⟨y, u, none⟩) m d) ∧ w'.cell? ⟨x, o + k, none⟩ = some (.int .i64 (lv : Nat)) ∧ w'.cell? ⟨y, u + k, none⟩ = some (.int .i64 (cv : Nat))) (go_keep) (first
    | (go_at_call 82; refine (HT.out _ HWD.out).mono ?_; rintro e w9 ⟨rfl, v9, hr9, s9⟩; have hs9 : Step p v v9 w1 w9 := ⟨s9.os, s9.tape, s9.output, s9.size, s9.block, s9.own⟩; have k0 := (FB.out.cell hs9 0).trans HC0.out; have k1 := (FB.out.cell hs9 1).trans HC1.out; have k2 := (FX.out.cell hs9 (o + k)).trans HX.out; have k3 := (FY.out.cell hs9 (u + k)).trans HY.out; have HR9 := hide hr9; have HS9 := hide hs9; clear hr9 s9 hs9))
  go_end0
  exact ⟨rfl, v9, HR9.out, HS0.out.trans HS9.out⟩

/-- A code that a writer does not turn. -/
structure CodeK (p : Nat) (v : Value) (w : World) (la : List Nat) (x o c y d : Nat) : Prop where
  fx : FreeB p v w x
  fy : FreeB p v w y
  cx : ∀ k, k < la.length → w.cell? ⟨x, o + k, none⟩ = some (.int .i64 ((la.getD k 0 : Nat) : Int))
  cy : ∀ k, k < la.length → w.cell? ⟨y, 0 + k, none⟩ = some (.int .i64 ((codeN la k : Nat) : Int))
theorem CodeK.step {p : Nat} {v v' : Value} {w w' : World} {la : List Nat} {x o c y d : Nat} (h : CodeK p v w la x o c y d) (s : Step p v v' w w') : CodeK p v' w' la x o c y d :=
  ⟨h.fx.step s, h.fy.step s, fun k hk => (h.fx.cell s (o + k)).trans (h.cx k hk), fun k hk => (h.fy.cell s (0 + k)).trans (h.cy k hk)⟩
def codeV9 (la : List Nat) (x o c y d : Nat) : Value := .agg #[.slice (some ⟨x, o, none⟩) la.length c, .slice (some ⟨y, 0, none⟩) la.length d]
theorem cwriteK (p : Nat) (v : Value) (bs : List Bool) (la : List Nat) (x o c y d k : Nat) (w : World) (hw : Wr w p v bs) (hbs : bs.length ≤ 800000) (h : CodeK p v w la x o c y d) (hk : k < la.length) (h15 : ∀ z ∈ la, z ≤ 15) :
    Calls Tryz.prog 63 #[.agg #[.slice (some ⟨x, o, none⟩) la.length c, .slice (some ⟨y, 0, none⟩) la.length d], .pointer (some ⟨p, 0, none⟩), .int .i64 (k : Nat)] w fun e w' => e = .returned (.tuple #[]) ∧ ∃ v', Wr w' p v' (bs ++ highBits (codeN la k : Int) (la.getD k 0)) ∧ Step p v v' w w' :=
  cwrite9 p v bs x o la.length c y 0 la.length d k (la.getD k 0) (codeN la k) w hw hbs h.fx h.fy hk hk (h.cx k hk) (h.cy k hk) (getD_le h15 k)

set_option maxHeartbeats 1000000 in
theorem begin9 (p : Nat) (v : Value) (bs : List Bool) (kind : Int) (last : Bool) (w : World) (hw : Wr w p v bs) (hbs : bs.length ≤ 800000) :
    Calls Tryz.prog 29 #[.pointer (some ⟨p, 0, none⟩), .int .i64 kind, .bool last] w fun e w' => e = .returned (.tuple #[]) ∧ ∃ v', Wr w' p v' (bs ++ [last] ++ lowBits kind 2) ∧ Step p v v' w w' := by
  have HBT := hide (wbit_any p v bs (lastI last) w hw (by omega))
  rw [lastI_odd] at HBT
  have HPT := hide (fun v' w' (h : Wr w' p v' (bs ++ [last])) => wput_any p v' (bs ++ [last]) kind 2 w' 2 rfl h (by rw [List.length_append, List.length_singleton]; omega))
  clear hw hbs
  cases last with
  | true =>
    unfold lastI at HBT
    rw [if_pos rfl] at HBT
    go_enter Tryz.func29, Tryz.ntmps29
    go_wp2_with fail
    refine HBT.out.mono ?_
    rintro e w1 ⟨rfl, v1, hr1, hs1⟩
    have HP := hide (HPT.out v1 w1 hr1)
    have HS1 := hide hs1
    clear hr1 hs1 HPT
    go_wp2_with fail
    refine HP.out.mono ?_
    rintro e w2 ⟨rfl, v2, hr2, hs2⟩
    have HR2 := hide hr2
    have HS2 := hide (HS1.out.trans hs2)
    clear hr2 hs2 HP
    go_wp2
    go_end0
    exact ⟨rfl, v2, HR2.out, HS2.out⟩
  | false =>
    unfold lastI at HBT
    rw [if_neg (by decide)] at HBT
    go_enter Tryz.func29, Tryz.ntmps29
    go_wp2_with fail
    refine HBT.out.mono ?_
    rintro e w1 ⟨rfl, v1, hr1, hs1⟩
    have HP := hide (HPT.out v1 w1 hr1)
    have HS1 := hide hs1
    clear hr1 hs1 HPT
    go_wp2_with fail
    refine HP.out.mono ?_
    rintro e w2 ⟨rfl, v2, hr2, hs2⟩
    have HR2 := hide hr2
    have HS2 := hide (HS1.out.trans hs2)
    clear hr2 hs2 HP
    go_wp2
    go_end0
    exact ⟨rfl, v2, HR2.out, HS2.out⟩

theorem load_code {w : World} {p : Nat} (a b : Option Addr) (n c m d : Nat) (h : w.heap[p]? = some (.cells #[.slice a n c, .slice b m d] 91 (0, 0))) : (loadVar 91 ⟨p, 0, none⟩).run Tryz.prog w = .ok (.agg #[.slice a n c, .slice b m d]) w := by
  have _c0 : w.cell? ⟨p, 0, none⟩ = some (.slice a n c) := by rw [cell_of_row _ _ 0 _ _ (0, 0) h]; rfl
  have _c1 : w.cell? ⟨p, 1, none⟩ = some (.slice b m d) := by rw [cell_of_row _ _ 1 _ _ (0, 0) h]; rfl
  clear h
  go_simp
theorem set_two (w : World) (p : Nat) (a b x y : Value) (T : TypeId) (h : w.heap[p]? = some (.cells #[a, b] T (0, 0))) : ((w.setCell ⟨p, 0, none⟩ x).setCell ⟨p, 1, none⟩ y).heap[p]? = some (.cells #[x, y] T (0, 0)) := by
  have h1 := heap_setCell_same w p 0 x _ _ _ h
  exact heap_setCell_same _ p 1 y _ _ _ h1
theorem frozen_row9 {w : World} {b : Nat} {cs : Array Value} {t : TypeId} (h : w.heap[b]? = some (.cells cs t (0, 0))) (o : Nat) : w.frozen? ⟨b, o, none⟩ = false := by simp [World.frozen?, h]

set_option maxHeartbeats 1000000 in
theorem coded9 (la : List Nat) (a : Option Addr) (n c : Nat) (W : World) (hn : la.length = n) (harg : ArgN W a la) (hm : MakesC la) (h1 : 1 ≤ n) (hl : n ≤ 1000) :
    Calls Tryz.prog 46 #[.slice a n c] W fun e w' => ∃ g k, e = .returned (.agg #[.slice a n c, .slice (some ⟨g, 0, none⟩) n k]) ∧ w'.ownsRow W.heap.size 3 1 (.slice (some ⟨g, 0, none⟩) n k) n (natCs (codesL la)) ∧ Below W.heap.size W w' := by
  have B0 := hide ((Below.refl W.heap.size W).alloc (Nat.le_refl _) (.cells #[.slice none 0 0, .slice none 0 0] 91))
  have hbox : (W.alloc (.cells #[.slice none 0 0, .slice none 0 0] 91)).heap[W.heap.size]? = some (.cells #[.slice none 0 0, .slice none 0 0] 91 (0, 0)) := by show (W.heap.push _)[W.heap.size]? = _; simp
  have HQ := hide (codes_any (la.map fun (x : Nat) => (x : Int)) a c _ (harg.below B0.out (Nat.le_refl _)).toZ (by rw [List.length_map]; omega))
  have HRES := hide (fun r w' (h : CodesRes (W.alloc (.cells #[.slice none 0 0, .slice none 0 0] 91)) (la.map fun (x : Nat) => (x : Int)) r w') => codes_res h hm)
  rw [List.length_map, hn] at HQ
  rw [hn] at HRES
  have HBX := hide hbox
  clear harg hm hbox
  go_enter Tryz.func46, Tryz.ntmps46
  go_wp2_with fail
  refine HQ.out.mono ?_
  rintro e w2 ⟨r, rfl, hres, b2⟩
  obtain ⟨g0, k0, rfl, ho⟩ := HRES.out _ _ hres
  obtain ⟨g, k, e1⟩ := own_slice ho h1
  injection e1 with e1 _ e2
  subst e1 e2
  have HX2 := hide (show w2.heap[W.heap.size]? = some (.cells #[.slice none 0 0, .slice none 0 0] 91 (0, 0)) by rw [b2.block _ (Array.getElem?_eq_some_iff.1 HBX.out).1]; exact HBX.out)
  have HO := hide ho
  have hg := (ho.lt g rfl).1
  have hs1 : (W.alloc (.cells #[.slice none 0 0, .slice none 0 0] 91)).heap.size = W.heap.size + 1 := by show (W.heap.push _).size = _; simp
  have HNE := hide (show (Value.slice (some ⟨g, 0, none⟩) n k0).ownBlock ≠ some W.heap.size from fun e => by have e2 : some g = some W.heap.size := e; injection e2 with e2; omega)
  have HB2 := hide (B0.out.trans (b2.mono B0.out.size))
  have _c0 : w2.cell? ⟨W.heap.size, 0, none⟩ = some (.slice none 0 0) := by rw [cell_of_row _ _ 0 _ _ (0, 0) HX2.out]; rfl
  have _c1 : w2.cell? ⟨W.heap.size, 1, none⟩ = some (.slice none 0 0) := by rw [cell_of_row _ _ 1 _ _ (0, 0) HX2.out]; rfl
  have _f0 := frozen_row9 HX2.out 0
  have _f1 := frozen_row9 HX2.out 1
  clear hres b2 ho hg HRES HQ hs1
  go_wp2
  (try simp only [Exit.inBlock, Exit.then])
  refine bodyPost_ret (v := .agg #[.slice a n c, .slice (some ⟨g, 0, none⟩) n k0]) ?_ rfl ⟨g, k0, rfl, ?_, ?_⟩
  · simp [results, Tryz.results46, asAddr]
    exact load_code _ _ _ _ _ _ (set_two _ _ _ _ _ _ _ HX2.out)
  · exact ownsRow_base (own_other (own_other HO.out HNE.out) HNE.out) (by simp)
  · exact (HB2.out.setCell (Nat.le_refl _) _).setCell (Nat.le_refl _) _

end Go.Proofs.YtaalbaiglkadlaaGreat

/- Contract of the code of layer 9: tokens are written. -/
namespace Go.Proofs.YtaalbaiglkadlaaGreat
open Go.RowKit Go.Lib

/-- What tokens' writing comes to. -/
def TokWPost (W : World) (la lb : List Nat) (l : List (Nat × Int × Int)) (p : Nat) (v : Value) (bs : List Bool) (e : Ending) (w' : World) : Prop := e = .returned (.tuple #[]) ∧ ∃ v', Wr w' p v' (bs ++ bodyBits la lb l) ∧ Step p v v' W w'
theorem high_len (x : Int) (k : Nat) : (highBits x k).length = k := by unfold highBits; rw [List.length_reverse, lowBits_length]

theorem new_box (w : World) (o : Obj) : (w.alloc o).heap[w.heap.size]? = some o := by show (w.heap.push _)[w.heap.size]? = _; simp
theorem two_boxes (W : World) (va vb : Obj) : ((W.alloc va).alloc vb).heap[W.heap.size]? = some va ∧ ((W.alloc va).alloc vb).heap[W.heap.size + 1]? = some vb ∧ Below W.heap.size W ((W.alloc va).alloc vb) := by
  have s1 : (W.alloc va).heap.size = W.heap.size + 1 := by show (W.heap.push _).size = _; simp
  refine ⟨?_, ?_, ((Below.refl _ _).alloc (Nat.le_refl _) _).alloc (by rw [s1]; omega) _⟩
  · rw [heap_alloc_old _ _ _ (by omega)]; exact new_box W va
  · have h := new_box (W.alloc va) vb
    rw [s1] at h
    exact h

set_option maxRecDepth 20000 in
set_option maxHeartbeats 8000000 in
theorem tokens9 (l : List (Nat × Int × Int)) (a : Option Addr) (n cap p : Nat) (v : Value) (bs : List Bool) (W : World) (la lb : List Nat) (xa oa ca ya da xb ob cb yb db : Nat) (hn : l.length = n) (hw : Wr W p v bs) (hbs : bs.length ≤ 600000) (kt : KT p v W a l) (ka : CodeK p v W la xa oa ca ya da) (kb : CodeK p v W lb xb ob cb yb db) (ok : CodesOk la lb l) (hr : ∀ t ∈ l, RightT t) (hl : n ≤ 2000) :
    Calls Tryz.prog 45 #[.pointer (some ⟨p, 0, none⟩), .slice a n cap, .agg #[.slice (some ⟨xa, oa, none⟩) la.length ca, .slice (some ⟨ya, 0, none⟩) la.length da], .agg #[.slice (some ⟨xb, ob, none⟩) lb.length cb, .slice (some ⟨yb, 0, none⟩) lb.length db]] W fun e w' => TokWPost W la lb l p v bs e w' := by
  have HN := hide hn
  have HR := hide hr
  have HOK := hide ok
  have HG8 := hide ok.ma.each
  have HG7 := hide ok.mb.each
  have HTL := hide (toksBits_le ok.ma.each ok.mb.each)
  have hla1 := ok.la1
  obtain ⟨hp, hv⟩ := hw.old
  obtain ⟨e3, e2, b2⟩ := two_boxes W (.cells #[.slice (some ⟨xa, oa, none⟩) la.length ca, .slice (some ⟨ya, 0, none⟩) la.length da] 91) (.cells #[.slice (some ⟨xb, ob, none⟩) lb.length cb, .slice (some ⟨yb, 0, none⟩) lb.length db] 91)
  have FA := hide (free_new (b := W.heap.size) hp hv (Nat.le_refl _) (Array.getElem?_eq_some_iff.1 e3).1)
  have FB := hide (free_new (b := W.heap.size + 1) hp hv (Nat.le_succ _) (Array.getElem?_eq_some_iff.1 e2).1)
  have HS0 := hide (Step.ofBelow (p := p) (v := v) b2)
  have HW0 := hide (hw.below b2)
  have HKA := hide (ka.step HS0.out)
  have HKB := hide (kb.step HS0.out)
  have HKT := hide (kt.step HS0.out)
  have EA0 := hide (cell_of_row _ _ 0 _ _ (0, 0) e3)
  have EA1 := hide (cell_of_row _ _ 1 _ _ (0, 0) e3)
  have EB0 := hide (cell_of_row _ _ 0 _ _ (0, 0) e2)
  have EB1 := hide (cell_of_row _ _ 1 _ _ (0, 0) e2)
  generalize hw0 : ((W.alloc (.cells #[.slice (some ⟨xa, oa, none⟩) la.length ca, .slice (some ⟨ya, 0, none⟩) la.length da] 91)).alloc (.cells #[.slice (some ⟨xb, ob, none⟩) lb.length cb, .slice (some ⟨yb, 0, none⟩) lb.length db] 91)) = w0 at *
  have HWA := hide (fun v' bs' w' k (h1 : Wr w' p v' bs') (h2 : bs'.length ≤ 800000) (h3 : CodeK p v' w' la xa oa ca ya da) (h4 : k < la.length) => cwriteK p v' bs' la xa oa ca ya da k w' h1 h2 h3 h4 HG8.out)
  have HWB := hide (fun v' bs' w' k (h1 : Wr w' p v' bs') (h2 : bs'.length ≤ 800000) (h3 : CodeK p v' w' lb xb ob cb yb db) (h4 : k < lb.length) => cwriteK p v' bs' lb xb ob cb yb db k w' h1 h2 h3 h4 HG7.out)
  obtain ⟨na, hna⟩ : ∃ na, la.length = na := ⟨_, rfl⟩
  obtain ⟨nb, hnb⟩ : ∃ nb, lb.length = nb := ⟨_, rfl⟩
  have HNA := hide hna
  have HNB := hide hnb
  rw [hna] at hla1
  clear hw kt ka kb ok hr hn e2 e3 b2 hp hv
  simp only [hna] at HWA EA0 EA1 hw0 ⊢
  simp only [hnb] at HWB EB0 EB1 hw0 ⊢
  clear hna hnb
  go_enter Tryz.func45, Tryz.ntmps45
  go_wp2
  clear hw0
  generalize W.heap.size = PA at *
  go_loopw [16] (fun c wr => ∃ (i : Nat) (vi : Value), i ≤ n ∧ c = .int .i64 (i : Nat) ∧ Hid (Wr wr p vi (bs ++ toksBits la lb (l.take i))) ∧ Hid (Step p v vi w0 wr)) (fun c _ => n - (intOf c).toNat)
  case atStart => exact ⟨0, v, Nat.zero_le _, rfl, hide (by show Wr w0 p v (bs ++ []); rw [List.append_nil]; exact HW0.out), hide (Step.refl _ _ _)⟩
  case round =>
    clear HW0
    obtain ⟨i, vi, hi, rfl, HR7, HS7⟩ := hrel
    have hbt := HTL.out (l.take i)
    have hti : (l.take i).length ≤ i := by rw [List.length_take]; omega
    have hbt2 : (bs ++ toksBits la lb (l.take i)).length ≤ 700000 := by rw [List.length_append]; omega
    clear hbt hti
    by_cases hlt : i < n
    · obtain ⟨⟨b, ln, d⟩, ht⟩ : ∃ r, l[i]? = some r := ⟨_, List.getElem?_eq_getElem (by rw [HN.out]; exact hlt)⟩
      obtain ⟨x, offx, rfl, hx, hcx, hdx, hex⟩ := HKT.out.arg i _ ht
      have FT := hide (HKT.out.free (List.ne_nil_of_mem (List.mem_of_getElem? ht)) x offx rfl)
      dsimp only at hcx hdx hex
      have _c1 := (FT.out.cell HS7.out (offx + i * 3)).trans hcx
      have _d1 := (FT.out.cell HS7.out (offx + i * 3 + 1)).trans hdx
      have _e1 := (FT.out.cell HS7.out (offx + i * 3 + 2)).trans hex
      have hrt := HR.out _ (List.mem_of_getElem? ht)
      have hfit := HOK.out.fit _ (List.mem_of_getElem? ht)
      have HTK := hide (take_snocT l i _ ht)
      have HSN := hide (toks_snoc la lb (l.take i) (b, ln, d))
      rw [← HTK.out] at HSN
      have zi : (i : Int) < (n : Int) := by omega
      rw [HNA.out, HNB.out] at hfit
      have HB1 := hide ((Below.refl wr.heap.size wr).alloc (Nat.le_refl _) (.cells #[.int .i64 ln, .int .i64 d, .int .u8 (b : Int)] 58))
      have HS8 := hide (HS7.out.trans (Step.ofBelow HB1.out))
      have HR8 := hide (HR7.out.below HB1.out)
      obtain ⟨hp, hv⟩ := HR7.out.old
      have htb := new_box wr (.cells #[.int .i64 ln, .int .i64 d, .int .u8 (b : Int)] 58)
      have FK := hide (free_new (b := wr.heap.size) hp hv (Nat.le_refl _) (Array.getElem?_eq_some_iff.1 htb).1)
      have ET1 := hide (show (wr.alloc (.cells #[.int .i64 ln, .int .i64 d, .int .u8 (b : Int)] 58)).cell? ⟨wr.heap.size, 1, none⟩ = some (.int .i64 d) by rw [cell_of_row _ _ 1 _ _ (0, 0) htb]; rfl)
      have _a0 : (wr.alloc (.cells #[.int .i64 ln, .int .i64 d, .int .u8 (b : Int)] 58)).cell? ⟨PA, 0, none⟩ = some (.slice (some ⟨xa, oa, none⟩) na ca) := (FA.out.cell (HS8.out) 0).trans EA0.out
      have _a1 : (wr.alloc (.cells #[.int .i64 ln, .int .i64 d, .int .u8 (b : Int)] 58)).cell? ⟨PA, 1, none⟩ = some (.slice (some ⟨ya, 0, none⟩) na da) := (FA.out.cell (HS8.out) 1).trans EA1.out
      have HLT := hide hlt
      clear hx hcx hdx hex ht HTK hp hv htb hlt
      by_cases hm : ln ≤ 0
      · have hs : symT (b, ln, d) = b := by unfold symT; rw [if_pos hm]
        have hb8 : b < 256 := hrt.1
        have hbn : b < na := by have := hfit.1; rw [hs] at this; exact this
        have HTB := hide (show tokBits la lb (b, ln, d) = highBits (codeN la b : Int) (la.getD b 0) by unfold tokBits; rw [if_pos hm])
        have HC := hide (HWA.out vi _ _ b HR8.out (by omega) (HKA.out.step HS8.out) hbn)
        have zb2 : (b : Int) ≤ 255 := by omega
        clear hs hfit hrt
        go_wp2_with fail
        refine HC.out.mono ?_
        rintro e w9 ⟨rfl, v9, hr9, s9⟩
        have HR9 := hide (show Wr w9 p v9 (bs ++ toksBits la lb (l.take (i + 1))) by rw [HSN.out, HTB.out, ← List.append_assoc]; exact hr9)
        have HS9 := hide (HS8.out.trans s9)
        clear hr9 s9 HC
        go_wp2
        go_roundw
        case rel => exact ⟨i + 1, v9, HLT.out, by go_num, HR9, HS9⟩
        case measure => exact meas_oneW i n HLT.out
      · have hm : 0 < ln := by omega
        obtain ⟨hr1, hr2⟩ := hrt.2 hm
        have hs : symT (b, ln, d) = 257 + lnT ln := by unfold symT; rw [if_neg (by dsimp only; omega)]
        have hs2 : farT (b, ln, d) = dsT d := rfl
        have hfa : 257 + lnT ln < na := by have := hfit.1; rw [hs] at this; exact this
        have hfb : dsT d < nb := by have := hfit.2 hm; rw [hs2] at this; exact this
        have HTB := hide (show tokBits la lb (b, ln, d) = highBits (codeN la (257 + lnT ln) : Int) (la.getD (257 + lnT ln) 0) ++ (lowBits (ln - (lenBase (lnT ln) : Int)) (lenBits (lnT ln)) ++ (highBits (codeN lb (dsT d) : Int) (lb.getD (dsT d) 0) ++ lowBits (d - (distBase (dsT d) : Int)) (distBits (dsT d)))) by unfold tokBits; rw [if_neg (by dsimp only; omega)])
        have HC1 := hide (slen_any ln)
        have HC2 := hide (sdist_any d)
        rw [ln_val ln hr1] at HC1
        rw [ds_val d hr2] at HC2
        have hlb := (len_small (lnT ln) (lnT_le _)).2.2
        have hdb := (dist_small (dsT d) (dsT_le _)).2.2
        have hga := getD_le HG8.out (257 + lnT ln)
        have hgb := getD_le HG7.out (dsT d)
        clear hrt hs hs2 hr1 hr2 hfit
        generalize lenBits (lnT ln) = x1 at *
        generalize ln - (lenBase (lnT ln) : Int) = x2 at *
        generalize distBits (dsT d) = x3 at *
        generalize d - (distBase (dsT d) : Int) = x4 at *
        generalize 257 + lnT ln = K at *
        generalize dsT d = kd at *
        have zm : ¬ ln ≤ 0 := by omega
        go_wp2_with fail
        refine (HC1.out _).mono ?_
        rintro e w2 ⟨rfl, b2⟩
        have T2 := hide (Step.ofBelow (p := p) (v := vi) b2)
        have HC := hide (HWA.out vi _ w2 K (HR8.out.below b2) (by omega) (HKA.out.step (HS8.out.trans T2.out)) hfa)
        clear b2 _a0 _a1 HC1
        have _a0 : w2.cell? ⟨PA, 0, none⟩ = some (.slice (some ⟨xa, oa, none⟩) na ca) := (FA.out.cell (HS8.out.trans T2.out) 0).trans EA0.out
        have _a1 : w2.cell? ⟨PA, 1, none⟩ = some (.slice (some ⟨ya, 0, none⟩) na da) := (FA.out.cell (HS8.out.trans T2.out) 1).trans EA1.out
        go_wp2_with fail
        refine HC.out.mono ?_
        rintro e w3 ⟨rfl, v3, hr3, s3⟩
        have T3 := hide (T2.out.trans s3)
        have HP := hide (wput_any p v3 _ x2 (x1 : Int) w3 x1 (takenI_nat x1 (by omega)) hr3 (by rw [List.length_append, high_len]; omega))
        clear hr3 s3 HC _a0 _a1
        go_wp2_with fail
        refine HP.out.mono ?_
        rintro e w4 ⟨rfl, v4, hr4, s4⟩
        have T4 := hide (T3.out.trans s4)
        have HR4 := hide hr4
        have _t1 : w4.cell? ⟨wr.heap.size, 1, none⟩ = some (.int .i64 d) := (FK.out.cell T4.out 1).trans ET1.out
        clear hr4 s4 HP
        go_wp2_with fail
        refine (HC2.out _).mono ?_
        rintro e w5 ⟨rfl, b5⟩
        have T5 := hide (T4.out.trans (Step.ofBelow b5))
        have HC := hide (HWB.out v4 _ w5 kd (HR4.out.below b5) (by rw [List.length_append, List.length_append, high_len, lowBits_length]; omega) (HKB.out.step (HS8.out.trans T5.out)) hfb)
        clear b5 HC2 HR4 _t1
        have _b0 : w5.cell? ⟨PA + 1, 0, none⟩ = some (.slice (some ⟨xb, ob, none⟩) nb cb) := (FB.out.cell (HS8.out.trans T5.out) 0).trans EB0.out
        have _b1 : w5.cell? ⟨PA + 1, 1, none⟩ = some (.slice (some ⟨yb, 0, none⟩) nb db) := (FB.out.cell (HS8.out.trans T5.out) 1).trans EB1.out
        go_wp2_with fail
        refine HC.out.mono ?_
        rintro e w6 ⟨rfl, v6, hr6, s6⟩
        have T6 := hide (T5.out.trans s6)
        have HP := hide (wput_any p v6 _ x4 (x3 : Int) w6 x3 (takenI_nat x3 (by omega)) hr6 (by rw [List.length_append, List.length_append, List.length_append, high_len, high_len, lowBits_length]; omega))
        clear hr6 s6 HC _b0 _b1
        go_wp2_with fail
        refine HP.out.mono ?_
        rintro e w7 ⟨rfl, v7, hr7, s7⟩
        have HR9 := hide (show Wr w7 p v7 (bs ++ toksBits la lb (l.take (i + 1))) by
          rw [HSN.out, HTB.out]
          simp only [List.append_assoc] at hr7 ⊢
          exact hr7)
        have HS9 := hide (HS8.out.trans (T6.out.trans s7))
        clear hr7 s7 HP
        go_wp2
        go_roundw
        case rel => exact ⟨i + 1, v7, HLT.out, by go_num, HR9, HS9⟩
        case measure => exact meas_oneW i n HLT.out
    · have hi2 : i = n := by omega
      subst hi2
      have HC := hide (HWA.out vi _ wr 256 HR7.out (by omega) (HKA.out.step HS7.out) hla1)
      have _a0 : wr.cell? ⟨PA, 0, none⟩ = some (.slice (some ⟨xa, oa, none⟩) na ca) := (FA.out.cell (HS7.out) 0).trans EA0.out
      have _a1 : wr.cell? ⟨PA, 1, none⟩ = some (.slice (some ⟨ya, 0, none⟩) na da) := (FA.out.cell (HS7.out) 1).trans EA1.out
      go_wp2_with fail
      refine HC.out.mono ?_
      rintro e w9 ⟨rfl, v9, hr9, s9⟩
      have HG := hide (show TokWPost W la lb l p v bs (.returned (.tuple #[])) w9 from ⟨rfl, v9, by
        have hf := hr9
        rw [← HN.out, List.take_length, List.append_assoc] at hf
        exact hf, HS0.out.trans (HS7.out.trans s9)⟩)
      clear hr9 s9 HC
      go_wp2
      go_end0
      exact HG.out

end Go.Proofs.YtaalbaiglkadlaaGreat
