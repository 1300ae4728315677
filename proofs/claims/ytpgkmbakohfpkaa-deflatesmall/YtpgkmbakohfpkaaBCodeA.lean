/- Contracts of the code of layer 9: slices.Concat, trimmed, Plain, Weights, Own. -/
import Derived.Test.YtpgkmbakohfpkaaBSpec
import Derived.Test.YtpgkmbakohfpkaaAppArg
import Derived.Lib.AppendZeros
import Derived.Lib.MinMax
namespace Go.Proofs.Ytpgkmbakohfpkaa
open Go.RowKit Go.Lib

theorem trimmed9 (l : List Nat) (a : Option Addr) (cap least : Nat) (W : World) (harg : ArgN W a l) (hl : l.length ≤ 2000) (hle : least ≤ l.length) (h1 : 1 ≤ least) (hcap : l.length ≤ cap) (hv : ∀ x ∈ l, x ≤ 1000) :
    Calls Try.prog 48 #[.slice a l.length cap, .int .i64 (least : Nat)] W fun e w' => (∃ c, e = .returned (.slice a (cutL l least).length c) ∧ (cutL l least).length ≤ c) ∧ w' = W := by
  have HARG := hide harg
  have HV := hide hv
  obtain ⟨n, hn⟩ : ∃ n, l.length = n := ⟨_, rfl⟩
  have HN := hide hn
  have HCL := hide (cutL_length l least)
  have HCA := hide hcap
  rw [hn] at hl hle hcap HCL HCA ⊢
  clear harg hn hv
  go_enter Try.func48, Try.ntmps48
  go_wp2
  go_loop [5] (fun v => ∃ m : Nat, least ≤ m ∧ m ≤ n ∧ Hid (cutN l least m = cutN l least n) ∧ v = .int .i64 (m : Nat)) (fun v => (intOf v).toNat)
  case atStart => exact ⟨n, hle, Nat.le_refl _, rfl, rfl⟩
  case round =>
    obtain ⟨m, hm1, hm2, HM, rfl⟩ := hrel
    obtain ⟨k, rfl⟩ : ∃ k, m = k + 1 := ⟨m - 1, by omega⟩
    have ek : ((k + 1 : Nat) : Int) = (k : Int) + 1 := by omega
    rw [ek]
    obtain ⟨z, hz⟩ : ∃ z, l[k]? = some z := ⟨_, List.getElem?_eq_getElem (by rw [HN.out]; omega)⟩
    have hgd : l.getD k 0 = z := by rw [List.getD_eq_getElem?_getD, hz]; rfl
    have hz9 := HV.out z (List.mem_of_getElem? hz)
    obtain ⟨x, offx, rfl, hx, hcx⟩ := HARG.out k _ hz
    have zk : (k : Int) + 1 - 1 = (k : Int) := by omega
    have zkn : (k : Int) < n := by omega
    clear hx
    by_cases hlt : least < k + 1
    · have zl : (least : Int) < (k : Int) + 1 := by omega
      by_cases h0 : z = 0
      · subst h0
        have HST := hide (cutN_step l least k hlt hgd)
        have hcx : W.cell? ⟨x, offx + k, none⟩ = some (.int .i64 0) := hcx
        have hk1 : 1 ≤ k := by omega
        clear hgd hz
        go_wp2
        go_round
        case rel => exact ⟨k, by omega, by omega, hide (HST.out.symm.trans HM.out), rfl⟩
        case measure =>
          show ((k : Nat) : Int).toNat < (((k : Nat) : Int) + 1).toNat
          omega
      · have HST := hide (cutN_stop l least (k + 1) (fun g => h0 (by rw [Nat.add_sub_cancel, hgd] at g; exact g.2)))
        have hzb : ((z : Int) == 0) = false := by simp; omega
        have zc : (k : Int) + 1 ≤ cap := by omega
        have HF := hide (show cutN l least n = k + 1 by rw [← HM.out, HST.out])
        clear hgd hz
        go_wp2
        go_ret
        exact ⟨⟨cap, by rw [HCL.out, HF.out]; rfl, by rw [HCL.out, HF.out]; omega⟩, rfl⟩
    · have HST := hide (cutN_stop l least (k + 1) (fun g => hlt g.1))
      have zl : ¬ (least : Int) < (k : Int) + 1 := by omega
      have zc : (k : Int) + 1 ≤ cap := by omega
      have HF := hide (show cutN l least n = k + 1 by rw [← HM.out, HST.out])
      clear hgd hz
      go_wp2
      go_ret
      exact ⟨⟨cap, by rw [HCL.out, HF.out]; rfl, by rw [HCL.out, HF.out]; omega⟩, rfl⟩

/-- An append whose run is known. -/
theorem wpList_append_run {P : Program} {w : World} {ops : Array Oper} {rest : List Oper} {o : Oper} {a : Act} {Q : Exit → Act → World → Prop} (hgd : o.guard = none) (s x : Operand) (t tn : TypeId)
    (ho : o.op = .call { callee := .builtin .append, args := #[s, x], argTypes := #[t, tn] }) (u v r : Value) (w' : World) (hs : a.eval s = u) (hx : a.eval x = v)
    (hr : (Builtin.append_ #[t, tn] o.type #[u, v]).run P w = .ok r w') (h : wpList P ops Q rest (a.put o.dst r) w') : wpList P ops Q (o :: rest) a w := by
  refine wpList_plain hgd fun K hK => ?_
  unfold Oper.wp execOp
  simp only [ho, resolve, invoke, builtin, Sem.run_bind, Sem.run_pure, Result.andThen_ok, List.map_toArray, List.map_cons, List.map_nil, hs, hx, hr]
  exact hK _ _ h

set_option maxRecDepth 20000 in
/-- A new row of noughts, of which none is taken. -/
theorem grow9 (n : Nat) (w : World) (h0 : 0 < n) (hn : n ≤ 10000) :
    Calls Try.prog 59 #[.slice none 0 0, .int .i64 (n : Nat)] w fun e w' => ∃ g cap, e = .returned (.slice (some ⟨g, 0, none⟩) 0 cap) ∧ w'.ownsRow w.heap.size 3 1 (.slice (some ⟨g, 0, none⟩) 0 cap) 0 [] ∧ Below w.heap.size w w' := by
  have zn : (0 : Int) < n := by omega
  obtain ⟨i1, ki, kz0, kz1, kz2⟩ := info_parts Try.infoInt
  have hap := fun (w : World) (ty : TypeId) => run_append_nil_zeros (P := Try.prog) w 62 3 ty 3 i1 (.int .i64 0) .i64 .i64 Try.underlying62 Try.underlying3 ki kz0 n h0 (by rw [kz1]; omega) (by omega) (by rw [kz2]; omega)
  have hg1 := grownCap_ge w n 0 3
  have hg2 := grownCap_le_maxLen w n 0 3 (by unfold maxLen; omega)
  have HO := hide (World.ownsRow_made (base := w.heap.size) (e := 3) (size := 1) w.drew (Builtin.zeroCells (Value.int .i64 0).cells n ++ Builtin.zeroCells (Value.int .i64 0).cells (grownCap w n 0 3 - n)) (grownCap w n 0 3) (Nat.le_refl _) hg2 (by
    have hc : (Value.int .i64 0).cells.size = 1 := rfl
    rw [Array.size_append, size_zeroCells, size_zeroCells, hc]
    omega))
  have HB := hide ((Below.refl w.heap.size w).drew.alloc (Nat.le_refl _) (.cells (Builtin.zeroCells (Value.int .i64 0).cells n ++ Builtin.zeroCells (Value.int .i64 0).cells (grownCap w n 0 3 - n)) 3))
  have HAP := hide (fun ty => hap w ty)
  clear hap
  generalize (Builtin.zeroCells (Value.int .i64 0).cells n ++ Builtin.zeroCells (Value.int .i64 0).cells (grownCap w n 0 3 - n)) = cs at *
  generalize grownCap w n 0 3 = cp at *
  clear hg2
  go_enter Try.func59, Try.ntmps59
  go_wp2_with (first | (at_builtin; refine wpList_append_run rfl _ _ 62 3 rfl _ _ _ _ rfl rfl (HAP.out _) ?_))
  go_ret
  exact ⟨_, cp, rfl, HO.out, HB.out⟩

set_option maxRecDepth 20000 in
set_option maxHeartbeats 4000000 in
theorem concat9 (x y : List Nat) (a1 a2 : Option Addr) (n m c1 c2 pb : Nat) (W : World) (hn : x.length = n) (hm : y.length = m) (k1 : ArgN W a1 x) (k2 : ArgN W a2 y) (hx1 : 1 ≤ n) (hx2 : n ≤ 400) (hy1 : 1 ≤ m) (hy2 : m ≤ 400) (hp : pb < W.heap.size) (_c1 : W.cell? ⟨pb, 0, none⟩ = some (.slice a1 n c1)) (_c2 : W.cell? ⟨pb, 1, none⟩ = some (.slice a2 m c2)) :
    Calls Try.prog 45 #[.slice (some ⟨pb, 0, none⟩) 2 2] W fun e w' => ∃ v, e = .returned v ∧ w'.ownsRow W.heap.size 3 1 v (n + m) (natCs (x ++ y)) ∧ Below W.heap.size W w' := by
  have K1 := hide k1
  have K2 := hide k2
  have HX := hide hn
  have HY := hide hm
  have HG := hide (grow9 (n + m) W (by omega) (by omega))
  have en : ((n + m : Nat) : Int) = (n : Int) + (m : Int) := by omega
  rw [en] at HG
  obtain ⟨i1, ki, kz0, kz1, kz2⟩ := info_parts Try.infoInt
  have HC1 := hide _c1
  have HC2 := hide _c2
  clear k1 k2 hn hm
  go_enter Try.func45, Try.ntmps45
  go_wp2
  refine wp_loop_rounds 3 ?_
  rw [rounds_succ]
  go_wp2
  rw [rounds_succ]
  go_wp2
  rw [rounds_succ]
  go_wp2_with fail
  refine HG.out.mono ?_
  rintro e w1 ⟨g, cp, rfl, ho1, b1⟩
  have HO1 := hide ho1
  have HB1 := hide b1
  have A1 := hide (K1.out.below b1 (Nat.le_refl _))
  have A2 := hide (K2.out.below b1 (Nat.le_refl _))
  have _d1 := (b1.cell (p := ⟨pb, 0, none⟩) hp).trans HC1.out
  have _d2 := (b1.cell (p := ⟨pb, 1, none⟩) hp).trans HC2.out
  clear ho1 b1 _c1 _c2 en
  go_wp2
  refine wp_loop_rounds 3 ?_
  rw [rounds_succ]
  go_wp2_with (first
    | (at_builtin; refine wpList_append_arg rfl _ _ 62 rfl W.heap.size 3 i1 (.int .i64 0) 1 8 Try.underlying62 ki kz0 kz1 kz2 rfl (by decide) _ _ _ rfl HO1.out a1 n _ (natCs x) rfl (by rw [natCs_len, HX.out]; omega) (fun e => by have h := argN_none A1.out e; rw [HX.out] at h; exact h) (fun ad e => argN_news A1.out ad e) (natCs_one _) (by unfold maxLen; omega) (by omega) HB1.out.size ?_; intro v2 w2 o2 g2))
  have HO2 := hide o2
  have HB2 := hide (Below.grownB HB1.out g2 HO1.out HB1.out.size)
  have A2b := hide (K2.out.below HB2.out (Nat.le_refl _))
  clear o2 g2
  have _e2 : w2.cell? ⟨pb, 1, none⟩ = some (.slice a2 m c2) := (HB2.out.cell (p := ⟨pb, 1, none⟩) hp).trans HC2.out
  rw [rounds_succ]
  go_wp2_with (first
    | (at_builtin; refine wpList_append_arg rfl _ _ 62 rfl W.heap.size 3 i1 (.int .i64 0) 1 8 Try.underlying62 ki kz0 kz1 kz2 rfl (by decide) _ _ _ rfl HO2.out a2 m _ (natCs y) rfl (by rw [natCs_len, HY.out]; omega) (fun e => by have h := argN_none A2b.out e; rw [HY.out] at h; exact h) (fun ad e => argN_news A2b.out ad e) (natCs_one _) (by unfold maxLen; omega) (by omega) HB2.out.size ?_; intro v3 w3 o3 g3))
  have HO3 := hide (show w3.ownsRow W.heap.size 3 1 v3 (n + m) (natCs (x ++ y)) by
    rw [← natCs_append]
    rw [Nat.zero_add, List.nil_append] at o3
    exact o3)
  have HB3 := hide (Below.grownB HB2.out g3 HO2.out HB2.out.size)
  clear o3 g3
  rw [rounds_succ]
  go_wp2
  go_ret
  exact ⟨v3, rfl, HO3.out, HB3.out⟩

set_option maxHeartbeats 4000000 in
theorem plain9 (W : World) :
    Calls Try.prog 29 #[] W fun e w' => TwoNew W plainL plainD e w' := by
  have hm1 : ∀ w, (Instr.makeSlice 62 (.int .i64 288) (.int .i64 288)).run Try.prog w = _ := make_int 288 (by omega)
  have hm2 : ∀ w, (Instr.makeSlice 62 (.int .i64 32) (.int .i64 32)).run Try.prog w = _ := make_int 32 (by omega)
  have O0 := hide (own_made W plainF 288 (by omega))
  have B0 := hide ((Below.refl W.heap.size W).alloc (Nat.le_refl _) (.cells (madeCells #[.int .i64 0] 288) 3))
  go_enter Try.func29, Try.ntmps29
  go_wp2
  go_loopw [9] (fun c wr => ∃ j : Nat, j ≤ 288 ∧ c = .int .i64 (j : Nat) ∧ Hid (wr.ownsRow W.heap.size 3 1 (.slice (some ⟨W.heap.size, 0, none⟩) 288 288) 288 (natCs (fillTo plainF 288 j))) ∧ Hid (Below W.heap.size W wr)) (fun c _ => 288 - (intOf c).toNat)
  case atStart => exact ⟨0, by omega, rfl, O0, B0⟩
  case round =>
    clear O0 B0
    obtain ⟨j, hj, rfl, HO, HB⟩ := hrel
    by_cases hlt : j < 288
    · have zj : (j : Int) < 288 := by omega
      have hz : (fillTo plainF 288 j)[j]? = some 0 := by rw [fillTo_get _ _ _ j hlt, if_neg (by omega)]
      have ho := HO.out
      obtain ⟨_c2, _f2⟩ := own_nat (by rw [fillTo_length]; exact ho) hz
      have HSET := hide (own_set ho j (plainF j))
      rw [fillTo_set plainF 288 j hlt] at HSET
      have HBS := hide (fun v => HB.out.setCell (p := ⟨W.heap.size, j, none⟩) (Nat.le_refl _) v)
      clear hz ho hm1 hm2
      by_cases g1 : j < 144
      · have e : plainF j = 8 := by unfold plainF; rw [if_pos g1]
        rw [e] at HSET
        have z1 : (j : Int) < 144 := by omega
        clear e
        go_wp2
        go_roundw
        case rel => exact ⟨j + 1, by omega, by go_num, HSET, hide (HBS.out _)⟩
        case measure => exact meas_oneW j 288 hlt
      · by_cases g2 : j < 256
        · have e : plainF j = 9 := by unfold plainF; rw [if_neg g1, if_pos g2]
          rw [e] at HSET
          have z1 : ¬ (j : Int) < 144 := by omega
          have z2 : (j : Int) < 256 := by omega
          clear e
          go_wp2
          go_roundw
          case rel => exact ⟨j + 1, by omega, by go_num, HSET, hide (HBS.out _)⟩
          case measure => exact meas_oneW j 288 hlt
        · by_cases g3 : j < 280
          · have e : plainF j = 7 := by unfold plainF; rw [if_neg g1, if_neg g2, if_pos g3]
            rw [e] at HSET
            have z1 : ¬ (j : Int) < 144 := by omega
            have z2 : ¬ (j : Int) < 256 := by omega
            have z3 : (j : Int) < 280 := by omega
            clear e
            go_wp2
            go_roundw
            case rel => exact ⟨j + 1, by omega, by go_num, HSET, hide (HBS.out _)⟩
            case measure => exact meas_oneW j 288 hlt
          · have e : plainF j = 8 := by unfold plainF; rw [if_neg g1, if_neg g2, if_neg g3]
            rw [e] at HSET
            have z1 : ¬ (j : Int) < 144 := by omega
            have z2 : ¬ (j : Int) < 256 := by omega
            have z3 : ¬ (j : Int) < 280 := by omega
            clear e
            go_wp2
            go_roundw
            case rel => exact ⟨j + 1, by omega, by go_num, HSET, hide (HBS.out _)⟩
            case measure => exact meas_oneW j 288 hlt
    · have hj2 : j = 288 := by omega
      subst hj2
      have HT0 := hide (show TwoRows (wr.alloc (.cells (madeCells #[.int .i64 0] 32) 3)) W W.heap.size wr.heap.size 288 32 (fillTo plainF 288 288) (fillTo (fun _ => 5) 32 0) from
        ⟨HO.out.alloc _, ownsRow_base (own_made wr (fun _ => 5) 32 (by omega)) HB.out.size, by have := (HO.out.lt W.heap.size rfl).2; omega, HB.out.alloc HB.out.size _⟩)
      have HNE := hide HT0.out.ne
      go_wp2
      generalize (wr.alloc (.cells (madeCells #[.int .i64 0] 32) 3)) = w2 at *
      generalize wr.heap.size = P2 at *
      clear hm1 hm2 HO HB
      rename World => wm
      go_loopw [37] (fun c wr => ∃ j : Nat, j ≤ 32 ∧ c = .int .i64 (j : Nat) ∧ Hid (TwoRows wr W W.heap.size P2 288 32 (fillTo plainF 288 288) (fillTo (fun _ => 5) 32 j))) (fun c _ => 32 - (intOf c).toNat)
      case atStart => exact ⟨0, by omega, rfl, HT0⟩
      case round =>
        clear HT0
        obtain ⟨j, hj, rfl, HT⟩ := hrel
        by_cases hlt : j < 32
        · have zj : (j : Int) < 32 := by omega
          obtain ⟨_c1, _f1⟩ := HT.out.c2 (j := j) (z := 0) (by rw [fillTo_length]) (by rw [fillTo_get _ _ _ j hlt, if_neg (by omega)])
          have HS := hide (HT.out.set2 j 5)
          rw [fillTo_set (fun _ => 5) 32 j hlt] at HS
          go_wp2
          go_roundw
          case rel => exact ⟨j + 1, by omega, by go_num, HS⟩
          case measure => exact meas_oneW j 32 hlt
        · have hj2 : j = 32 := by omega
          subst hj2
          have HD := hide (HT.out.done (by rw [fillTo_length]) (by rw [fillTo_length]))
          rw [fill_end, fill_end] at HD
          go_wp2
          go_ret2
          exact HD.out

end Go.Proofs.Ytpgkmbakohfpkaa
