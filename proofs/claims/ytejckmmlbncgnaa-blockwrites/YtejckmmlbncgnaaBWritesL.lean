/- BlockWrites, the walk: blocks are the document's, bit by bit. -/
import Derived.Test.YtejckmmlbncgnaaBTwo
import Derived.Test.YtejckmmlbncgnaaBOpen
import Derived.Deep.DeepCutAuto
import Derived.Deep.CutBlock
namespace Go.Proofs.Ytejckmmlbncgnaa
open Go.RowKit Go.Lib


set_option maxRecDepth 20000 in
set_option maxHeartbeats 8000000 in
theorem writes_small (C : BSpec) (l : List (Nat × Int × Int)) (a : Option Addr) (cap : Nat) (s : ByteArray) (t0 t1 : Nat) (W : World) (harg : ArgT W a l) (hnil : a = none → cap = 0) (hb : ∀ t ∈ l, t.1 < 256) (hl9 : l.length ≤ 9223372036854775807) (ht0 : t0 < 256) (ht1 : t1 < 256) :
    Calls Try.prog 3 #[.slice a l.length cap, .string s, .agg #[.int .u8 (t0 : Int), .int .u8 (t1 : Int)]] W fun e w' => e = .returned (.bool true) ∧ Below W.heap.size W w' := by
  have HC := hide C
  have HB1 := hide ((Below.refl _ W).alloc (Nat.le_refl _) (.cells #[.int .u8 (t0 : Int), .int .u8 (t1 : Int)] 23))
  have hA1 := harg.below HB1.out (Nat.le_refl _)
  have HA := hide hA1
  have HRT := hide (right_any l a cap _ hA1 (by omega))
  have HNIL := hide hnil
  obtain ⟨n, hn⟩ : ∃ n, l.length = n := ⟨_, rfl⟩
  have HN := hide hn
  rw [hn] at HRT ⊢
  have HHB := hide hb
  obtain ⟨m, hm⟩ : ∃ m, s.size = m := ⟨_, rfl⟩
  have HM := hide hm
  have zm : ((s.size : Nat) : Int) = (m : Int) := by omega
  have hx0 : (W.alloc (.cells #[.int .u8 (t0 : Int), .int .u8 (t1 : Int)] 23)).heap[W.heap.size]? = some (.cells #[.int .u8 (t0 : Int), .int .u8 (t1 : Int)] 23 (0, 0)) := by show (W.heap.push _)[W.heap.size]? = _; simp
  have HX := hide hx0
  have HSZ := hide (show W.heap.size < (W.alloc (.cells #[.int .u8 (t0 : Int), .int .u8 (t1 : Int)] 23)).heap.size by simp)
  obtain ⟨R, hR⟩ : ∃ R, rightB l = R := ⟨_, rfl⟩
  have HRB := hide hR
  rw [hR] at HRT
  clear C harg hA1 hn hl9 hb hm hR hnil hx0
  go_enter Try.func3, Try.ntmps3
  go_wp2_with fail
  generalize hW1 : W.alloc (.cells #[.int .u8 (t0 : Int), .int .u8 (t1 : Int)] 23) = W1 at HRT HB1 HA HX HSZ ⊢
  clear hW1
  refine HRT.out.mono ?_
  rintro e w0 ⟨rfl, rfl⟩
  cases R with
  | false =>
    go_wp2_with fail
    refine (awake9_any HC.out _).mono ?_
    rintro e w9 ⟨rfl, b9⟩
    have B9 := hide (HB1.out.trans (b9.mono HB1.out.size))
    clear b9
    go_wp2
    go_ret
    exact ⟨rfl, B9.out⟩
  | true =>
    by_cases hms : 1000 < m
    · have zms : (1000 : Int) < (m : Int) := by omega
      go_wp2_with fail
      refine (awake9_any HC.out _).mono ?_
      rintro e w9 ⟨rfl, b9⟩
      have B9 := hide (HB1.out.trans (b9.mono HB1.out.size))
      clear b9
      go_wp2
      go_ret
      exact ⟨rfl, B9.out⟩
    · have zms : ¬ (1000 : Int) < (m : Int) := by omega
      obtain ⟨hr, hl200⟩ := right_all HRB.out HHB.out
      have HR := hide hr
      have HL2 := hide (show l.length ≤ 2000 by omega)
      clear hr hl200
      go_wp2
      go_loopw [7] (fun c wr => ∃ j : Nat, j ≤ 3 ∧ c = .int .i64 (j : Nat) ∧ Hid (Below W1.heap.size W1 wr)) (fun c _ => 3 - (intOf c).toNat)
      case atStart => exact ⟨0, by omega, rfl, hide (Below.refl _ _)⟩
      case round =>
        obtain ⟨j, hj, rfl, HBJ⟩ := hrel
        by_cases hlt : j < 3
        · have zj : (j : Int) < 3 := by omega
          have HBO := hide (Both.made wr HBJ.out)
          have cellX := fun (w : World) (h : Below W1.heap.size W1 w) => show w.cell? ⟨W.heap.size, 0, none⟩ = some (.int .u8 (t0 : Int)) ∧ w.cell? ⟨W.heap.size, 1, none⟩ = some (.int .u8 (t1 : Int)) from by
            constructor
            · rw [h.cell (p := ⟨W.heap.size, 0, none⟩) HSZ.out, cell_of_row _ _ 0 _ _ (0, 0) HX.out]; rfl
            · rw [h.cell (p := ⟨W.heap.size, 1, none⟩) HSZ.out, cell_of_row _ _ 1 _ _ (0, 0) HX.out]; rfl
          have HCX := hide cellX
          clear cellX
          obtain ⟨_x0, _x1⟩ := HCX.out _ HBO.out.bel
          obtain ⟨k, hk⟩ : ∃ k, t0 % 8 = k := ⟨_, rfl⟩
          have hk8 : k < 8 := by omega
          have zk : (t0 : Int) % 8 = (k : Int) := by omega
          have HP1 := hide (wput_any wr.heap.size (.slice none 0 0) [] (t0 : Int) (k : Int) _ k (takenI_nat k (by omega)) HBO.out.wr (by decide))
          have z0 : (t0 : Int) ≤ 255 := by omega
          have z1 : (t1 : Int) ≤ 255 := by omega
          clear hk
          go_wp2_with fail
          refine HP1.out.mono ?_
          rintro e w2 ⟨rfl, v2, hr2, hs2⟩
          rw [List.nil_append] at hr2
          have HB2 := hide (HBO.out.stepA hs2 hr2)
          clear hr2 hs2 HP1 HBO _x0 _x1
          generalize wr.heap.size + 1 = q at HB2 ⊢
          generalize wr.heap.size = p at HB2 ⊢
          obtain ⟨_x0, _x1⟩ := HCX.out _ HB2.out.bel
          have HP2 := hide (qwput_any q (.slice none 0 0) [] (t0 : Int) k _ (by omega) HB2.out.wq (by decide))
          go_wp2_with fail
          refine HP2.out.mono ?_
          rintro e w3 ⟨rfl, u3, hr3, hs3⟩
          rw [List.nil_append] at hr3
          have HB3 := hide (HB2.out.stepB hs3 hr3)
          clear hr3 hs3 HP2 HB2 _x0 _x1
          have hlb : (lowBits (t0 : Int) k).length ≤ 30 := by rw [lowBits_length]; omega
          generalize lowBits (t0 : Int) k = bs at HB3 hlb
          go_upto_if 46 with fail
          go_cut [] (fun wx => ∃ v4 u4 cs, Hid (Both W1 wx p q v4 u4 cs cs))
          case first =>
            obtain ⟨_x0, _x1⟩ := HCX.out _ HB3.out.bel
            by_cases hj0 : j = 0
            · subst hj0
              have HS1 := hide (HC.out.store p v2 bs s (decide (127 < (t1 : Int))) w3 HB3.out.wr (by omega) (by rw [HM.out]; omega))
              go_wp2_with fail
              refine HS1.out.mono ?_
              rintro e w4 ⟨rfl, v4, hr4, hs4⟩
              have HB4 := hide (HB3.out.stepA hs4 hr4)
              clear hr4 hs4 HS1 HB3 _x0 _x1
              obtain ⟨_x0, _x1⟩ := HCX.out _ HB4.out.bel
              have HS2 := hide (qstore_any q u3 bs s (decide (127 < (t1 : Int))) w4 HB4.out.wq (by omega) (by rw [HM.out]; omega))
              go_wp2_with fail
              refine HS2.out.mono ?_
              rintro e w5 ⟨rfl, u5, hr5, hs5⟩
              have HB5 := hide (HB4.out.stepB hs5 hr5)
              clear hr5 hs5 HS2 HB4 _x0 _x1
              go_wp2
              go_meet
              exact ⟨v4, u5, _, HB5⟩
            · have zj0 : ((j : Int) == 0) = false := by simp; omega
              have HS1 := hide (HC.out.write l a cap (j : Int) (decide (127 < (t1 : Int))) p v2 bs w3 HB3.out.wr (by omega) (KT.fresh HA.out HB3.out.bel HB3.out.hp HB3.out.hv) HNIL.out HR.out HL2.out)
              rw [HN.out] at HS1
              go_wp2_with fail
              refine HS1.out.mono ?_
              rintro e w4 ⟨rfl, ob, v4, hrel, _, hr4, hs4⟩
              have HB4 := hide (HB3.out.stepA hs4 hr4)
              have HREL := hide hrel
              clear hr4 hs4 HS1 HB3 hrel _x0 _x1
              obtain ⟨_x0, _x1⟩ := HCX.out _ HB4.out.bel
              have HS2 := hide (qwrite_any l a cap (j : Int) (decide (127 < (t1 : Int))) q u3 bs w4 HB4.out.wq (by omega) (KT.fresh HA.out HB4.out.bel HB4.out.hq HB4.out.hu) HR.out HL2.out)
              rw [HN.out] at HS2
              go_wp2_with fail
              refine HS2.out.mono ?_
              rintro e w5 ⟨rfl, ob2, u5, hrel2, _, hr5, hs5⟩
              rw [hrel2.uniq HREL.out] at hr5
              have HB5 := hide (HB4.out.stepB hs5 hr5)
              clear hr5 hs5 HS2 HB4 hrel2 _x0 _x1
              go_wp2
              go_meet
              exact ⟨v4, u5, _, HB5⟩
          case rest =>
            clear HB3
            obtain ⟨v4, u4, cs, HB4⟩ := hcut
            obtain ⟨out, hw1, hw2⟩ := HB4.out.same
            have _c1 := hw1.c1
            have _c2 := hw2.c1
            have HW1 := hide hw1
            have HW2 := hide hw2
            have HBW := hide HB4.out.bel
            clear hw1 hw2 HB4
            generalize cs.length = N at _c1 _c2 HW1 HW2
            go_wp2_with fail
            go_quiet (first
              | (go_at_call 16; exact Calls.quiet_of_same (wbytes_at _ _ out _ _ (HW1.out.drewN _)))
              | (go_at_call 17; exact Calls.quiet_of_same (qwbytes_at _ _ out _ _ (HW2.out.drewN _))))
            go_wp2
            go_roundw
            case rel => exact ⟨j + 1, hlt, by go_num, hide (below_drewN HBW.out _)⟩
            case measure => exact meas_oneW j 3 hlt
        · have hj3 : j = 3 := by omega
          subst hj3
          go_wp2_with fail
          refine (awake9_any HC.out _).mono ?_
          rintro e w9 ⟨rfl, b9⟩
          have B9 := hide (HB1.out.trans ((HBJ.out.trans (b9.mono HBJ.out.size)).mono HB1.out.size))
          clear b9
          go_wp2
          go_ret
          exact ⟨rfl, B9.out⟩

set_option maxRecDepth 20000 in
theorem writes_law (C : BSpec) (w : World) (v0 : Value) {b0 : Nat} {H : Type} {enc : TypeId × Value → H} {d0 : DataW H} {p0 : List MemPlace}
    (o0 : Value.okWide Try.prog w .any b0 22 v0) (k0 : DataW.Trod enc Try.prog w 0 (fun _ => true) true 22 v0 d0 p0) (s : ByteArray) (_ws : s.size ≤ maxLen)
    (v2 : Value) {b2 : Nat} {d2 : DataW H} {p2 : List MemPlace} (o2 : Value.okWide Try.prog w .any b2 23 v2) (k2 : DataW.Trod enc Try.prog w 0 (fun _ => true) true 23 v2 d2 p2) :
    Calls Try.prog 3 #[v0, .string s, v2] w fun e w' => e = .returned (.bool true) ∧ Below w.heap.size w w' := by
  obtain ⟨a, cap, l, rfl, ha, hl, hn, hb⟩ := open_argT9 o0 k0
  obtain ⟨x, y, hx, hy, rfl⟩ := open_two8 o2 k2
  exact writes_small C l a cap s x y w ha hn hb hl hx hy

end Go.Proofs.Ytejckmmlbncgnaa
