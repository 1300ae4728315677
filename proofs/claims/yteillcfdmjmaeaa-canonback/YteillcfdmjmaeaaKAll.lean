/- A code of two symbols or more reads any bits as symbols, as long as there are 15: 'CanonAll' answers true. No condition. -/
import Derived.Test.YteillcfdmjmaeaaKReads
namespace Go.Proofs.Yteillcfdmjmaeaa
open Go.RowKit Go.Lib

/-- What stands: the code, and a reader. -/
structure RdO (w W : World) (P A : Nat) (cs : List Value) (a3 : Option Addr) (S : List Nat) (s : ByteArray) (i : Nat) : Prop where
  bel : Below W.heap.size W w
  box : w.heap[P]? = some (.cells cs.toArray 29 (0, 0))
  ra : RdAt 38 w A s i false
  arg : ArgN w a3 S
  na : ∀ b off, a3 = some ⟨b, off, none⟩ → b ≠ A
  pa : P ≠ A
  loA : W.heap.size ≤ A

theorem RdO.next {w w1 W : World} {P A : Nat} {cs : List Value} {a3 : Option Addr} {S : List Nat} {s : ByteArray} {i j : Nat} (h : RdO w W P A cs a3 S s i) (t1 : Turn A w w1) (r1 : RdAt 38 w1 A s j false) : RdO w1 W P A cs a3 S s j :=
  ⟨Turn.below h.bel t1 h.loA h.bel.size, block_turn h.box t1 h.pa, r1, h.arg.turn t1 h.na, h.na, h.pa, h.loA⟩
theorem RdO.drewN {w W : World} {P A : Nat} {cs : List Value} {a3 : Option Addr} {S : List Nat} {s : ByteArray} {i : Nat} (h : RdO w W P A cs a3 S s i) (q : Nat) : RdO (w.drewN q) W P A cs a3 S s i :=
  ⟨below_drewN h.bel q, h.box, h.ra, h.arg, h.na, h.pa, h.loA⟩

theorem own_blocks {w : World} {B m c : Nat} {a3 : Option Addr} {xs : List Value} (o3 : w.ownsRow B 3 1 (.slice a3 m c) m xs) : ∀ b off, a3 = some ⟨b, off, none⟩ → b < w.heap.size := by
  intro b off e
  rcases len_form o3 with ⟨e1, _⟩ | ⟨g', c', e1⟩
  · injection e1 with e1; rw [e1] at e; cases e
  · injection e1 with e1
    rw [e1] at e
    injection e with e
    injection e with e
    have h1 := (o3.lt g' (by rw [e1]; rfl)).2
    omega

theorem full_read {ls : List Nat} {b : Nat → Nat} {av : Nat} {x : Int} {u : Nat} {bad : Bool} (hf : krTo ls 15 = 32768) (hb : ∀ j, b j ≤ 1) (hav : 15 ≤ av) (h : ReadRes ls b av x u bad) : ∃ y : Nat, x = (y : Int) ∧ y < ls.length ∧ ls.getD y 0 = u ∧ 1 ≤ u ∧ u ≤ 15 ∧ bad = false := by
  obtain ⟨k, hk⟩ := full_stops ls hf b hb
  obtain ⟨h1, h2, h3⟩ := h.uniq (.inl ⟨k, hk, by have := hk.hi; omega, rfl, rfl, rfl⟩)
  obtain ⟨h4, h5⟩ := hk.sym
  exact ⟨symAt ls b k, h1, h4, by rw [h5, h2], by rw [h2]; exact hk.lo, by rw [h2]; exact hk.hi, h3⟩

set_option maxRecDepth 20000 in
set_option maxHeartbeats 4000000 in
theorem all_walk (l : List Int) (s : ByteArray) (a : Option Addr) (cap : Nat) (W : World) (harg : ArgZ W a l) :
    Calls Try.prog 7 #[.slice a l.length cap, .string s] W fun e w' => e = .returned (.bool true) ∧ Below W.heap.size W w' := by
  have HA := hide harg
  have hv := Try.zeroCode
  have hZn := codeCs_length (fun _ => 0) (.slice none 0 0)
  generalize codeCs (fun _ => 0) (.slice none 0 0) = Z at hv hZn
  clear harg
  by_cases h1 : 600 < l.length
  · have z1 : (600 : Int) < l.length := by omega
    go_enter Try.func7, Try.ntmps7
    go_wp2_with fail
    refine (kawake_any _).mono ?_
    rintro e w1 ⟨rfl, b1⟩
    have B1 := hide b1
    clear b1
    go_wp2
    go_ret
    exact ⟨rfl, B1.out⟩
  have z1 : ¬ (600 : Int) < l.length := by omega
  by_cases h2 : 300 < s.size
  · have z2 : (300 : Int) < s.size := by omega
    go_enter Try.func7, Try.ntmps7
    go_wp2_with fail
    refine (kawake_any _).mono ?_
    rintro e w1 ⟨rfl, b1⟩
    have B1 := hide b1
    clear b1
    go_wp2
    go_ret
    exact ⟨rfl, B1.out⟩
  have z2 : ¬ (300 : Int) < s.size := by omega
  have HL := hide (show l.length ≤ 1000 by omega)
  have hs3 : s.size ≤ 300 := by omega
  have HSZ0 := hide hs3
  have HC := hide (check_any l a cap W HA.out HL.out)
  by_cases hg : goodB l = true
  · rw [chkI_good hg] at HC
    have HG := hide hg
    obtain ⟨hE, hM⟩ := (goodB_iff l).1 hg
    have HE := hide hE
    have HM := hide hM
    have HARGW := hide (HA.out.nat15 hE)
    clear hg hE hM
    go_enter Try.func7, Try.ntmps7
    go_wp2_with fail
    refine HC.out.mono ?_
    rintro e w1 ⟨rfl, HB1⟩
    clear HC
    go_wp2
    have hl1000 := HL.out
    go_loop [5, 6] (fun cv iv => ∃ j c : Nat, j ≤ l.length ∧ c ≤ 1000 ∧ iv = .int .i64 j ∧ cv = .int .i64 (c : Nat) ∧ Hid (numL (preN l j) = c)) (fun _ iv => l.length - (intOf iv).toNat)
    case atStart => exact ⟨0, 0, Nat.zero_le _, by omega, rfl, rfl, hide rfl⟩
    case round =>
      obtain ⟨j, c, hj, hc9, rfl, rfl, HN⟩ := hrel
      by_cases hlt : j < l.length
      · obtain ⟨x, hx⟩ : ∃ x, l[j]? = some x := ⟨_, List.getElem?_eq_getElem hlt⟩
        obtain ⟨b, off, rfl, hb, hc⟩ := HA.out j x hx
        have _c := (HB1.out.cell (p := ⟨b, off + j, none⟩) hb).trans hc
        have zj : (j : Int) < l.length := by omega
        have hx0 := (HE.out x (mem_of_get hx)).1
        have HNS := hide (show numL (preN l (j + 1)) = c + if x.toNat = 0 then 0 else 1 by rw [preN_succ l j x hx, num_snoc, HN.out])
        have hle := num_le (preN l (j + 1))
        have hle2 : (preN l (j + 1)).length ≤ l.length := by unfold preN; rw [List.length_map, List.length_take]; omega
        by_cases hpos : 0 < x
        · have HN2 := hide (show numL (preN l (j + 1)) = c + 1 by rw [HNS.out, if_neg (by omega)])
          have hc10 : c + 1 ≤ 1000 := by have := HN2.out; omega
          clear hx hc hle hle2 HNS
          go_wp2
          go_round
          case rel => exact ⟨j + 1, c + 1, hlt, hc10, by go_num, by go_num, HN2⟩
          case measure => exact meas_oneW j l.length hlt
        · have HN2 := hide (show numL (preN l (j + 1)) = c by rw [HNS.out, if_pos (by omega)]; rfl)
          have hpd : decide (0 < x) = false := by simp; omega
          clear hx hc hle hle2 HNS
          go_wp2
          go_round
          case rel => exact ⟨j + 1, c, hlt, hc9, by go_num, rfl, HN2⟩
          case measure => exact meas_oneW j l.length hlt
      · have hje : j = l.length := by omega
        subst hje
        rw [preN_all] at HN
        go_wp2_with fail
        refine (build_any l a cap w1 (HA.out.below HB1.out) HL.out).mono ?_
        rintro e w2 ⟨r, rfl, hr, b2⟩
        obtain ⟨a3, c3, m, rfl, hm, o3⟩ := build_good hr HG.out
        have hsy := own_arg o3 hm
        have hown := own_blocks o3
        have b12 := HB1.out.trans (b2.mono HB1.out.size)
        obtain ⟨ls, hls⟩ : ∃ ls, l.map Int.toNat = ls := ⟨_, rfl⟩
        have HLL := hide (show ls.length = l.length by rw [← hls, List.length_map])
        rw [hls] at hsy hm HN HM HARGW
        simp only [hls]
        have h17 := codeCs_length (cn ls) (.slice a3 m c3)
        have hst := code_store w2 Z (codeCs (cn ls) (.slice a3 m c3)) hZn h17 (codeCs_one _ _ rfl)
        have HRE := hide (fun (w : World) (p i : Nat) (hA : ArgN w a3 (symTo ls 16)) (hp : ∀ b off, a3 = some ⟨b, off, none⟩ → b ≠ p) (hR : RdAt 38 w p s i false) (hi : i ≤ 8 * s.size) => read_any ls a3 c3 m p s i w hm hA hp (by rw [HLL.out]; exact HL.out) hR hi (by have := HSZ0.out; omega))
        unfold codeV at HRE ⊢
        have hsz1 : (w2.alloc (.cells (codeCs (cn ls) (.slice a3 m c3)).toArray 29)).heap.size = w2.heap.size + 1 := by show (w2.heap.push _).size = _; simp
        have B3 := hide (b12.alloc b12.size (.cells (codeCs (cn ls) (.slice a3 m c3)).toArray 29))
        have HS0 := hide (show RdO ((w2.alloc (.cells (codeCs (cn ls) (.slice a3 m c3)).toArray 29)).alloc (.cells #[.string s, .int .i64 0, .bool false] 38)) W w2.heap.size (w2.heap.size + 1) (codeCs (cn ls) (.slice a3 m c3)) a3 (symTo ls 16) s 0 by
          have hb := b12.size
          refine ⟨(b12.alloc b12.size _).alloc (by omega) _, ?_, ?_, ?_, fun b off e => by have := hown b off e; omega, by omega, by omega⟩
          · rw [heap_alloc_old _ _ _ (by omega)]
            exact heap_alloc_at _ _ rfl
          · exact heap_alloc_at _ _ hsz1
          · have bb : Below w2.heap.size w2 ((w2.alloc (.cells (codeCs (cn ls) (.slice a3 m c3)).toArray 29)).alloc (.cells #[.string s, .int .i64 0, .bool false] 38)) := ((Below.refl _ w2).alloc (Nat.le_refl _) _).alloc (by omega) _
            exact hsy.below bb (Nat.le_refl _))
        have HN17 := hide h17
        clear hr b2 o3 hsy hm hown hsz1 b12
        generalize codeCs (cn ls) (.slice a3 m c3) = cs at *
        by_cases hc2 : c < 2
        · have zc : (c : Int) < 2 := by omega
          go_wp2_with fail
          refine (kawake_any _).mono ?_
          rintro e w4 ⟨rfl, b4⟩
          have B4 := hide (B3.out.trans (b4.mono B3.out.size))
          clear b4
          go_wp2
          go_ret
          exact ⟨rfl, B4.out⟩
        · have zc : ¬ (c : Int) < 2 := by omega
          have HF := hide (show krTo ls 15 = 32768 by
            rcases HM.out.full with h | h | h
            · exact h
            · have := HN.out; omega
            · have := HN.out; omega)
          go_wp2
          clear hst
          obtain ⟨P, hP⟩ : ∃ P, w2.heap.size = P := ⟨_, rfl⟩
          rw [hP] at HS0
          simp only [hP]
          obtain ⟨A, hAe⟩ : ∃ A, P + 1 = A := ⟨_, rfl⟩
          rw [hAe] at HS0
          simp only [hAe]
          clear hP hAe h17
          generalize hw4 : (w2.alloc (.cells cs.toArray 29)).alloc (.cells #[.string s, .int .i64 0, .bool false] 38) = w4 at *
          clear hw4 B3
          have HSZ := hide (show (Try.prog.info? 29).map (·.size) = some cs.length by rw [HN17.out]; exact Try.sizeCode)
          go_loopg [10, 11] (8 * s.size) (fun gk _ _ wr => ∃ i : Nat, i ≤ 8 * s.size ∧ 8 * s.size - i ≤ gk ∧ Hid (RdO wr W P A cs a3 (symTo ls 16) s i))
          case atStart => exact ⟨0, Nat.zero_le _, by omega, HS0⟩
          case round =>
            clear HS0
            obtain ⟨i, hi8, hgk, HS⟩ := hrel
            have c1 := HS.out.ra.c1
            by_cases hend : i + 15 ≤ 8 * s.size
            · have ze : (i : Int) + 15 ≤ 8 * (s.size : Int) := by omega
              have HRG := hide (code_range HS.out.box)
              go_wp2_with (first
                | (refine wpList_load_mid rfl 29 (Operand.tmp 7) rfl P 0 rfl cs _ HRG.out Try.underlying29 rfl HSZ.out ?_))
              refine (HRE.out wr A i HS.out.arg HS.out.na HS.out.ra hi8).mono ?_
              rintro e w5 ⟨x, u, bad, rfl, HX, HR5, HT5⟩
              obtain ⟨y, rfl, hy1, hy2, hu1, hu15, rfl⟩ := full_read HF.out (bitsF_le s i) (by omega) HX.out
              have HN5 := hide (HS.out.next HT5.out HR5.out)
              obtain ⟨b, off, rfl, hb, hcl⟩ := HARGW.out y _ (getD_some ls y hy1)
              have d1 := (HN5.out.bel.cell (p := ⟨b, off + y, none⟩) hb).trans hcl
              have d2 := HN5.out.ra.c1
              rw [hy2] at d1
              rw [HLL.out] at hy1
              have zy : (y : Int) < l.length := by omega
              have zy0 : decide ((y : Int) < 0) = false := by simp
              have zyl : decide ((l.length : Int) ≤ (y : Int)) = false := by simp; omega
              have zu : decide ((u : Int) < 1) = false := by simp; omega
              have ezu : ((i + u : Nat) : Int) = (i : Int) + (u : Int) := by omega
              rw [ezu] at d2
              have zyl2 : decide (l.length ≤ y) = false := by simp; omega
              have zwr : IntKind.i64.wrap ((i : Int) + (u : Int)) = (i : Int) + (u : Int) := by rw [IntKind.wrap_i64]; omega
              clear hcl HX HR5 HT5 c1 HRG
              go_wp2_with fail
              go_quiet (fail)
              go_wp2
              go_roundg (8 * s.size - (i + u))
              case measure => omega
              case rel => exact ⟨i + u, by omega, Nat.le_refl _, hide (HN5.out.drewN _)⟩
            · have ze : ¬ ((i : Int) + 15 ≤ 8 * (s.size : Int)) := by omega
              have HB5 := hide HS.out.bel
              go_wp2_with fail
              refine (kawake_any _).mono ?_
              rintro e w7 ⟨rfl, b7⟩
              have B7 := hide (HB5.out.trans (b7.mono HB5.out.size))
              clear b7
              go_wp2
              go_ret
              exact ⟨rfl, B7.out⟩
  · rw [chkI_bad hg] at HC
    go_enter Try.func7, Try.ntmps7
    go_wp2_with fail
    refine HC.out.mono ?_
    rintro e w1 ⟨rfl, HB1⟩
    go_wp2_with fail
    refine (kawake_any _).mono ?_
    rintro e w2 ⟨rfl, b2⟩
    have B2 := hide (HB1.out.trans (b2.mono HB1.out.size))
    clear b2
    go_wp2
    go_ret
    exact ⟨rfl, B2.out⟩

theorem all_law (w : World) (v0 : Value) {b0 : Nat} {H : Type} {enc : TypeId × Value → H} {d0 : DataW H} {p0 : List MemPlace}
    (o0 : Value.okWide Try.prog w .any b0 22 v0) (k0 : DataW.Trod enc Try.prog w 0 (fun _ => true) true 22 v0 d0 p0) (s : ByteArray) (_w1 : s.size ≤ maxLen) :
    Calls Try.prog 7 #[v0, .string s] w fun e w' => e = .returned (.bool true) ∧ Below w.heap.size w w' := by
  obtain ⟨pa, ca, a, rfl, ha, _, _⟩ := open_argZ o0 k0
  exact all_walk a s pa ca w ha

end Go.Proofs.Yteillcfdmjmaeaa
