/- Whatever symbols of a code stand in any bytes, one by one, are the document's: 'CanonReads' answers true. No condition. -/
import Derived.Test.YteillcfdmjmaeaaKTells
import Derived.Test.YteillcfdmjmaeaaQBelow
namespace Go.Proofs.Yteillcfdmjmaeaa
open Go.RowKit Go.Lib

theorem RdAt.below {T : TypeId} {w w' : World} {p : Nat} {s : ByteArray} {i : Nat} {bad : Bool} (h : RdAt T w p s i bad) (b : Below w.heap.size w w') : RdAt T w' p s i bad := block_below h b
theorem RdAt.turn {T : TypeId} {w w' : World} {p q : Nat} {s : ByteArray} {i : Nat} {bad : Bool} (h : RdAt T w p s i bad) (t : Turn q w w') (hne : p ≠ q) : RdAt T w' p s i bad := by
  unfold RdAt at h ⊢
  rw [t.block p (Array.getElem?_eq_some_iff.1 h).1 hne]
  exact h
theorem block_turn {w w' : World} {P q : Nat} {o : Obj} (h : w.heap[P]? = some o) (t : Turn q w w') (hne : P ≠ q) : w'.heap[P]? = some o := by
  rw [t.block P (Array.getElem?_eq_some_iff.1 h).1 hne]
  exact h
theorem Turn.drew {p : Nat} {a b : World} (h : Turn p a b) : Turn p a b.drew := ⟨h.os, h.tape, h.output, h.size, h.block⟩

/-- What stands: the code, and two readers at one place. -/
structure RdS (w W : World) (P A D : Nat) (cs : List Value) (a3 : Option Addr) (S : List Nat) (s : ByteArray) (i : Nat) (bad : Bool) : Prop where
  bel : Below W.heap.size W w
  box : w.heap[P]? = some (.cells cs.toArray 29 (0, 0))
  ra : RdAt 38 w A s i bad
  rb : RdAt 40 w D s i bad
  arg : ArgN w a3 S
  na : ∀ b off, a3 = some ⟨b, off, none⟩ → b ≠ A
  nd : ∀ b off, a3 = some ⟨b, off, none⟩ → b ≠ D
  pa : P ≠ A
  pd : P ≠ D
  ad : A ≠ D
  loA : W.heap.size ≤ A
  loD : W.heap.size ≤ D

theorem RdS.two {w w1 w2 W : World} {P A D : Nat} {cs : List Value} {a3 : Option Addr} {S : List Nat} {s : ByteArray} {i j : Nat} {bad : Bool} (h : RdS w W P A D cs a3 S s i false) (t1 : Turn A w w1) (t2 : Turn D w1 w2) (r1 : RdAt 38 w1 A s j bad) (r2 : RdAt 40 w2 D s j bad) : RdS w2 W P A D cs a3 S s j bad :=
  ⟨Turn.below (Turn.below h.bel t1 h.loA h.bel.size) t2 h.loD (Nat.le_trans h.bel.size t1.size), block_turn (block_turn h.box t1 h.pa) t2 h.pd, r1.turn t2 h.ad, r2, (h.arg.turn t1 h.na).turn t2 h.nd, h.na, h.nd, h.pa, h.pd, h.ad, h.loA, h.loD⟩

theorem ReadRes.pos {ls : List Nat} {b : Nat → Nat} {av : Nat} {x : Int} {u : Nat} {bad : Bool} (h : ReadRes ls b av x u bad) (hx : 0 ≤ x) : bad = false ∧ u ≤ av := by
  rcases h with ⟨k, h1, h2, h3, h4, h5⟩ | ⟨_, h2, _⟩
  · exact ⟨h5, by omega⟩
  · omega

set_option maxRecDepth 20000 in
set_option maxHeartbeats 4000000 in
theorem reads_walk (l : List Int) (s : ByteArray) (a : Option Addr) (cap : Nat) (W : World) (harg : ArgZ W a l) :
    Calls Try.prog 4 #[.slice a l.length cap, .string s] W fun e w' => e = .returned (.bool true) ∧ Below W.heap.size W w' := by
  have HA := hide harg
  have hv := Try.zeroCode
  have hZn := codeCs_length (fun _ => 0) (.slice none 0 0)
  generalize codeCs (fun _ => 0) (.slice none 0 0) = Z at hv hZn
  clear harg
  by_cases h1 : 600 < l.length
  · have z1 : (600 : Int) < l.length := by omega
    go_enter Try.func4, Try.ntmps4
    go_wp2_with fail
    refine (kawake_any _).mono ?_
    rintro e w1 ⟨rfl, b1⟩
    have B1 := hide b1
    clear b1
    go_wp2
    go_ret
    exact ⟨rfl, B1.out⟩
  have z1 : ¬ (600 : Int) < l.length := by omega
  by_cases h2 : 500 < s.size
  · have z2 : (500 : Int) < s.size := by omega
    go_enter Try.func4, Try.ntmps4
    go_wp2_with fail
    refine (kawake_any _).mono ?_
    rintro e w1 ⟨rfl, b1⟩
    have B1 := hide b1
    clear b1
    go_wp2
    go_ret
    exact ⟨rfl, B1.out⟩
  have z2 : ¬ (500 : Int) < s.size := by omega
  have HL := hide (show l.length ≤ 1000 by omega)
  have HSZ0 := hide (show s.size ≤ 500 by omega)
  go_enter Try.func4, Try.ntmps4
  go_wp2_with fail
  refine (build_any l a cap W HA.out HL.out).mono ?_
  rintro e w1 ⟨r, rfl, hr, b1⟩
  by_cases hg : goodB l = true
  · obtain ⟨a3, c3, m, rfl, hm, o3⟩ := build_good hr hg
    have hs3 := own_arg o3 hm
    obtain ⟨ls, hls⟩ : ∃ ls, l.map Int.toNat = ls := ⟨_, rfl⟩
    have HLL := hide (show ls.length ≤ 1000 by rw [← hls, List.length_map]; exact HL.out)
    rw [hls] at hs3 hm o3
    simp only [hls]
    have h17 := codeCs_length (cn ls) (.slice a3 m c3)
    have hst := code_store w1 Z (codeCs (cn ls) (.slice a3 m c3)) hZn h17 (codeCs_one _ _ rfl)
    have HRE := hide (fun (w : World) (p i : Nat) (hA : ArgN w a3 (symTo ls 16)) (hp : ∀ b off, a3 = some ⟨b, off, none⟩ → b ≠ p) (hR : RdAt 38 w p s i false) (hi : i ≤ 8 * s.size) => read_any ls a3 c3 m p s i w hm hA hp HLL.out hR hi (by have := HSZ0.out; omega))
    have HQE := hide (fun (w : World) (p i : Nat) (hA : ArgN w a3 (symTo ls 16)) (hp : ∀ b off, a3 = some ⟨b, off, none⟩ → b ≠ p) (hR : RdAt 40 w p s i false) (hi : i ≤ 8 * s.size) => qread_any ls a3 c3 m p s i w hm hA hp HLL.out hR hi (by have := HSZ0.out; omega))
    unfold codeV at HRE HQE ⊢
    have hown : ∀ b off, a3 = some ⟨b, off, none⟩ → b < w1.heap.size := by
      intro b off e
      rcases len_form o3 with ⟨e1, _⟩ | ⟨g', c', e1⟩
      · injection e1 with e1; rw [e1] at e; cases e
      · injection e1 with e1
        rw [e1] at e
        injection e with e
        injection e with e
        have h1 := (o3.lt g' (by rw [e1]; rfl)).2
        omega
    have hsz1 : (w1.alloc (.cells (codeCs (cn ls) (.slice a3 m c3)).toArray 29)).heap.size = w1.heap.size + 1 := by show (w1.heap.push _).size = _; simp
    have hsz2 : ((w1.alloc (.cells (codeCs (cn ls) (.slice a3 m c3)).toArray 29)).alloc (.cells #[.string s, .int .i64 0, .bool false] 38)).heap.size = w1.heap.size + 1 + 1 := by rw [← hsz1]; show (Array.push _ _).size = _; simp
    have HS0 := hide (show RdS (((w1.alloc (.cells (codeCs (cn ls) (.slice a3 m c3)).toArray 29)).alloc (.cells #[.string s, .int .i64 0, .bool false] 38)).alloc (.cells #[.string s, .int .i64 0, .bool false] 40)) W w1.heap.size (w1.heap.size + 1) (w1.heap.size + 1 + 1) (codeCs (cn ls) (.slice a3 m c3)) a3 (symTo ls 16) s 0 false by
      have hb := b1.size
      refine ⟨((b1.alloc b1.size _).alloc (by omega) _).alloc (by omega) _, ?_, ?_, ?_, ?_, fun b off e => by have := hown b off e; omega, fun b off e => by have := hown b off e; omega, by omega, by omega, by omega, by omega, by omega⟩
      · rw [heap_alloc_old _ _ _ (by omega), heap_alloc_old _ _ _ (by omega)]
        exact heap_alloc_at _ _ rfl
      · show _ = _
        rw [heap_alloc_old _ _ _ (by omega)]
        exact heap_alloc_at _ _ hsz1
      · exact heap_alloc_at _ _ hsz2
      · have bb : Below w1.heap.size w1 (((w1.alloc (.cells (codeCs (cn ls) (.slice a3 m c3)).toArray 29)).alloc (.cells #[.string s, .int .i64 0, .bool false] 38)).alloc (.cells #[.string s, .int .i64 0, .bool false] 40)) := (((Below.refl _ w1).alloc (Nat.le_refl _) _).alloc (by omega) _).alloc (by omega) _
        exact hs3.below bb (Nat.le_refl _))
    have HN17 := hide h17
    clear hr b1 o3 hs3 hls hm hown hsz1 hsz2
    generalize codeCs (cn ls) (.slice a3 m c3) = cs at *
    go_wp2
    clear hst
    obtain ⟨P, hP⟩ : ∃ P, w1.heap.size = P := ⟨_, rfl⟩
    rw [hP] at HS0
    simp only [hP]
    obtain ⟨A, hA⟩ : ∃ A, P + 1 = A := ⟨_, rfl⟩
    rw [hA] at HS0
    simp only [hA]
    obtain ⟨D, hD⟩ : ∃ D, A + 1 = D := ⟨_, rfl⟩
    rw [hD] at HS0
    simp only [hD]
    clear hP hA hD
    generalize hw4 : ((w1.alloc (.cells cs.toArray 29)).alloc (.cells #[.string s, .int .i64 0, .bool false] 38)).alloc (.cells #[.string s, .int .i64 0, .bool false] 40) = w4 at *
    clear hw4
    have hu := Try.underlying29
    have hi : (Try.prog.info? 29).map (·.size) = some cs.length := by rw [HN17.out]; exact Try.sizeCode
    have HU := hide hu
    have HI := hide hi
    clear hu hi h17
    go_loopw [9, 10, 11] (fun jv _ _ wr => ∃ j i : Nat, j ≤ 100 ∧ jv = .int .i64 j ∧ Hid (i ≤ 8 * s.size) ∧ Hid (RdS wr W P A D cs a3 (symTo ls 16) s i false)) (fun jv _ _ _ => 100 - (intOf jv).toNat)
    case atStart => exact ⟨0, 0, by omega, rfl, hide (Nat.zero_le _), HS0⟩
    case round =>
      clear HS0
      obtain ⟨j, i, hj, rfl, HI8, HS⟩ := hrel
      by_cases hlt : j < 100
      · have zj : (j : Int) < 100 := by omega
        have hrg := code_range HS.out.box
        go_wp2_with fail
        have hu := HU.out
        have hi := HI.out
        refine wp_region_noPanic ?_
        refine wp_region_held_drew (S := (fun w' => w'.rangeAt P 0 cs)) (by kernel_rfl) ?_ (fun hHeld => ?_)
        · exact ((World.rangeAt_drew _ _ _ _).2 hrg)
        refine wpAnyH_take (i := 0) (oi := _) (v := ?_) rfl (by kernel_rfl) (by kernel_rfl) (by kernel_rfl) (fun _ _ _ h => h) (Or.inl ⟨by rfl, ?_⟩) hHeld ?_
        rotate_left
        · (intro w hSw; (try dsimp only at hSw); go_simp; try with_reducible rfl)
        (try simp only [Act.put, List.getElem_toArray, List.getElem_cons_zero, List.setIfInBounds_toArray, List.set_cons_zero, List.set_cons_succ])
        refine wpAnyH_take (i := 3) (oi := _) (v := ?_) rfl (by kernel_rfl) (by kernel_rfl) (by kernel_rfl) (fun _ _ _ h => h) (Or.inl ⟨by rfl, ?_⟩) hHeld ?_
        rotate_left
        · (intro w hSw; (try dsimp only at hSw); go_simp; try with_reducible rfl)
        (try simp only [Act.put, List.getElem_toArray, List.getElem_cons_zero, List.getElem_cons_succ, List.setIfInBounds_toArray, List.set_cons_zero, List.set_cons_succ])
        refine wpAnyH_take (i := 1) (oi := _) (v := _) rfl (by kernel_rfl) (by kernel_rfl) (by kernel_rfl) (fun _ _ _ h => h) (yieldsIf_load_mid (by rfl) _ _ rfl _ _ rfl cs _ (fun _ h => h) hu rfl hi) hHeld ?_
        (try simp only [Act.put, List.getElem_toArray, List.getElem_cons_zero, List.getElem_cons_succ, List.setIfInBounds_toArray, List.set_cons_zero, List.set_cons_succ])
        refine wpAnyH_take (i := 4) (oi := _) (v := _) rfl (by kernel_rfl) (by kernel_rfl) (by kernel_rfl) (fun _ _ _ h => h) (yieldsIf_load_mid (by rfl) _ _ rfl _ _ rfl cs _ (fun _ h => h) hu rfl hi) hHeld ?_
        (try simp only [Act.put, List.getElem_toArray, List.getElem_cons_zero, List.getElem_cons_succ, List.setIfInBounds_toArray, List.set_cons_zero, List.set_cons_succ])
        refine wpAnyH_ready (rs := [2]) (by kernel_rfl) (by simp) ?_
        refine AllReadyH.cons rfl (fun K hK => ?_) AllReadyH.nil
        go_simp
        refine (HRE.out _ A i (HS.out.arg.turn (Turn.refl A wr).drew HS.out.na) HS.out.na (HS.out.ra) HI8.out).mono ?_
        rintro e x1 ⟨x, u, bad, rfl, HX, HR1, HT1⟩
        have ht1 : Turn A wr x1 := (Turn.refl A wr).drew.trans HT1.out
        have r := code_range (block_turn HS.out.box ht1 HS.out.pa)
        have HT1' := hide ht1
        clear ht1
        go_wp2_with fail
        refine hK.out _ _ ?_ (fun hNext => ?_)
        · exact r
        clear hK K hHeld
        have hHeld := hNext
        clear hNext
        (try simp only [Act.put, List.getElem_toArray, List.getElem_cons_zero, List.getElem_cons_succ, List.setIfInBounds_toArray, List.set_cons_zero, List.set_cons_succ])
        clear r
        refine wpAnyH_ready (rs := [5]) (by kernel_rfl) (by simp) ?_
        refine AllReadyH.cons rfl (fun K hK => ?_) AllReadyH.nil
        go_simp
        refine (HQE.out _ D i (HS.out.arg.turn HT1'.out HS.out.na) HS.out.nd (HS.out.rb.turn HT1'.out (fun e => HS.out.ad e.symm)) HI8.out).mono ?_
        rintro e x2 ⟨y, v, bad2, rfl, HY, HR2, HT2⟩
        obtain ⟨rfl, rfl, rfl⟩ := HX.out.uniq HY.out
        have HN := hide (HS.out.two HT1'.out HT2.out HR1.out HR2.out)
        have r := code_range HN.out.box
        go_wp2_with fail
        refine hK.out _ _ ?_ (fun hNext => ?_)
        · exact r
        clear hK K hHeld
        have hHeld := hNext
        clear hNext
        (try simp only [Act.put, List.getElem_toArray, List.getElem_cons_zero, List.getElem_cons_succ, List.setIfInBounds_toArray, List.set_cons_zero, List.set_cons_succ])
        clear r
        refine wpAnyH_take (i := 6) (oi := _) (v := ?_) rfl (by kernel_rfl) (by kernel_rfl) (by kernel_rfl) (fun _ _ _ h => h) (Or.inl ⟨by rfl, ?_⟩) hHeld ?_
        rotate_left
        · (intro w hSw; (try dsimp only at hSw); go_simp; try with_reducible rfl)
        (try simp only [Act.put, List.getElem_toArray, List.getElem_cons_zero, List.getElem_cons_succ, List.setIfInBounds_toArray, List.set_cons_zero, List.set_cons_succ])
        refine wpAnyH_take (i := 7) (oi := _) (v := ?_) rfl (by kernel_rfl) (by kernel_rfl) (by kernel_rfl) (fun _ _ _ h => h) (Or.inl ⟨by rfl, ?_⟩) hHeld ?_
        rotate_left
        · (intro w hSw; (try dsimp only at hSw); go_simp; try with_reducible rfl)
        (try simp only [Act.put, List.getElem_toArray, List.getElem_cons_zero, List.getElem_cons_succ, List.setIfInBounds_toArray, List.set_cons_zero, List.set_cons_succ])
        refine wpAnyH_done (by kernel_rfl) ?_ _
        refine NoPanic.normal ?_
        have cb1 := HN.out.ra.c2
        have cb2 := HN.out.rb.c2
        have HPOS := hide (fun h => HX.out.pos (x := x) h)
        clear HX HY HR1 HR2 HT1 HT2 HT1' hrg hHeld hu hi
        go_wp2
        go_quiet (fail)
        by_cases hx : x < 0
        · have HB5 := hide HN.out.bel
          go_wp2_with fail
          refine (kawake_any _).mono ?_
          rintro e w7 ⟨rfl, b7⟩
          have b7' : Below x2.heap.size x2 w7 := ⟨b7.os, b7.tape, b7.output, b7.size, b7.block⟩
          have B7 := hide (HB5.out.trans (b7'.mono HB5.out.size))
          clear b7 b7'
          go_wp2
          go_ret
          exact ⟨rfl, B7.out⟩
        · have hxd : decide (x < 0) = false := by simp; omega
          obtain ⟨hbad, hu8⟩ := HPOS.out (by omega)
          subst hbad
          have HI9 := hide (show i + u ≤ 8 * s.size by have := HI8.out; omega)
          have HN2 := hide HN.out
          clear cb1 cb2 HPOS hu8
          go_wp2
          go_roundw
          case rel => exact ⟨j + 1, i + u, hlt, by go_num, HI9, hide ⟨below_drewN HN2.out.bel _, HN2.out.box, HN2.out.ra, HN2.out.rb, HN2.out.arg, HN2.out.na, HN2.out.nd, HN2.out.pa, HN2.out.pd, HN2.out.ad, HN2.out.loA, HN2.out.loD⟩⟩
          case measure => exact meas_oneW j 100 hlt
      · have hje : j = 100 := by omega
        subst hje
        have HB5 := hide HS.out.bel
        go_wp2_with fail
        refine (kawake_any _).mono ?_
        rintro e w7 ⟨rfl, b7⟩
        have B7 := hide (HB5.out.trans (b7.mono HB5.out.size))
        clear b7
        go_wp2
        go_ret
        exact ⟨rfl, B7.out⟩
  · obtain rfl := build_bad hr hg
    have hst := code_store w1 Z (codeCs (fun _ => 0) (.slice none 0 0)) hZn rfl (codeCs_one _ _ rfl)
    have h17 := codeCs_length (fun _ => 0) (.slice none 0 0)
    have B1 := hide b1
    unfold codeV
    generalize codeCs (fun _ => 0) (.slice none 0 0) = cs at *
    have B2 := hide (B1.out.alloc B1.out.size (.cells cs.toArray 29))
    clear hr b1
    go_wp2_with fail
    refine (kawake_any _).mono ?_
    rintro e w2 ⟨rfl, b2⟩
    have B3 := hide (B2.out.trans (b2.mono B2.out.size))
    clear b2
    go_wp2
    go_ret
    exact ⟨rfl, B3.out⟩

theorem reads_law (w : World) (v0 : Value) {b0 : Nat} {H : Type} {enc : TypeId × Value → H} {d0 : DataW H} {p0 : List MemPlace}
    (o0 : Value.okWide Try.prog w .any b0 22 v0) (k0 : DataW.Trod enc Try.prog w 0 (fun _ => true) true 22 v0 d0 p0) (s : ByteArray) (_w1 : s.size ≤ maxLen) :
    Calls Try.prog 4 #[v0, .string s] w fun e w' => e = .returned (.bool true) ∧ Below w.heap.size w w' := by
  obtain ⟨pa, ca, a, rfl, ha, _, _⟩ := open_argZ o0 k0
  exact reads_walk a s pa ca w ha

end Go.Proofs.Yteillcfdmjmaeaa
