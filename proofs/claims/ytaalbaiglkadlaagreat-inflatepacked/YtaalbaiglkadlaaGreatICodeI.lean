/- The program's layer 11: a run; the lengths that runs stand for. -/
import Derived.Test.YtaalbaiglkadlaaGreatICodeH
import Derived.Test.YtaalbaiglkadlaaGreatICodeG
import Derived.Test.YtaalbaiglkadlaaGreatRB
import Derived.Test.YtaalbaiglkadlaaGreatBCa
namespace Go.Proofs.YtaalbaiglkadlaaGreat
open Go.RowKit Go.Lib

/-- A box is read at the function's end. -/
theorem results_box11 {fn : Func} {T : TypeId} {i j : Tmp} (h : fn.results = #[.cell i T, .tmp j]) (tmps : Array Value) (P : Program) (w : World) (g : Nat) (cs : Array Value) {fs}
    (ht : tmps.getD i undef = .pointer (some ⟨g, 0, none⟩)) (hg : w.heap[g]? = some (.cells cs T (0, 0))) (hu : P.underlying T = some (.struct fs)) (hi : (P.info? T).map (·.size) = some cs.size) :
    (results fn tmps).run P w = .ok (.tuple #[.agg cs, tmps.getD j undef]) w := by
  have hl := run_loadVar_row (P := P) w g T T cs (0, 0) _ hg hu rfl hi
  have ha : (asAddr (tmps.getD i undef)).run P w = .ok ⟨g, 0, none⟩ w := by rw [ht]; rfl
  rw [Array.getD_eq_getD_getElem?] at ha
  simp [results, h, ha, hl]
theorem below_two {w : World} {p : Nat} (x y : Value) {B : Nat} {W : World} (b : Below B W w) (hp : B ≤ p) : Below B W ((w.setCell ⟨p, 0, none⟩ x).setCell ⟨p, 1, none⟩ y) := (b.setCell (p := ⟨p, 0, none⟩) hp _).setCell (p := ⟨p, 1, none⟩) hp _

set_option maxRecDepth 20000 in
set_option maxHeartbeats 4000000 in
theorem times11 (x e K : Nat) (hx : x ≤ 18) (he : e ≤ 127) (hK : timesR ((x : Int), (e : Int)) = (K : Int)) (w : World) :
    Calls Tryz.prog 79 #[.agg #[.int .i64 (x : Nat), .int .i64 (e : Nat)]] w fun r w' => r = .returned (.int .i64 (K : Nat)) ∧ Below w.heap.size w w' := by
  have HB := hide ((Below.refl w.heap.size w).alloc (Nat.le_refl _) (.cells #[.int .i64 (x : Int), .int .i64 (e : Int)] 122))
  by_cases x16 : x = 16
  · subst x16
    have ek : (3 : Int) + (e : Int) = (K : Int) := by rw [← hK]; exact (tm16 _).symm
    have ew := (wrap_intI ((3 : Int) + (e : Int)) (by omega) (by omega)).1
    have ew2 := (wrap_intI ((3 : Int) + (e : Int)) (by omega) (by omega)).2
    have ewk := (wrap_intI (K : Int) (by omega) (by omega)).2
    have HK := hide ek
    clear hK ek
    go_enter Tryz.func79, Tryz.ntmps79
    go_wp2
    go_ret
    refine ⟨?_, HB.out⟩
    first | rfl | (rw [HK.out]; rfl)
  · have b16 : ((x : Int) == 16) = false := by simp; omega
    by_cases x17 : x = 17
    · subst x17
      have ek : (3 : Int) + (e : Int) = (K : Int) := by rw [← hK]; exact (tm17 _).symm
      have ew := (wrap_intI ((3 : Int) + (e : Int)) (by omega) (by omega)).1
      have ew2 := (wrap_intI ((3 : Int) + (e : Int)) (by omega) (by omega)).2
      have HK := hide ek
      clear hK ek
      go_enter Tryz.func79, Tryz.ntmps79
      go_wp2
      go_ret
      refine ⟨?_, HB.out⟩
      first | rfl | (rw [HK.out]; rfl)
    · have b17 : ((x : Int) == 17) = false := by simp; omega
      by_cases x18 : x = 18
      · subst x18
        have ek : (11 : Int) + (e : Int) = (K : Int) := by rw [← hK]; exact (tm18 _).symm
        have ew := (wrap_intI ((11 : Int) + (e : Int)) (by omega) (by omega)).1
        have ew2 := (wrap_intI ((11 : Int) + (e : Int)) (by omega) (by omega)).2
        have HK := hide ek
        clear hK ek
        go_enter Tryz.func79, Tryz.ntmps79
        go_wp2
        go_ret
        refine ⟨?_, HB.out⟩
        first | rfl | (rw [HK.out]; rfl)
      · have b18 : ((x : Int) == 18) = false := by simp; omega
        have ek : (K : Int) = 1 := by rw [← hK]; exact (plain_run (x : Int) (by omega) (by omega) (by omega)).2.1 _
        rw [ek]
        clear hK ek
        go_enter Tryz.func79, Tryz.ntmps79
        go_wp2
        go_ret
        exact ⟨rfl, HB.out⟩

/-- What a run gives. -/
def RunPost (ls : List Nat) (p : Nat) (s : ByteArray) (i : Nat) (W : World) (e : Ending) (w' : World) : Prop := Turn p W w' ∧ ∃ (a b : Nat) (er : Int), e = .returned (.tuple #[.agg #[.int .i64 (a : Nat), .int .i64 (b : Nat)], .int .i64 er]) ∧
  ((∃ j j2, er = 0 ∧ symP ls (srcB s) (8 * s.size) i = .ok (a, j) ∧ rdP (xBits (a : Int)) (srcB s) (8 * s.size) j = .ok (b, j2) ∧ i < j ∧ j ≤ j2 ∧ j2 ≤ 8 * s.size ∧ a < ls.length ∧ b < 2 ^ xBits (a : Int) ∧ RdAt 43 w' p s j2 false) ∨
   (er ≠ 0 ∧ (symP ls (srcB s) (8 * s.size) i = .error er ∨ ∃ x j, symP ls (srcB s) (8 * s.size) i = .ok (x, j) ∧ rdP (xBits (x : Int)) (srcB s) (8 * s.size) j = .error er)))
theorem xbits_le (s : Int) : xBits s ≤ 7 := by
  unfold xBits
  split
  · decide
  · split
    · decide
    · split <;> decide

set_option maxRecDepth 20000 in
set_option maxHeartbeats 8000000 in
theorem run11 (O p : Nat) (v : Value) (limit : Int) (ls : List Nat) (a : Option Addr) (c m : Nat) (s : ByteArray) (i : Nat) (W : World) (hb : Bx W O p v limit) (hm : (symTo ls 16).length = m) (harg : ArgN W a (symTo ls 16)) (hne : ∀ b off, a = some ⟨b, off, none⟩ → b ≠ p) (hls : ls.length ≤ 1000)
    (h : RdAt 43 W p s i false) (hi : i ≤ 8 * s.size) (hs : s.size ≤ 1000000) :
    Calls Tryz.prog 78 #[.pointer (some ⟨O, 0, none⟩), codeV (cn ls) (.slice a m c)] W fun e w' => RunPost ls p s i W e w' := by
  have hpW : p < W.heap.size := by unfold RdAt at h; exact (Array.getElem?_eq_some_iff.1 h).1
  obtain ⟨w0, hw0⟩ : ∃ w0, (W.alloc (.cells (codeCs (cn ls) (.slice a m c)).toArray 80)).alloc (.cells #[.int .i64 0, .int .i64 0] 122) = w0 := ⟨_, rfl⟩
  have s1 := size_alloc W (.cells (codeCs (cn ls) (.slice a m c)).toArray 80)
  have b0 : Below W.heap.size W w0 := by rw [← hw0]; exact ((Below.refl W.heap.size W).alloc (Nat.le_refl _) _).alloc (by omega) _
  have HS := hide (symbol11 O p v limit ls a c m s i w0 (hb.below b0) hm (harg.below b0 (Nat.le_refl _)) hne hls (by unfold RdAt at h ⊢; rw [b0.block p hpW]; exact h) hi hs)
  have HT0 := hide ((Turn.refl p W).belowT b0 (Nat.le_refl _))
  have HBX := hide (hb.below b0)
  have HQ1 := hide (show w0.heap[W.heap.size]? = some (.cells (codeCs (cn ls) (.slice a m c)).toArray 80 (0, 0)) by rw [← hw0, heap_alloc_old _ _ _ (by omega)]; exact heap_alloc_at _ _ rfl)
  have HQ2 := hide (show w0.heap[W.heap.size + 1]? = some (.cells #[.int .i64 0, .int .i64 0] 122 (0, 0)) by rw [← hw0]; exact heap_alloc_at _ _ s1)
  have HN17 := hide (codeCs_length (cn ls) (.slice a m c))
  have HW0 := hide hw0
  unfold codeV at HS ⊢
  generalize codeCs (cn ls) (.slice a m c) = cs at *
  have HSZ := hide (show (Tryz.prog.info? 80).map (·.size) = some cs.length by rw [HN17.out]; exact Tryz.sizeCode)
  have HRG := hide (code_range HQ1.out)
  have HPW := hide hpW
  clear h harg hm hne hb b0 s1 hpW hw0
  go_enter Tryz.func78, Tryz.ntmps78
  go_wp2_with (first
    | (rw [HW0.out]; refine wpList_load_mid rfl 80 (Operand.tmp 3) rfl W.heap.size 0 rfl cs _ HRG.out Tryz.underlying80 rfl HSZ.out ?_))
  refine HS.out.mono ?_
  rintro e w1 ⟨t1, ⟨x, j, hx, hij, hj8, hxl, rfl, hr1⟩ | ⟨er, hx, her, rfl⟩⟩
  · have HB1 := hide (HBX.out.turn t1)
    have HT1 := hide (HT0.out.trans t1)
    have hq2 := (t1.block _ (Array.getElem?_eq_some_iff.1 HQ2.out).1 (by have := HPW.out; omega)).trans HQ2.out
    have HQ3 := hide hq2
    have HBT := hide (bits7_any (x : Int) w1)
    have hxb := xbits_le (x : Int)
    have HR1 := hide hr1
    have HX := hide hx
    obtain ⟨k, hk⟩ : ∃ k, xBits (x : Int) = k := ⟨_, rfl⟩
    have HK := hide hk
    rw [hk] at HBT hxb
    clear hq2 hr1 t1 hx hk HS
    go_wp2_with fail
    refine HBT.out.mono ?_
    rintro e w2 ⟨rfl, b2⟩
    have HB2 := hide (HB1.out.below b2)
    have HT2 := hide (HT1.out.belowT b2 HT1.out.size)
    have HR2 := hide (show RdAt 43 w2 p s j false by have h := HR1.out; unfold RdAt at h ⊢; rw [b2.block p (Array.getElem?_eq_some_iff.1 h).1]; exact h)
    have HQ4 := hide ((b2.block _ (Array.getElem?_eq_some_iff.1 HQ3.out).1).trans HQ3.out)
    have HNU := hide (number11 O p v limit s j k w2 HB2.out HR2.out (by omega) hj8 hs)
    clear b2 HBT HB1 HT1 HR1 HQ3
    go_wp2_with fail
    refine HNU.out.mono ?_
    rintro e w3 ⟨ho3, ⟨y, h1, h2, h3, rfl, h5⟩ | ⟨h1, rfl⟩⟩
    · have HT3 := hide (HT2.out.trans ho3.turn)
      have hq5 := (ho3.block (W.heap.size + 1) (by have := HPW.out; omega)).trans HQ4.out
      have HQ5 := hide hq5
      obtain ⟨_c1, _c2, _f1, _f2⟩ := two_cells hq5
      have HG := hide (show RunPost ls p s i W (.returned (.tuple #[.agg #[.int .i64 (x : Nat), .int .i64 (y : Nat)], .int .i64 0])) ((w3.setCell ⟨W.heap.size + 1, 0, none⟩ (.int .i64 (x : Nat))).setCell ⟨W.heap.size + 1, 1, none⟩ (.int .i64 (y : Nat))) from
        ⟨HT3.out.belowT (below_two _ _ (Below.refl (W.heap.size + 1) w3) (Nat.le_refl _)) (Nat.le_succ _), x, y, 0, rfl, .inl ⟨j, j + k, rfl, HX.out, by rw [HK.out]; exact h1, hij, Nat.le_add_right _ _, h3, hxl, by rw [HK.out]; exact h2, by
          have hpw := HPW.out
          unfold RdAt at h5 ⊢
          rw [(below_two (p := W.heap.size + 1) (.int .i64 (x : Nat)) (.int .i64 (y : Nat)) (Below.refl (W.heap.size + 1) w3) (Nat.le_refl _)).block p (by omega)]
          exact h5⟩⟩)
      clear hq5 ho3 h1 h2 h3 h5 HNU
      go_wp2
      (try simp only [Exit.inBlock, Exit.then])
      refine bodyPost_ret (results_box11 rfl _ _ _ _ _ rfl (set_two _ _ _ _ _ _ _ HQ5.out) Tryz.underlying122 rfl) rfl ?_
      exact HG.out
    · have HT3 := hide (HT2.out.trans ho3.turn)
      have hq5 := (ho3.block (W.heap.size + 1) (by have := HPW.out; omega)).trans HQ4.out
      have HQ5 := hide hq5
      obtain ⟨_c1, _c2, _f1, _f2⟩ := two_cells hq5
      have HG := hide (show RunPost ls p s i W (.returned (.tuple #[.agg #[.int .i64 0, .int .i64 0], .int .i64 2])) ((w3.setCell ⟨W.heap.size + 1, 0, none⟩ (.int .i64 0)).setCell ⟨W.heap.size + 1, 1, none⟩ (.int .i64 0)) from
        ⟨HT3.out.belowT (below_two _ _ (Below.refl (W.heap.size + 1) w3) (Nat.le_refl _)) (Nat.le_succ _), 0, 0, 2, rfl, .inr ⟨by decide, .inr ⟨x, j, HX.out, by rw [HK.out]; exact h1⟩⟩⟩)
      clear hq5 ho3 h1 HNU
      go_wp2
      (try simp only [Exit.inBlock, Exit.then])
      refine bodyPost_ret (results_box11 rfl _ _ _ _ _ rfl (set_two _ _ _ _ _ _ _ HQ5.out) Tryz.underlying122 rfl) rfl ?_
      exact HG.out
  · have HT1 := hide (HT0.out.trans t1)
    have hq5 := (t1.block _ (Array.getElem?_eq_some_iff.1 HQ2.out).1 (by have := HPW.out; omega)).trans HQ2.out
    have HQ5 := hide hq5
    obtain ⟨_c1, _c2, _f1, _f2⟩ := two_cells hq5
    have be : (er == 0) = false := by simp; exact her
    have HG := hide (show RunPost ls p s i W (.returned (.tuple #[.agg #[.int .i64 0, .int .i64 0], .int .i64 er])) ((w1.setCell ⟨W.heap.size + 1, 0, none⟩ (.int .i64 0)).setCell ⟨W.heap.size + 1, 1, none⟩ (.int .i64 0)) from
      ⟨HT1.out.belowT (below_two _ _ (Below.refl (W.heap.size + 1) w1) (Nat.le_refl _)) (Nat.le_succ _), 0, 0, er, rfl, .inr ⟨her, .inl hx⟩⟩)
    clear hq5 t1 hx HS
    go_wp2
    (try simp only [Exit.inBlock, Exit.then])
    refine bodyPost_ret (results_box11 rfl _ _ _ _ _ rfl (set_two _ _ _ _ _ _ _ HQ5.out) Tryz.underlying122 rfl) rfl ?_
    exact HG.out

end Go.Proofs.YtaalbaiglkadlaaGreat
