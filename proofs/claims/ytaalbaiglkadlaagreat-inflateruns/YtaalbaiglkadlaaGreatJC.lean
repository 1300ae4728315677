import Derived.Test.YtaalbaiglkadlaaGreatJA
import Derived.Test.YtaalbaiglkadlaaGreatRB
import Derived.Test.YtaalbaiglkadlaaGreatID
import Derived.Test.YtaalbaiglkadlaaGreatJB
import Derived.Test.YtaalbaiglkadlaaGreatBCa
/- The program's layer 11: the code of runs. -/
namespace Go.Proofs.YtaalbaiglkadlaaGreat
open Go.RowKit Go.Lib

/-- What building gave, in one form. -/
def BuiltO (B : Nat) (l : List Int) (f : Nat → Nat) (a : Option Addr) (m : Nat) (er : Int) (w' : World) : Prop :=
  (goodB l = false ∧ er = 4) ∨ (goodB l = true ∧ er = 0 ∧ f = cn (l.map Int.toNat) ∧ (symTo (l.map Int.toNat) 16).length = m ∧ ArgN w' a (symTo (l.map Int.toNat) 16) ∧ ∀ b off, a = some ⟨b, off, none⟩ → B ≤ b ∧ b < w'.heap.size)
/-- A code is laid into an elder box. -/
theorem built_cells {W w' : World} {l : List Int} {r : Value} (h : BuildRes W l r w') (Q : Nat) (hQ : Q < W.heap.size) : ∃ (f : Nat → Nat) (a : Option Addr) (m c : Nat) (er : Int), r = .tuple #[codeV f (.slice a m c), .int .i64 er] ∧ ∀ B, B ≤ W.heap.size → BuiltO B l f a m er (w'.setCells Q 0 (codeCs f (.slice a m c))) := by
  rcases h with ⟨hg, rfl⟩ | ⟨hg, v, rfl, ho⟩
  · exact ⟨_, _, _, _, _, rfl, fun B _ => .inl ⟨hg, rfl⟩⟩
  · have ho2 := fun cs => own_cells ho Q 0 (fun e => by have := (ho.lt Q e).1; omega) cs
    rcases len_form ho with ⟨e1, e2⟩ | ⟨g, c, e1⟩
    · subst e1
      exact ⟨_, _, _, _, _, rfl, fun B _ => .inr ⟨hg, rfl, rfl, e2, (by rw [List.length_eq_zero_iff.1 e2]; exact fun i x hx => by simp at hx), fun b off e => by cases e⟩⟩
    · subst e1
      refine ⟨_, _, _, _, _, rfl, fun B hB => .inr ⟨hg, rfl, rfl, rfl, own_arg (ho2 _) rfl, fun b off e => ?_⟩⟩
      have hlt := (ho2 (codeCs (cn (l.map Int.toNat)) (.slice (some ⟨g, 0, none⟩) (symTo (l.map Int.toNat) 16).length c))).lt g rfl
      injection e with e
      injection e with e _
      subst e
      exact ⟨Nat.le_trans hB hlt.1, hlt.2⟩
/-- The first lengths under way. -/
structure RcW (w W : World) (p : Nat) (s : ByteArray) (F R Q : Nat) (oc zc : List Value) (l : List Nat) (q : Nat) (bad : Bool) : Prop where
  rd : RdS 43 w p s q bad
  tn : Turn p W w
  fa : w.heap[F]? = some (.cells (natCs l).toArray 3 (0, 0))
  oa : w.heap[R]? = some (.cells oc.toArray 119 (0, 0))
  qa : w.heap[Q]? = some (.cells zc.toArray 80 (0, 0))
  wf : W.heap.size ≤ F
  wo : W.heap.size ≤ R
  wq : W.heap.size ≤ Q
  fo : F ≠ R
  fq : F ≠ Q
  wp : p < W.heap.size
  ln : l.length = 19
section
variable {w w' W : World} {p F R Q q q' : Nat} {s : ByteArray} {oc zc : List Value} {l : List Nat} {bad bad' : Bool}
theorem RcW.read (h : RcW w W p s F R Q oc zc l q bad) (o : Only p w w') (r : RdS 43 w' p s q' bad') : RcW w' W p s F R Q oc zc l q' bad' := by
  have h1 := h.wf
  have h2 := h.wo
  have h3 := h.wq
  have h4 := h.wp
  exact ⟨r, h.tn.trans o.turn, (o.block F (by omega)).trans h.fa, (o.block R (by omega)).trans h.oa, (o.block Q (by omega)).trans h.qa, h1, h2, h3, h.fo, h.fq, h4, h.ln⟩
theorem RcW.put (h : RcW w W p s F R Q oc zc l q bad) (z x : Nat) : RcW (w.setCell ⟨F, z, none⟩ (.int .i64 (x : Nat))) W p s F R Q oc zc (l.set z x) q bad := by
  have h1 := h.wf
  have h4 := h.wp
  refine ⟨h.rd.same ?_, h.tn.belowT ((Below.refl F w).setCell (p := ⟨F, z, none⟩) (Nat.le_refl _) _) h1, ?_, ?_, ?_, h1, h.wo, h.wq, h.fo, h.fq, h4, by rw [List.length_set]; exact h.ln⟩
  · exact Below.heap_setCell _ _ _ _ (show p ≠ F by omega)
  · rw [heap_setCell_same _ _ _ _ _ _ _ h.fa, List.setIfInBounds_toArray, natCs_set]
  · rw [Below.heap_setCell _ _ _ _ (fun e => h.fo e.symm)]
    exact h.oa
  · rw [Below.heap_setCell _ _ _ _ (fun e => h.fq e.symm)]
    exact h.qa
theorem RcW.cell (h : RcW w W p s F R Q oc zc l q bad) (z : Nat) (hz : z < 19) : w.cell? ⟨F, z, none⟩ = some (.int .i64 (l.getD z 0 : Nat)) ∧ w.frozen? ⟨F, z, none⟩ = false := by
  constructor
  · rw [cell_of_row _ _ z _ _ (0, 0) h.fa, List.getElem?_toArray]
    unfold natCs
    rw [List.getElem?_map, getD_some l z (by rw [h.ln]; exact hz)]
    rfl
  · simp [World.frozen?, h.fa]
theorem RcW.ord (h : RcW w W p s F R Q oc zc l q bad) (z : Nat) (v : Value) (hz : oc[z]? = some v) : w.cell? ⟨R, z, none⟩ = some v := by
  rw [cell_of_row _ _ z _ _ (0, 0) h.oa, List.getElem?_toArray]
  exact hz
theorem RcW.arg (h : RcW w W p s F R Q oc zc l q bad) : ArgZ w (some ⟨F, 0, none⟩) (l.map fun (x : Nat) => (x : Int)) := by
  intro j x hx
  rw [List.getElem?_map] at hx
  cases hl : l[j]? with
  | none => rw [hl] at hx; cases hx
  | some y =>
    rw [hl] at hx
    injection hx with hx
    subst hx
    refine ⟨F, 0, rfl, (Array.getElem?_eq_some_iff.1 h.fa).1, ?_⟩
    rw [Nat.zero_add, cell_of_row _ _ j _ _ (0, 0) h.fa, List.getElem?_toArray]
    unfold natCs
    rw [List.getElem?_map, hl]
    rfl
end
theorem made19 : madeCells #[.int .i64 0] 19 = (natCs (List.replicate 19 0)).toArray := by kernel_rfl
/-- What the code of runs comes to. -/
def RcPost (n p : Nat) (s : ByteArray) (q : Nat) (W : World) (e : Ending) (w' : World) : Prop := Turn p W w' ∧
  ((∃ (fl : List Nat) (j : Nat) (f : Nat → Nat) (a : Option Addr) (m c : Nat) (er : Int), firstP n 0 (List.replicate 19 0) (srcB s) (8 * s.size) q = .ok (fl, j) ∧ fl.length = 19 ∧ j ≤ 8 * s.size ∧ RdAt 43 w' p s j false ∧ e = .returned (.tuple #[codeV f (.slice a m c), .int .i64 er]) ∧ BuiltO W.heap.size (fl.map fun (x : Nat) => (x : Int)) f a m er w') ∨
   (firstP n 0 (List.replicate 19 0) (srcB s) (8 * s.size) q = .error 2 ∧ ∃ (f : Nat → Nat) (a : Option Addr) (m c : Nat), e = .returned (.tuple #[codeV f (.slice a m c), .int .i64 2])))
theorem Tryz.arrElem : Tryz.prog.elem 119 = 3 := by kernel_rfl
theorem Tryz.arrLen : Tryz.prog.arrayLen 119 = 19 := by kernel_rfl
theorem Tryz.arrUnder : Tryz.prog.underlying 119 = some (.array (Tryz.prog.arrayLen 119) (Tryz.prog.elem 119)) := by kernel_rfl
theorem slice19 (R n : Nat) (hn : n ≤ 19) (w : World) : (Instr.sliceAt 119 (.pointer (some ⟨R, 0, none⟩)) none (some (.int .i64 (n : Nat))) none).run Tryz.prog w = .ok (.slice (some ⟨R, 0, none⟩) n 19) w := by
  obtain ⟨i1, ki, _, kz1, _⟩ := info_parts Tryz.infoInt
  rw [run_sliceAt_array_h (P := Tryz.prog) w 119 ⟨R, 0, none⟩ Tryz.arrUnder .i64 (n : Int) (by omega) (by rw [Tryz.arrLen]; omega), Tryz.arrLen, Tryz.arrElem]
  simp [sizeOf, typeInfo, ki, kz1, Result.andThen, slicedAt, Addr.add]

set_option maxRecDepth 20000 in
set_option maxHeartbeats 8000000 in
theorem runcode11 (O p : Nat) (v : Value) (limit : Int) (s : ByteArray) (q told : Nat) (W : World) (hb : Bx W O p v limit) (hr : RdAt 43 W p s q false) (hq : q ≤ 8 * s.size) (hs : s.size ≤ 1000000) (ht : told ≤ 19) :
    Calls Tryz.prog 56 #[.pointer (some ⟨O, 0, none⟩), .int .i64 (told : Nat)] W fun e w' => RcPost told p s q W e w' := by
  have HPW := hide (show p < W.heap.size by unfold RdAt at hr; exact (Array.getElem?_eq_some_iff.1 hr).1)
  have HBX := hide hb
  have HR0 := hide (show RdS 43 W p s q false from hr)
  have hvc := Tryz.zeroCode
  have hZc1 := codeCs_one (fun _ => 0) (.slice none 0 0) rfl
  have hZcn := codeCs_length (fun _ => 0) (.slice none 0 0)
  obtain ⟨Zc, hZc⟩ : ∃ Zc, codeCs (fun _ => 0) (.slice none 0 0) = Zc := ⟨_, rfl⟩
  have HZC := hide hZc
  rw [hZc] at hZc1 hZcn
  simp only [hZc] at hvc
  clear hZc
  obtain ⟨R0, hR0⟩ : ∃ R0, firstP told 0 (List.replicate 19 0) (srcB s) (8 * s.size) q = R0 := ⟨_, rfl⟩
  have HF0 := hide (show FirstSt s R0 told 0 (List.replicate 19 0) q false from .inl ⟨rfl, hR0⟩)
  have HRC := hide hR0
  have HOC := hide order_cell
  obtain ⟨Z, hZn, hzr⟩ := Tryz.zeroOrder
  have HST0 := hide (fun w => order_store w Z orderCs hZn rfl orderCs_one)
  have HQO := hide (fun w => order7_any w)
  have hmk : ∀ w, (Instr.makeSlice 63 (.int .i64 19) (.int .i64 19)).run Tryz.prog w = _ := make_int 19 (by omega)
  have HZN := hide hZcn
  have HZ1 := hide hZc1
  have B0 := hide ((Below.refl W.heap.size W).alloc (Nat.le_refl _) (.cells Zc.toArray 80))
  have HRES := hide (show (W.alloc (.cells Zc.toArray 80)).heap[W.heap.size]? = some (.cells Zc.toArray 80 (0, 0)) from heap_alloc_at _ _ rfl)
  have HS0 := hide (size_alloc W (.cells Zc.toArray 80))
  have hon : orderCs.length = 19 := rfl
  generalize orderCs = oc at *
  clear hb hr hR0 hZc1 hZcn
  go_enter Tryz.func56, Tryz.ntmps56
  go_wp2_with fail
  refine (HQO.out _).mono ?_
  rintro e w1 ⟨rfl, hb1⟩
  have hst := HST0.out w1
  have hsl := fun w => slice19 w1.heap.size told ht w
  have HW0 := hide (show RcW ((w1.alloc (.cells oc.toArray 119)).alloc (.cells (madeCells #[.int .i64 0] 19) 3)) W p s (w1.heap.size + 1) w1.heap.size W.heap.size oc Zc (List.replicate 19 0) q false by
    have hsz := hb1.size
    have h0 := HS0.out
    have hpw := HPW.out
    have s1 := size_alloc w1 (.cells oc.toArray 119)
    have bA : Below W.heap.size W w1 := B0.out.trans (hb1.mono (by omega))
    have bB : Below w1.heap.size w1 ((w1.alloc (.cells oc.toArray 119)).alloc (.cells (madeCells #[.int .i64 0] 19) 3)) := ((Below.refl w1.heap.size w1).alloc (Nat.le_refl _) _).alloc (by omega) _
    have bC : Below W.heap.size W ((w1.alloc (.cells oc.toArray 119)).alloc (.cells (madeCells #[.int .i64 0] 19) 3)) := bA.trans (bB.mono (by omega))
    refine ⟨HR0.out.same (bC.block p (by omega)), (Turn.refl p W).belowT bC (Nat.le_refl _), ?_, ?_, ?_, by omega, by omega, Nat.le_refl _, by omega, by omega, hpw, rfl⟩
    · rw [← made19]
      exact heap_alloc_at _ _ s1
    · rw [heap_alloc_old _ _ _ (by omega)]
      exact heap_alloc_at _ _ rfl
    · rw [bB.block _ (by omega), hb1.block _ (by omega)]
      exact HRES.out)
  obtain ⟨l0, hl0⟩ : ∃ l0 : List Nat, List.replicate 19 0 = l0 := ⟨_, rfl⟩
  have HL0 := hide hl0
  rw [hl0] at HW0 HF0 HRC
  clear hl0
  go_wp2_with fail
  generalize hw5 : (w1.alloc (.cells oc.toArray 119)).alloc (.cells (madeCells #[.int .i64 0] 19) 3) = w5 at *
  obtain ⟨F, hF⟩ : ∃ F, w1.heap.size + 1 = F := ⟨_, rfl⟩
  rw [hF] at HW0
  try simp only [hF]
  obtain ⟨R, hR⟩ : ∃ R, w1.heap.size = R := ⟨_, rfl⟩
  rw [hR] at HW0
  try simp only [hR]
  clear hw5 hF hR hst hsl hb1 HST0 HQO hmk HRES HS0 B0 HR0
  go_loopw [15] (fun jv wr => ∃ (j : Nat) (l : List Nat) (z : Nat) (b : Bool), jv = .int .i64 (j : Nat) ∧ j ≤ told ∧ Hid (z ≤ 8 * s.size) ∧ Hid (RcW wr W p s F R W.heap.size oc Zc l z b) ∧ Hid (FirstSt s R0 told j l z b)) (fun jv _ => told - (intOf jv).toNat)
  case atStart => exact ⟨0, l0, q, false, rfl, Nat.zero_le _, hide hq, HW0, HF0⟩
  case round =>
    clear HW0 HF0
    obtain ⟨j, l, z, b, rfl, hj, HQ, HW, HFS⟩ := hrel
    have HBR := hide (HBX.out.turn HW.out.tn)
    by_cases hlt : j < told
    · have zj : (j : Int) < told := by omega
      obtain ⟨x, z', b', hx, hz', hrr, HC⟩ := rd_all 3 p z s b (by decide) HQ.out (by omega)
      have HC := hide HC
      have HQ' := hide hz'
      have HFN := hide (HFS.out.next hlt hrr)
      obtain ⟨hoc, ho19⟩ := HOC.out j (by omega)
      have _c1 := HW.out.ord j _ hoc
      have HLT := hide hlt
      obtain ⟨o, ho⟩ : ∃ o, orderL.getD j 0 = o := ⟨_, rfl⟩
      rw [ho] at _c1 ho19 HFN hoc
      have zo : (o : Int) < 19 := by omega
      have _b1 := HBR.out.c1
      have HWD := hide HW.out.rd
      clear hoc hrr hz' ho hlt hx
      go_wp2_with fail
      refine (HC.out _ HWD.out).mono ?_
      rintro e w6 ⟨rfl, ho6, hr6⟩
      have HW6 := hide (HW.out.read ho6 hr6)
      obtain ⟨_k1, _k2⟩ := HW6.out.cell o ho19
      have HW7 := hide (HW6.out.put o x)
      clear _c1 _b1 HWD HC HW HFS ho6 hr6 HW6
      go_wp2
      go_roundw
      case rel => exact ⟨j + 1, l.set o x, z', b', by go_num, HLT.out, HQ', HW7, HFN⟩
      case measure => exact meas_oneW j told HLT.out
    · obtain rfl : j = told := by omega
      have _b0 := HBR.out.c0
      have _c2 := HW.out.rd.c2
      have hth := there_cells HW.out.qa
      rw [HZN.out] at hth
      cases b with
      | true =>
        have hcst := cells_store (P := Tryz.prog) (w := wr) (p := W.heap.size) (cs := Zc) (by rw [HZN.out]; exact hth) HZ1.out
        have HLD := hide (code_load (World.rangeAt_setCells_same wr W.heap.size 0 Zc (by rw [HZN.out]; exact hth)) HZN.out)
        have HTT := hide (HW.out.tn.belowT (below_cells (Below.refl W.heap.size wr) W.heap.size 0 (Nat.le_refl _) Zc) (Nat.le_refl _))
        have HG := hide (show RcPost j p s q W (.returned (.tuple #[.agg Zc.toArray, .int .i64 2])) (wr.setCells W.heap.size 0 Zc) from ⟨HTT.out,   .inr ⟨by rw [HL0.out]; exact HRC.out.trans HFS.out.short, _, _, _, _, by rw [← HZC.out]; rfl⟩⟩)
        clear hth HFS
        go_wp2
        (try simp only [Exit.inBlock, Exit.then])
        refine bodyPost_ret (v := .tuple #[.agg Zc.toArray, .int .i64 2]) ?_ rfl HG.out
        simp [results, Tryz.results56, asAddr, HLD.out]
      | false =>
        have HBD := hide (build_any (l.map fun (x : Nat) => (x : Int)) (some ⟨F, 0, none⟩) 19 wr HW.out.arg (by rw [List.length_map, HW.out.ln]; decide))
        rw [List.length_map, HW.out.ln] at HBD
        have HDN := hide (HRC.out.trans HFS.out.done)
        clear hth HFS
        go_wp2_with fail
        refine HBD.out.mono ?_
        rintro e w8 ⟨r, rfl, hbr, hb8⟩
        have hQlt : W.heap.size < wr.heap.size := (Array.getElem?_eq_some_iff.1 HW.out.qa).1
        obtain ⟨f1, s1, m1, k1, er1, rfl, hor1⟩ := built_cells hbr W.heap.size hQlt
        have HOR := hide (hor1 W.heap.size (Nat.le_of_lt hQlt))
        have hq8 : w8.heap[W.heap.size]? = some (.cells Zc.toArray 80 (0, 0)) := (hb8.block _ hQlt).trans HW.out.qa
        have hth := there_cells hq8
        rw [HZN.out] at hth
        have hcs1 := codeCs_one f1 (.slice s1 m1 k1) rfl
        have hcn1 := codeCs_length f1 (.slice s1 m1 k1)
        have HTT := hide (HW.out.tn.belowT ((hb8.mono (Nat.le_of_lt hQlt)).trans (below_cells (Below.refl W.heap.size w8) W.heap.size 0 (Nat.le_refl _) (codeCs f1 (.slice s1 m1 k1)))) (Nat.le_refl _))
        have HRDF := hide (show RdAt 43 (w8.setCells W.heap.size 0 (codeCs f1 (.slice s1 m1 k1))) p s z false by
          have h := HW.out.rd
          have hpw := HPW.out
          have hsz := HW.out.tn.size
          have bb := below_cells (Below.refl W.heap.size w8) W.heap.size 0 (Nat.le_refl _) (codeCs f1 (.slice s1 m1 k1))
          unfold RdS at h
          rw [if_neg (by decide)] at h
          unfold RdAt at h ⊢
          rw [bb.block p hpw, hb8.block p (by omega)]
          exact h)
        have HG := hide (show RcPost j p s q W (.returned (.tuple #[codeV f1 (.slice s1 m1 k1), .int .i64 er1])) (w8.setCells W.heap.size 0 (codeCs f1 (.slice s1 m1 k1))) from ⟨HTT.out, .inl ⟨l, z, f1, s1, m1, k1, er1, by rw [HL0.out]; exact HDN.out, HW.out.ln, HQ.out, HRDF.out, rfl, HOR.out⟩⟩)
        have hcst := cells_store (P := Tryz.prog) (w := w8) (p := W.heap.size) (cs := codeCs f1 (.slice s1 m1 k1)) (by rw [hcn1]; exact hth) hcs1
        have HLD := hide (code_load (World.rangeAt_setCells_same w8 W.heap.size 0 (codeCs f1 (.slice s1 m1 k1)) (by rw [hcn1]; exact hth)) hcn1)
        unfold codeV at HG ⊢
        generalize codeCs f1 (.slice s1 m1 k1) = ks at *
        clear hth hbr hb8 hor1 HTT HRDF HDN HBD HOR hQlt hq8
        go_wp2
        (try simp only [Exit.inBlock, Exit.then])
        refine bodyPost_ret (v := .tuple #[.agg ks.toArray, .int .i64 er1]) ?_ rfl HG.out
        simp [results, Tryz.results56, asAddr, HLD.out]

end Go.Proofs.YtaalbaiglkadlaaGreat

/- The program's layer 11: a run; the lengths that runs stand for. -/
namespace Go.Proofs.YtaalbaiglkadlaaGreat
open Go.RowKit Go.Lib

/-- A box is read at the function's end. -/
theorem results_box11 {fn : Func} {T : TypeId} {i j : Tmp} (h : fn.results = #[.cell i T, .tmp j]) (tmps : Array Value) (P : Program) (w : World) (g : Nat) (cs : Array Value) {fs}
    (ht : tmps.getD i undef = .pointer (some ⟨g, 0, none⟩)) (hg : w.heap[g]? = some (.cells cs T (0, 0))) (hu : P.underlying T = some (.struct fs)) (hi : (P.info? T).map (·.size) = some cs.size) :
    (results fn tmps).run P w = .ok (.tuple #[.agg cs, tmps.getD j undef]) w := by
  have hl := run_loadVar_row (P := P) w g T T cs (0, 0) _ hg hu rfl hi
  have ha : (asAddr (tmps.getD i undef)).run P w = .ok ⟨g, 0, none⟩ w := by rw [ht]; rfl
  rw [Array.getD_eq_getD_getElem?] at ha
  simp [results, h, ha, hl]
theorem below_two {w : World} {p : Nat} (x y : Value) {B : Nat} {W : World} (b : Below B W w) (hp : B ≤ p) : Below B W ((w.setCell ⟨p, 0, none⟩ x).setCell ⟨p, 1, none⟩ y) := (b.setCell (p := ⟨p, 0, none⟩) hp _).setCell (p := ⟨p, 1, none⟩) hp _

set_option maxRecDepth 20000 in
set_option maxHeartbeats 4000000 in
theorem times11 (x e K : Nat) (hx : x ≤ 18) (he : e ≤ 127) (hK : timesR ((x : Int), (e : Int)) = (K : Int)) (w : World) :
    Calls Tryz.prog 79 #[.agg #[.int .i64 (x : Nat), .int .i64 (e : Nat)]] w fun r w' => r = .returned (.int .i64 (K : Nat)) ∧ Below w.heap.size w w' := by
  have HB := hide ((Below.refl w.heap.size w).alloc (Nat.le_refl _) (.cells #[.int .i64 (x : Int), .int .i64 (e : Int)] 122))
  by_cases x16 : x = 16
  · subst x16
    have ek : (3 : Int) + (e : Int) = (K : Int) := by rw [← hK]; exact (tm16 _).symm
    have ew := (wrap_intI ((3 : Int) + (e : Int)) (by omega) (by omega)).1
    have ew2 := (wrap_intI ((3 : Int) + (e : Int)) (by omega) (by omega)).2
    have ewk := (wrap_intI (K : Int) (by omega) (by omega)).2
    have HK := hide ek
    clear hK ek
    go_enter Tryz.func79, Tryz.ntmps79
    go_wp2
    go_ret
    refine ⟨?_, HB.out⟩
    first | rfl | (rw [HK.out]; rfl)
  · have b16 : ((x : Int) == 16) = false := by simp; omega
    by_cases x17 : x = 17
    · subst x17
      have ek : (3 : Int) + (e : Int) = (K : Int) := by rw [← hK]; exact (tm17 _).symm
      have ew := (wrap_intI ((3 : Int) + (e : Int)) (by omega) (by omega)).1
      have ew2 := (wrap_intI ((3 : Int) + (e : Int)) (by omega) (by omega)).2
      have HK := hide ek
      clear hK ek
      go_enter Tryz.func79, Tryz.ntmps79
      go_wp2
      go_ret
      refine ⟨?_, HB.out⟩
      first | rfl | (rw [HK.out]; rfl)
    · have b17 : ((x : Int) == 17) = false := by simp; omega
      by_cases x18 : x = 18
      · subst x18
        have ek : (11 : Int) + (e : Int) = (K : Int) := by rw [← hK]; exact (tm18 _).symm
        have ew := (wrap_intI ((11 : Int) + (e : Int)) (by omega) (by omega)).1
        have ew2 := (wrap_intI ((11 : Int) + (e : Int)) (by omega) (by omega)).2
        have HK := hide ek
        clear hK ek
        go_enter Tryz.func79, Tryz.ntmps79
        go_wp2
        go_ret
        refine ⟨?_, HB.out⟩
        first | rfl | (rw [HK.out]; rfl)
      · have b18 : ((x : Int) == 18) = false := by simp; omega
        have ek : (K : Int) = 1 := by rw [← hK]; exact (plain_run (x : Int) (by omega) (by omega) (by omega)).2.1 _
        rw [ek]
        clear hK ek
        go_enter Tryz.func79, Tryz.ntmps79
        go_wp2
        go_ret
        exact ⟨rfl, HB.out⟩

/-- What a run gives. -/
def RunPost (ls : List Nat) (p : Nat) (s : ByteArray) (i : Nat) (W : World) (e : Ending) (w' : World) : Prop := Turn p W w' ∧ ∃ (a b : Nat) (er : Int), e = .returned (.tuple #[.agg #[.int .i64 (a : Nat), .int .i64 (b : Nat)], .int .i64 er]) ∧
  ((∃ j j2, er = 0 ∧ symP ls (srcB s) (8 * s.size) i = .ok (a, j) ∧ rdP (xBits (a : Int)) (srcB s) (8 * s.size) j = .ok (b, j2) ∧ i < j ∧ j ≤ j2 ∧ j2 ≤ 8 * s.size ∧ a < ls.length ∧ b < 2 ^ xBits (a : Int) ∧ RdAt 43 w' p s j2 false) ∨
   (er ≠ 0 ∧ (symP ls (srcB s) (8 * s.size) i = .error er ∨ ∃ x j, symP ls (srcB s) (8 * s.size) i = .ok (x, j) ∧ rdP (xBits (x : Int)) (srcB s) (8 * s.size) j = .error er)))
theorem xbits_le (s : Int) : xBits s ≤ 7 := by
  unfold xBits
  split
  · decide
  · split
    · decide
    · split <;> decide

set_option maxRecDepth 20000 in
set_option maxHeartbeats 8000000 in
theorem run11 (O p : Nat) (v : Value) (limit : Int) (ls : List Nat) (a : Option Addr) (c m : Nat) (s : ByteArray) (i : Nat) (W : World) (hb : Bx W O p v limit) (hm : (symTo ls 16).length = m) (harg : ArgN W a (symTo ls 16)) (hne : ∀ b off, a = some ⟨b, off, none⟩ → b ≠ p) (hls : ls.length ≤ 1000)
    (h : RdAt 43 W p s i false) (hi : i ≤ 8 * s.size) (hs : s.size ≤ 1000000) :
    Calls Tryz.prog 78 #[.pointer (some ⟨O, 0, none⟩), codeV (cn ls) (.slice a m c)] W fun e w' => RunPost ls p s i W e w' := by
  have hpW : p < W.heap.size := by unfold RdAt at h; exact (Array.getElem?_eq_some_iff.1 h).1
  obtain ⟨w0, hw0⟩ : ∃ w0, (W.alloc (.cells (codeCs (cn ls) (.slice a m c)).toArray 80)).alloc (.cells #[.int .i64 0, .int .i64 0] 122) = w0 := ⟨_, rfl⟩
  have s1 := size_alloc W (.cells (codeCs (cn ls) (.slice a m c)).toArray 80)
  have b0 : Below W.heap.size W w0 := by rw [← hw0]; exact ((Below.refl W.heap.size W).alloc (Nat.le_refl _) _).alloc (by omega) _
  have HS := hide (symbol11 O p v limit ls a c m s i w0 (hb.below b0) hm (harg.below b0 (Nat.le_refl _)) hne hls (by unfold RdAt at h ⊢; rw [b0.block p hpW]; exact h) hi hs)
  have HT0 := hide ((Turn.refl p W).belowT b0 (Nat.le_refl _))
  have HBX := hide (hb.below b0)
  have HQ1 := hide (show w0.heap[W.heap.size]? = some (.cells (codeCs (cn ls) (.slice a m c)).toArray 80 (0, 0)) by rw [← hw0, heap_alloc_old _ _ _ (by omega)]; exact heap_alloc_at _ _ rfl)
  have HQ2 := hide (show w0.heap[W.heap.size + 1]? = some (.cells #[.int .i64 0, .int .i64 0] 122 (0, 0)) by rw [← hw0]; exact heap_alloc_at _ _ s1)
  have HN17 := hide (codeCs_length (cn ls) (.slice a m c))
  have HW0 := hide hw0
  unfold codeV at HS ⊢
  generalize codeCs (cn ls) (.slice a m c) = cs at *
  have HSZ := hide (show (Tryz.prog.info? 80).map (·.size) = some cs.length by rw [HN17.out]; exact Tryz.sizeCode)
  have HRG := hide (code_range HQ1.out)
  have HPW := hide hpW
  clear h harg hm hne hb b0 s1 hpW hw0
  go_enter Tryz.func78, Tryz.ntmps78
  go_wp2_with (first
    | (rw [HW0.out]; refine wpList_load_mid rfl 80 (Operand.tmp 3) rfl W.heap.size 0 rfl cs _ HRG.out Tryz.underlying80 rfl HSZ.out ?_))
  refine HS.out.mono ?_
  rintro e w1 ⟨t1, ⟨x, j, hx, hij, hj8, hxl, rfl, hr1⟩ | ⟨er, hx, her, rfl⟩⟩
  · have HB1 := hide (HBX.out.turn t1)
    have HT1 := hide (HT0.out.trans t1)
    have hq2 := (t1.block _ (Array.getElem?_eq_some_iff.1 HQ2.out).1 (by have := HPW.out; omega)).trans HQ2.out
    have HQ3 := hide hq2
    have HBT := hide (bits7_any (x : Int) w1)
    have hxb := xbits_le (x : Int)
    have HR1 := hide hr1
    have HX := hide hx
    obtain ⟨k, hk⟩ : ∃ k, xBits (x : Int) = k := ⟨_, rfl⟩
    have HK := hide hk
    rw [hk] at HBT hxb
    clear hq2 hr1 t1 hx hk HS
    go_wp2_with fail
    refine HBT.out.mono ?_
    rintro e w2 ⟨rfl, b2⟩
    have HB2 := hide (HB1.out.below b2)
    have HT2 := hide (HT1.out.belowT b2 HT1.out.size)
    have HR2 := hide (show RdAt 43 w2 p s j false by have h := HR1.out; unfold RdAt at h ⊢; rw [b2.block p (Array.getElem?_eq_some_iff.1 h).1]; exact h)
    have HQ4 := hide ((b2.block _ (Array.getElem?_eq_some_iff.1 HQ3.out).1).trans HQ3.out)
    have HNU := hide (number11 O p v limit s j k w2 HB2.out HR2.out (by omega) hj8 hs)
    clear b2 HBT HB1 HT1 HR1 HQ3
    go_wp2_with fail
    refine HNU.out.mono ?_
    rintro e w3 ⟨ho3, ⟨y, h1, h2, h3, rfl, h5⟩ | ⟨h1, rfl⟩⟩
    · have HT3 := hide (HT2.out.trans ho3.turn)
      have hq5 := (ho3.block (W.heap.size + 1) (by have := HPW.out; omega)).trans HQ4.out
      have HQ5 := hide hq5
      obtain ⟨_c1, _c2, _f1, _f2⟩ := two_cells hq5
      have HG := hide (show RunPost ls p s i W (.returned (.tuple #[.agg #[.int .i64 (x : Nat), .int .i64 (y : Nat)], .int .i64 0])) ((w3.setCell ⟨W.heap.size + 1, 0, none⟩ (.int .i64 (x : Nat))).setCell ⟨W.heap.size + 1, 1, none⟩ (.int .i64 (y : Nat))) from
        ⟨HT3.out.belowT (below_two _ _ (Below.refl (W.heap.size + 1) w3) (Nat.le_refl _)) (Nat.le_succ _), x, y, 0, rfl, .inl ⟨j, j + k, rfl, HX.out, by rw [HK.out]; exact h1, hij, Nat.le_add_right _ _, h3, hxl, by rw [HK.out]; exact h2, by
          have hpw := HPW.out
          unfold RdAt at h5 ⊢
          rw [(below_two (p := W.heap.size + 1) (.int .i64 (x : Nat)) (.int .i64 (y : Nat)) (Below.refl (W.heap.size + 1) w3) (Nat.le_refl _)).block p (by omega)]
          exact h5⟩⟩)
      clear hq5 ho3 h1 h2 h3 h5 HNU
      go_wp2
      (try simp only [Exit.inBlock, Exit.then])
      refine bodyPost_ret (results_box11 rfl _ _ _ _ _ rfl (set_two _ _ _ _ _ _ _ HQ5.out) Tryz.underlying122 rfl) rfl ?_
      exact HG.out
    · have HT3 := hide (HT2.out.trans ho3.turn)
      have hq5 := (ho3.block (W.heap.size + 1) (by have := HPW.out; omega)).trans HQ4.out
      have HQ5 := hide hq5
      obtain ⟨_c1, _c2, _f1, _f2⟩ := two_cells hq5
      have HG := hide (show RunPost ls p s i W (.returned (.tuple #[.agg #[.int .i64 0, .int .i64 0], .int .i64 2])) ((w3.setCell ⟨W.heap.size + 1, 0, none⟩ (.int .i64 0)).setCell ⟨W.heap.size + 1, 1, none⟩ (.int .i64 0)) from
        ⟨HT3.out.belowT (below_two _ _ (Below.refl (W.heap.size + 1) w3) (Nat.le_refl _)) (Nat.le_succ _), 0, 0, 2, rfl, .inr ⟨by decide, .inr ⟨x, j, HX.out, by rw [HK.out]; exact h1⟩⟩⟩)
      clear hq5 ho3 h1 HNU
      go_wp2
      (try simp only [Exit.inBlock, Exit.then])
      refine bodyPost_ret (results_box11 rfl _ _ _ _ _ rfl (set_two _ _ _ _ _ _ _ HQ5.out) Tryz.underlying122 rfl) rfl ?_
      exact HG.out
  · have HT1 := hide (HT0.out.trans t1)
    have hq5 := (t1.block _ (Array.getElem?_eq_some_iff.1 HQ2.out).1 (by have := HPW.out; omega)).trans HQ2.out
    have HQ5 := hide hq5
    obtain ⟨_c1, _c2, _f1, _f2⟩ := two_cells hq5
    have be : (er == 0) = false := by simp; exact her
    have HG := hide (show RunPost ls p s i W (.returned (.tuple #[.agg #[.int .i64 0, .int .i64 0], .int .i64 er])) ((w1.setCell ⟨W.heap.size + 1, 0, none⟩ (.int .i64 0)).setCell ⟨W.heap.size + 1, 1, none⟩ (.int .i64 0)) from
      ⟨HT1.out.belowT (below_two _ _ (Below.refl (W.heap.size + 1) w1) (Nat.le_refl _)) (Nat.le_succ _), 0, 0, er, rfl, .inr ⟨her, .inl hx⟩⟩)
    clear hq5 t1 hx HS
    go_wp2
    (try simp only [Exit.inBlock, Exit.then])
    refine bodyPost_ret (results_box11 rfl _ _ _ _ _ rfl (set_two _ _ _ _ _ _ _ HQ5.out) Tryz.underlying122 rfl) rfl ?_
    exact HG.out

end Go.Proofs.YtaalbaiglkadlaaGreat

/- The program's layer 11: the lengths that runs stand for. -/
namespace Go.Proofs.YtaalbaiglkadlaaGreat
open Go.RowKit Go.Lib

/-- Runs under way: a reader, a row of runs, a code. -/
structure LW (w W : World) (p : Nat) (s : ByteArray) (i : Nat) (rs : List (Int × Int)) (v : Value) (a : Option Addr) (Q : Nat) (cs : List Value) (S : List Nat) : Prop where
  rd : RdAt 43 w p s i false
  tn : Turn p W w
  own : w.ownsRow W.heap.size 122 2 v rs.length (runCs rs)
  ka : KN p v w a S
  qa : w.heap[Q]? = some (.cells cs.toArray 80 (0, 0))
  fq : FreeB p v w Q
  ne : v.ownBlock ≠ some p
section
variable {w w' W : World} {p i j Q : Nat} {s : ByteArray} {rs o : List (Int × Int)} {v v' : Value} {a : Option Addr} {cs : List Value} {S : List Nat}
theorem LW.read (h : LW w W p s i rs v a Q cs S) (t : Turn p w w') (r : RdAt 43 w' p s j false) : LW w' W p s j rs v a Q cs S := by
  refine ⟨r, h.tn.trans t, ?_, h.ka.step t.step, (t.block Q h.fq.1 h.fq.2.1).trans h.qa, h.fq.step t.step, h.ne⟩
  refine ⟨h.own.1, ?_⟩
  have hlt := h.own.lt
  rcases h.own.2 with h2 | ⟨g, cap, cur, e, hg, hh, r2⟩
  · exact .inl h2
  · have hgl := hlt g (by rw [e]; rfl)
    have hgp : g ≠ p := fun e2 => h.ne (by rw [e, ← e2]; rfl)
    exact .inr ⟨g, cap, cur, e, hg, (t.block g hgl.2 hgp).trans hh, r2⟩
theorem LW.below (h : LW w W p s i rs v a Q cs S) (b : Below w.heap.size w w') : LW w' W p s i rs v a Q cs S := by
  have hp : p < w.heap.size := (Array.getElem?_eq_some_iff.1 h.rd).1
  refine h.read ⟨b.os, b.tape, b.output, b.size, fun k hk _ => b.block k hk⟩ ?_
  have hr := h.rd
  unfold RdAt at hr ⊢
  rw [b.block p hp]
  exact hr
theorem LW.alloc (h : LW w W p s i rs v a Q cs S) (ob : Obj) : LW (w.alloc ob) W p s i rs v a Q cs S := h.below ((Below.refl _ w).alloc (Nat.le_refl _) ob)
theorem LW.grow (h : LW w W p s i rs v a Q cs S) (ho : w'.ownsRow W.heap.size 122 2 v' o.length (runCs o)) (hg : w.grownBy w' v.ownBlock) (hf : v'.ownBlock = v.ownBlock ∨ ∀ k, v'.ownBlock = some k → w.heap.size ≤ k) : LW w' W p s i o v' a Q cs S := by
  have hp : p < w.heap.size := (Array.getElem?_eq_some_iff.1 h.rd).1
  have st : Step p v v' w w' := grown_step hg hf
  have tt : Turn p W w' := ⟨hg.os.trans h.tn.os, hg.tape.trans h.tn.tape, hg.output.trans h.tn.output, Nat.le_trans h.tn.size hg.size, fun k hk hp => (hg.block k (Nat.lt_of_lt_of_le hk h.tn.size) (fun e2 => by have := (h.own.lt k e2.symm).1; omega)).trans (h.tn.block k hk hp)⟩
  refine ⟨?_, tt, ho, h.ka.step st, (st.block Q h.fq.1 h.fq.2.1 (fun e => h.fq.2.2 e.symm)).trans h.qa, h.fq.step st, ?_⟩
  · unfold RdAt
    rw [hg.block p hp (fun e => h.ne e.symm)]
    exact h.rd
  · rcases hf with e | e
    · rw [e]; exact h.ne
    · intro e2
      have := e p e2
      omega
theorem LW.slice (h : LW w W p s i rs v a Q cs S) : ∃ a c, v = .slice a rs.length c := own_slice11 h.own
end
/-- What the lengths give: a row of its own; or an error. -/
def LenP (R : Except Int (List Int × Nat)) (N : Nat) (W : World) (p : Nat) (s : ByteArray) (e : Ending) (w' : World) : Prop := Turn p W w' ∧
  ((∃ out j v' B, R = .ok (out, j) ∧ out.length = N ∧ j ≤ 8 * s.size ∧ RdAt 43 w' p s j false ∧ e = .returned (.tuple #[v', .int .i64 0]) ∧ w'.ownsRow B 3 1 v' N (intCs out)) ∨
   (∃ er, R = .error er ∧ er ≠ 0 ∧ e = .returned (.tuple #[.slice none 0 0, .int .i64 er])))

set_option maxRecDepth 20000 in
set_option maxHeartbeats 16000000 in
theorem lengths11 (O p : Nat) (v : Value) (limit : Int) (ls : List Nat) (a : Option Addr) (c m N : Nat) (s : ByteArray) (i0 : Nat) (W : World) (hb : Bx W O p v limit) (hm : (symTo ls 16).length = m) (harg : ArgN W a (symTo ls 16)) (hne : ∀ b off, a = some ⟨b, off, none⟩ → b ≠ p) (hlt : ∀ b off, a = some ⟨b, off, none⟩ → b < W.heap.size) (hls : ls.length ≤ 19)
    (h : RdAt 43 W p s i0 false) (hi : i0 ≤ 8 * s.size) (hs : s.size ≤ 1000000) (hN : N ≤ 316) :
    Calls Tryz.prog 57 #[.pointer (some ⟨O, 0, none⟩), codeV (cn ls) (.slice a m c), .int .i64 (N : Nat)] W fun e w' => LenP (runsP ls N 400 [] (srcB s) (8 * s.size) i0) N W p s e w' := by
  have hpW : p < W.heap.size := by unfold RdAt at h; exact (Array.getElem?_eq_some_iff.1 h).1
  have HRU := hide (fun w v2 j (hb : Bx w O p v limit) (k : KN p v2 w a (symTo ls 16)) (r : RdAt 43 w p s j false) (hj : j ≤ 8 * s.size) => run11 O p v limit ls a c m s j w hb hm k.arg (fun b off e => (k.free b off e).2.1) (by omega) r hj (by omega))
  have HBX := hide hb
  have bA := (Below.refl W.heap.size W).alloc (Nat.le_refl _) (.cells (codeCs (cn ls) (.slice a m c)).toArray 80)
  have sA := size_alloc W (.cells (codeCs (cn ls) (.slice a m c)).toArray 80)
  have HL0 := hide (show LW (W.alloc (.cells (codeCs (cn ls) (.slice a m c)).toArray 80)) W p s i0 [] (.slice none 0 0) a W.heap.size (codeCs (cn ls) (.slice a m c)) (symTo ls 16) from
    ⟨by unfold RdAt at h ⊢; rw [heap_alloc_old _ _ _ hpW]; exact h, (Turn.refl p W).belowT bA (Nat.le_refl _), World.ownsRow_nil _ _ _ _, ⟨harg.below bA (Nat.le_refl _), fun b off e => ⟨by have := hlt b off e; omega, hne b off e, fun e => by cases e⟩⟩, heap_alloc_at _ _ rfl, ⟨by omega, by omega, fun e => by cases e⟩, fun e => by cases e⟩)
  have HN17 := hide (codeCs_length (cn ls) (.slice a m c))
  unfold codeV at HRU ⊢
  generalize codeCs (cn ls) (.slice a m c) = cs at *
  have HSZ := hide (show (Tryz.prog.info? 80).map (·.size) = some cs.length by rw [HN17.out]; exact Tryz.sizeCode)
  obtain ⟨R, hR⟩ : ∃ R, runsP ls N 400 [] (srcB s) (8 * s.size) i0 = R := ⟨_, rfl⟩
  have HY0 := hide (show WayR ls N (srcB s) (8 * s.size) R [] 0 i0 from way_start hN hR)
  rw [hR]
  have HERR := hide (fun (e : Int) (he : e ≠ 0) (hr : R = .error e) (w' : World) (t : Turn p W w') => (show LenP R N W p s (.returned (.tuple #[.slice none 0 0, .int .i64 e])) w' from ⟨t, .inr ⟨e, hr, he, rfl⟩⟩))
  obtain ⟨i1, ki, kz0, kz1, kz2⟩ := info_parts Tryz.infoRun
  have HLS := hide hls
  clear h harg hm hne hlt hb hR bA sA hls
  go_enter Tryz.func57, Tryz.ntmps57
  go_wp2
  generalize hwa : W.alloc (.cells cs.toArray 80) = wa at *
  clear hwa
  generalize W.heap.size = Q at HL0 ⊢
  go_loopg [8, 9] N (fun gk vv sv wr => ∃ (rs : List (Int × Int)) (S i : Nat), sv = .int .i64 (S : Nat) ∧ i ≤ 8 * s.size ∧ N - S ≤ gk ∧ Hid (WayR ls N (srcB s) (8 * s.size) R rs S i) ∧ Hid (LW wr W p s i rs vv a Q cs (symTo ls 16)))
  case atStart => exact ⟨[], 0, i0, rfl, hi, by omega, HY0, HL0⟩
  case round =>
    clear HL0 HY0
    obtain ⟨rs, S, i, rfl, hi8, hgk, HY, HL⟩ := hrel
    obtain ⟨a8, c8, rfl⟩ := HL.out.slice
    obtain ⟨M, hM⟩ : ∃ M, rs.length = M := ⟨_, rfl⟩
    have HMM := hide hM
    have hsz := HY.out.short
    rw [hM] at HL hsz ⊢
    have HGK := hide hgk
    have hM9 : M ≤ 317 := by omega
    have hS9 : S ≤ 454 := by omega
    have HBR := hide (HBX.out.turn HL.out.tn)
    clear hM hgk hsz
    by_cases hSN : S < N
    · have zS : (S : Int) < N := by omega
      have HRN := hide (HRU.out wr _ i HBR.out HL.out.ka HL.out.rd hi8)
      have HRG := hide (code_range HL.out.qa)
      go_wp2_with (first
        | (refine wpList_load_mid rfl 80 (Operand.tmp 4) rfl Q 0 rfl cs _ HRG.out Tryz.underlying80 rfl HSZ.out ?_))
      refine HRN.out.mono ?_
      rintro e w1 ⟨t1, x, y, er, rfl, ⟨j, j2, rfl, hx, hy, hij, hjj, hj8, hxl, hyl, hr1⟩ | ⟨her, hcase⟩⟩
      · have HX := hide hx
        have HYY := hide hy
        have HL1 := hide (HL.out.read t1 hr1)
        have hx18 : x ≤ 18 := by have := HLS.out; omega
        have hy127 : y ≤ 127 := by
          have h1 := xbits_le (x : Int)
          have h2 : (2 : Nat) ^ xBits (x : Int) ≤ 2 ^ 7 := Nat.pow_le_pow_right (by decide) h1
          omega
        have HYL := hide hyl
        clear hx hy t1 hr1 HRN HRG hxl hyl hij hjj
        by_cases h16 : x = 16 ∧ M = 0
        · have HG := hide (HERR.out 3 (by decide) (HY.out.none16 hSN HX.out HYY.out h16.1 (List.length_eq_zero_iff.1 (HMM.out.trans h16.2))) (w1.alloc (.cells #[.int .i64 (x : Nat), .int .i64 (y : Nat)] 122)) (HL1.out.tn.alloc _))
          obtain ⟨rfl, rfl⟩ := h16
          clear HL HL1 HY HX HYY
          go_wp2
          go_ret2
          exact HG.out
        obtain ⟨K, hK⟩ : ∃ K : Nat, timesR ((x : Int), (y : Int)) = (K : Int) := by
          unfold timesR
          split
          · exact ⟨3 + y, by dsimp only; omega⟩
          · split
            · exact ⟨3 + y, by dsimp only; omega⟩
            · split
              · exact ⟨11 + y, by dsimp only; omega⟩
              · exact ⟨1, rfl⟩
        have hK1 : 1 ≤ K ∧ K ≤ 138 := by
          have h := hK
          unfold timesR at h
          dsimp only at h
          split at h
          · omega
          · split at h
            · omega
            · split at h <;> omega
        have HTM := hide (times11 x y K hx18 hy127 hK)
        have HYN := hide (HY.out.next hSN HX.out HYY.out hx18 (fun g => h16 ⟨g.1, by rw [← HMM.out, g.2]; rfl⟩) K hK hK1.1 hK1.2 HYL.out)
        have HL2 := hide (HL1.out.alloc (.cells #[.int .i64 (x : Nat), .int .i64 (y : Nat)] 122))
        have HL2A := hide (fun ob => HL2.out.alloc ob)
        have HOW := hide HL2.out.own
        have HOW1 := hide HL1.out.own
        rw [HMM.out] at HOW HOW1
        have HSZ2 := hide (show W.heap.size ≤ (w1.alloc (.cells #[.int .i64 (x : Nat), .int .i64 (y : Nat)] 122)).heap.size from HL2.out.tn.size)
        have X1 := hide (show M + 1 ≤ maxLen by unfold maxLen; omega)
        have X2 := hide (show (M + 1) * 16 ≤ 140737488355328 by omega)
        have HLN := hide (show (rs ++ [((x : Int), (y : Int))]).length = M + 1 by rw [List.length_append, HMM.out]; rfl)
        have HRC := hide (show runCs rs ++ [Value.int .i64 (x : Int), Value.int .i64 (y : Int)] = runCs (rs ++ [((x : Int), (y : Int))]) by rw [runCs_append]; rfl)
        have HMS := hide (show N - (S + K) < N - S by omega)
        obtain ⟨ew1, ew2⟩ := wrap_two S K (Nat.le_trans (Nat.add_le_add hS9 hK1.2) (by decide))
        have HJ8 := hide hj8
        have HKK := hide hK1
        clear HY HX HYY HL HL1 HL2 hK hK1 hj8 HYL
        by_cases x16 : x = 16
        · have bM : ((M : Int) == 0) = false := by simp; omega
          clear h16
          subst x16
          have e16 : ((16 : Nat) : Int) = 16 := rfl
          rw [e16] at HTM HRC HL2A HOW HLN HYN HSZ2
          go_wp2_with (first
            | (at_builtin; refine wpList_append_fresh _ rfl _ _ 94 rfl W.heap.size 122 i1 (.agg #[.int .i64 0, .int .i64 0]) 2 16 Tryz.underlying94 ki kz0 kz1 kz2 rfl (by decide) (.slice a8 M c8) _ _ rfl (HOW.out.alloc _) ⟨w1.heap.size + 1, 0, none⟩ 1 1 [.int .i64 (16 : Int), .int .i64 (y : Int)] rfl rfl (cell_two_at _ _ _ (size_alloc _ _) _) (two_one _ _) X1.out X2.out (size_alloc_le HSZ2.out) ?_; intro v2 w2 o2 g2 f2; rw [HRC.out] at o2; have HL3 := hide ((HL2A.out _).grow (o := rs ++ [((16 : Int), (y : Int))]) (by rw [HLN.out]; exact o2) g2 f2); obtain ⟨_c1, _c2⟩ := run_kept HOW1.out g2; clear o2 g2 f2))
          refine (HTM.out _).mono ?_
          rintro e w3 ⟨rfl, b3⟩
          have HL4 := hide (HL3.out.below b3)
          clear b3 HL3 HL2A HOW HOW1
          go_wp2
          go_roundg (N - (S + K))
          case measure => exact Nat.lt_of_lt_of_le HMS.out HGK.out
          case rel => exact ⟨_, S + K, j2, by go_num, HJ8.out, Nat.le_refl _, HYN, HL4⟩
        · have b16 : ((x : Int) == 16) = false := by simp; omega
          clear h16
          go_wp2_with (first
            | (at_builtin; refine wpList_append_fresh _ rfl _ _ 94 rfl W.heap.size 122 i1 (.agg #[.int .i64 0, .int .i64 0]) 2 16 Tryz.underlying94 ki kz0 kz1 kz2 rfl (by decide) (.slice a8 M c8) _ _ rfl (HOW.out.alloc _) ⟨w1.heap.size + 1, 0, none⟩ 1 1 [.int .i64 (x : Int), .int .i64 (y : Int)] rfl rfl (cell_two_at _ _ _ (size_alloc _ _) _) (two_one _ _) X1.out X2.out (size_alloc_le HSZ2.out) ?_; intro v2 w2 o2 g2 f2; rw [HRC.out] at o2; have HL3 := hide ((HL2A.out _).grow (o := rs ++ [((x : Int), (y : Int))]) (by rw [HLN.out]; exact o2) g2 f2); obtain ⟨_c1, _c2⟩ := run_kept HOW1.out g2; clear o2 g2 f2))
          refine (HTM.out _).mono ?_
          rintro e w3 ⟨rfl, b3⟩
          have HL4 := hide (HL3.out.below b3)
          clear b3 HL3 HL2A HOW HOW1
          go_wp2
          go_roundg (N - (S + K))
          case measure => exact Nat.lt_of_lt_of_le HMS.out HGK.out
          case rel => exact ⟨_, S + K, j2, by go_num, HJ8.out, Nat.le_refl _, HYN, HL4⟩
      · have HG := hide (HERR.out er her (by
          rcases hcase with hx | ⟨x2, j, hx, hy⟩
          · exact HY.out.sym_err hSN hx
          · exact HY.out.rd_err hSN hx hy) (w1.alloc (.cells #[.int .i64 (x : Nat), .int .i64 (y : Nat)] 122)) ((HL.out.tn.trans t1).alloc _))
        have be : (er == 0) = false := by simp; exact her
        clear HL HY t1 hcase HRN HRG
        go_wp2
        go_ret2
        exact HG.out
    · have zS : ¬ (S : Int) < N := by omega
      obtain ⟨a9, c9, ea, hz, _⟩ := own_argR HL.out.own rfl
      rw [HMM.out] at ea
      injection ea with ea1 ea2 ea3
      subst ea1
      clear ea2 ea3
      have HUF := hide (unfold7_row rs a8 c8 (N : Int) wr hz (by rw [HMM.out]; omega) (by omega) (by omega))
      rw [HMM.out] at HUF
      have HDN := hide (HY.out.done hSN)
      clear hz
      go_wp2_with fail
      refine HUF.out.mono ?_
      rintro e w1 ⟨b1, ⟨hu, rfl⟩ | ⟨out, v', hu, rfl, ho⟩⟩
      · have HG := hide (HERR.out 3 (by decide) (by
          rcases HDN.out with ⟨_, h2⟩ | ⟨o2, h1, _⟩
          · exact h2
          · rw [hu] at h1; cases h1) w1 (HL.out.tn.belowT b1 HL.out.tn.size))
        clear HUF HDN b1 hu HL HY
        go_wp2
        go_ret2
        exact HG.out
      · have HG := hide (show LenP R N W p s (.returned (.tuple #[v', .int .i64 0])) w1 from ⟨HL.out.tn.belowT b1 HL.out.tn.size, .inl (by
          rcases HDN.out with ⟨h1, _⟩ | ⟨o2, h1, h2, h3⟩
          · rw [hu] at h1; cases h1
          · rw [hu] at h1
            injection h1 with h1
            subst h1
            refine ⟨out, i, v', wr.heap.size, h3, h2, hi8, ?_, rfl, by rw [← h2]; exact ho⟩
            have hr := HL.out.rd
            unfold RdAt at hr ⊢
            rw [b1.block p (Array.getElem?_eq_some_iff.1 hr).1]
            exact hr)⟩)
        clear HUF HDN b1 hu HL HY ho
        go_wp2
        go_ret2
        exact HG.out

end Go.Proofs.YtaalbaiglkadlaaGreat

/- The program's layer 11: a header. -/
namespace Go.Proofs.YtaalbaiglkadlaaGreat
open Go.RowKit Go.Lib

/-- What a header gives: two rows, and a reader behind them; or an error. -/
def HdPost (R : Except Int ((List Int × List Int) × Nat)) (W : World) (p : Nat) (s : ByteArray) (e : Ending) (w' : World) : Prop := Turn p W w' ∧
  ((∃ x y j a1 c1 a2 c2, R = .ok ((x, y), j) ∧ e = .returned (.tuple #[.slice a1 x.length c1, .slice a2 y.length c2, .int .i64 0]) ∧ j ≤ 8 * s.size ∧ 257 ≤ x.length ∧ x.length ≤ 286 ∧ y.length ≤ 30 ∧ ArgZ w' a1 x ∧ ArgZ w' a2 y ∧ RdAt 43 w' p s j false) ∨
   (∃ er, R = .error er ∧ er ≠ 0 ∧ e = .returned (.tuple #[.slice none 0 0, .slice none 0 0, .int .i64 er])))

set_option maxRecDepth 20000 in
set_option maxHeartbeats 16000000 in
theorem header11 (O p : Nat) (v : Value) (limit : Int) (s : ByteArray) (i : Nat) (W : World) (hb : Bx W O p v limit) (h : RdAt 43 W p s i false) (hi : i ≤ 8 * s.size) (hs : s.size ≤ 100000) :
    Calls Tryz.prog 42 #[.pointer (some ⟨O, 0, none⟩)] W fun e w' => HdPost (headP (srcB s) (8 * s.size) i) W p s e w' := by
  have HPW := hide (show p < W.heap.size by unfold RdAt at h; exact (Array.getElem?_eq_some_iff.1 h).1)
  obtain ⟨x1, q1, b1, hx1, hq1, hr1, HC1⟩ := rd_all 5 p i s false (by decide) hi (by omega)
  obtain ⟨x2, q2, b2, hx2, hq2, hr2, HC2⟩ := rd_all 5 p q1 s b1 (by decide) hq1 (by omega)
  obtain ⟨x3, q3, b3, hx3, hq3, hr3, HC3⟩ := rd_all 4 p q2 s b2 (by decide) hq2 (by omega)
  have HHD := hide (head_heads hr1 hr2 hr3)
  obtain ⟨R, hR⟩ : ∃ R, headP (srcB s) (8 * s.size) i = R := ⟨_, rfl⟩
  rw [hR] at HHD ⊢
  have HERR := hide (fun (e : Int) (he : e ≠ 0) (hr : R = .error e) (w' : World) (t : Turn p W w') => (show HdPost R W p s (.returned (.tuple #[.slice none 0 0, .slice none 0 0, .int .i64 e])) w' from ⟨t, .inr ⟨e, hr, he, rfl⟩⟩))
  have HC1 := hide (HC1 W h)
  have HC2 := hide HC2
  have HC3 := hide HC3
  have HB0 := hide hb
  have _b1 := hb.c1
  have hx1 : x1 < 32 := hx1
  have hx2 : x2 < 32 := hx2
  have hx3 : x3 < 16 := hx3
  have HQ3 := hide hq3
  clear hr1 hr2 hr3 hR h hq1 hq2 hi hb hq3
  go_enter Tryz.func42, Tryz.ntmps42
  go_wp2_with fail
  refine HC1.out.mono ?_
  rintro e w1 ⟨rfl, ho1, hr1⟩
  have HT1 := hide ho1.turn
  have HC2 := hide (HC2.out w1 hr1)
  have HB1 := hide (HB0.out.turn HT1.out)
  have _b2 := HB1.out.c1
  clear ho1 hr1 HC1 _b1
  go_wp2_with fail
  refine HC2.out.mono ?_
  rintro e w2 ⟨rfl, ho2, hr2⟩
  have HT2 := hide (HT1.out.trans ho2.turn)
  have HC3 := hide (HC3.out w2 hr2)
  have HB2 := hide (HB0.out.turn HT2.out)
  have _b3 := HB2.out.c1
  clear ho2 hr2 HC2 HT1 HB1 _b2
  go_wp2_with fail
  refine HC3.out.mono ?_
  rintro e w3 ⟨rfl, ho3, hr3⟩
  have HT3 := hide (HT2.out.trans ho3.turn)
  have HB3 := hide (HB0.out.turn HT3.out)
  have _b4 := HB3.out.c0
  have HR3 := hide hr3
  have _c2 := hr3.c2
  clear ho3 hr3 HC3 HT2 HB2 _b3
  rcases HHD.out with ⟨rfl, hh⟩ | ⟨rfl, hh⟩
  · have HG := hide (HERR.out 2 (by decide) hh w3 HT3.out)
    clear hh HHD
    go_wp2
    go_ret3
    exact HG.out
  have HH := hide hh
  clear hh HHD
  by_cases hab : x1 ≤ 29 ∧ x2 ≤ 29
  case neg =>
    have HG := hide (HERR.out 3 (by decide) (HH.out.trans (head2_bad hab)) w3 HT3.out)
    by_cases h1 : x1 ≤ 29
    · have z1 : decide (286 < 257 + (x1 : Int)) = false := decide_eq_false (by omega)
      have z2 : decide (30 < 1 + (x2 : Int)) = true := decide_eq_true (by omega)
      clear hab
      go_wp2
      go_ret3
      exact HG.out
    · have z1 : decide (286 < 257 + (x1 : Int)) = true := decide_eq_true (by omega)
      clear hab
      go_wp2
      go_ret3
      exact HG.out
  obtain ⟨ha, hb⟩ := hab
  have HH := hide (HH.out.trans (head2_ok ha hb))
  have z1 : decide (286 < 257 + (x1 : Int)) = false := decide_eq_false (by omega)
  have z2 : decide (30 < 1 + (x2 : Int)) = false := decide_eq_false (by omega)
  have HRC := hide (runcode11 O p v limit s q3 (4 + x3) w3 HB3.out HR3.out HQ3.out (by omega) (by omega))
  rw [Int.natCast_add] at HRC
  have hzc := Tryz.zeroCode
  have hZ1 := codeCs_one (fun _ => 0) (.slice none 0 0) rfl
  have hZn := codeCs_length (fun _ => 0) (.slice none 0 0)
  obtain ⟨Z2, hZ2⟩ : ∃ Z, codeCs (fun _ => 0) (.slice none 0 0) = Z := ⟨_, rfl⟩
  simp only [hZ2] at hzc hZ1 hZn
  have HZn := hide hZn
  clear hZ2 hZ1 hZn HR3
  go_wp2_with fail
  refine HRC.out.mono ?_
  rintro e w4 ⟨t4, ⟨fl, j, f1, s1, m1, k1, er1, hfp, hfl, hj8, hr4, rfl, hbo⟩ | ⟨hfp, f1, s1, m1, k1, rfl⟩⟩
  rotate_left
  · have hcs1 := codeCs_one f1 (.slice s1 m1 k1) rfl
    have hcn1 := codeCs_length f1 (.slice s1 m1 k1)
    unfold codeV
    generalize codeCs f1 (.slice s1 m1 k1) = cs1 at *
    have hst1 := code_store w4 Z2 cs1 HZn.out hcn1 hcs1
    have HG := hide (HERR.out 2 (by decide) (HH.out.trans (bindP_err (by rw [Nat.add_comm x3 4]; exact hfp))) (w4.alloc (.cells cs1.toArray 80)) ((HT3.out.trans t4).alloc _))
    clear t4 hfp HRC HB3 _b4 HH
    go_wp2
    go_ret3
    exact HG.out
  have HT4 := hide (HT3.out.trans t4)
  have HB4 := hide (HB0.out.turn HT4.out)
  have HR4 := hide hr4
  have HBO := hide hbo
  have HJ8 := hide hj8
  have HFL := hide hfl
  have HH2 := hide (HH.out.trans (bindP_ok (by rw [Nat.add_comm x3 4]; exact hfp)))
  have hcs1 := codeCs_one f1 (.slice s1 m1 k1) rfl
  have hcn1 := codeCs_length f1 (.slice s1 m1 k1)
  have HCV := hide (show codeV f1 (.slice s1 m1 k1) = .agg (codeCs f1 (.slice s1 m1 k1)).toArray from rfl)
  unfold codeV at HCV ⊢
  have HBO2 := hide (fun (hf : f1 = cn fl) => (show codeCs f1 (.slice s1 m1 k1) = codeCs (cn fl) (.slice s1 m1 k1) by rw [hf]))
  obtain ⟨cs1, hce1⟩ : ∃ cs, codeCs f1 (.slice s1 m1 k1) = cs := ⟨_, rfl⟩
  rw [hce1] at hcs1 hcn1 HBO2
  try simp only [hce1]
  have HCN1 := hide hcn1
  have hst1 := code_store w4 Z2 cs1 HZn.out hcn1 hcs1
  have HP3 := hide (show p < w3.heap.size from Nat.lt_of_lt_of_le HPW.out HT3.out.size)
  clear t4 hfp HRC HB3 _b4 HH hr4 hbo hj8 hfl HCV hce1 HT3
  rcases HBO.out with ⟨g1, rfl⟩ | ⟨g1, rfl, hf1, hm1, ha1, hn1⟩
  · have HG := hide (HERR.out 4 (by decide) (HH2.out.trans (head3_bad g1)) (w4.alloc (.cells cs1.toArray 80)) (HT4.out.alloc _))
    clear HBO HH2 HBO2 HERR
    go_wp2
    go_ret3
    exact HG.out
  rw [maps_back] at hf1 hm1 ha1
  have HCE := hide (HBO2.out hf1)
  obtain ⟨N, hN⟩ : ∃ N, x1 + 257 + (x2 + 1) = N := ⟨_, rfl⟩
  have HH3 := hide (HH2.out.trans (head3_ok g1))
  rw [hN] at HH3
  have HNN := hide hN
  have HQ5 := hide (heap_alloc_at w4 (.cells cs1.toArray 80) rfl)
  have HRG := hide (code_range HQ5.out)
  have HSZ := hide (show (Tryz.prog.info? 80).map (·.size) = some cs1.length by rw [HCN1.out]; exact Tryz.sizeCode)
  have b45 := (Below.refl w4.heap.size w4).alloc (Nat.le_refl _) (.cells cs1.toArray 80)
  have HT5 := hide (HT4.out.belowT b45 HT4.out.size)
  have HLE := hide (lengths11 O p v limit fl s1 k1 m1 N s j (w4.alloc (.cells cs1.toArray 80)) (HB4.out.below b45) hm1 (ha1.below b45 (Nat.le_refl _)) (fun b off e => by have h9 := (hn1 b off e).1; have h8 := HP3.out; omega) (fun b off e => Nat.lt_of_lt_of_le (hn1 b off e).2 b45.size) (by rw [HFL.out]; decide) (by have h := HR4.out; unfold RdAt at h ⊢; rw [b45.block p (Array.getElem?_eq_some_iff.1 h).1]; exact h) HJ8.out (by omega) (by omega))
  unfold codeV at HLE
  have hni : ((N : Nat) : Int) = (257 : Int) + (x1 : Int) + (1 + (x2 : Int)) := by omega
  rw [← HCE.out, hni] at HLE
  have HZE := hide (show ∀ er, runsP fl N 400 [] (srcB s) (8 * s.size) j = .error er → R = .error er from fun er h => HH3.out.trans (bindP_err h))
  have HZO := hide (show ∀ out q, runsP fl N 400 [] (srcB s) (8 * s.size) j = .ok (out, q) → R = .ok ((out.take (x1 + 257), out.drop (x1 + 257)), q) from fun out q h => HH3.out.trans (bindP_ok h))
  have hN316 : x1 + 257 ≤ N ∧ N ≤ 316 ∧ N - (x1 + 257) ≤ 30 ∧ x1 + 257 < N := by omega
  clear HBO HH2 HBO2 hf1 hm1 ha1 hn1 g1 HH3 hN HCE b45 hni HR4 HB4 HQ5 HFL HJ8
  go_wp2_with (first
    | (refine wpList_load_mid rfl 80 (Operand.tmp 8) rfl w4.heap.size 0 rfl cs1 _ HRG.out Tryz.underlying80 rfl HSZ.out ?_))
  refine HLE.out.mono ?_
  rintro e w6 ⟨t6, ⟨out, j2, v', B, hr, hol, hj28, hr6, rfl, ho6⟩ | ⟨er, hr, her, rfl⟩⟩
  · obtain ⟨g, cq, e0⟩ := own_slice ho6 (by omega)
    subst e0
    have hcap := own_cap ho6
    obtain ⟨a9, ca9, ea, hz, _⟩ := own_argI ho6 hol
    injection ea with ea1 ea2 ea3
    subst ea1
    clear ea2 ea3
    have HG := hide (fun q => (show HdPost R W p s (.returned (.tuple #[.slice (some ⟨g, 0, none⟩) (x1 + 257) cq, .slice (some ⟨g, x1 + 257, none⟩) (N - (x1 + 257)) (cq - (x1 + 257)), .int .i64 0])) (w6.drewN q) from
      ⟨(HT5.out.trans t6).drewN q, .inl ⟨out.take (x1 + 257), out.drop (x1 + 257), j2, some ⟨g, 0, none⟩, cq, some ⟨g, x1 + 257, none⟩, cq - (x1 + 257), HZO.out _ _ hr, by rw [List.length_take, List.length_drop, hol, Nat.min_eq_left (by omega)], hj28, by rw [List.length_take, hol]; omega, by rw [List.length_take]; omega, by rw [List.length_drop, hol]; omega, argZ_take hz _, by have h := argZ_drop hz (x1 + 257); rw [Nat.zero_add] at h; exact h, hr6⟩⟩))
    have hs1 := sliceZ_to (some ⟨g, 0, none⟩) N cq (x1 + 257) ((257 : Int) + (x1 : Int)) (by omega) (by omega)
    have hs2 := sliceZ_from g N cq (x1 + 257) ((257 : Int) + (x1 : Int)) (by omega) (by omega) (by omega)
    clear hcap hz hr hol hr6 ho6 t6 HLE HRG
    go_wp2_with fail
    go_quiet (fail)
    go_wp2
    go_ret3
    exact HG.out _
  · have HG := hide (HERR.out er her (HZE.out er hr) w6 (HT5.out.trans t6))
    have be : (er == 0) = false := by simp; exact her
    clear t6 hr HLE HRG
    go_wp2
    go_ret3
    exact HG.out

end Go.Proofs.YtaalbaiglkadlaaGreat
