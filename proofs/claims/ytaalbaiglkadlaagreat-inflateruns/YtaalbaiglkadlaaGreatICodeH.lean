/- The program's layer 11: the code of runs. -/
import Derived.Test.YtaalbaiglkadlaaGreatICodeC
import Derived.Test.YtaalbaiglkadlaaGreatRB
import Derived.Test.YtaalbaiglkadlaaGreatID
namespace Go.Proofs.YtaalbaiglkadlaaGreat
open Go.RowKit Go.Lib

/-- What building gave, in one form. -/
def BuiltO (B : Nat) (l : List Int) (f : Nat → Nat) (a : Option Addr) (m : Nat) (er : Int) (w' : World) : Prop :=
  (goodB l = false ∧ er = 4) ∨ (goodB l = true ∧ er = 0 ∧ f = cn (l.map Int.toNat) ∧ (symTo (l.map Int.toNat) 16).length = m ∧ ArgN w' a (symTo (l.map Int.toNat) 16) ∧ ∀ b off, a = some ⟨b, off, none⟩ → B ≤ b ∧ b < w'.heap.size)
/-- A code is laid into an elder box. -/
theorem built_cells {W w' : World} {l : List Int} {r : Value} (h : BuildRes W l r w') (Q : Nat) (hQ : Q < W.heap.size) : ∃ (f : Nat → Nat) (a : Option Addr) (m c : Nat) (er : Int), r = .tuple #[codeV f (.slice a m c), .int .i64 er] ∧ ∀ B, B ≤ W.heap.size → BuiltO B l f a m er (w'.setCells Q 0 (codeCs f (.slice a m c))) := by
  rcases h with ⟨hg, rfl⟩ | ⟨hg, v, rfl, ho⟩
  · exact ⟨_, _, _, _, _, rfl, fun B _ => .inl ⟨hg, rfl⟩⟩
  · have ho2 := fun cs => own_cells ho Q 0 (fun e => by have := (ho.lt Q e).1; omega) cs
    rcases len_form ho with ⟨e1, e2⟩ | ⟨g, c, e1⟩
    · subst e1
      exact ⟨_, _, _, _, _, rfl, fun B _ => .inr ⟨hg, rfl, rfl, e2, (by rw [List.length_eq_zero_iff.1 e2]; exact fun i x hx => by simp at hx), fun b off e => by cases e⟩⟩
    · subst e1
      refine ⟨_, _, _, _, _, rfl, fun B hB => .inr ⟨hg, rfl, rfl, rfl, own_arg (ho2 _) rfl, fun b off e => ?_⟩⟩
      have hlt := (ho2 (codeCs (cn (l.map Int.toNat)) (.slice (some ⟨g, 0, none⟩) (symTo (l.map Int.toNat) 16).length c))).lt g rfl
      injection e with e
      injection e with e _
      subst e
      exact ⟨Nat.le_trans hB hlt.1, hlt.2⟩
/-- The first lengths under way. -/
structure RcW (w W : World) (p : Nat) (s : ByteArray) (F R Q : Nat) (oc zc : List Value) (l : List Nat) (q : Nat) (bad : Bool) : Prop where
  rd : RdS 43 w p s q bad
  tn : Turn p W w
  fa : w.heap[F]? = some (.cells (natCs l).toArray 3 (0, 0))
  oa : w.heap[R]? = some (.cells oc.toArray 119 (0, 0))
  qa : w.heap[Q]? = some (.cells zc.toArray 80 (0, 0))
  wf : W.heap.size ≤ F
  wo : W.heap.size ≤ R
  wq : W.heap.size ≤ Q
  fo : F ≠ R
  fq : F ≠ Q
  wp : p < W.heap.size
  ln : l.length = 19
section
variable {w w' W : World} {p F R Q q q' : Nat} {s : ByteArray} {oc zc : List Value} {l : List Nat} {bad bad' : Bool}
theorem RcW.read (h : RcW w W p s F R Q oc zc l q bad) (o : Only p w w') (r : RdS 43 w' p s q' bad') : RcW w' W p s F R Q oc zc l q' bad' := by
  have h1 := h.wf
  have h2 := h.wo
  have h3 := h.wq
  have h4 := h.wp
  exact ⟨r, h.tn.trans o.turn, (o.block F (by omega)).trans h.fa, (o.block R (by omega)).trans h.oa, (o.block Q (by omega)).trans h.qa, h1, h2, h3, h.fo, h.fq, h4, h.ln⟩
theorem RcW.put (h : RcW w W p s F R Q oc zc l q bad) (z x : Nat) : RcW (w.setCell ⟨F, z, none⟩ (.int .i64 (x : Nat))) W p s F R Q oc zc (l.set z x) q bad := by
  have h1 := h.wf
  have h4 := h.wp
  refine ⟨h.rd.same ?_, h.tn.belowT ((Below.refl F w).setCell (p := ⟨F, z, none⟩) (Nat.le_refl _) _) h1, ?_, ?_, ?_, h1, h.wo, h.wq, h.fo, h.fq, h4, by rw [List.length_set]; exact h.ln⟩
  · exact Below.heap_setCell _ _ _ _ (show p ≠ F by omega)
  · rw [heap_setCell_same _ _ _ _ _ _ _ h.fa, List.setIfInBounds_toArray, natCs_set]
  · rw [Below.heap_setCell _ _ _ _ (fun e => h.fo e.symm)]
    exact h.oa
  · rw [Below.heap_setCell _ _ _ _ (fun e => h.fq e.symm)]
    exact h.qa
theorem RcW.cell (h : RcW w W p s F R Q oc zc l q bad) (z : Nat) (hz : z < 19) : w.cell? ⟨F, z, none⟩ = some (.int .i64 (l.getD z 0 : Nat)) ∧ w.frozen? ⟨F, z, none⟩ = false := by
  constructor
  · rw [cell_of_row _ _ z _ _ (0, 0) h.fa, List.getElem?_toArray]
    unfold natCs
    rw [List.getElem?_map, getD_some l z (by rw [h.ln]; exact hz)]
    rfl
  · simp [World.frozen?, h.fa]
theorem RcW.ord (h : RcW w W p s F R Q oc zc l q bad) (z : Nat) (v : Value) (hz : oc[z]? = some v) : w.cell? ⟨R, z, none⟩ = some v := by
  rw [cell_of_row _ _ z _ _ (0, 0) h.oa, List.getElem?_toArray]
  exact hz
theorem RcW.arg (h : RcW w W p s F R Q oc zc l q bad) : ArgZ w (some ⟨F, 0, none⟩) (l.map fun (x : Nat) => (x : Int)) := by
  intro j x hx
  rw [List.getElem?_map] at hx
  cases hl : l[j]? with
  | none => rw [hl] at hx; cases hx
  | some y =>
    rw [hl] at hx
    injection hx with hx
    subst hx
    refine ⟨F, 0, rfl, (Array.getElem?_eq_some_iff.1 h.fa).1, ?_⟩
    rw [Nat.zero_add, cell_of_row _ _ j _ _ (0, 0) h.fa, List.getElem?_toArray]
    unfold natCs
    rw [List.getElem?_map, hl]
    rfl
end
theorem made19 : madeCells #[.int .i64 0] 19 = (natCs (List.replicate 19 0)).toArray := by kernel_rfl
/-- What the code of runs comes to. -/
def RcPost (n p : Nat) (s : ByteArray) (q : Nat) (W : World) (e : Ending) (w' : World) : Prop := Turn p W w' ∧
  ((∃ (fl : List Nat) (j : Nat) (f : Nat → Nat) (a : Option Addr) (m c : Nat) (er : Int), firstP n 0 (List.replicate 19 0) (srcB s) (8 * s.size) q = .ok (fl, j) ∧ fl.length = 19 ∧ j ≤ 8 * s.size ∧ RdAt 43 w' p s j false ∧ e = .returned (.tuple #[codeV f (.slice a m c), .int .i64 er]) ∧ BuiltO W.heap.size (fl.map fun (x : Nat) => (x : Int)) f a m er w') ∨
   (firstP n 0 (List.replicate 19 0) (srcB s) (8 * s.size) q = .error 2 ∧ ∃ (f : Nat → Nat) (a : Option Addr) (m c : Nat), e = .returned (.tuple #[codeV f (.slice a m c), .int .i64 2])))
theorem Tryz.arrElem : Tryz.prog.elem 119 = 3 := by kernel_rfl
theorem Tryz.arrLen : Tryz.prog.arrayLen 119 = 19 := by kernel_rfl
theorem Tryz.arrUnder : Tryz.prog.underlying 119 = some (.array (Tryz.prog.arrayLen 119) (Tryz.prog.elem 119)) := by kernel_rfl
theorem slice19 (R n : Nat) (hn : n ≤ 19) (w : World) : (Instr.sliceAt 119 (.pointer (some ⟨R, 0, none⟩)) none (some (.int .i64 (n : Nat))) none).run Tryz.prog w = .ok (.slice (some ⟨R, 0, none⟩) n 19) w := by
  obtain ⟨i1, ki, _, kz1, _⟩ := info_parts Tryz.infoInt
  rw [run_sliceAt_array_h (P := Tryz.prog) w 119 ⟨R, 0, none⟩ Tryz.arrUnder .i64 (n : Int) (by omega) (by rw [Tryz.arrLen]; omega), Tryz.arrLen, Tryz.arrElem]
  simp [sizeOf, typeInfo, ki, kz1, Result.andThen, slicedAt, Addr.add]

set_option maxRecDepth 20000 in
set_option maxHeartbeats 8000000 in
theorem runcode11 (O p : Nat) (v : Value) (limit : Int) (s : ByteArray) (q told : Nat) (W : World) (hb : Bx W O p v limit) (hr : RdAt 43 W p s q false) (hq : q ≤ 8 * s.size) (hs : s.size ≤ 1000000) (ht : told ≤ 19) :
    Calls Tryz.prog 56 #[.pointer (some ⟨O, 0, none⟩), .int .i64 (told : Nat)] W fun e w' => RcPost told p s q W e w' := by
  have HPW := hide (show p < W.heap.size by unfold RdAt at hr; exact (Array.getElem?_eq_some_iff.1 hr).1)
  have HBX := hide hb
  have HR0 := hide (show RdS 43 W p s q false from hr)
  have hvc := Tryz.zeroCode
  have hZc1 := codeCs_one (fun _ => 0) (.slice none 0 0) rfl
  have hZcn := codeCs_length (fun _ => 0) (.slice none 0 0)
  obtain ⟨Zc, hZc⟩ : ∃ Zc, codeCs (fun _ => 0) (.slice none 0 0) = Zc := ⟨_, rfl⟩
  have HZC := hide hZc
  rw [hZc] at hZc1 hZcn
  simp only [hZc] at hvc
  clear hZc
  obtain ⟨R0, hR0⟩ : ∃ R0, firstP told 0 (List.replicate 19 0) (srcB s) (8 * s.size) q = R0 := ⟨_, rfl⟩
  have HF0 := hide (show FirstSt s R0 told 0 (List.replicate 19 0) q false from .inl ⟨rfl, hR0⟩)
  have HRC := hide hR0
  have HOC := hide order_cell
  obtain ⟨Z, hZn, hzr⟩ := Tryz.zeroOrder
  have HST0 := hide (fun w => order_store w Z orderCs hZn rfl orderCs_one)
  have HQO := hide (fun w => order7_any w)
  have hmk : ∀ w, (Instr.makeSlice 63 (.int .i64 19) (.int .i64 19)).run Tryz.prog w = _ := make_int 19 (by omega)
  have HZN := hide hZcn
  have HZ1 := hide hZc1
  have B0 := hide ((Below.refl W.heap.size W).alloc (Nat.le_refl _) (.cells Zc.toArray 80))
  have HRES := hide (show (W.alloc (.cells Zc.toArray 80)).heap[W.heap.size]? = some (.cells Zc.toArray 80 (0, 0)) from heap_alloc_at _ _ rfl)
  have HS0 := hide (size_alloc W (.cells Zc.toArray 80))
  have hon : orderCs.length = 19 := rfl
  generalize orderCs = oc at *
  clear hb hr hR0 hZc1 hZcn
  go_enter Tryz.func56, Tryz.ntmps56
  go_wp2_with fail
  refine (HQO.out _).mono ?_
  rintro e w1 ⟨rfl, hb1⟩
  have hst := HST0.out w1
  have hsl := fun w => slice19 w1.heap.size told ht w
  have HW0 := hide (show RcW ((w1.alloc (.cells oc.toArray 119)).alloc (.cells (madeCells #[.int .i64 0] 19) 3)) W p s (w1.heap.size + 1) w1.heap.size W.heap.size oc Zc (List.replicate 19 0) q false by
    have hsz := hb1.size
    have h0 := HS0.out
    have hpw := HPW.out
    have s1 := size_alloc w1 (.cells oc.toArray 119)
    have bA : Below W.heap.size W w1 := B0.out.trans (hb1.mono (by omega))
    have bB : Below w1.heap.size w1 ((w1.alloc (.cells oc.toArray 119)).alloc (.cells (madeCells #[.int .i64 0] 19) 3)) := ((Below.refl w1.heap.size w1).alloc (Nat.le_refl _) _).alloc (by omega) _
    have bC : Below W.heap.size W ((w1.alloc (.cells oc.toArray 119)).alloc (.cells (madeCells #[.int .i64 0] 19) 3)) := bA.trans (bB.mono (by omega))
    refine ⟨HR0.out.same (bC.block p (by omega)), (Turn.refl p W).belowT bC (Nat.le_refl _), ?_, ?_, ?_, by omega, by omega, Nat.le_refl _, by omega, by omega, hpw, rfl⟩
    · rw [← made19]
      exact heap_alloc_at _ _ s1
    · rw [heap_alloc_old _ _ _ (by omega)]
      exact heap_alloc_at _ _ rfl
    · rw [bB.block _ (by omega), hb1.block _ (by omega)]
      exact HRES.out)
  obtain ⟨l0, hl0⟩ : ∃ l0 : List Nat, List.replicate 19 0 = l0 := ⟨_, rfl⟩
  have HL0 := hide hl0
  rw [hl0] at HW0 HF0 HRC
  clear hl0
  go_wp2_with fail
  generalize hw5 : (w1.alloc (.cells oc.toArray 119)).alloc (.cells (madeCells #[.int .i64 0] 19) 3) = w5 at *
  obtain ⟨F, hF⟩ : ∃ F, w1.heap.size + 1 = F := ⟨_, rfl⟩
  rw [hF] at HW0
  try simp only [hF]
  obtain ⟨R, hR⟩ : ∃ R, w1.heap.size = R := ⟨_, rfl⟩
  rw [hR] at HW0
  try simp only [hR]
  clear hw5 hF hR hst hsl hb1 HST0 HQO hmk HRES HS0 B0 HR0
  go_loopw [15] (fun jv wr => ∃ (j : Nat) (l : List Nat) (z : Nat) (b : Bool), jv = .int .i64 (j : Nat) ∧ j ≤ told ∧ Hid (z ≤ 8 * s.size) ∧ Hid (RcW wr W p s F R W.heap.size oc Zc l z b) ∧ Hid (FirstSt s R0 told j l z b)) (fun jv _ => told - (intOf jv).toNat)
  case atStart => exact ⟨0, l0, q, false, rfl, Nat.zero_le _, hide hq, HW0, HF0⟩
  case round =>
    clear HW0 HF0
    obtain ⟨j, l, z, b, rfl, hj, HQ, HW, HFS⟩ := hrel
    have HBR := hide (HBX.out.turn HW.out.tn)
    by_cases hlt : j < told
    · have zj : (j : Int) < told := by omega
      obtain ⟨x, z', b', hx, hz', hrr, HC⟩ := rd_all 3 p z s b (by decide) HQ.out (by omega)
      have HC := hide HC
      have HQ' := hide hz'
      have HFN := hide (HFS.out.next hlt hrr)
      obtain ⟨hoc, ho19⟩ := HOC.out j (by omega)
      have _c1 := HW.out.ord j _ hoc
      have HLT := hide hlt
      obtain ⟨o, ho⟩ : ∃ o, orderL.getD j 0 = o := ⟨_, rfl⟩
      rw [ho] at _c1 ho19 HFN hoc
      have zo : (o : Int) < 19 := by omega
      have _b1 := HBR.out.c1
      have HWD := hide HW.out.rd
      clear hoc hrr hz' ho hlt hx
      go_wp2_with fail
      refine (HC.out _ HWD.out).mono ?_
      rintro e w6 ⟨rfl, ho6, hr6⟩
      have HW6 := hide (HW.out.read ho6 hr6)
      obtain ⟨_k1, _k2⟩ := HW6.out.cell o ho19
      have HW7 := hide (HW6.out.put o x)
      clear _c1 _b1 HWD HC HW HFS ho6 hr6 HW6
      go_wp2
      go_roundw
      case rel => exact ⟨j + 1, l.set o x, z', b', by go_num, HLT.out, HQ', HW7, HFN⟩
      case measure => exact meas_oneW j told HLT.out
    · obtain rfl : j = told := by omega
      have _b0 := HBR.out.c0
      have _c2 := HW.out.rd.c2
      have hth := there_cells HW.out.qa
      rw [HZN.out] at hth
      cases b with
      | true =>
        have hcst := cells_store (P := Tryz.prog) (w := wr) (p := W.heap.size) (cs := Zc) (by rw [HZN.out]; exact hth) HZ1.out
        have HLD := hide (code_load (World.rangeAt_setCells_same wr W.heap.size 0 Zc (by rw [HZN.out]; exact hth)) HZN.out)
        have HTT := hide (HW.out.tn.belowT (below_cells (Below.refl W.heap.size wr) W.heap.size 0 (Nat.le_refl _) Zc) (Nat.le_refl _))
        have HG := hide (show RcPost j p s q W (.returned (.tuple #[.agg Zc.toArray, .int .i64 2])) (wr.setCells W.heap.size 0 Zc) from ⟨HTT.out,   .inr ⟨by rw [HL0.out]; exact HRC.out.trans HFS.out.short, _, _, _, _, by rw [← HZC.out]; rfl⟩⟩)
        clear hth HFS
        go_wp2
        (try simp only [Exit.inBlock, Exit.then])
        refine bodyPost_ret (v := .tuple #[.agg Zc.toArray, .int .i64 2]) ?_ rfl HG.out
        simp [results, Tryz.results56, asAddr, HLD.out]
      | false =>
        have HBD := hide (build_any (l.map fun (x : Nat) => (x : Int)) (some ⟨F, 0, none⟩) 19 wr HW.out.arg (by rw [List.length_map, HW.out.ln]; decide))
        rw [List.length_map, HW.out.ln] at HBD
        have HDN := hide (HRC.out.trans HFS.out.done)
        clear hth HFS
        go_wp2_with fail
        refine HBD.out.mono ?_
        rintro e w8 ⟨r, rfl, hbr, hb8⟩
        have hQlt : W.heap.size < wr.heap.size := (Array.getElem?_eq_some_iff.1 HW.out.qa).1
        obtain ⟨f1, s1, m1, k1, er1, rfl, hor1⟩ := built_cells hbr W.heap.size hQlt
        have HOR := hide (hor1 W.heap.size (Nat.le_of_lt hQlt))
        have hq8 : w8.heap[W.heap.size]? = some (.cells Zc.toArray 80 (0, 0)) := (hb8.block _ hQlt).trans HW.out.qa
        have hth := there_cells hq8
        rw [HZN.out] at hth
        have hcs1 := codeCs_one f1 (.slice s1 m1 k1) rfl
        have hcn1 := codeCs_length f1 (.slice s1 m1 k1)
        have HTT := hide (HW.out.tn.belowT ((hb8.mono (Nat.le_of_lt hQlt)).trans (below_cells (Below.refl W.heap.size w8) W.heap.size 0 (Nat.le_refl _) (codeCs f1 (.slice s1 m1 k1)))) (Nat.le_refl _))
        have HRDF := hide (show RdAt 43 (w8.setCells W.heap.size 0 (codeCs f1 (.slice s1 m1 k1))) p s z false by
          have h := HW.out.rd
          have hpw := HPW.out
          have hsz := HW.out.tn.size
          have bb := below_cells (Below.refl W.heap.size w8) W.heap.size 0 (Nat.le_refl _) (codeCs f1 (.slice s1 m1 k1))
          unfold RdS at h
          rw [if_neg (by decide)] at h
          unfold RdAt at h ⊢
          rw [bb.block p hpw, hb8.block p (by omega)]
          exact h)
        have HG := hide (show RcPost j p s q W (.returned (.tuple #[codeV f1 (.slice s1 m1 k1), .int .i64 er1])) (w8.setCells W.heap.size 0 (codeCs f1 (.slice s1 m1 k1))) from ⟨HTT.out, .inl ⟨l, z, f1, s1, m1, k1, er1, by rw [HL0.out]; exact HDN.out, HW.out.ln, HQ.out, HRDF.out, rfl, HOR.out⟩⟩)
        have hcst := cells_store (P := Tryz.prog) (w := w8) (p := W.heap.size) (cs := codeCs f1 (.slice s1 m1 k1)) (by rw [hcn1]; exact hth) hcs1
        have HLD := hide (code_load (World.rangeAt_setCells_same w8 W.heap.size 0 (codeCs f1 (.slice s1 m1 k1)) (by rw [hcn1]; exact hth)) hcn1)
        unfold codeV at HG ⊢
        generalize codeCs f1 (.slice s1 m1 k1) = ks at *
        clear hth hbr hb8 hor1 HTT HRDF HDN HBD HOR hQlt hq8
        go_wp2
        (try simp only [Exit.inBlock, Exit.then])
        refine bodyPost_ret (v := .tuple #[.agg ks.toArray, .int .i64 er1]) ?_ rfl HG.out
        simp [results, Tryz.results56, asAddr, HLD.out]

end Go.Proofs.YtaalbaiglkadlaaGreat
