/- Symbols that are written by a code's numbers, the highest bit first, are read as they were: 'CanonBack' answers true. No condition. -/
import Derived.Test.YteillcfdmjmaeaaKBackM
import Derived.Test.YteillcfdmjmaeaaKAll
namespace Go.Proofs.Yteillcfdmjmaeaa
open Go.RowKit Go.Lib Go.Deep

/-- A slice of 16-bit numbers that came in. -/
def ArgU (w : World) (a : Option Addr) (l : List Nat) : Prop := ∀ (i : Nat) (x : Nat), l[i]? = some x → x < 65536 ∧ ∃ b off, a = some ⟨b, off, none⟩ ∧ b < w.heap.size ∧ w.cell? ⟨b, off + i, none⟩ = some (.int .u16 (x : Int))
theorem ArgU.below {w w' : World} {a : Option Addr} {l : List Nat} (h : ArgU w a l) (b : Below w.heap.size w w') : ArgU w' a l := by
  intro i x hx
  obtain ⟨h0, b0, off, h1, h2, h3⟩ := h i x hx
  exact ⟨h0, b0, off, h1, Nat.lt_of_lt_of_le h2 b.size, by rw [b.cell (p := ⟨b0, off + i, none⟩) h2]; exact h3⟩

/-- While symbols are written: the writer, and the row of what was written; W0: the world ahead of the writer. -/
structure BackW (w W0 : World) (p : Nat) (v u : Value) (ls wrote : List Nat) : Prop where
  wr : Wr w p v (bitsOf ls wrote)
  own : w.ownsRow W0.heap.size 3 1 u wrote.length (natCs wrote)
  bel : Below W0.heap.size W0 w
  vlo : ∀ k, v.ownBlock = some k → W0.heap.size ≤ k
  up : u.ownBlock ≠ some p
  vu : Apart v u
  pe : W0.heap.size = p
  pl : p < w.heap.size

theorem BackW.turned {w w' W0 : World} {p : Nat} {v v' u : Value} {ls wrote : List Nat} {bs : List Bool} (h : BackW w W0 p v u ls wrote) (_hw : Wr w' p v' bs) (s : Step p v v' w w') :
    w'.ownsRow W0.heap.size 3 1 u wrote.length (natCs wrote) ∧ Below W0.heap.size W0 w' ∧ (∀ k, v'.ownBlock = some k → W0.heap.size ≤ k) ∧ Apart v' u ∧ p < w'.heap.size := by
  have hb := h.bel.size
  have hpe := h.pe
  refine ⟨⟨h.own.1, ?_⟩, ⟨s.os.trans h.bel.os, s.tape.trans h.bel.tape, s.output.trans h.bel.output, Nat.le_trans hb s.size, fun k hk => ?_⟩, fun k hk => ?_, fun k hk hu => ?_, Nat.lt_of_lt_of_le h.pl s.size⟩
  · rcases h.own.2 with h2 | ⟨g, cap, cur, hv, hb2, hg, r⟩
    · exact .inl h2
    · have hgl : g < w.heap.size := (Array.getElem?_eq_some_iff.1 hg).1
      refine .inr ⟨g, cap, cur, hv, hb2, ?_, r⟩
      rw [s.block g hgl (fun e => h.up (by rw [hv, e]; rfl)) (fun e => h.vu g e.symm (by rw [hv]; rfl))]
      exact hg
  · rw [s.block k (by omega) (by omega) (fun e => by have := h.vlo k e.symm; omega)]
    exact h.bel.block k hk
  · rcases s.own with e | e
    · rw [e] at hk; exact h.vlo k hk
    · have := e k hk; omega
  · have hkl := (h.own.lt k hu).2
    rcases s.own with e | e
    · rw [e] at hk; exact h.vu k hk hu
    · have := e k hk; omega

theorem WrAt.far {w w' : World} {p : Nat} {v : Value} {out : List UInt8} {N : Nat} (h : WrAt w p v out N) (hb : w'.heap[p]? = w.heap[p]?) (hv : ∀ k, v.ownBlock = some k → w'.heap[k]? = w.heap[k]?) : WrAt w' p v out N := by
  refine ⟨by rw [hb]; exact h.box, ⟨h.own.1, ?_⟩, h.ne⟩
  rcases h.own.2 with h2 | ⟨g, cap, cur, e, hb2, hg, r⟩
  · exact .inl h2
  · exact .inr ⟨g, cap, cur, e, hb2, by rw [hv g (by rw [e]; rfl)]; exact hg, r⟩

theorem BackW.next {w w1 w2 W0 : World} {p n : Nat} {v v' u u' : Value} {ls wrote : List Nat} {o : Obj} (h : BackW w W0 p v u ls wrote) (hw : Wr w1 p v' (bitsOf ls (wrote ++ [n]))) (s : Step p v v' w w1)
    (ho : w2.ownsRow W0.heap.size 3 1 u' (wrote.length + 1) (natCs wrote ++ [.int .i64 (n : Int)])) (hg : (w1.alloc o).grownBy w2 u.ownBlock) (hf : u'.ownBlock = u.ownBlock ∨ ∀ k, u'.ownBlock = some k → (w1.alloc o).heap.size ≤ k) :
    BackW w2 W0 p v' u' ls (wrote ++ [n]) := by
  obtain ⟨t1, t2, t3, t4, t5⟩ := h.turned hw s
  have hsa : w1.heap.size < (w1.alloc o).heap.size := by show _ < (w1.heap.push _).size; simp
  have hpl2 : p < (w1.alloc o).heap.size := by omega
  obtain ⟨out, hat, hpk⟩ := hw
  have hw2 : WrAt w2 p v' out (bitsOf ls (wrote ++ [n])).length := by
    refine hat.far ?_ (fun k hk => ?_)
    · rw [hg.block p hpl2 (fun e => h.up e.symm), heap_alloc_old _ _ _ t5]
    · have hkl := (hat.own.lt k hk).2
      rw [hg.block k (by omega) (fun e => t4 k hk e.symm), heap_alloc_old _ _ _ hkl]
  refine ⟨⟨out, hw2, hpk⟩, ?_, Below.grownB (t2.alloc t2.size o) hg (t1.alloc o) (by have := t2.size; omega), t3, ?_, ?_, h.pe, Nat.lt_of_lt_of_le hpl2 hg.size⟩
  · rw [List.length_append, ← natCs_append]
    exact ho
  · intro e
    rcases hf with e2 | e2
    · exact h.up (by rw [← e2]; exact e)
    · have := e2 p e; omega
  · intro k hk hu
    have hkl := (hat.own.lt k hk).2
    rcases hf with e2 | e2
    · rw [e2] at hu; exact t4 k hk hu
    · have := e2 k hu; omega

set_option maxRecDepth 40000 in
set_option maxHeartbeats 4000000 in
theorem cback_walk (l : List Int) (pk : List Nat) (a b : Option Addr) (cap cb : Nat) (W : World) (harg : ArgZ W a l) (hpk : ArgU W b pk) :
    Calls Try.prog 5 #[.slice a l.length cap, .slice b pk.length cb] W fun e w' => e = .returned (.bool true) ∧ Below W.heap.size W w' := by
  have HA := hide harg
  have HPK := hide hpk
  have hv := Try.zeroCode
  have hZn := codeCs_length (fun _ => 0) (.slice none 0 0)
  generalize codeCs (fun _ => 0) (.slice none 0 0) = Z at hv hZn
  clear harg hpk
  by_cases h1 : 600 < l.length
  · have z1 : (600 : Int) < l.length := by omega
    go_enter Try.func5, Try.ntmps5
    go_wp2_with fail
    refine (kawake_any _).mono ?_
    rintro e w1 ⟨rfl, b1⟩
    have B1 := hide b1
    clear b1
    go_wp2
    go_ret
    exact ⟨rfl, B1.out⟩
  have z1 : ¬ (600 : Int) < l.length := by omega
  by_cases h2 : 200 < pk.length
  · have z2 : (200 : Int) < pk.length := by omega
    go_enter Try.func5, Try.ntmps5
    go_wp2_with fail
    refine (kawake_any _).mono ?_
    rintro e w1 ⟨rfl, b1⟩
    have B1 := hide b1
    clear b1
    go_wp2
    go_ret
    exact ⟨rfl, B1.out⟩
  have z2 : ¬ (200 : Int) < pk.length := by omega
  have HL := hide (show l.length ≤ 600 by omega)
  have HPL := hide (show pk.length ≤ 200 by omega)
  have HC := hide (check_any l a cap W HA.out (by omega))
  by_cases hg : goodB l = true
  · rw [chkI_good hg] at HC
    have HG := hide hg
    obtain ⟨hE, hM⟩ := (goodB_iff l).1 hg
    have HM := hide hM
    have HARGW := hide (HA.out.nat15 hE)
    clear hg hE hM
    go_enter Try.func5, Try.ntmps5
    go_wp2_with fail
    refine HC.out.mono ?_
    rintro e w1 ⟨rfl, HB1⟩
    clear HC
    go_wp2_with fail
    refine (codes_any l a cap w1 (HA.out.below HB1.out) (by have := HL.out; omega)).mono ?_
    rintro e w2 ⟨r, rfl, hr, b2⟩
    obtain ⟨v2, rfl, o2⟩ := codes_good hr HG.out
    have hcl : (codesL (l.map Int.toNat)).length = l.length := by rw [codesL_length, List.length_map]
    obtain ⟨ac, cc, rfl, hac⟩ := arg_form o2 hcl
    have HB2 := hide (HB1.out.trans (b2.mono HB1.out.size))
    have HAC := hide hac
    clear hr b2 o2 hac
    go_wp2_with fail
    refine (build_any l a cap w2 (HA.out.below HB2.out) (by have := HL.out; omega)).mono ?_
    rintro e w3 ⟨r, rfl, hr, b3⟩
    obtain ⟨a3, c3, m, rfl, hm, o3⟩ := build_good hr HG.out
    have hsy := own_arg o3 hm
    have hown := own_blocks o3
    obtain ⟨ls, hls⟩ : ∃ ls, l.map Int.toNat = ls := ⟨_, rfl⟩
    have HLL := hide (show ls.length = l.length by rw [← hls, List.length_map])
    rw [hls] at hsy hm HM HARGW HAC
    simp only [hls]
    have h17 := codeCs_length (cn ls) (.slice a3 m c3)
    have hst := code_store w3 Z (codeCs (cn ls) (.slice a3 m c3)) hZn h17 (codeCs_one _ _ rfl)
    have HRE := hide (fun (w : World) (p i : Nat) (s : ByteArray) (hs : s.size ≤ 1000000) (hA : ArgN w a3 (symTo ls 16)) (hp : ∀ b off, a3 = some ⟨b, off, none⟩ → b ≠ p) (hR : RdAt 38 w p s i false) (hi : i ≤ 8 * s.size) => read_any ls a3 c3 m p s i w hm hA hp (by rw [HLL.out]; have := HL.out; omega) hR hi hs)
    unfold codeV at HRE ⊢
    have b3' : Below w2.heap.size w2 (w3.alloc (.cells (codeCs (cn ls) (.slice a3 m c3)).toArray 29)) := b3.alloc b3.size _
    have HB4 := hide (HB2.out.trans (b3'.mono HB2.out.size))
    have HAC4 := hide (HAC.out.below b3' (Nat.le_refl _))
    have HSY4 := hide (hsy.below ((Below.refl w3.heap.size w3).alloc (Nat.le_refl _) (.cells (codeCs (cn ls) (.slice a3 m c3)).toArray 29)) (Nat.le_refl _))
    have HX4 := hide (heap_alloc_at w3 (.cells (codeCs (cn ls) (.slice a3 m c3)).toArray 29) rfl)
    have HOW := hide (show (∀ b off, a3 = some ⟨b, off, none⟩ → b < w3.heap.size + 1) ∧ w3.heap.size + 1 = (w3.alloc (.cells (codeCs (cn ls) (.slice a3 m c3)).toArray 29)).heap.size from ⟨fun b off e => by have := hown b off e; omega, by show _ = (w3.heap.push _).size; simp⟩)
    have HN17 := hide h17
    clear hr b3 b3' o3 hsy hm hown HAC HB2
    generalize codeCs (cn ls) (.slice a3 m c3) = cs at *
    have hcn : ((l.length : Int) == (l.length : Int)) = true := by simp
    go_wp2
    clear hst h17
    obtain ⟨P, hP⟩ : ∃ P, w3.heap.size = P := ⟨_, rfl⟩
    rw [hP] at HX4 HOW
    simp only [hP]
    clear hP
    generalize hw4 : w3.alloc (.cells cs.toArray 29) = w4 at *
    clear hw4
    obtain ⟨n, hn⟩ : ∃ n, l.length = n := ⟨_, rfl⟩
    rw [hn] at HLL HL
    simp only [hn]
    clear hn z1 h1 hcn
    obtain ⟨i0, hi, hz0, hz1, hz2⟩ := info_parts Try.infoInt
    have O0 : Hid (w4.ownsRow w4.heap.size 3 1 (.slice none 0 0) (someL ls 0).length (natCs (someL ls 0))) := hide (World.ownsRow_nil _ _ _ _)
    have B0 := hide (Below.refl w4.heap.size w4)
    have hn6 := HL.out
    go_loopw [9, 11] (fun sv iv wr => ∃ j : Nat, j ≤ n ∧ iv = .int .i64 j ∧ Hid (wr.ownsRow w4.heap.size 3 1 sv (someL ls j).length (natCs (someL ls j))) ∧ Hid (Below w4.heap.size w4 wr)) (fun _ iv _ => n - (intOf iv).toNat)
    case atStart => exact ⟨0, Nat.zero_le _, rfl, O0, B0⟩
    case round =>
      clear O0 B0
      obtain ⟨j, hj, rfl, HO, HB⟩ := hrel
      have HBW := hide (HB4.out.trans (HB.out.mono HB4.out.size))
      by_cases hlt : j < n
      · have hjl : j < ls.length := by rw [HLL.out]; exact hlt
        obtain ⟨bx, off, rfl, hb, hc⟩ := HARGW.out j _ (getD_some ls j hjl)
        have _c := (HBW.out.cell (p := ⟨bx, off + j, none⟩) hb).trans hc
        have zj : (j : Int) < n := by omega
        have HSU := hide (someL_succ ls j)
        by_cases hz : ls.getD j 0 = 0
        · rw [if_pos hz, List.append_nil] at HSU
          rw [hz] at _c
          clear hc
          go_wp2
          go_roundw
          case rel => exact ⟨j + 1, hlt, by go_num, by rw [HSU.out]; exact HO, HB⟩
          case measure => exact meas_oneW j n hlt
        · rw [if_neg hz] at HSU
          have zz : (0 : Int) < (ls.getD j 0 : Nat) := by omega
          have hle := someL_len ls j
          have X1 := hide (show (someL ls j).length + 1 ≤ maxLen by unfold maxLen; omega)
          have X2 := hide (show ((someL ls j).length + 1) * 8 ≤ 140737488355328 by omega)
          generalize ls.getD j 0 = z at *
          clear hc hle
          go_wp2_with (first
            | (at_builtin; refine wpList_append_fresh _ rfl _ _ 22 rfl w4.heap.size 3 i0 (.int .i64 0) 1 8 Try.underlying22 hi hz0 hz1 hz2 rfl (by decide) u9 _ _ rfl (HO.out.alloc _) ⟨wr.heap.size, 0, none⟩ 1 1 [.int .i64 (j : Int)] rfl rfl (cell_one_new _ _ _) (one_int _) X1.out X2.out (size_alloc_le HB.out.size) ?_; intro v1 w1x o1 g1 f1; have HO1 := hide o1; have HB1x := hide (Below.grownB (HB.out.alloc HB.out.size _) g1 (HO.out.alloc _) (size_alloc_le HB.out.size)); clear o1 g1 f1))
          go_roundw
          case rel => exact ⟨j + 1, hlt, by go_num, by rw [HSU.out, List.length_append]; have h := HO1.out; rw [show [Value.int .i64 (j : Int)] = natCs [j] from rfl, natCs_append] at h; exact h, HB1x⟩
          case measure => exact meas_oneW j n hlt
      · have hje : j = n := by omega
        obtain rfl : n = j := hje.symm
        obtain ⟨k, hk⟩ : ∃ k, (someL ls n).length = k := ⟨_, rfl⟩
        rw [hk] at HO
        obtain ⟨aS, c9, rfl, has⟩ := arg_form HO.out hk
        have HK := hide hk
        have hkn : k ≤ 600 := by have := someL_len ls n; omega
        have HAS := hide has
        clear hk has
        by_cases hk0 : k = 0
        · subst hk0
          go_wp2_with fail
          refine (kawake_any _).mono ?_
          rintro e w6 ⟨rfl, b6⟩
          have B6 := hide (HBW.out.trans (b6.mono HBW.out.size))
          clear b6
          go_wp2
          go_ret
          exact ⟨rfl, B6.out⟩
        · have zk : ((k : Int) == 0) = false := by simp; omega
          have HW0 := hide (show BackW (wr.alloc (.cells #[.slice none 0 0, .int .i64 0] 48)) wr wr.heap.size (.slice none 0 0) (.slice none 0 0) ls [] from
            ⟨⟨[], ⟨heap_alloc_at _ _ rfl, World.ownsRow_nil _ _ _ _, (fun e => (by cases e))⟩, Packs.nil⟩, World.ownsRow_nil _ _ _ _, (Below.refl _ wr).alloc (Nat.le_refl _) _, (fun k hk => (by cases hk)), (fun e => (by cases e)), Apart.nil _, rfl, (by show _ < (wr.heap.push _).size; simp)⟩)
          have HPK5 := hide (HPK.out.below HBW.out)
          have HARG5 := hide (HARGW.out.below HBW.out (Nat.le_refl _))
          have HAC5 := hide (HAC4.out.below HB.out (Nat.le_refl _))
          have HSY5 := hide (HSY4.out.below HB.out (Nat.le_refl _))
          have HX5 := hide (block_below HX4.out HB.out)
          have HOW5 := hide (show ∀ b off, a3 = some ⟨b, off, none⟩ → b < wr.heap.size from fun b off e => by have h1 := HOW.out.1 b off e; have h2 := HOW.out.2; have h3 := HB.out.size; omega)
          have HP5 := hide (show P < wr.heap.size from (Array.getElem?_eq_some_iff.1 HX5.out).1)
          clear HO HB HAC4 HSY4 HX4 HOW HB4 HARGW HPK hlt hj
          go_wp2
          rename World => w5
          obtain ⟨p, hp⟩ : ∃ p, w5.heap.size = p := ⟨_, rfl⟩
          have HWP := hide hp
          rw [hp] at HW0
          simp only [hp]
          clear hp
          generalize hw6 : w5.alloc (.cells #[.slice none 0 0, .int .i64 0] 48) = w6 at *
          clear hw6
          have hpl2 := HPL.out
          go_loopw [10, 13, 14] (fun uv iv _ wr => ∃ (j : Nat) (wrote : List Nat) (v : Value), j ≤ pk.length ∧ iv = .int .i64 j ∧ Hid (BackW wr w5 p v uv ls wrote) ∧ Hid (wrote.length = j) ∧ Hid (∀ x ∈ wrote, x < n ∧ ls.getD x 0 ≠ 0)) (fun _ iv _ _ => pk.length - (intOf iv).toNat)
          case atStart => exact ⟨0, [], .slice none 0 0, Nat.zero_le _, rfl, HW0, hide rfl, hide (fun x hx => by cases hx)⟩
          case round =>
            clear HW0
            obtain ⟨j, wrote, v, hj, rfl, HW, HWL, HWA⟩ := hrel
            by_cases hlt : j < pk.length
            · obtain ⟨hx16, bp, offp, e1, hbp, hcp⟩ := HPK5.out j _ (getD_some pk j hlt)
              subst e1
              have _c1 := (HW.out.bel.cell (p := ⟨bp, offp + j, none⟩) hbp).trans hcp
              generalize pk.getD j 0 = x at *
              have hrem := rem_nat x k (by omega)
              have hrk : x % k < k := Nat.mod_lt _ (by omega)
              generalize x % k = r at *
              have hrS : r < (someL ls n).length := by rw [HK.out]; exact hrk
              obtain ⟨bs1, offs1, e2, hbs1, hcs1⟩ := HAS.out r _ (getD_some (someL ls n) r hrS)
              subst e2
              have _c2 := (HW.out.bel.cell (p := ⟨bs1, offs1 + r, none⟩) hbs1).trans hcs1
              obtain ⟨hnn, hnz⟩ := (someL_mem ls n _).1 (List.mem_of_getElem? (getD_some (someL ls n) r hrS))
              generalize (someL ls n).getD r 0 = q at *
              have hql : q < ls.length := by rw [HLL.out]; exact hnn
              have hcq : (codesL ls)[q]? = some (codeN ls q) := by unfold codesL; rw [List.getElem?_map, List.getElem?_range hql]; rfl
              obtain ⟨bc, offc, e3, hbc, hcc⟩ := HAC5.out q _ hcq
              subst e3
              have _c3 := (HW.out.bel.cell (p := ⟨bc, offc + q, none⟩) hbc).trans hcc
              obtain ⟨bl, offl, e4, hbl, hcl2⟩ := HARG5.out q _ (getD_some ls q hql)
              subst e4
              have _c4 := (HW.out.bel.cell (p := ⟨bl, offl + q, none⟩) hbl).trans hcl2
              have hl15 : ls.getD q 0 ≤ 15 := HM.out.each _ (List.mem_of_getElem? (getD_some ls q hql))
              have hblen : (bitsOf ls wrote).length ≤ 900000000000 := by
                have h1 := bitsOf_len ls HM.out.each wrote (fun y hy => by rw [HLL.out]; exact (HWA.out y hy).1)
                have h2 := HWL.out
                omega
              have htk : takenI ((ls.getD q 0 : Nat) : Int) = ((ls.getD q 0 : Nat) : Int) := by unfold takenI; rw [if_neg (by omega), if_neg (by omega)]
              obtain ⟨out0, hat0, hpk0⟩ := HW.out.wr
              have HCT := hide (fun (wd : World) (hwd : Wr wd p v (bitsOf ls wrote)) => wturn_any p v (bitsOf ls wrote) (codeN ls q : Int) ((ls.getD q 0 : Nat) : Int) wd (ls.getD q 0) htk hwd hblen)
              rw [← bitsOf_snoc] at HCT
              have HWD := hide (show Wr wr.drew p v (bitsOf ls wrote) from ⟨out0, ⟨hat0.box, hat0.own, hat0.ne⟩, hpk0⟩)
              have hsz5 := HW.out.bel.size
              have hb1 : bc ≠ p := by have := HWP.out; omega
              have hb2 : bl ≠ p := by have := HWP.out; omega
              have hb3 : ∀ kk, v.ownBlock = some kk → kk ≠ bc ∧ kk ≠ bl := fun kk hkk => by have := HW.out.vlo kk hkk; omega
              have HB3 := hide hb3
              have hbc2 : bc < wr.heap.size := by omega
              have hbl2 : bl < wr.heap.size := by omega
              have HQA := hide (show ∀ x ∈ wrote ++ [q], x < n ∧ ls.getD x 0 ≠ 0 from fun x hx => by
                rcases List.mem_append.1 hx with e | e
                · exact HWA.out x e
                · rw [List.mem_singleton.1 e]; exact ⟨hnn, hnz⟩)
              have zj : (j : Int) < pk.length := by omega
              have zr : (r : Int) < k := by omega
              have zq : (q : Int) < n := by omega
              clear hcp hcs1 hcc hcl2 hcq hat0 hpk0 hnz htk hblen hrS hql
              generalize codeN ls q = cq at *
              generalize ls.getD q 0 = lq at *
              have hw16 : IntKind.i64.wrap (x : Int) = (x : Int) := by rw [IntKind.wrap_i64]; omega
              go_wp2_with fail
              go_region_held3 (fun w' => w'.cell? ⟨bc, offc + q, none⟩ = some (.int .i64 (cq : Int)) ∧ w'.cell? ⟨bl, offl + q, none⟩ = some (.int .i64 (lq : Int))) (go_keep) (first
                | (go_at_call 20; refine (HCT.out _ HWD.out).mono ?_; rintro e w7 ⟨rfl, v7, hw7, s7⟩; have hs7 : Step p v v7 wr w7 := ⟨s7.os, s7.tape, s7.output, s7.size, s7.block, s7.own⟩; have k1 : w7.cell? ⟨bc, offc + q, none⟩ = some (.int .i64 (cq : Int)) := (World.cell?_of_block (a := ⟨bc, offc + q, none⟩) (hs7.block bc hbc2 hb1 (fun e => (HB3.out bc e.symm).1 rfl))).trans _c3; have k2 : w7.cell? ⟨bl, offl + q, none⟩ = some (.int .i64 (lq : Int)) := (World.cell?_of_block (a := ⟨bl, offl + q, none⟩) (hs7.block bl hbl2 hb2 (fun e => (HB3.out bl e.symm).2 rfl))).trans _c4; have HW7 := hide hw7; have HS7 := hide hs7; clear hw7 s7 hs7))
              have HT := hide (HW.out.turned HW7.out HS7.out)
              have hwl := HWL.out
              have HO7 := hide HT.out.1
              rw [hwl] at HO7
              have X1 := hide (show j + 1 ≤ maxLen by unfold maxLen; omega)
              have X2 := hide (show (j + 1) * 8 ≤ 140737488355328 by omega)
              have HB7 := hide (show w5.heap.size ≤ w7.heap.size from HT.out.2.1.size)
              clear hwl k1 k2 _c1 _c2 _c3 _c4
              go_wp2_with (first
                | (at_builtin; refine wpList_append_fresh _ rfl _ _ 22 rfl w5.heap.size 3 i0 (.int .i64 0) 1 8 Try.underlying22 hi hz0 hz1 hz2 rfl (by decide) u10 _ _ rfl (HO7.out.alloc _) ⟨w7.heap.size, 0, none⟩ 1 1 [.int .i64 (q : Int)] rfl rfl (cell_one_new _ _ _) (one_int _) X1.out X2.out (size_alloc_le HB7.out) ?_; intro v8 w8 o8 g8 f8; rw [← HWL.out] at o8; have HN8 := hide (HW.out.next HW7.out HS7.out o8 g8 f8); clear o8 g8 f8))
              go_roundw
              case rel => exact ⟨j + 1, wrote ++ [q], v7, hlt, by go_num, HN8, hide (by rw [List.length_append, HWL.out]; rfl), HQA⟩
              case measure => exact meas_oneW j pk.length hlt
            · have hje : j = pk.length := by omega
              have HJE := hide hje
              have HB8 := hide HW.out.bel
              have HWB := hide HW.out.wr
              have zj : ¬ (j : Int) < pk.length := by omega
              have hj200 : j ≤ 200 := by omega
              have hwo := HW.out.own
              rw [HWL.out] at hwo
              obtain ⟨au, cu, rfl, haw⟩ := arg_form hwo HWL.out
              have haub := own_blocks hwo
              obtain ⟨out1, hat1, _⟩ := HW.out.wr
              have hN := hat1.c1
              have hpl := HW.out.pl
              have hblen : (bitsOf ls wrote).length ≤ 3000 := by
                have h1 := bitsOf_len ls HM.out.each wrote (fun y hy => by rw [HLL.out]; exact (HWA.out y hy).1)
                have h2 := HWL.out
                omega
              have HBL := hide hblen
              clear hje hlt hj hat1 hblen
              go_wp2_with fail
              refine (wbytes_any p v (bitsOf ls wrote) wr HWB.out).mono ?_
              rintro e w9 ⟨⟨out, rfl, hpk⟩, rfl⟩
              have HPKS := hide hpk
              have b10 : Below wr.heap.size wr (wr.alloc (.cells #[.string ⟨out.toArray⟩, .int .i64 0, .bool false] 38)) := (Below.refl _ wr).alloc (Nat.le_refl _) _
              have hsz5 := HB8.out.size
              have HSY10 := hide ((HSY5.out.below HB8.out (Nat.le_refl _)).below b10 (Nat.le_refl _))
              have HX10 := hide (block_below (block_below HX5.out HB8.out) b10)
              have HAW10 := hide (haw.below b10 (Nat.le_refl _))
              have HN10 := hide ((b10.cell (p := ⟨p, 1, none⟩) hpl).trans hN)
              have HNE10 := hide (show (∀ b off, a3 = some ⟨b, off, none⟩ → b ≠ wr.heap.size) ∧ P ≠ wr.heap.size ∧ (∀ b off, au = some ⟨b, off, none⟩ → b ≠ wr.heap.size) ∧ p ≠ wr.heap.size from
                ⟨fun b off e => by have := HOW5.out b off e; omega, by have := HP5.out; omega, fun b off e => by have := haub b off e; omega, by omega⟩)
              have HRD10 := hide (show RdAt 38 (wr.alloc (.cells #[.string ⟨out.toArray⟩, .int .i64 0, .bool false] 38)) wr.heap.size ⟨out.toArray⟩ 0 false from heap_alloc_at _ _ rfl)
              have HBW10 := hide ((HBW.out.trans (HB8.out.mono HBW.out.size)).alloc (by have := HBW.out.size; omega) (.cells #[.string ⟨out.toArray⟩, .int .i64 0, .bool false] 38))
              have HLO := hide (show W.heap.size ≤ wr.heap.size by have := HBW.out.size; omega)
              have hos : (ByteArray.mk out.toArray).size = out.length := by show out.toArray.size = _; simp
              have HOS := hide (show (ByteArray.mk out.toArray).size ≤ 1000000 ∧ (bitsOf ls wrote).length ≤ 8 * (ByteArray.mk out.toArray).size by rw [hos]; have := HPKS.out.len; have := HBL.out; omega)
              clear hpk b10 hwo haw haub hN hpl hos
              go_wp2
              obtain ⟨qq, hqq⟩ : ∃ qq, wr.heap.size = qq := ⟨_, rfl⟩
              rw [hqq] at HNE10 HRD10 HLO
              simp only [hqq]
              clear hqq
              generalize hw10 : wr.alloc (.cells #[.string ⟨out.toArray⟩, .int .i64 0, .bool false] 38) = w10 at *
              clear hw10
              have HSZ := hide (show (Try.prog.info? 29).map (·.size) = some cs.length by rw [HN17.out]; exact Try.sizeCode)
              have HU := hide Try.underlying29
              go_loopw [16] (fun iv wr => ∃ t : Nat, t ≤ j ∧ iv = .int .i64 t ∧ Hid (Turn qq w10 wr) ∧ Hid (RdAt 38 wr qq ⟨out.toArray⟩ (bitsOf ls (wrote.take t)).length false)) (fun iv _ => j - (intOf iv).toNat)
              case atStart => exact ⟨0, Nat.zero_le _, rfl, hide (Turn.refl _ _), HRD10⟩
              case round =>
                clear HRD10
                obtain ⟨t, ht, rfl, HT, HR⟩ := hrel
                by_cases htj : t < j
                · have htl : t < wrote.length := by rw [HWL.out]; exact htj
                  obtain ⟨hwn, hwz⟩ := HWA.out _ (List.mem_of_getElem? (getD_some wrote t htl))
                  have HRB := hide (fun (x : Int) (u : Nat) (bad : Bool) h => read_back (x := x) (u := u) (bad := bad) HM.out HPKS.out t _ (getD_some wrote t htl) (by rw [HLL.out]; exact hwn) hwz h)
                  obtain ⟨bw, offw, e5, hbw, hcw⟩ := HAW10.out t _ (getD_some wrote t htl)
                  subst e5
                  have hb0 : bw ≠ qq := HNE10.out.2.2.1 bw offw rfl
                  have HCW := hide (fun (wd : World) (hwd : Turn qq w10 wd) => (World.cell?_of_block (a := ⟨bw, offw + t, none⟩) (hwd.block bw hbw hb0)).trans hcw)
                  have hrg := code_range (block_turn HX10.out HT.out HNE10.out.2.1)
                  have hpos : (bitsOf ls (wrote.take t)).length ≤ 8 * (ByteArray.mk out.toArray).size := by
                    have e6 : wrote = wrote.take t ++ wrote.drop t := (List.take_append_drop _ _).symm
                    have e7 := congrArg (fun z => (bitsOf ls z).length) e6
                    rw [bitsOf_append, List.length_append] at e7
                    have := HOS.out.2
                    omega
                  have HPOS := hide hpos
                  have zt : (t : Int) < j := by omega
                  clear hpos hwn hwz htl
                  generalize wrote.getD t 0 = wn at *
                  have hcw2 := HCW.out wr HT.out
                  have HRE2 := hide (fun wd hA hR => HRE.out wd qq (bitsOf ls (wrote.take t)).length ⟨out.toArray⟩ HOS.out.1 hA HNE10.out.1 hR HPOS.out)
                  clear hcw
                  go_wp2_with fail
                  have hu := HU.out
                  have hi := HSZ.out
                  refine wp_region_noPanic ?_
                  refine wp_region_held_drew (S := (fun w' => w'.rangeAt P 0 cs ∧ w'.cell? ⟨bw, offw + t, none⟩ = some (.int .i64 (wn : Int)))) (by kernel_rfl) ?_ (fun hHeld => ?_)
                  · exact ⟨(World.rangeAt_drew _ _ _ _).2 hrg, hcw2⟩
                  refine wpAnyH_take (i := 0) (oi := _) (v := ?_) rfl (by kernel_rfl) (by kernel_rfl) (by kernel_rfl) (fun _ _ _ h => h) (Or.inl ⟨by rfl, ?_⟩) hHeld ?_
                  rotate_left
                  · (intro w hSw; (try dsimp only at hSw); go_simp; try with_reducible rfl)
                  (try simp only [Act.put, List.getElem_toArray, List.getElem_cons_zero, List.setIfInBounds_toArray, List.set_cons_zero, List.set_cons_succ])
                  refine wpAnyH_take (i := 3) (oi := _) (v := ?_) rfl (by kernel_rfl) (by kernel_rfl) (by kernel_rfl) (fun _ _ _ h => h) (Or.inl ⟨by rfl, ?_⟩) hHeld ?_
                  rotate_left
                  · (intro w hSw; (try dsimp only at hSw); go_simp; try with_reducible rfl)
                  (try simp only [Act.put, List.getElem_toArray, List.getElem_cons_zero, List.getElem_cons_succ, List.setIfInBounds_toArray, List.set_cons_zero, List.set_cons_succ])
                  refine wpAnyH_take (i := 4) (oi := _) (v := ?_) rfl (by kernel_rfl) (by kernel_rfl) (by kernel_rfl) (fun _ _ _ h => h) (Or.inl ⟨by rfl, ?_⟩) hHeld ?_
                  rotate_left
                  · (intro w hSw; (try dsimp only at hSw); go_simp; try with_reducible rfl)
                  (try simp only [Act.put, List.getElem_toArray, List.getElem_cons_zero, List.getElem_cons_succ, List.setIfInBounds_toArray, List.set_cons_zero, List.set_cons_succ])
                  refine wpAnyH_take (i := 5) (oi := _) (v := ?_) rfl (by kernel_rfl) (by kernel_rfl) (by kernel_rfl) (fun _ _ _ h => h) (Or.inl ⟨by rfl, ?_⟩) hHeld ?_
                  rotate_left
                  · (intro w hSw; (try dsimp only at hSw); go_simp; try with_reducible rfl)
                  (try simp only [Act.put, List.getElem_toArray, List.getElem_cons_zero, List.getElem_cons_succ, List.setIfInBounds_toArray, List.set_cons_zero, List.set_cons_succ])
                  refine wpAnyH_take (i := 6) (oi := _) (v := ?_) rfl (by kernel_rfl) (by kernel_rfl) (by kernel_rfl) (fun _ _ _ h => h) (Or.inl ⟨by rfl, ?_⟩) hHeld ?_
                  rotate_left
                  · (intro w hSw; (try dsimp only at hSw); go_simp; try with_reducible rfl)
                  (try simp only [Act.put, List.getElem_toArray, List.getElem_cons_zero, List.getElem_cons_succ, List.setIfInBounds_toArray, List.set_cons_zero, List.set_cons_succ])
                  refine wpAnyH_take (i := 1) (oi := _) (v := _) rfl (by kernel_rfl) (by kernel_rfl) (by kernel_rfl) (fun _ _ _ h => h) (yieldsIf_load_mid (by rfl) _ _ rfl _ _ rfl cs _ (fun _ h => h.1) hu rfl hi) hHeld ?_
                  (try simp only [Act.put, List.getElem_toArray, List.getElem_cons_zero, List.getElem_cons_succ, List.setIfInBounds_toArray, List.set_cons_zero, List.set_cons_succ])
                  refine wpAnyH_ready (rs := [2]) (by kernel_rfl) (by simp) ?_
                  refine AllReadyH.cons rfl (fun K hK => ?_) AllReadyH.nil
                  go_simp
                  refine (HRE2.out _ (HSY10.out.turn HT.out.drew HNE10.out.1) HR.out).mono ?_
                  rintro e x1 ⟨x, u, bad, rfl, HX, HR1, HT1⟩
                  obtain ⟨rfl, hu2, rfl, hu3⟩ := HRB.out x u bad HX.out
                  have ht1 : Turn qq w10 x1 := HT.out.drew.trans HT1.out
                  have HT2 := hide ht1
                  have HR2 := hide HR1.out
                  rw [hu3] at HR2
                  have r := And.intro (code_range (block_turn HX10.out ht1 HNE10.out.2.1)) (HCW.out x1 ht1)
                  clear HX HR1 HT1 ht1 hu2 hu3
                  go_wp2_with fail
                  refine hK.out _ _ ?_ (fun hNext => ?_)
                  · exact r
                  clear hK K hHeld
                  have hHeld := hNext
                  clear hNext
                  (try simp only [Act.put, List.getElem_toArray, List.getElem_cons_zero, List.getElem_cons_succ, List.setIfInBounds_toArray, List.set_cons_zero, List.set_cons_succ])
                  clear r
                  refine wpAnyH_take (i := 7) (oi := _) (v := ?_) rfl (by kernel_rfl) (by kernel_rfl) (by kernel_rfl) (fun _ _ _ h => h) (Or.inl ⟨by rfl, ?_⟩) hHeld ?_
                  rotate_left
                  · (intro w hSw; (try dsimp only at hSw); go_simp; try with_reducible rfl)
                  (try simp only [Act.put, List.getElem_toArray, List.getElem_cons_zero, List.getElem_cons_succ, List.setIfInBounds_toArray, List.set_cons_zero, List.set_cons_succ])
                  refine wpAnyH_done (by kernel_rfl) ?_ _
                  refine NoPanic.normal ?_
                  clear hrg hcw2 hHeld hu hi
                  go_wp2
                  go_roundw
                  case rel => exact ⟨t + 1, htj, by go_num, HT2, HR2⟩
                  case measure => exact meas_oneW t j htj
                · have hte : t = j := by omega
                  subst hte
                  have hall : wrote.take t = wrote := List.take_of_length_le (by rw [HWL.out]; exact Nat.le_refl _)
                  rw [hall] at HR
                  have hr1 := HR.out.c1
                  have hqlt : qq < wr.heap.size := (Array.getElem?_eq_some_iff.1 (show wr.heap[qq]? = some _ from HR.out)).1
                  have hN2 := (World.cell?_of_block (a := ⟨p, 1, none⟩) (HT.out.block p (World.block_lt_of_cell? w10 _ HN10.out) HNE10.out.2.2.2)).trans HN10.out
                  have hplt := World.block_lt_of_cell? wr _ hN2
                  have HB12 := hide (Turn.below HBW10.out HT.out HLO.out HBW10.out.size)
                  have hnu : Nonempty (Since0 wr) := ⟨⟨wr, Below.refl _ _⟩⟩
                  have l1 : ∀ u : Since0 wr, u.1.cell? ⟨qq, 1, none⟩ = some (.int .i64 ((bitsOf ls wrote).length : Nat)) := fun u => (u.cell (p := ⟨qq, 1, none⟩) hqlt).trans hr1
                  have l2 : ∀ u : Since0 wr, u.1.cell? ⟨p, 1, none⟩ = some (.int .i64 ((bitsOf ls wrote).length : Nat)) := fun u => (u.cell (p := ⟨p, 1, none⟩) hplt).trans hN2
                  go_wp2_with fail
                  refine wp_region_below wr (Below.refl _ _) (by kernel_rfl) (by kernel_rfl) ?_
                  repeat (go_big_quiet_step ((rename_i u; exact calls_since u (kawake_any _))))
                  refine wpQuiet_nil ?_
                  intro _ hw'
                  obtain ⟨u, rfl⟩ := hw'
                  have HBU := hide (HB12.out.trans (u.2.mono HB12.out.size))
                  go_wp2
                  go_ret
                  exact ⟨rfl, HBU.out⟩
  · rw [chkI_bad hg] at HC
    go_enter Try.func5, Try.ntmps5
    go_wp2_with fail
    refine HC.out.mono ?_
    rintro e w1 ⟨rfl, HB1⟩
    go_wp2_with fail
    refine (kawake_any _).mono ?_
    rintro e w2 ⟨rfl, b2⟩
    have B2 := hide (HB1.out.trans (b2.mono HB1.out.size))
    clear b2
    go_wp2
    go_ret
    exact ⟨rfl, B2.out⟩

theorem Try.cellsU : Try.prog.cellsOf 49 = 1 := by kernel_rfl

theorem open_argU {H : Type} {enc : TypeId × Value → H} {w : World} {d : DataW H} {p : List MemPlace} {v : Value} {base : Nat} (hv : Value.okWide Try.prog w .any base 44 v) (h : DataW.Trod enc Try.prog w 0 (fun _ => true) true 44 v d p) :
    ∃ a cap l, v = .slice a (l : List Nat).length cap ∧ ArgU w a l := by
  obtain ⟨a, len, cap, rfl⟩ := WideShapes.okWide_slice Try.underlying44 hv
  refine ⟨a, cap, ?_⟩
  obtain ⟨fuel, hf⟩ := h
  rcases open_slice Try.underlying44 hf with ⟨hcs, _⟩ | ⟨x, l, c, m, n, D, Pl, hcs, _, hl, hm, hmm, _, hall⟩
  · simp [Value.cells] at hcs
    obtain ⟨rfl, rfl, rfl⟩ := hcs
    exact ⟨[], rfl, (fun i x hx => (by simp at hx))⟩
  · simp [Value.cells] at hcs
    obtain ⟨rfl, rfl, rfl⟩ := hcs
    have hlm : len ≤ m := by rw [hmm]; simp; exact hl
    have hsp : 0 < len → x.spot = none := by
      intro h0
      obtain ⟨cs, hc, _⟩ := hall 0 (by omega)
      rw [Try.cellsU] at hc
      obtain ⟨_, hcl, hcc⟩ := World.cells?_some hc
      have g := hcc 0 (by omega)
      match cs, hcl with
      | c0 :: _, _ => exact World.cell?_spot (by simpa [Addr.add] using g)
    have one : ∀ i, i < len → ∃ y : Int, ∃ b off, x = ⟨b, off, none⟩ ∧ b < w.heap.size ∧ w.cell? ⟨b, off + i, none⟩ = some (.int .u16 y) ∧ (Lit.int .u16 y).wf = true := by
      intro i hi
      have hsp := hsp (by omega)
      obtain ⟨b, off, spot⟩ := x
      simp only at hsp
      subst hsp
      obtain ⟨cs, hc, ht⟩ := hall i (by omega)
      rw [Try.cellsU] at hc
      obtain ⟨_, hcl, hcc⟩ := World.cells?_some hc
      match cs, hcl with
      | [c0], _ =>
        obtain ⟨k0, e0, _, f0⟩ := DataW.trod_int Try.underlying49 ht
        simp only [List.cons.injEq, and_true] at e0
        subst e0
        have g0 := hcc 0 (by omega)
        simp only [add_noneW] at g0
        rw [Nat.mul_one] at g0
        exact ⟨k0, b, off, rfl, World.block_lt_of_cell? w _ (g0.trans rfl), g0, f0⟩
    obtain ⟨f, hf2⟩ := @choose_lt (Int) ⟨0⟩ _ _ one
    refine ⟨(List.range len).map fun i => (f i).toNat, by simp, fun i y hy => ?_⟩
    rw [List.getElem?_map] at hy
    by_cases hi : i < len
    · rw [List.getElem?_range hi] at hy
      simp at hy
      subst hy
      obtain ⟨b, off, e, r⟩ := hf2 i hi
      have hb := bounds_u16 r.2.2
      refine ⟨by omega, b, off, by rw [e], r.1, ?_⟩
      rw [r.2.1, Int.toNat_of_nonneg hb.1]
    · rw [List.getElem?_eq_none (by simpa using hi)] at hy
      simp at hy

theorem cback_law (w : World) (v0 : Value) {b0 : Nat} {H : Type} {enc : TypeId × Value → H} {d0 : DataW H} {p0 : List MemPlace}
    (o0 : Value.okWide Try.prog w .any b0 22 v0) (k0 : DataW.Trod enc Try.prog w 0 (fun _ => true) true 22 v0 d0 p0)
    (v1 : Value) {b1 : Nat} {d1 : DataW H} {p1 : List MemPlace}
    (o1 : Value.okWide Try.prog w .any b1 44 v1) (k1 : DataW.Trod enc Try.prog w 0 (fun _ => true) true 44 v1 d1 p1) :
    Calls Try.prog 5 #[v0, v1] w fun e w' => e = .returned (.bool true) ∧ Below w.heap.size w w' := by
  obtain ⟨pa, ca, a, rfl, ha, _, _⟩ := open_argZ o0 k0
  obtain ⟨pb, cb, pk, rfl, hb⟩ := open_argU o1 k1
  exact cback_walk a pk pa pb ca cb w ha hb

end Go.Proofs.Yteillcfdmjmaeaa
