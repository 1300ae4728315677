/- Package canon: Read. -/
import Derived.Test.YteillcfdmjmaeaaKBld
namespace Go.Proofs.Yteillcfdmjmaeaa
open Go.RowKit Go.Lib

set_option maxRecDepth 20000 in
set_option maxHeartbeats 1000000 in
theorem symbol_any (cs : List Value) (a : Option Addr) (m c D y : Nat) (W : World) (hlast : cs[16]? = some (.slice a m c)) (hD : D < m) (hc : ∃ b off, a = some ⟨b, off, none⟩ ∧ b < W.heap.size ∧ W.cell? ⟨b, off + D, none⟩ = some (.int .i64 (y : Int))) :
    Calls Try.prog 27 #[.agg cs.toArray, .int .i64 (D : Nat)] W fun e w' => e = .returned (.int .i64 (y : Int)) ∧ Below W.heap.size W w' := by
  obtain ⟨b, off, rfl, hb, hc2⟩ := hc
  have B := hide ((Below.refl _ W).alloc (Nat.le_refl _) (.cells cs.toArray 29))
  have _c1 : (W.alloc (.cells cs.toArray 29)).cell? ⟨W.heap.size, 16, none⟩ = some (.slice (some ⟨b, off, none⟩) m c) := by
    rw [cell_of_row _ _ 16 _ _ (0, 0) (heap_alloc_at W _ rfl), List.getElem?_toArray]
    exact hlast
  have _c2 := (B.out.cell (p := ⟨b, off + D, none⟩) hb).trans hc2
  have z0 : decide ((D : Int) < 0) = false := decide_eq_false (by omega)
  have z1 : (D : Int) < m := by omega
  clear hlast hb hc2
  go_enter Try.func27, Try.ntmps27
  go_wp2
  go_ret
  exact ⟨rfl, B.out⟩

set_option maxRecDepth 20000 in
set_option maxHeartbeats 4000000 in
theorem read_any (ls : List Nat) (a : Option Addr) (c m : Nat) (p : Nat) (s : ByteArray) (i : Nat) (W : World) (hm : (symTo ls 16).length = m) (harg : ArgN W a (symTo ls 16)) (hne : ∀ b off, a = some ⟨b, off, none⟩ → b ≠ p) (hls : ls.length ≤ 1000)
    (h : RdAt 38 W p s i false) (hi : i ≤ 8 * s.size) (hs : s.size ≤ 1000000) :
    Calls Try.prog 18 #[.pointer (some ⟨p, 0, none⟩), codeV (cn ls) (.slice a m c)] W fun e w' => ∃ x u bad, e = .returned (.int .i64 x) ∧ Hid (ReadRes ls (bitsF s i) (8 * s.size - i) x u bad) ∧ Hid (RdAt 38 w' p s (i + u) bad) ∧ Hid (Turn p W w') := by
  have hpW : p < W.heap.size := by unfold RdAt at h; exact (Array.getElem?_eq_some_iff.1 h).1
  have HGET := hide (codeCs_get (cn ls) (.slice a m c))
  have HLAST := hide (codeCs_last (cn ls) (.slice a m c))
  obtain ⟨cs, hcs⟩ : ∃ cs, codeCs (cn ls) (.slice a m c) = cs := ⟨_, rfl⟩
  have HL0 := hide (show ReadL 38 (W.alloc (.cells cs.toArray 29)) W p W.heap.size s i 0 cs a (symTo ls 16) from ⟨by unfold RdAt at h ⊢; rw [heap_alloc_old _ _ _ hpW]; exact h, heap_alloc_at _ _ rfl, harg.below ((Below.refl W.heap.size W).alloc (Nat.le_refl _) _) (Nat.le_refl _), (Turn.refl p W).alloc _⟩)
  have HM := hide hm
  have HNE := hide hne
  have hQ : W.heap.size ≠ p := by omega
  have HSZ := hide (show (Try.prog.info? 29).map (·.size) = some cs.length by rw [← hcs, codeCs_length]; exact Try.sizeCode)
  rw [hcs] at HGET HLAST
  unfold codeV
  rw [hcs]
  clear hcs h harg hm hne hpW
  obtain ⟨Q, hQe⟩ : ∃ Q, W.heap.size = Q := ⟨_, rfl⟩
  rw [hQe] at HL0 hQ
  obtain ⟨av, hav⟩ : ∃ av, 8 * s.size - i = av := ⟨_, rfl⟩
  have HAV := hide hav
  rw [hav]
  have hav2 : i + av = 8 * s.size := by omega
  have HAV2 := hide hav2
  clear hav hav2
  go_enter Try.func18, Try.ntmps18
  go_wp2
  clear hQe
  generalize hw1 : W.alloc (.cells cs.toArray 29) = w1 at *
  clear hw1
  go_loopw [5, 6, 7] (fun cv tv lv wr => ∃ (k A T : Nat), k ≤ 15 ∧ k ≤ av ∧ lv = .int .i64 ((k : Int) + 1) ∧ cv = .int .i64 (A : Int) ∧ tv = .int .i64 (T : Int) ∧ Hid (2 * A + firstC ls (k + 1) = 2 * numH (bitsF s i) k) ∧ Hid (T = atC ls (k + 1)) ∧ Hid (Past ls (bitsF s i) (k + 1)) ∧ Hid (ReadL 38 wr W p Q s i k cs a (symTo ls 16))) (fun _ _ lv _ => 16 - (intOf lv).toNat)
  case atStart => exact ⟨0, 0, 0, by omega, Nat.zero_le _, rfl, rfl, rfl, hide rfl, hide rfl, hide (fun j h1 h2 => by omega), HL0⟩
  case round =>
    clear HL0
    obtain ⟨k, A, T, hk, hka, rfl, rfl, rfl, HA, HT, HP, HL⟩ := hrel
    have hA9 : A ≤ 32768 := by have h1 := numH_lt (bitsF s i) (bitsF_le s i) k; have h2 := pow_small k hk; have := HA.out; omega
    by_cases hlt : k < 15
    · have zk : (k : Int) + 1 ≤ 15 := by omega
      by_cases hav : k < av
      · have HC := hide (rbit_ok p s (i + k) wr HL.out.rd (by have := HAV2.out; omega) (by omega))
        have HB := hide (bitsF_int s i k)
        have hb1 := bitsF_le s i k
        have HN := hide (show numH (bitsF s i) (k + 1) = 2 * numH (bitsF s i) k + bitsF s i k from rfl)
        rw [← HB.out] at HC
        have hT9 : T ≤ 1000 := by have h1 := cn_sum ls (k + 1); have := HT.out; omega
        generalize bitsF s i k = b at *
        go_wp2_with fail
        refine HC.out.mono ?_
        rintro e w2 ⟨rfl, hr2, ho2⟩
        have HL2 := hide (HL.out.next hr2 ho2 hQ HNE.out)
        have _d2 := hr2.c2
        have _e1 := (show w2.cell? ⟨Q, k + 1, none⟩ = some (.int .i64 (cn ls (k + 1) : Nat)) by rw [cell_of_row _ _ _ _ _ (0, 0) HL2.out.box, List.getElem?_toArray]; exact HGET.out (k + 1) (by omega))
        have hn9 := cn_le ls (k + 1)
        have zk0 : (0 : Int) ≤ (k : Int) + 1 := by omega
        have zk16 : (k : Int) + 1 < 16 := by omega
        obtain ⟨n, hn⟩ : ∃ n, cn ls (k + 1) = n := ⟨_, rfl⟩
        have HNN := hide hn
        rw [hn] at _e1 hn9
        obtain ⟨A2, hA2⟩ : ∃ A2, 2 * A + b = A2 := ⟨_, rfl⟩
        have eA : 2 * (A : Int) + (b : Int) = (A2 : Int) := by omega
        have hA2le : A2 ≤ 65537 := by omega
        have HN2 := hide (show A2 + firstC ls (k + 1) = numH (bitsF s i) (k + 1) by rw [HN.out, ← hA2]; have := HA.out; omega)
        clear hr2 ho2 hn hA2
        by_cases hst : A2 < n
        · have HS := hide (show Stops ls (bitsF s i) (k + 1) from ⟨by omega, by omega, HP.out, by rw [HNN.out]; have := HN2.out; omega⟩)
          have hidx := HS.out.idx
          have hsub : numH (bitsF s i) (k + 1) - firstC ls (k + 1) = A2 := by have := HN2.out; omega
          have HSY := hide (show symAt ls (bitsF s i) (k + 1) = (symTo ls 16).getD (T + A2) 0 by unfold symAt; rw [hsub, ← HT.out])
          rw [hsub, ← HT.out] at hidx
          have HCL := hide (HL2.out.arg _ _ (getD_some (symTo ls 16) _ hidx))
          rw [HM.out] at hidx
          have z1 : (A2 : Int) < (n : Int) := by omega
          obtain ⟨D, hD⟩ : ∃ D, T + A2 = D := ⟨_, rfl⟩
          rw [hD] at hidx HCL HSY
          have eD : (T : Int) + (A2 : Int) = (D : Int) := by omega
          generalize (symTo ls 16).getD D 0 = y at *
          have HSB := hide (symbol_any cs a m c D y w2 HLAST.out hidx HCL.out)
          have HRG := hide (show w2.rangeAt Q 0 cs from code_range HL2.out.box)
          clear hD hst hsub
          go_wp2_with (first
            | (refine wpList_load_mid rfl 29 (Operand.tmp 3) rfl Q 0 rfl cs _ HRG.out Try.underlying29 rfl HSZ.out ?_))
          refine HSB.out.mono ?_
          rintro e w3 ⟨rfl, b3⟩
          have HRD := hide (show RdAt 38 w3 p s (i + (k + 1)) false by
            have h := HL2.out.rd
            unfold RdAt at h ⊢
            rw [b3.block p (Array.getElem?_eq_some_iff.1 h).1]
            exact h)
          have HTN := hide (HL2.out.turn.trans (show Turn p w2 w3 from ⟨b3.os, b3.tape, b3.output, b3.size, fun k hk _ => b3.block k hk⟩))
          clear b3
          go_wp2
          go_ret
          refine ⟨_, k + 1, false, rfl, hide (.inl ⟨k + 1, HS.out, by omega, by rw [HSY.out], rfl, rfl⟩), HRD, HTN⟩
        · have z1 : ¬ ((A2 : Int) < (n : Int)) := by omega
          have HP2 := hide (HP.out.next (by rw [HNN.out]; have := HN2.out; omega))
          have HA3 := hide (show 2 * (A2 - n) + firstC ls (k + 1 + 1) = 2 * numH (bitsF s i) (k + 1) by
            show _ + 2 * (firstC ls (k + 1) + cn ls (k + 1)) = _
            rw [HNN.out]
            have := HN2.out
            omega)
          have HT2 := hide (show T + n = atC ls (k + 1 + 1) by show _ = atC ls (k + 1) + cn ls (k + 1); rw [← HT.out, HNN.out])
          have es : (A2 : Int) - (n : Int) = ((A2 - n : Nat) : Int) := by omega
          generalize A2 - n = A3 at *
          clear hst
          go_wp2
          go_roundw
          case rel => exact ⟨k + 1, A3, T + n, by omega, by omega, by go_num, rfl, by go_num, HA3, HT2, HP2, HL2⟩
          case measure => exact meas_oneW (k + 1) 16 (by omega)
      · have hke : k = av := by omega
        have HC := hide (rbit_end p s (i + k) wr HL.out.rd (by have := HAV2.out; omega))
        have HKE := hide hke
        have HDEC := hide (show (true : Bool) = decide (av < 15) by simp; omega)
        clear hke
        go_wp2_with fail
        refine HC.out.mono ?_
        rintro e w2 ⟨rfl, hr2, ho2⟩
        have _d2 := hr2.c2
        have HRD := hide hr2
        have HTN := hide (HL.out.turn.trans ho2.turn)
        clear hr2 ho2
        go_wp2
        go_ret
        refine ⟨-1, k, true, rfl, hide (.inr ⟨by rw [← HKE.out, Nat.min_eq_left (by omega)]; exact HP.out, rfl, by rw [← HKE.out, Nat.min_eq_left (by omega)], HDEC.out⟩), HRD, HTN⟩
    · have hke : k = 15 := by omega
      subst hke
      have HDEC := hide (show (false : Bool) = decide (av < 15) by simp; omega)
      go_wp2
      go_ret
      refine ⟨-1, 15, false, rfl, hide (.inr ⟨by rw [Nat.min_eq_right hka]; exact HP.out, rfl, by rw [Nat.min_eq_right hka], HDEC.out⟩), hide HL.out.rd, hide HL.out.turn⟩

end Go.Proofs.Yteillcfdmjmaeaa
