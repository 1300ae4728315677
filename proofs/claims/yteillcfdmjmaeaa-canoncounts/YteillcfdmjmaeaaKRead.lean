/- Contract of the document's 'Read' of layer 5: the symbol that the next bits are. -/
import Derived.Test.YteillcfdmjmaeaaKBuild
import Derived.Test.YteillcfdmjmaeaaKBitsQ
namespace Go.Proofs.Yteillcfdmjmaeaa
open Go.RowKit Go.Lib

/-- Of what was there, block p alone may have turned. -/
structure Turn (p : Nat) (w w' : World) : Prop where
  os : w'.os = w.os
  tape : w'.tape = w.tape
  output : w'.output = w.output
  size : w.heap.size ≤ w'.heap.size
  block : ∀ k, k < w.heap.size → k ≠ p → w'.heap[k]? = w.heap[k]?

theorem Turn.refl (p : Nat) (w : World) : Turn p w w := ⟨rfl, rfl, rfl, Nat.le_refl _, fun _ _ _ => rfl⟩
theorem Turn.trans {p : Nat} {a b c : World} (h : Turn p a b) (k : Turn p b c) : Turn p a c :=
  ⟨k.os.trans h.os, k.tape.trans h.tape, k.output.trans h.output, Nat.le_trans h.size k.size, fun i hi hp => (k.block i (Nat.lt_of_lt_of_le hi h.size) hp).trans (h.block i hi hp)⟩
theorem Only.turn {p : Nat} {a b : World} (h : Only p a b) : Turn p a b := ⟨h.os, h.tape, h.output, Nat.le_of_eq h.size.symm, fun k _ hk => h.block k hk⟩
theorem Turn.alloc {p : Nat} {a b : World} (h : Turn p a b) (o : Obj) : Turn p a (b.alloc o) :=
  ⟨h.os, h.tape, h.output, size_alloc_le h.size, fun k hk hp => by rw [heap_alloc_old _ _ _ (Nat.lt_of_lt_of_le hk h.size)]; exact h.block k hk hp⟩
theorem Turn.drewN {p : Nat} {a b : World} (h : Turn p a b) (q : Nat) : Turn p a (b.drewN q) := ⟨h.os, h.tape, h.output, h.size, h.block⟩
theorem Turn.below {p B : Nat} {a w w' : World} (h : Below B a w) (k : Turn p w w') (hp : B ≤ p) (hB : B ≤ w.heap.size) : Below B a w' :=
  ⟨k.os.trans h.os, k.tape.trans h.tape, k.output.trans h.output, Nat.le_trans h.size k.size, fun i hi => (k.block i (by omega) (by omega)).trans (h.block i hi)⟩
theorem ArgN.turn {w w' : World} {a : Option Addr} {l : List Nat} {p : Nat} (h : ArgN w a l) (o : Turn p w w') (hne : ∀ b off, a = some ⟨b, off, none⟩ → b ≠ p) : ArgN w' a l := by
  intro i x hx
  obtain ⟨b, off, h1, h2, h3⟩ := h i x hx
  refine ⟨b, off, h1, Nat.lt_of_lt_of_le h2 o.size, ?_⟩
  rw [World.cell?_of_block (a := ⟨b, off + i, none⟩) (o.block b h2 (hne b off h1))]
  exact h3

/-- The bits from i on. -/
def bitsF (s : ByteArray) (i j : Nat) : Nat := (bitI s (i + j)).toNat
theorem bitsF_le (s : ByteArray) (i j : Nat) : bitsF s i j ≤ 1 := by
  unfold bitsF
  rcases bitI_01 s (i + j) with h | h <;> rw [h] <;> decide
theorem bitsF_int (s : ByteArray) (i j : Nat) : ((bitsF s i j : Nat) : Int) = bitI s (i + j) := by
  unfold bitsF
  rcases bitI_01 s (i + j) with h | h <;> rw [h] <;> rfl

theorem cn_le (ls : List Nat) (k : Nat) : cn ls k ≤ ls.length := by
  unfold cn
  split
  · exact Nat.zero_le _
  · exact List.countP_le_length

theorem pow_small (k : Nat) (h : k ≤ 15) : (2 : Nat) ^ k ≤ 32768 := by
  have : (2 : Nat) ^ k ≤ 2 ^ 15 := Nat.pow_le_pow_right (by decide) h
  omega

/-- What the reader and the code are, k bits on. -/
structure ReadL (T : TypeId) (w W : World) (p Q : Nat) (s : ByteArray) (i k : Nat) (cs : List Value) (a : Option Addr) (S : List Nat) : Prop where
  rd : RdAt T w p s (i + k) false
  box : w.heap[Q]? = some (.cells cs.toArray 29 (0, 0))
  arg : ArgN w a S
  turn : Turn p W w

theorem ReadL.next {T : TypeId} {w w' W : World} {p Q : Nat} {s : ByteArray} {i k : Nat} {cs : List Value} {a : Option Addr} {S : List Nat} (h : ReadL T w W p Q s i k cs a S) (r : RdAt T w' p s (i + (k + 1)) false) (o : Only p w w') (hQ : Q ≠ p) (hne : ∀ b off, a = some ⟨b, off, none⟩ → b ≠ p) : ReadL T w' W p Q s i (k + 1) cs a S :=
  ⟨r, by rw [o.block Q hQ]; exact h.box, h.arg.turn o.turn hne, h.turn.trans o.turn⟩

set_option maxRecDepth 20000 in
set_option maxHeartbeats 4000000 in
theorem qread_any (ls : List Nat) (a : Option Addr) (c m : Nat) (p : Nat) (s : ByteArray) (i : Nat) (W : World) (hm : (symTo ls 16).length = m) (harg : ArgN W a (symTo ls 16)) (hne : ∀ b off, a = some ⟨b, off, none⟩ → b ≠ p) (hls : ls.length ≤ 1000)
    (h : RdAt 40 W p s i false) (hi : i ≤ 8 * s.size) (hs : s.size ≤ 1000000) :
    Calls Try.prog 19 #[.pointer (some ⟨p, 0, none⟩), codeV (cn ls) (.slice a m c)] W fun e w' => ∃ x u bad, e = .returned (.int .i64 x) ∧ Hid (ReadRes ls (bitsF s i) (8 * s.size - i) x u bad) ∧ Hid (RdAt 40 w' p s (i + u) bad) ∧ Hid (Turn p W w') := by
  have hpW : p < W.heap.size := by unfold RdAt at h; exact (Array.getElem?_eq_some_iff.1 h).1
  have HGET := hide (codeCs_get (cn ls) (.slice a m c))
  have HLAST := hide (codeCs_last (cn ls) (.slice a m c))
  obtain ⟨cs, hcs⟩ : ∃ cs, codeCs (cn ls) (.slice a m c) = cs := ⟨_, rfl⟩
  have HL0 := hide (show ReadL 40 (W.alloc (.cells cs.toArray 29)) W p W.heap.size s i 0 cs a (symTo ls 16) from ⟨by unfold RdAt at h ⊢; rw [heap_alloc_old _ _ _ hpW]; exact h, heap_alloc_at _ _ rfl, harg.below ((Below.refl W.heap.size W).alloc (Nat.le_refl _) _) (Nat.le_refl _), (Turn.refl p W).alloc _⟩)
  have HM := hide hm
  have HNE := hide hne
  have hQ : W.heap.size ≠ p := by omega
  rw [hcs] at HGET HLAST
  unfold codeV
  rw [hcs]
  clear hcs h harg hm hne hpW
  obtain ⟨Q, hQe⟩ : ∃ Q, W.heap.size = Q := ⟨_, rfl⟩
  rw [hQe] at HL0 hQ
  obtain ⟨av, hav⟩ : ∃ av, 8 * s.size - i = av := ⟨_, rfl⟩
  have HAV := hide hav
  rw [hav]
  have hav2 : i + av = 8 * s.size := by omega
  have HAV2 := hide hav2
  clear hav hav2
  go_enter Try.func19, Try.ntmps19
  go_wp2
  clear hQe
  generalize hw1 : W.alloc (.cells cs.toArray 29) = w1 at *
  clear hw1
  go_loopw [5, 6, 7, 8] (fun cv fv tv lv wr => ∃ (k A F T : Nat), k ≤ 15 ∧ k ≤ av ∧ lv = .int .i64 ((k : Int) + 1) ∧ cv = .int .i64 (A : Int) ∧ fv = .int .i64 (F : Int) ∧ tv = .int .i64 (T : Int) ∧ Hid (A = numH (bitsF s i) k) ∧ Hid (F = firstC ls (k + 1)) ∧ Hid (T = atC ls (k + 1)) ∧ Hid (Past ls (bitsF s i) (k + 1)) ∧ Hid (ReadL 40 wr W p Q s i k cs a (symTo ls 16))) (fun _ _ _ lv _ => 16 - (intOf lv).toNat)
  case atStart => exact ⟨0, 0, 0, 0, by omega, Nat.zero_le _, rfl, rfl, rfl, rfl, hide rfl, hide rfl, hide rfl, hide (fun j h1 h2 => by omega), HL0⟩
  case round =>
    clear HL0
    obtain ⟨k, A, F, T, hk, hka, rfl, rfl, rfl, rfl, HA, HF, HT, HP, HL⟩ := hrel
    have hA9 : A ≤ 32768 := by have h1 := numH_lt (bitsF s i) (bitsF_le s i) k; have h2 := pow_small k hk; have := HA.out; omega
    by_cases hlt : k < 15
    · have zk : (k : Int) + 1 ≤ 15 := by omega
      by_cases hav : k < av
      · have HC := hide (qbit_ok p s (i + k) wr HL.out.rd (by have := HAV2.out; omega) (by omega))
        have HB := hide (bitsF_int s i k)
        have hb1 := bitsF_le s i k
        have HN := hide (show numH (bitsF s i) (k + 1) = 2 * numH (bitsF s i) k + bitsF s i k from rfl)
        rw [← HB.out] at HC
        have hF9 : F ≤ 65536 := by
          have h1 := HP.out.first (by omega)
          have h2 := numH_lt (bitsF s i) (bitsF_le s i) (k + 1)
          have h3 := pow_small (k + 1) (by omega)
          have := HF.out
          omega
        have HFA := hide (show F ≤ 2 * A + bitsF s i k by
          have h1 := HP.out.first (by omega)
          rw [HN.out, ← HA.out, ← HF.out] at h1
          exact h1)
        have hT9 : T ≤ 1000 := by have h1 := cn_sum ls (k + 1); have := HT.out; omega
        generalize bitsF s i k = b at *
        go_wp2_with fail
        refine HC.out.mono ?_
        rintro e w2 ⟨rfl, hr2, ho2⟩
        have HL2 := hide (HL.out.next hr2 ho2 hQ HNE.out)
        have _d2 := hr2.c2
        have _e1 := (show w2.cell? ⟨Q, k + 1, none⟩ = some (.int .i64 (cn ls (k + 1) : Nat)) by rw [cell_of_row _ _ _ _ _ (0, 0) HL2.out.box, List.getElem?_toArray]; exact HGET.out (k + 1) (by omega))
        have _e2 := (show w2.cell? ⟨Q, 16, none⟩ = some (.slice a m c) by rw [cell_of_row _ _ _ _ _ (0, 0) HL2.out.box, List.getElem?_toArray]; exact HLAST.out)
        have hn9 := cn_le ls (k + 1)
        have HN2 := hide (show numH (bitsF s i) (k + 1) = 2 * A + b by rw [HN.out, HA.out])
        have zk0 : (0 : Int) ≤ (k : Int) + 1 := by omega
        have zk16 : (k : Int) + 1 < 16 := by omega
        obtain ⟨n, hn⟩ : ∃ n, cn ls (k + 1) = n := ⟨_, rfl⟩
        have HNN := hide hn
        rw [hn] at _e1 hn9
        obtain ⟨A2, hA2⟩ : ∃ A2, 2 * A + b = A2 := ⟨_, rfl⟩
        have eA : (A : Int) * 2 + (b : Int) = (A2 : Int) := by omega
        have hA2le : A2 ≤ 65537 := by omega
        rw [hA2] at HN2 HFA
        have hFA := HFA.out
        clear hr2 ho2 hn hA2
        by_cases hst : A2 < F + n
        · have HS := hide (show Stops ls (bitsF s i) (k + 1) from ⟨by omega, by omega, HP.out, by rw [HN2.out, HNN.out, ← HF.out]; exact hst⟩)
          have hidx := HS.out.idx
          have HSY := hide (show symAt ls (bitsF s i) (k + 1) = (symTo ls 16).getD (T + (A2 - F)) 0 by unfold symAt; rw [HN2.out, ← HF.out, ← HT.out])
          rw [HN2.out, ← HF.out, ← HT.out] at hidx
          obtain ⟨b3, off3, e3, hb3, _c3⟩ := HL2.out.arg _ _ (getD_some (symTo ls 16) _ hidx)
          subst e3
          rw [HM.out] at hidx
          have z1 : (A2 : Int) - (F : Int) < (n : Int) := by omega
          obtain ⟨D, hD⟩ : ∃ D, T + (A2 - F) = D := ⟨_, rfl⟩
          rw [hD] at hidx _c3 HSY
          have eD : (T : Int) + (A2 : Int) - (F : Int) = (D : Int) := by omega
          have zD : (D : Int) < m := by omega
          have hTA : T + A2 ≤ 100000 := by omega
          generalize (symTo ls 16).getD D 0 = y at *
          clear hD hst
          go_wp2
          go_ret
          refine ⟨_, k + 1, false, rfl, hide (.inl ⟨k + 1, HS.out, by omega, by rw [HSY.out], rfl, rfl⟩), hide HL2.out.rd, hide HL2.out.turn⟩
        · have z1 : ¬ ((A2 : Int) - (F : Int) < (n : Int)) := by omega
          have HP2 := hide (HP.out.next (by rw [HN2.out, HNN.out, ← HF.out]; omega))
          have HF2 := hide (show (F + n) * 2 = firstC ls (k + 1 + 1) by show _ = 2 * (firstC ls (k + 1) + cn ls (k + 1)); rw [← HF.out, HNN.out]; omega)
          have HT2 := hide (show T + n = atC ls (k + 1 + 1) by show _ = atC ls (k + 1) + cn ls (k + 1); rw [← HT.out, HNN.out])
          clear hst
          go_wp2
          go_roundw
          case rel => exact ⟨k + 1, A2, (F + n) * 2, T + n, by omega, by omega, by go_num, rfl, by go_num, by go_num, hide HN2.out.symm, HF2, HT2, HP2, HL2⟩
          case measure => exact meas_oneW (k + 1) 16 (by omega)
      · have hke : k = av := by omega
        have HC := hide (qbit_end p s (i + k) wr HL.out.rd (by have := HAV2.out; omega) (by have := HAV2.out; omega) (by omega))
        have HKE := hide hke
        have HDEC := hide (show (true : Bool) = decide (av < 15) by simp; omega)
        clear hke
        go_wp2_with fail
        refine HC.out.mono ?_
        rintro e w2 ⟨rfl, hr2, ho2⟩
        have _d2 := hr2.c2
        have HRD := hide hr2
        have HTN := hide (HL.out.turn.trans ho2.turn)
        clear hr2 ho2
        go_wp2
        go_ret
        refine ⟨-1, k, true, rfl, hide (.inr ⟨by rw [← HKE.out, Nat.min_eq_left (by omega)]; exact HP.out, rfl, by rw [← HKE.out, Nat.min_eq_left (by omega)], HDEC.out⟩), HRD, HTN⟩
    · have hke : k = 15 := by omega
      subst hke
      have HDEC := hide (show (false : Bool) = decide (av < 15) by simp; omega)
      go_wp2
      go_ret
      refine ⟨-1, 15, false, rfl, hide (.inr ⟨by rw [Nat.min_eq_right hka]; exact HP.out, rfl, by rw [Nat.min_eq_right hka], HDEC.out⟩), hide HL.out.rd, hide HL.out.turn⟩

end Go.Proofs.Yteillcfdmjmaeaa
