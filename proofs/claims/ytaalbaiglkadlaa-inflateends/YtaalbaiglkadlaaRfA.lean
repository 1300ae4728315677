import Derived.Test.YtaalbaiglkadlaaBitsA
/- Contracts of the document's Reader: what each method answers, and what the reader is behind it: the same words as of the program's own. -/
namespace Go.Proofs.Ytaalbaiglkadlaa
open Go.RowKit

theorem bit_ref (s : ByteArray) (i : Nat) (h : i / 8 < s.size)  :
    bits .and .i64 (wrap64 ((s[i / 8].toNat : Int) / 2 ^ (i % 8))) 1 = bitI s i := by
  rw [and1_i64, ← getD_of_lt s (i / 8) h]
  unfold bitI
  generalize hb : s.data.toList.getD (i / 8) 0 = b
  have hb2 : b.toNat < 256 := b.toNat_lt
  have hle : b.toNat / 2 ^ (i % 8) < 256 := Nat.lt_of_le_of_lt (Nat.div_le_self _ _) hb2
  have e4 : ((b.toNat : Int) / 2 ^ (i % 8)) = ((b.toNat / 2 ^ (i % 8) : Nat) : Int) := by
    rw [Int.natCast_ediv, Int.natCast_pow]; rfl
  rw [e4]
  unfold wrap64
  omega

section
variable (p : Nat) (s : ByteArray) (i : Nat) (w : World)
set_option maxHeartbeats 400000 in
theorem qbit_bad (h : RdAt 56 w p s i true) :
    Calls Try.prog 18 #[.pointer (some ⟨p, 0, none⟩)] w fun e w' => e = .returned (.int .i64 0) ∧ RdAt 56 w' p s i true ∧ Only p w w' := by
  have _c1 := h.c1
  have _c2 := h.c2
  have _f2 := h.fz 2
  have H : Hid (RdAt 56 w p s i true) := h
  clear h
  go_enter Try.func18, Try.ntmps18
  go_wp2
  go_quiet (fail)
  go_wp2
  go_ret
  exact ⟨rfl, H.out.setBad.drew2 _, (Only.setCell _ _ _ _).trans (Only.drewN _ _ _)⟩

set_option maxHeartbeats 400000 in
theorem qbit_end (h : RdAt 56 w p s i false) (hi : s.size ≤ i / 8) (hi2 : i ≤ 8 * s.size) (hs : s.size ≤ 1000000000000) :
    Calls Try.prog 18 #[.pointer (some ⟨p, 0, none⟩)] w fun e w' => e = .returned (.int .i64 0) ∧ RdAt 56 w' p s i true ∧ Only p w w' := by
  have _c0 := h.c0
  have _c1 := h.c1
  have _c2 := h.c2
  have _f2 := h.fz 2
  have H : Hid (RdAt 56 w p s i false) := h
  clear h
  have hd : decide ((i : Int) < 0) = false := by simp
  have hd2 : (s.size : Int) ≤ (i : Int) / 8 := by omega
  go_enter Try.func18, Try.ntmps18
  go_wp2
  go_quiet (fail)
  go_wp2
  go_ret
  exact ⟨rfl, H.out.setBad.drew2 _, (Only.setCell _ _ _ _).trans (Only.drewN _ _ _)⟩

set_option maxHeartbeats 400000 in
theorem qbit_ok (h : RdAt 56 w p s i false) (hi : i / 8 < s.size) (hs : s.size ≤ 1000000000000) :
    Calls Try.prog 18 #[.pointer (some ⟨p, 0, none⟩)] w fun e w' => e = .returned (.int .i64 (bitI s i)) ∧ RdAt 56 w' p s (i + 1) false ∧ Only p w w' := by
  have _c0 := h.c0
  have _c1 := h.c1
  have _c2 := h.c2
  have _f1 := h.fz 1
  have H : Hid (RdAt 56 w p s i false) := h
  clear h
  have hd : decide ((i : Int) < 0) = false := by simp
  have hd2 : (i : Int) / 8 < (s.size : Int) := by omega
  have hd3 : 0 ≤ (i : Int) / 8 := by omega
  go_enter Try.func18, Try.ntmps18
  go_wp2
  go_quiet (fail)
  go_wp2
  go_quiet (fail)
  go_wp2
  go_ret
  exact ⟨retInt (bit_ref s i hi), H.out.setAt _ _ _ (by omega), (Only.drewN _ _ _).trans (Only.setCell _ _ _ _)⟩
end

end Go.Proofs.Ytaalbaiglkadlaa

/- Contracts of the document's Reader, more: Bits, Align, Text, Used. -/
namespace Go.Proofs.Ytaalbaiglkadlaa
open Go.RowKit

/-- The loop goes on just below what is taken. -/
theorem taken_lt (n : Int) (k j : Nat) (hk : takenI n = (k : Int)) (hj : j ≤ k) : (j < k ↔ (j : Int) < n ∧ (j : Int) < 30) := by
  unfold takenI at hk
  split at hk
  · omega
  · split at hk <;> omega

set_option maxHeartbeats 400000 in
theorem qbits_ok (p : Nat) (s : ByteArray) (i : Nat) (n : Int) (w : World) (k : Nat) (hk : takenI n = (k : Int)) (h : RdAt 56 w p s i false) (hi : i + k ≤ 8 * s.size) (hs : s.size ≤ 1000000000000) :
    Calls Try.prog 19 #[.pointer (some ⟨p, 0, none⟩), .int .i64 n] w fun e w' => e = .returned (.int .i64 (numI s i k)) ∧ RdAt 56 w' p s (i + k) false ∧ Only p w w' := by
  have hk30 : k ≤ 30 := by have := takenI_bd n; omega
  have HK : Hid (takenI n = (k : Int)) := hk
  have H : Hid (RdAt 56 w p s i false) := h
  clear h hk
  go_enter Try.func19, Try.ntmps19
  go_wp2
  go_loopw [5, 6] (fun v c wr => ∃ j : Nat, j ≤ k ∧ c = .int .i64 j ∧ v = .int .i64 (numI s i j) ∧ Hid (RdAt 56 wr p s (i + j) false) ∧ Hid (Only p w wr)) (fun _ c _ => k - (intOf c).toNat)
  case atStart => exact ⟨0, Nat.zero_le _, rfl, rfl, H, Only.refl _ _⟩
  case round =>
    obtain ⟨j, hj, rfl, rfl, HR, HO⟩ := hrel
    have hcond := taken_lt n k j HK.out hj
    by_cases hlt : j < k
    · obtain ⟨h1, h2⟩ := hcond.1 hlt
      clear hcond
      go_wp2_with (first | (go_at_call 18; refine (qbit_ok p s (i + j) _ HR.out (by omega) hs).mono ?_; rintro e w1 ⟨rfl, hr1, ho1⟩; have HR1 := hide hr1; have HO1 := hide ho1; clear hr1 ho1))
      go_roundw
      case rel =>
        refine ⟨j + 1, by omega, by go_num, ?_, HR1, HO.out.trans HO1.out⟩
        rw [← num_step s i j (by omega)]
      case measure => simp [intOf]; omega
    · have _c2 := HR.out.c2
      have hjk : k = j := by omega
      have hno : ¬ ((j : Int) < n ∧ (j : Int) < 30) := fun h => hlt (hcond.2 h)
      have HJ := hide hjk
      clear hjk hcond
      by_cases h1 : (j : Int) < n
      · have h2 : ¬ (j : Int) < 30 := fun h => hno ⟨h1, h⟩
        clear hno
        go_wp2
        go_ret
        rw [HJ.out]
        exact ⟨rfl, HR.out, HO.out⟩
      · clear hno
        go_wp2
        go_ret
        rw [HJ.out]
        exact ⟨rfl, HR.out, HO.out⟩

set_option maxHeartbeats 400000 in
theorem qbits_no (p : Nat) (s : ByteArray) (i : Nat) (bad : Bool) (n : Int) (w : World) (k : Nat) (hk : takenI n = (k : Int)) (h : RdAt 56 w p s i bad) (hi : i ≤ 8 * s.size) (hno : bad = true ∨ 8 * s.size < i + k) (hs : s.size ≤ 1000000000000) :
    Calls Try.prog 19 #[.pointer (some ⟨p, 0, none⟩), .int .i64 n] w fun e w' => e = .returned (.int .i64 0) ∧ (∃ i', i' ≤ 8 * s.size ∧ RdAt 56 w' p s i' true) ∧ Only p w w' := by
  have hk30 : k ≤ 30 := by have := takenI_bd n; omega
  have HK : Hid (takenI n = (k : Int)) := hk
  have H : Hid (RdAt 56 w p s i bad) := h
  have HN := hide hno
  clear h hk hno
  go_enter Try.func19, Try.ntmps19
  go_wp2
  go_loopw [5, 6] (fun v c wr => ∃ (j : Nat) (V : Int), j ≤ k ∧ c = .int .i64 j ∧ v = .int .i64 V ∧ Hid (bad = false ∧ i + j ≤ 8 * s.size ∧ RdAt 56 wr p s (i + j) false ∨ ∃ i', i' ≤ 8 * s.size ∧ RdAt 56 wr p s i' true) ∧ Hid (Only p w wr)) (fun _ c _ => k - (intOf c).toNat)
  case atStart =>
    refine ⟨0, 0, Nat.zero_le _, rfl, rfl, ?_, Only.refl _ _⟩
    cases bad
    · exact .inl ⟨rfl, by omega, H.out⟩
    · exact .inr ⟨i, hi, H.out⟩
  case round =>
    obtain ⟨j, V, hj, rfl, rfl, HR, HO⟩ := hrel
    have hcond := taken_lt n k j HK.out hj
    by_cases hlt : j < k
    · obtain ⟨h1, h2⟩ := hcond.1 hlt
      clear hcond
      rcases HR.out with ⟨hb, hle, hr⟩ | ⟨i', hle, hr⟩
      · by_cases hin : (i + j) / 8 < s.size
        · have HR0 := hide hr
          have HB := hide hb
          clear hr HR hb
          go_wp2_with (first | (go_at_call 18; refine (qbit_ok p s (i + j) _ HR0.out hin hs).mono ?_; rintro e w1 ⟨rfl, hr1, ho1⟩; have HR1 := hide hr1; have HO1 := hide ho1; clear hr1 ho1))
          go_roundw
          case rel => exact ⟨j + 1, _, by omega, by go_num, rfl, .inl ⟨HB.out, by omega, HR1⟩, HO.out.trans HO1.out⟩
          case measure => simp [intOf]; omega
        · have HR0 := hide hr
          clear hr HR hb
          go_wp2_with (first | (go_at_call 18; refine (qbit_end p s (i + j) _ HR0.out (by omega) (by omega) hs).mono ?_; rintro e w1 ⟨rfl, hr1, ho1⟩; have HR1 := hide hr1; have HO1 := hide ho1; clear hr1 ho1))
          go_roundw
          case rel => exact ⟨j + 1, _, by omega, by go_num, rfl, .inr ⟨_, hle, HR1⟩, HO.out.trans HO1.out⟩
          case measure => simp [intOf]; omega
      · have HR0 := hide hr
        clear hr HR
        go_wp2_with (first | (go_at_call 18; refine (qbit_bad p s i' _ HR0.out).mono ?_; rintro e w1 ⟨rfl, hr1, ho1⟩; have HR1 := hide hr1; have HO1 := hide ho1; clear hr1 ho1))
        go_roundw
        case rel => exact ⟨j + 1, _, by omega, by go_num, rfl, .inr ⟨_, hle, HR1⟩, HO.out.trans HO1.out⟩
        case measure => simp [intOf]; omega
    · have hr : ∃ i', i' ≤ 8 * s.size ∧ RdAt 56 wr p s i' true := by
        rcases HR.out with ⟨hb, hle, hr⟩ | hr
        · rcases HN.out with h | h
          · rw [hb] at h; cases h
          · exact absurd h (by omega)
        · exact hr
      obtain ⟨i', hle, hr⟩ := hr
      have _c2 := hr.c2
      have HR0 := hide hr
      have hno : ¬ ((j : Int) < n ∧ (j : Int) < 30) := fun h => hlt (hcond.2 h)
      clear hr HR hcond
      by_cases h1 : (j : Int) < n
      · have h2 : ¬ (j : Int) < 30 := fun h => hno ⟨h1, h⟩
        clear hno
        go_wp2
        go_ret
        exact ⟨rfl, ⟨i', hle, HR0.out⟩, HO.out⟩
      · clear hno
        go_wp2
        go_ret
        exact ⟨rfl, ⟨i', hle, HR0.out⟩, HO.out⟩

/-- How far a reader is. -/
def atOf (w : World) (p : Nat) : Nat := (intOf ((w.cell? ⟨p, 1, none⟩).getD undef)).toNat
theorem atOf_eq {T : TypeId} {w : World} {p : Nat} {s : ByteArray} {i : Nat} {bad : Bool} (h : RdAt T w p s i bad) : atOf w p = i := by
  unfold atOf; rw [h.c1]; simp [intOf]

/-- Of a reader that is Bad, Align does nothing. -/
def alignAt (bad : Bool) (i : Nat) : Nat := if bad then i else (i + 7) / 8 * 8

set_option maxHeartbeats 400000 in
theorem qalign_any (p : Nat) (s : ByteArray) (i : Nat) (bad : Bool) (w : World) (h : RdAt 56 w p s i bad) (hi : i ≤ 8 * s.size) (hs : s.size ≤ 100000000000) :
    Calls Try.prog 46 #[.pointer (some ⟨p, 0, none⟩)] w fun e w' => e = .returned (.tuple #[]) ∧ RdAt 56 w' p s (alignAt bad i) bad ∧ Only p w w' := by
  have H := hide h
  clear h
  go_enter Try.func46, Try.ntmps46
  go_wp2
  go_loopw [2] (fun _ wr => ∃ j : Nat, i ≤ j ∧ j ≤ (i + 7) / 8 * 8 ∧ Hid (bad = true → j = i) ∧ Hid (RdAt 56 wr p s j bad) ∧ Hid (Only p w wr)) (fun _ wr => (i + 7) / 8 * 8 - atOf wr p)
  case atStart => exact ⟨i, Nat.le_refl _, by omega, hide fun _ => rfl, H, Only.refl _ _⟩
  case round =>
    obtain ⟨j, h1, h2, HB, HR, HO⟩ := hrel
    have _c1 := HR.out.c1
    have _c2 := HR.out.c2
    have HM := hide (atOf_eq HR.out)
    by_cases hgo : j % 8 ≠ 0 ∧ bad = false
    · obtain ⟨hj, hb⟩ := hgo
      have hne : (((j : Int) % 8) != 0) = true := by simp; omega
      have HR0 : Hid (RdAt 56 wr p s j false) := by rw [hb] at HR; exact HR
      have HBB := hide hb
      rw [hb] at _c2
      clear hb
      go_wp2_with (first | (go_at_call 18; refine (qbit_ok p s j _ HR0.out (by omega) (by omega)).mono ?_; rintro e w1 ⟨rfl, hr1, ho1⟩; have HR1 := hide hr1; have HO1 := hide ho1; clear hr1 ho1))
      go_roundw
      case rel => exact ⟨j + 1, by omega, by omega, hide (fun e => by rw [HBB.out] at e; cases e), by rw [HBB.out]; exact HR1, HO.out.trans HO1.out⟩
      case measure => have := atOf_eq HR1.out; have := HM.out; omega
    · have HG := hide hgo
      clear hgo
      have fin : RdAt 56 wr p s (alignAt bad i) bad := by
        have : alignAt bad i = j := by
          unfold alignAt
          cases hb : bad
          · have : j % 8 = 0 := by
              by_cases e : j % 8 = 0
              · exact e
              · exact absurd ⟨e, hb⟩ HG.out
            simp
            omega
          · simp
            exact (HB.out hb).symm
        rw [this]; exact HR.out
      have FIN := hide fin
      clear fin
      by_cases hj : j % 8 = 0
      · have hne : (((j : Int) % 8) != 0) = false := by simp; omega
        go_wp2
        go_end0
        exact ⟨rfl, FIN.out, HO.out⟩
      · have hne : (((j : Int) % 8) != 0) = true := by simp; omega
        have hb : bad = true := by
          cases hb : bad
          · exact absurd ⟨hj, hb⟩ HG.out
          · rfl
        have HBB := hide hb
        rw [hb] at _c2
        clear hb
        go_wp2
        go_end0
        exact ⟨rfl, FIN.out, HO.out⟩

set_option maxHeartbeats 400000 in
theorem qtext_ok (p : Nat) (s : ByteArray) (i n : Nat) (w : World) (h : RdAt 56 w p s i false) (hi : (i + 7) / 8 + n ≤ s.size) (hs : s.size ≤ 100000000000) :
    Calls Try.prog 47 #[.pointer (some ⟨p, 0, none⟩), .int .i64 n] w fun e w' => e = .returned (.string (s.extract ((i + 7) / 8) ((i + 7) / 8 + n))) ∧ RdAt 56 w' p s (((i + 7) / 8 + n) * 8) false ∧ Only p w w' := by
  have H := hide h
  clear h
  have hd : decide ((n : Int) < 0) = false := by simp
  obtain ⟨m, hm, HM⟩ : ∃ m : Nat, m + n ≤ s.size ∧ Hid ((i + 7) / 8 = m) := ⟨_, hi, hide rfl⟩
  rw [HM.out]
  go_enter Try.func47, Try.ntmps47
  go_wp2_with (first | (go_at_call 46; refine (qalign_any p s i false _ H.out (by omega) hs).mono ?_; rintro e w1 ⟨rfl, hr1, ho1⟩; rw [show alignAt false i = m * 8 by unfold alignAt; simp; rw [HM.out]] at hr1; have _c0 := hr1.c0; have _c1 := hr1.c1; have _c2 := hr1.c2; have _f1 := hr1.fz 1; have _f2 := hr1.fz 2; have HR1 := hide hr1; have HO1 := hide ho1; clear hr1 ho1))
  go_quiet (fail)
  go_wp2
  go_ret
  refine ⟨?_, HR1.out.setAt _ _ _ (by omega), (HO1.out.trans (Only.drewN _ _ _)).trans (Only.setCell _ _ _ _)⟩
  show Ending.returned (Value.string _) = _
  congr 3 <;> omega

set_option maxHeartbeats 400000 in
theorem qtext_no (p : Nat) (s : ByteArray) (i : Nat) (bad : Bool) (n : Int) (w : World) (h : RdAt 56 w p s i bad) (hi : i ≤ 8 * s.size) (hno : bad = true ∨ n < 0 ∨ (s.size : Int) < ((i + 7) / 8 : Nat) + n) (hs : s.size ≤ 100000000000) :
    Calls Try.prog 47 #[.pointer (some ⟨p, 0, none⟩), .int .i64 n] w fun e w' => e = .returned (.string ByteArray.empty) ∧ (∃ i', i' ≤ 8 * s.size ∧ RdAt 56 w' p s i' true) ∧ Only p w w' := by
  have H := hide h
  clear h
  have HN := hide hno
  clear hno
  cases hb : bad
  · rw [hb] at H HN
    have hn : n < 0 ∨ (s.size : Int) < ((i + 7) / 8 : Nat) + n := by
      rcases HN.out with h | h
      · cases h
      · exact h
    clear HN hb
    obtain ⟨m, hm, HM⟩ : ∃ m : Nat, m ≤ s.size ∧ Hid ((i + 7) / 8 = m) := ⟨_, by omega, hide rfl⟩
    rw [HM.out] at hn
    by_cases h0 : n < 0
    · have hd : decide (n < 0) = true := by simpa using h0
      clear hn
      go_enter Try.func47, Try.ntmps47
      go_wp2_with (first | (go_at_call 46; refine (qalign_any p s i false _ H.out (by omega) hs).mono ?_; rintro e w1 ⟨rfl, hr1, ho1⟩; rw [show alignAt false i = m * 8 by unfold alignAt; simp; rw [HM.out]] at hr1; have _c0 := hr1.c0; have _c1 := hr1.c1; have _c2 := hr1.c2; have _f1 := hr1.fz 1; have _f2 := hr1.fz 2; have HR1 := hide hr1; have HO1 := hide ho1; clear hr1 ho1))
      go_quiet (fail)
      go_wp2
      go_ret
      exact ⟨rfl, ⟨_, by omega, HR1.out.setBad.drew2 _⟩, (HO1.out.trans (Only.setCell _ _ _ _)).trans (Only.drewN _ _ _)⟩
    · have hd : decide (n < 0) = false := by simpa using h0
      have hn2 : (s.size : Int) - m < n := by omega
      clear hn
      go_enter Try.func47, Try.ntmps47
      go_wp2_with (first | (go_at_call 46; refine (qalign_any p s i false _ H.out (by omega) hs).mono ?_; rintro e w1 ⟨rfl, hr1, ho1⟩; rw [show alignAt false i = m * 8 by unfold alignAt; simp; rw [HM.out]] at hr1; have _c0 := hr1.c0; have _c1 := hr1.c1; have _c2 := hr1.c2; have _f1 := hr1.fz 1; have _f2 := hr1.fz 2; have HR1 := hide hr1; have HO1 := hide ho1; clear hr1 ho1))
      go_quiet (fail)
      go_wp2
      go_ret
      exact ⟨rfl, ⟨_, by omega, HR1.out.setBad.drew2 _⟩, (HO1.out.trans (Only.setCell _ _ _ _)).trans (Only.drewN _ _ _)⟩
  · rw [hb] at H
    clear HN hb
    go_enter Try.func47, Try.ntmps47
    go_wp2_with (first | (go_at_call 46; refine (qalign_any p s i true _ H.out (by omega) hs).mono ?_; rintro e w1 ⟨rfl, hr1, ho1⟩; have _c0 := hr1.c0; have _c1 := hr1.c1; have _c2 := hr1.c2; have _f1 := hr1.fz 1; have _f2 := hr1.fz 2; have HR1 := hide hr1; have HO1 := hide ho1; clear hr1 ho1))
    go_quiet (fail)
    go_wp2
    go_ret
    exact ⟨rfl, ⟨_, by unfold alignAt; simpa using hi, HR1.out.setBad.drew2 _⟩, (HO1.out.trans (Only.setCell _ _ _ _)).trans (Only.drewN _ _ _)⟩

set_option maxHeartbeats 400000 in
theorem qused_any (p : Nat) (s : ByteArray) (i : Nat) (bad : Bool) (w : World) (h : RdAt 56 w p s i bad) (hi : i ≤ 8 * s.size) (hs : s.size ≤ 100000000000) :
    Calls Try.prog 25 #[.pointer (some ⟨p, 0, none⟩)] w fun e w' => e = .returned (.int .i64 (((i + 7) / 8 : Nat) : Int)) ∧ w = w' := by
  have _c1 := h.c1
  clear h
  go_enter Try.func25, Try.ntmps25
  go_wp2
  go_ret
  exact ⟨retInt (by omega), rfl⟩

theorem qused_q (p : Nat) (s : ByteArray) (i : Nat) (bad : Bool) (w : World) (h : RdAt 56 w p s i bad) (hi : i ≤ 8 * s.size) (hs : s.size ≤ 100000000000) :
    Calls Try.prog 25 #[.pointer (some ⟨p, 0, none⟩)] w fun e w' => e = .returned (.int .i64 (((i + 7) / 8 : Nat) : Int)) ∧ w' = w :=
  (qused_any p s i bad w h hi hs).mono fun _ _ ⟨a, b⟩ => ⟨a, b.symm⟩

end Go.Proofs.Ytaalbaiglkadlaa
