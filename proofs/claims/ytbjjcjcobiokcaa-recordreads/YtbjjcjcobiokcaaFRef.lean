/- Contracts of the document's Cursor: Text, Done, number, U16, U32, U64. -/
import Derived.Test.YtbjjcjcobiokcaaFNum
namespace Go.Proofs.Ytbjjcjcobiokcaa
open Go.RowKit Go.Lib

section
variable (p : Nat) (s : ByteArray) (w : World)

set_option maxHeartbeats 400000 in
theorem qtext_ok (i n : Nat) (h : CurAt 31 w p s i false) (hi : i + n ≤ s.size) (hs : s.size ≤ 1000000000000) :
    Calls Try.prog 38 #[.pointer (some ⟨p, 0, none⟩), .int .i64 n] w fun e w' => e = .returned (.string (s.extract i (i + n))) ∧ CurAt 31 w' p s ((i + n : Nat) : Int) false ∧ Only p w w' := by
  have _c0 := h.c0
  have _c1 := h.c1
  have _c2 := h.c2
  have _f1 := h.fz 1
  have H := hide h
  clear h
  go_enter Try.func38, Try.ntmps38
  go_wp2
  have t1 : decide ((n : Int) < 0) = false := by simp
  have t2 : decide ((i : Int) < 0) = false := by simp
  have t3 : decide ((s.size : Int) < (i : Int)) = false := by simp; omega
  have t5 : IntKind.i64.wrap ((s.size : Int) - i) = s.size - i := by rw [IntKind.wrap_i64]; omega
  have t4 : decide ((s.size : Int) - i < n) = false := by simp; omega
  have t6 : decide (s.size < i) = false := by simp; omega
  go_quiet (fail)
  clear t6
  clear t1 t2 t3 t4
  go_wp2
  go_quiet (fail)
  go_wp2
  go_ret
  exact ⟨retStr (by first | rfl | (congr 1 <;> omega)), (H.out.setAt _ _ _ (by omega)).drew2 _, ((Only.drewN _ _ _).trans (Only.setCell _ _ _ _)).trans (Only.drewN _ _ _)⟩

set_option maxHeartbeats 400000 in
theorem qtext_no (i n : Int) (bad : Bool) (h : CurAt 31 w p s i bad) (hno : bad = true ∨ n < 0 ∨ i < 0 ∨ (s.size : Int) - i < n) (hi : i ≤ 9223372036854775807) (hs : s.size ≤ 1000000000000) :
    Calls Try.prog 38 #[.pointer (some ⟨p, 0, none⟩), .int .i64 n] w fun e w' => e = .returned (.string ByteArray.empty) ∧ CurAt 31 w' p s i true ∧ Only p w w' := by
  have _c0 := h.c0
  have _c1 := h.c1
  have _c2 := h.c2
  have _f2 := h.fz 2
  have H := hide h
  have HN := hide hno
  clear h hno
  cases bad
  · have hn : n < 0 ∨ i < 0 ∨ (s.size : Int) - i < n := by
      rcases HN.out with h | h
      · cases h
      · exact h
    clear HN
    have HN := hide hn
    clear hn
    by_cases h1 : n < 0
    · by_cases h2 : i < 0
      all_goals
        go_enter Try.func38, Try.ntmps38
        go_wp2
        have t1 : decide (n < 0) = true := by simp; omega
        first
          | (have t2 : decide (i < 0) = true := (by simp; omega); go_quiet (fail); clear t1 t2)
          | (have t2 : decide (i < 0) = false := (by simp; omega); go_quiet (fail); clear t1 t2)
        go_wp2
        go_ret
        exact ⟨rfl, H.out.setBad _, (Only.drewN _ _ _).trans (Only.setCell _ _ _ _)⟩
    · by_cases h2 : i < 0
      · go_enter Try.func38, Try.ntmps38
        go_wp2
        have t1 : decide (n < 0) = false := by simp; omega
        have t2 : decide (i < 0) = true := by simp; omega
        go_quiet (fail)
        clear t1 t2
        go_wp2
        go_ret
        exact ⟨rfl, H.out.setBad _, (Only.drewN _ _ _).trans (Only.setCell _ _ _ _)⟩
      · have h3 : (s.size : Int) - i < n := by
          rcases HN.out with h | h | h
          · omega
          · omega
          · exact h
        clear HN
        by_cases h4 : (s.size : Int) < i
        all_goals
          go_enter Try.func38, Try.ntmps38
          go_wp2
          have t1 : decide (n < 0) = false := by simp; omega
          have t2 : decide (i < 0) = false := by simp; omega
          have t5 : IntKind.i64.wrap ((s.size : Int) - i) = s.size - i := by rw [IntKind.wrap_i64]; omega
          have t4 : decide ((s.size : Int) - i < n) = true := by simp; omega
          first
            | (have t3 : decide ((s.size : Int) < i) = true := (by simp; omega); go_quiet (fail); clear t1 t2 t3 t4 t5)
            | (have t3 : decide ((s.size : Int) < i) = false := (by simp; omega); go_quiet (fail); clear t1 t2 t3 t4 t5)
          go_wp2
          go_ret
          exact ⟨rfl, H.out.setBad _, (Only.drewN _ _ _).trans (Only.setCell _ _ _ _)⟩
  · clear HN
    go_enter Try.func38, Try.ntmps38
    go_wp2
    go_quiet (fail)
    go_wp2
    go_ret
    exact ⟨rfl, H.out.setBad _, (Only.drewN _ _ _).trans (Only.setCell _ _ _ _)⟩

end

theorem numB_drop (t : ByteArray) (j : Nat) (h : j < t.size) : numB (t.data.toList.drop j) = t[j].toNat + 256 * numB (t.data.toList.drop (j + 1)) := by
  rw [List.drop_eq_getElem_cons (by simpa using h)]
  rfl

theorem numB_drop_lt (t : ByteArray) (j : Nat) (h : t.size ≤ 8) (hj : 1 ≤ j) : numB (t.data.toList.drop j) < 2 ^ 56 := by
  have h1 := numB_lt (t.data.toList.drop j)
  have h2 : (t.data.toList.drop j).length ≤ 7 := by
    rw [List.length_drop, Array.length_toList]
    have : t.data.size = t.size := rfl
    omega
  exact Nat.lt_of_lt_of_le h1 (Nat.pow_le_pow_right (by decide) (by omega))

theorem or_code_u (a x : Nat) (ha : a < 2 ^ 56) (hx : x < 256) : bits .or .u64 (IntKind.u64.wrap ((a : Int) * 256)) (IntKind.u64.wrap x) = ((x + 256 * a : Nat) : Int) := by
  have e : ∀ n : Int, 0 ≤ n → n < 18446744073709551616 → IntKind.u64.wrap n = n % 18446744073709551616 := by
    intro n h0 h1
    simp only [IntKind.wrap, IntKind.bits, IntKind.signed]
    simp
  rw [e _ (by omega) (by omega), e x (by omega) (by omega), show (x : Int) % 18446744073709551616 = x by omega]
  exact or_step_u a x ha hx

section
variable (p : Nat) (s t : ByteArray) (w : World) (k : Int) (i' : Int) (bad' : Bool)

set_option maxHeartbeats 400000 in
theorem qnumber_of (ht : t.size ≤ 8)
    (hT : Calls Try.prog 38 #[.pointer (some ⟨p, 0, none⟩), .int .i64 k] w fun e w1 => e = .returned (.string t) ∧ CurAt 31 w1 p s i' bad' ∧ Only p w w1) :
    Calls Try.prog 47 #[.pointer (some ⟨p, 0, none⟩), .int .i64 k] w fun e w' => e = .returned (.int .i64 (numV t)) ∧ CurAt 31 w' p s i' (bad' || numBig t) ∧ Only p w w' := by
  have HT := hide hT
  clear hT
  go_enter Try.func47, Try.ntmps47
  go_wp2_with fail
  refine HT.out.mono ?_
  rintro e w1 ⟨rfl, h1, o1⟩
  have _f2 := h1.fz 2
  have _c2 := h1.c2
  have H1 := hide h1
  have O1 := hide o1
  clear h1 o1
  go_wp2
  go_loop [6, 7] (fun v c => ∃ j : Nat, j ≤ t.size ∧ c = .int .i64 ((j : Int) - 1) ∧ v = .int .u64 (numB (t.data.toList.drop j) : Nat)) (fun _ c => (intOf c + 1).toNat)
  case atStart => exact ⟨t.size, Nat.le_refl _, rfl, by rw [List.drop_eq_nil_of_le (by rw [Array.length_toList]; exact Nat.le_refl _)]; rfl⟩
  case round =>
    obtain ⟨j, hj, rfl, rfl⟩ := hrel
    by_cases hlt : 1 ≤ j
    · obtain ⟨m, rfl⟩ : ∃ m, j = m + 1 := ⟨j - 1, by omega⟩
      have HC := hide (numB_drop t m (by omega))
      have HL := hide (numB_drop_lt t (m + 1) ht (by omega))
      have em : ((m + 1 : Nat) : Int) - 1 = m := by omega
      rw [em]
      clear em
      go_wp2
      go_round
      case rel => exact ⟨m, by omega, by go_num, by rw [HC.out]; exact congrArg (Value.int .u64) (or_code_u _ _ HL.out t[m].toNat_lt)⟩
      case measure => simp [intOf]
    · have hj0 : j = 0 := by omega
      subst hj0
      rw [List.drop_zero]
      have hb : numB t.data.toList < 18446744073709551616 := by
        have h := numB_lt t.data.toList
        have : (2 : Nat) ^ (8 * t.data.toList.length) ≤ 2 ^ 64 := Nat.pow_le_pow_right (by decide) (by rw [Array.length_toList]; exact Nat.mul_le_mul_left 8 ht)
        omega
      by_cases hlo : numB t.data.toList < 9223372036854775808
      · have HV := hide (show numV t = numB t.data.toList by unfold numV; rw [if_pos hlo])
        have HG := hide (show numBig t = false by unfold numBig; simp; omega)
        obtain ⟨N, hN⟩ : ∃ N : Int, ((numB t.data.toList : Nat) : Int) = N := ⟨_, rfl⟩
        have HN := hide hN
        have n0 : 0 ≤ N := by omega
        have n1 : N < 9223372036854775808 := by omega
        rw [hN]
        clear hN hlo hb
        go_wp2
        go_ret
        rw [HV.out, HG.out, Bool.or_false, HN.out]
        exact ⟨rfl, H1.out, O1.out⟩
      · have HV := hide (show numV t = 0 by unfold numV; rw [if_neg hlo])
        have HG := hide (show numBig t = true by unfold numBig; simp; omega)
        obtain ⟨N, hN⟩ : ∃ N : Int, ((numB t.data.toList : Nat) : Int) = N := ⟨_, rfl⟩
        have n0 : 9223372036854775808 ≤ N := by omega
        have n1 : N < 18446744073709551616 := by omega
        rw [hN]
        clear hN hlo hb
        go_wp2
        go_ret
        rw [HV.out, HG.out, Bool.or_true]
        exact ⟨rfl, H1.out.setBad0, O1.out.trans (Only.setCell _ _ _ _)⟩
end

end Go.Proofs.Ytbjjcjcobiokcaa
