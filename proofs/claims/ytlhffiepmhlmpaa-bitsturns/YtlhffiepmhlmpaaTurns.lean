/- Whatever a number v and n: the bits that Turn writes, the highest first, are those that Put writes of the number that is turned: 'BitsTurns' answers true. No condition. -/
import Derived.Test.YtlhffiepmhlmpaaAwake
namespace Go.Proofs.Ytlhffiepmhlmpaa
open Go.RowKit Go.Lib

/-- The k lowest bits of v, turned. -/
def turnI (v : Int) : Nat → Int
  | 0 => 0
  | k + 1 => 2 * turnI v k + v / 2 ^ k % 2

theorem turnI_lt (v : Int) (k : Nat) : 0 ≤ turnI v k ∧ turnI v k < 2 ^ k := by
  induction k with
  | zero => simp [turnI]
  | succ k ih =>
    unfold turnI
    rw [Int.pow_succ]
    have := Int.emod_two_eq (v / 2 ^ k)
    omega

/-- Bit i of the turned number is bit k - 1 - i. -/
theorem turn_bit (v : Int) (k : Nat) : ∀ i, i < k → turnI v k / 2 ^ i % 2 = v / 2 ^ (k - 1 - i) % 2 := by
  induction k with
  | zero => intro i h; omega
  | succ k ih =>
    intro i hi
    unfold turnI
    have h2 := Int.emod_two_eq (v / 2 ^ k)
    cases i with
    | zero => simp
    | succ i =>
      have e : (2 * turnI v k + v / 2 ^ k % 2) / 2 ^ (i + 1) = turnI v k / 2 ^ i := by
        rw [Int.pow_succ, Int.mul_comm (2 ^ i) 2, ediv2]
        congr 1
        omega
      rw [e, ih i (by omega)]
      congr 3
      omega

theorem turn_bits (v : Int) (k : Nat) : lowBits (turnI v k) k = highBits v k := by
  apply List.ext_getElem?
  intro i
  unfold highBits
  by_cases h : i < k
  · rw [lowBits_get _ _ _ h, List.getElem?_reverse (by rw [lowBits_length]; exact h), lowBits_length, lowBits_get _ _ _ (by omega), turn_bit v k i h]
  · rw [List.getElem?_eq_none (by rw [lowBits_length]; omega), List.getElem?_eq_none (by rw [List.length_reverse, lowBits_length]; omega)]

theorem turn_code (v : Int) (j : Nat) (hj : j < 30) : bits .or .i64 (turnI v j * 2) (v / 2 ^ j % 2) = turnI v (j + 1) := by
  have h := turnI_lt v j
  have h2 := Int.emod_two_eq (v / 2 ^ j)
  have hp := pow_le30 j (by omega)
  show _ = 2 * turnI v j + v / 2 ^ j % 2
  obtain ⟨a, ha⟩ : ∃ a : Nat, turnI v j = a := ⟨(turnI v j).toNat, by omega⟩
  obtain ⟨b, hb⟩ : ∃ b : Nat, v / 2 ^ j % 2 = b := ⟨(v / 2 ^ j % 2).toNat, by omega⟩
  rw [ha] at h
  rw [hb] at h2
  rw [ha, hb, show ((a : Int) * 2) = ((a * 2 : Nat) : Int) by omega, or_i64_nat _ _ (by omega) (by omega), nat_join 1 _ _ (by omega) (by omega)]
  omega

theorem Wr.step {w w' : World} {p q : Nat} {u u' v : Value} {bs : List Bool} (h : Wr w p v bs) (hs : Step q u u' w w') (hpq : p ≠ q) (h1 : u.ownBlock ≠ some p) (h2 : ∀ k, v.ownBlock = some k → k ≠ q ∧ u.ownBlock ≠ some k) : Wr w' p v bs := by
  refine h.kept fun k hk hkk => ?_
  rcases hkk with rfl | hkk
  · exact hs.block k hk hpq (Ne.symm h1)
  · exact hs.block k hk (h2 k hkk).1 (Ne.symm (h2 k hkk).2)

set_option maxHeartbeats 1000000 in
theorem turns_walk (a0 a1 : Int) (w1 : 0 ≤ a1 ∧ a1 ≤ 255) (w : World) :
    Calls Try.prog 6 #[.int .i64 a0, .int .u8 a1] w fun e w' => e = .returned (.bool true) ∧ Below w.heap.size w w' := by
  obtain ⟨k, hk, HK⟩ : ∃ k : Nat, k ≤ 30 ∧ Hid (a1 % 31 = (k : Int)) := ⟨(a1 % 31).toNat, by omega, hide (by omega)⟩
  obtain ⟨h0, h1⟩ := w1
  go_enter Try.func6, Try.ntmps6
  go_wp2_with fail
  rw [HK.out]
  go_loop [6, 7] (fun t i => ∃ j : Nat, j ≤ k ∧ i = .int .i64 j ∧ t = .int .i64 (turnI a0 j)) (fun _ i => k - (intOf i).toNat)
  case atStart => exact ⟨0, Nat.zero_le _, rfl, rfl⟩
  case round =>
    obtain ⟨j, hj, rfl, rfl⟩ := hrel
    have hb := turnI_lt a0 j
    have hp := pow_le30 j (by omega)
    have ha := and1_i64 (a0 / 2 ^ j)
    by_cases hlt : j < k
    · have HT := hide (turn_code a0 j (by omega))
      go_wp2
      go_round
      case rel => exact ⟨j + 1, by omega, by go_num, by rw [← HT.out]⟩
      case measure => simp [intOf]; omega
    · have hjk : j = k := by omega
      subst hjk
      clear ha
      go_wp2_with fail
      have A0 := hide ((Wr.made w).alloc (.cells #[.slice none 0 0, .int .i64 0] 39))
      have B0 := hide (Wr.made (w.alloc (.cells #[.slice none 0 0, .int .i64 0] 39)))
      have htk : takenI (j : Int) = (j : Int) := by unfold takenI; rw [if_neg (by omega), if_neg (by omega)]
      have HTK := hide htk
      clear htk
      refine (wturn_any w.heap.size _ [] a0 j _ j HTK.out A0.out (by decide)).mono ?_
      rintro e wa ⟨rfl, va, ha, sa⟩
      have b1 : Wr wa (w.heap.size + 1) (.slice none 0 0) [] := by
        have := B0.out.step sa (by simp) (by simp [Value.ownBlock]) (by simp [Value.ownBlock])
        simpa using this
      have belA := sa.below (B := w.heap.size) (Nat.le_refl _) (by simp [Value.ownBlock]) (by simp; omega)
      have BA := hide (((((Below.refl _ w).alloc (Nat.le_refl _) _).alloc (by simp) _).trans belA.1))
      have VA := hide belA.2
      have va1 : ∀ k, va.ownBlock = some k → k ≠ w.heap.size + 1 := by
        intro k hk
        rcases sa.own with e | e
        · rw [e] at hk; simp [Value.ownBlock] at hk
        · have := e k hk; simp at this; omega
      have VA1 := hide va1
      have A1 := hide ha
      have B1 := hide b1
      have hsz := ha.lt
      have hsz2 := b1.lt
      clear ha sa b1 belA va1
      go_wp2_with fail
      refine (wput_any (w.heap.size + 1) _ [] (turnI a0 j) j _ j HTK.out B1.out (by decide)).mono ?_
      rintro e wb ⟨rfl, vb, hb, sb⟩
      have A2 := hide (A1.out.step sb (by omega) (by simp [Value.ownBlock]) (fun k hk => ⟨VA1.out k hk, by simp [Value.ownBlock]⟩))
      have belB := sb.below (B := w.heap.size) (by omega) (by simp [Value.ownBlock]) (by omega)
      have BB := hide (BA.out.trans belB.1)
      have B2 := hide hb
      have hszb := sb.size
      clear hb sb belB
      go_wp2_with fail
      refine (awake_any _).mono ?_
      rintro e wc ⟨rfl, bc⟩
      have A3 := hide (A2.out.kept fun k hk _ => bc.block k hk)
      have B3 := hide (B2.out.kept fun k hk _ => bc.block k hk)
      have BC := hide (BB.out.trans (bc.mono (by omega)))
      have na := A3.out.N
      have nb := B3.out.N
      rw [show (([] : List Bool) ++ highBits a0 j).length = j by simp [highBits, lowBits_length]] at na
      rw [show (([] : List Bool) ++ lowBits (turnI a0 j) j).length = j by simp [lowBits_length]] at nb
      clear bc
      go_wp2_with fail
      refine (wbytes_any _ _ _ _ A3.out).mono ?_
      rintro e wd ⟨⟨oa, rfl, pa⟩, rfl⟩
      go_wp2_with fail
      refine (wbytes_any _ _ _ _ B3.out).mono ?_
      rintro e wd ⟨⟨ob, rfl, pb⟩, rfl⟩
      rw [turn_bits] at pb
      have e := pa.uniq pb
      subst e
      clear pa pb
      go_wp2
      go_ret
      exact ⟨rfl, BC.out⟩

theorem turns_law (w : World) (a0 : Int) (_w0 : (Lit.int .i64 a0).wf = true) (a1 : Int) (w1 : (Lit.int .u8 a1).wf = true) :
    Calls Try.prog 6 #[.int .i64 a0, .int .u8 a1] w fun e w' => e = .returned (.bool true) ∧ Below w.heap.size w w' :=
  turns_walk a0 a1 (by simp only [Lit.wf, IntKind.min, IntKind.max, IntKind.signed, IntKind.bits, Bool.and_eq_true] at w1; simpa using w1) w

end Go.Proofs.Ytlhffiepmhlmpaa
