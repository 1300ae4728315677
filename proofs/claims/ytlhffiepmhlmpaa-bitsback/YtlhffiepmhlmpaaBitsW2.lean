/- Contracts of the Writer's methods over lists of bits: Bit, Put, Turn. -/
import Derived.Test.YtlhffiepmhlmpaaBitsW
import Derived.Test.YtlhffiepmhlmpaaPacks
namespace Go.Proofs.Ytlhffiepmhlmpaa
open Go.RowKit

/-- A writer lies in block p, with slice v; what was written are the bits bs. -/
def Wr (w : World) (p : Nat) (v : Value) (bs : List Bool) : Prop := ∃ out, WrAt w p v out bs.length ∧ Packs bs out

theorem odd_nat (b : Int) : (b % 2).toNat = (decide (b % 2 = 1)).toNat := by
  by_cases h : b % 2 = 1
  · simp [h]
  · have : b % 2 = 0 := by omega
    simp [this]

theorem wbit_any (p : Nat) (v : Value) (bs : List Bool) (b : Int) (w : World) (h : Wr w p v bs) (hN2 : bs.length ≤ 1000000000000) :
    Calls Try.prog 19 #[.pointer (some ⟨p, 0, none⟩), .int .i64 b] w fun e w' => e = .returned (.tuple #[]) ∧ ∃ v', Wr w' p v' (bs ++ [decide (b % 2 = 1)]) ∧ Step p v v' w w' := by
  obtain ⟨out, hw, hp⟩ := h
  have hl := hp.len
  by_cases h0 : bs.length % 8 = 0
  · refine (wbit_new p v out bs.length b w hw h0 hN2 (by omega)).mono ?_
    rintro e w' ⟨rfl, v', h1, h2⟩
    refine ⟨rfl, v', ⟨_, by simpa using h1, hp.new h0 _ _ ?_⟩, h2⟩
    rw [orBit_nat _ _ _ (by omega), odd_nat]
    simp
  · have hne : out ≠ [] := by intro e; rw [e] at hl; simp at hl; omega
    obtain ⟨o2, x, rfl⟩ : ∃ o2 x, out = o2 ++ [x] := ⟨_, _, (List.dropLast_concat_getLast hne).symm⟩
    refine (wbit_in p v o2 x bs.length b w hw h0 hN2 (by simp at hl; omega)).mono ?_
    rintro e w' ⟨rfl, h1, h2⟩
    refine ⟨rfl, v, ⟨_, by simpa using h1, hp.put h0 _ _ ?_⟩, h2⟩
    rw [orBit_nat _ _ _ (by omega), odd_nat]

/-- The k lowest bits of a number, the lowest first. -/
def lowBits (v : Int) (k : Nat) : List Bool := (List.range k).map fun i => decide (v / 2 ^ i % 2 = 1)

theorem lowBits_length (v : Int) (k : Nat) : (lowBits v k).length = k := by simp [lowBits]
theorem lowBits_succ (v : Int) (k : Nat) : lowBits v (k + 1) = lowBits v k ++ [decide (v / 2 ^ k % 2 = 1)] := by simp [lowBits, List.range_succ]

set_option maxHeartbeats 400000 in
theorem wput_any (p : Nat) (v : Value) (bs : List Bool) (x n : Int) (w : World) (k : Nat) (hk : takenI n = (k : Int)) (h : Wr w p v bs) (hN2 : bs.length ≤ 900000000000) :
    Calls Try.prog 20 #[.pointer (some ⟨p, 0, none⟩), .int .i64 x, .int .i64 n] w fun e w' => e = .returned (.tuple #[]) ∧ ∃ v', Wr w' p v' (bs ++ lowBits x k) ∧ Step p v v' w w' := by
  have hk30 : k ≤ 30 := by unfold takenI at hk; split at hk <;> (try split at hk) <;> omega
  have HK := hide hk
  have H := hide h
  clear h hk
  go_enter Try.func20, Try.ntmps20
  go_wp2_with (first | (go_at_call 25; refine (taken_any _ _).mono ?_; rintro e w' ⟨rfl, rfl⟩; rw [HK.out]))
  go_loopw [9] (fun c wr => ∃ (j : Nat) (vj : Value), j ≤ k ∧ c = .int .i64 j ∧ Hid (Wr wr p vj (bs ++ lowBits x j)) ∧ Hid (Step p v vj w wr)) (fun c _ => k - (intOf c).toNat)
  case atStart => exact ⟨0, v, Nat.zero_le _, rfl, by simpa [lowBits] using H, Step.refl _ _ _⟩
  case round =>
    obtain ⟨j, vj, hj, rfl, HR, HO⟩ := hrel
    by_cases hlt : j < k
    · have hlen : (bs ++ lowBits x j).length ≤ 1000000000000 := by simp [lowBits_length]; omega
      go_wp2_with (first | (go_at_call 19; refine (wbit_any p vj (bs ++ lowBits x j) _ _ HR.out hlen).mono ?_; rintro e w1 ⟨rfl, v1, hr1, ho1⟩; have HR1 := hide hr1; have HO1 := hide ho1; clear hr1 ho1))
      go_roundw
      case rel =>
        refine ⟨j + 1, v1, by omega, by go_num, ?_, HO.out.trans HO1.out⟩
        rw [lowBits_succ, ← List.append_assoc]
        exact HR1
      case measure => simp [intOf]; omega
    · have hjk : k = j := by omega
      have HJ := hide hjk
      clear hjk
      go_wp2
      go_end0
      rw [HJ.out]
      exact ⟨rfl, _, HR.out, HO.out⟩

/-- These, the highest first. -/
def highBits (v : Int) (k : Nat) : List Bool := (lowBits v k).reverse

theorem lowBits_get (v : Int) (k j : Nat) (h : j < k) : (lowBits v k)[j]? = some (decide (v / 2 ^ j % 2 = 1)) := by
  simp [lowBits, List.getElem?_map, List.getElem?_range h]

/-- One more of them, from above. -/
theorem drop_step (v : Int) (k j : Nat) (h : j < k) : ((lowBits v k).drop j).reverse = ((lowBits v k).drop (j + 1)).reverse ++ [decide (v / 2 ^ j % 2 = 1)] := by
  have hl : j < (lowBits v k).length := by rw [lowBits_length]; exact h
  rw [List.drop_eq_getElem_cons hl, List.reverse_cons]
  have := lowBits_get v k j h
  rw [List.getElem?_eq_getElem hl] at this
  injection this with e
  rw [e]

set_option maxHeartbeats 400000 in
theorem wturn_any (p : Nat) (v : Value) (bs : List Bool) (x n : Int) (w : World) (k : Nat) (hk : takenI n = (k : Int)) (h : Wr w p v bs) (hN2 : bs.length ≤ 900000000000) :
    Calls Try.prog 21 #[.pointer (some ⟨p, 0, none⟩), .int .i64 x, .int .i64 n] w fun e w' => e = .returned (.tuple #[]) ∧ ∃ v', Wr w' p v' (bs ++ highBits x k) ∧ Step p v v' w w' := by
  have hk30 : k ≤ 30 := by unfold takenI at hk; split at hk <;> (try split at hk) <;> omega
  have HK := hide hk
  have H := hide h
  clear h hk
  go_enter Try.func21, Try.ntmps21
  go_wp2_with (first | (go_at_call 25; refine (taken_any _ _).mono ?_; rintro e w' ⟨rfl, rfl⟩; rw [HK.out]))
  go_loopw [6] (fun c wr => ∃ (j : Nat) (vj : Value), j ≤ k ∧ c = .int .i64 ((j : Int) - 1) ∧ Hid (Wr wr p vj (bs ++ ((lowBits x k).drop j).reverse)) ∧ Hid (Step p v vj w wr)) (fun c _ => (intOf c + 1).toNat)
  case atStart => exact ⟨k, v, Nat.le_refl _, by go_num, by rw [List.drop_eq_nil_of_le (by rw [lowBits_length]; exact Nat.le_refl _)]; simpa using H, Step.refl _ _ _⟩
  case round =>
    obtain ⟨j, vj, hj, rfl, HR, HO⟩ := hrel
    by_cases hlt : 0 < j
    · obtain ⟨m, rfl⟩ : ∃ m, j = m + 1 := ⟨j - 1, by omega⟩
      have hlen : (bs ++ ((lowBits x k).drop (m + 1)).reverse).length ≤ 1000000000000 := by simp [lowBits_length]; omega
      go_wp2_with (first | (go_at_call 19; refine (wbit_any p vj (bs ++ ((lowBits x k).drop (m + 1)).reverse) _ _ HR.out hlen).mono ?_; rintro e w1 ⟨rfl, v1, hr1, ho1⟩; have HR1 := hide hr1; have HO1 := hide ho1; clear hr1 ho1))
      go_roundw
      case rel =>
        refine ⟨m, v1, by omega, by go_num, ?_, HO.out.trans HO1.out⟩
        rw [drop_step x k m (by omega), ← List.append_assoc]
        exact HR1
      case measure => simp [intOf]
    · have hj0 : j = 0 := by omega
      subst hj0
      go_wp2
      go_end0
      exact ⟨rfl, _, by simpa [highBits] using HR.out, HO.out⟩

/-- Bits 0 up to a whole byte. -/
def alignBits (bs : List Bool) : List Bool := bs ++ List.replicate ((bs.length + 7) / 8 * 8 - bs.length) false

theorem alignBits_length (bs : List Bool) : (alignBits bs).length = (bs.length + 7) / 8 * 8 := by
  simp [alignBits]; omega

theorem alignBits_getD (bs : List Bool) (i : Nat) : (alignBits bs).getD i false = bs.getD i false := by
  unfold alignBits
  simp only [List.getD_eq_getElem?_getD, List.getElem?_append]
  by_cases h : i < bs.length
  · rw [if_pos h]
  · rw [if_neg h, List.getElem?_replicate]
    rw [List.getElem?_eq_none (by omega)]
    split <;> rfl

theorem Packs.align {bs : List Bool} {out : List UInt8} (h : Packs bs out) : Packs (alignBits bs) out :=
  ⟨by rw [alignBits_length, h.len]; omega, fun i => by rw [alignBits_getD, h.bit]⟩

theorem WrAt.setN {w : World} {p : Nat} {v : Value} {out : List UInt8} {N : Nat} (h : WrAt w p v out N) (MI : Int) (M : Nat) (hM : MI = M) : WrAt (w.setCell ⟨p, 1, none⟩ (.int .i64 MI)) p v out M := by
  refine ⟨?_, ?_, h.ne⟩
  · rw [heap_setCell_same _ _ _ _ _ _ _ h.box, hM]; rfl
  · refine ⟨h.own.1, ?_⟩
    rcases h.own.2 with h2 | ⟨g, cap, cur, hv, hg, hh, r⟩
    · exact .inl h2
    · refine .inr ⟨g, cap, cur, hv, hg, ?_, r⟩
      rw [Below.heap_setCell _ _ _ _ (fun e => h.ne (by rw [hv, show g = p from e]; rfl))]
      exact hh

set_option maxHeartbeats 400000 in
theorem walign_any (p : Nat) (v : Value) (bs : List Bool) (w : World) (h : Wr w p v bs) (hN2 : bs.length ≤ 900000000000) :
    Calls Try.prog 22 #[.pointer (some ⟨p, 0, none⟩)] w fun e w' => e = .returned (.tuple #[]) ∧ Wr w' p v (alignBits bs) ∧ Only p w w' := by
  obtain ⟨out, hw, hp⟩ := h
  have _c1 := hw.c1
  have _f1 := hw.fz 1
  have H := hide hw
  clear hw
  go_enter Try.func22, Try.ntmps22
  go_wp2_with (first | (go_at_call 26; refine (whole_any _ _ (by omega) (by omega)).mono ?_; rintro e w' ⟨rfl, rfl⟩))
  go_end0
  refine ⟨rfl, ⟨out, ?_, hp.align⟩, Only.setCell _ _ _ _⟩
  exact H.out.setN _ _ (by rw [alignBits_length]; omega)

end Go.Proofs.Ytlhffiepmhlmpaa
