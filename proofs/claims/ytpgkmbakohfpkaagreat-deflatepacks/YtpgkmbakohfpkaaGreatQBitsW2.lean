/- Contracts of the document's Writer over lists of bits: Put, Turn, Align, Text, Bytes. -/
import Derived.Test.YtpgkmbakohfpkaaGreatQBitsW
import Derived.Deep.LoopGhost
namespace Go.Proofs.YtpgkmbakohfpkaaGreat
open Go.RowKit Go.Lib

set_option maxHeartbeats 400000 in
theorem qwput_any (p : Nat) (v : Value) (bs : List Bool) (x : Int) (k : Nat) (w : World) (hk30 : k ≤ 30) (h : Wq w p v bs) (hN2 : bs.length ≤ 900000000000) :
    Calls Tryz.prog 28 #[.pointer (some ⟨p, 0, none⟩), .int .i64 x, .int .i64 (k : Int)] w fun e w' => e = .returned (.tuple #[]) ∧ ∃ v', Wq w' p v' (bs ++ lowBits x k) ∧ Step p v v' w w' := by
  have H := hide h
  clear h
  go_enter Tryz.func28, Tryz.ntmps28
  go_wp2
  go_loopw [6] (fun c wr => ∃ (j : Nat) (vj : Value), j ≤ k ∧ c = .int .i64 j ∧ Hid (Wq wr p vj (bs ++ lowBits x j)) ∧ Hid (Step p v vj w wr)) (fun c _ => k - (intOf c).toNat)
  case atStart => exact ⟨0, v, Nat.zero_le _, rfl, by simpa [lowBits] using H, Step.refl _ _ _⟩
  case round =>
    obtain ⟨j, vj, hj, rfl, HR, HO⟩ := hrel
    by_cases hlt : j < k
    · have hlen : (bs ++ lowBits x j).length ≤ 1000000000000 := by simp [lowBits_length]; omega
      have zj : (j : Int) < (k : Int) := by omega
      have zj3 : (j : Int) < 30 := by omega
      go_wp2_with (first | (go_at_call 27; refine (qwbit_any p vj (bs ++ lowBits x j) _ _ HR.out hlen).mono ?_; rintro e w1 ⟨rfl, v1, hr1, ho1⟩; have HR1 := hide hr1; have HO1 := hide ho1; clear hr1 ho1))
      go_roundw
      case rel =>
        refine ⟨j + 1, v1, by omega, by go_num, ?_, HO.out.trans HO1.out⟩
        rw [lowBits_succ, ← List.append_assoc]
        exact HR1
      case measure => simp [intOf]; omega
    · have hjk : k = j := by omega
      subst hjk
      have zj : ¬ (k : Int) < (k : Int) := by omega
      go_wp2
      go_end0
      exact ⟨rfl, _, HR.out, HO.out⟩

set_option maxHeartbeats 400000 in
theorem qwturn_any (p : Nat) (v : Value) (bs : List Bool) (x : Int) (k : Nat) (w : World) (hk30 : k ≤ 30) (h : Wq w p v bs) (hN2 : bs.length ≤ 900000000000) :
    Calls Tryz.prog 35 #[.pointer (some ⟨p, 0, none⟩), .int .i64 x, .int .i64 (k : Int)] w fun e w' => e = .returned (.tuple #[]) ∧ ∃ v', Wq w' p v' (bs ++ highBits x k) ∧ Step p v v' w w' := by
  have H := hide h
  clear h
  have zk : (k : Int) ≤ 30 := by omega
  go_enter Tryz.func35, Tryz.ntmps35
  go_wp2
  go_loopw [6] (fun c wr => ∃ (j : Nat) (vj : Value), j ≤ k ∧ c = .int .i64 ((j : Int) - 1) ∧ Hid (Wq wr p vj (bs ++ ((lowBits x k).drop j).reverse)) ∧ Hid (Step p v vj w wr)) (fun c _ => (intOf c + 1).toNat)
  case atStart => exact ⟨k, v, Nat.le_refl _, by go_num, by rw [List.drop_eq_nil_of_le (by rw [lowBits_length]; exact Nat.le_refl _)]; simpa using H, Step.refl _ _ _⟩
  case round =>
    obtain ⟨j, vj, hj, rfl, HR, HO⟩ := hrel
    by_cases hlt : 0 < j
    · obtain ⟨m, rfl⟩ : ∃ m, j = m + 1 := ⟨j - 1, by omega⟩
      have hlen : (bs ++ ((lowBits x k).drop (m + 1)).reverse).length ≤ 1000000000000 := by simp [lowBits_length]; omega
      go_wp2_with (first | (go_at_call 27; refine (qwbit_any p vj (bs ++ ((lowBits x k).drop (m + 1)).reverse) _ _ HR.out hlen).mono ?_; rintro e w1 ⟨rfl, v1, hr1, ho1⟩; have HR1 := hide hr1; have HO1 := hide ho1; clear hr1 ho1))
      go_roundw
      case rel =>
        refine ⟨m, v1, by omega, by go_num, ?_, HO.out.trans HO1.out⟩
        rw [drop_step x k m (by omega), ← List.append_assoc]
        exact HR1
      case measure => simp [intOf]
    · have hj0 : j = 0 := by omega
      subst hj0
      go_wp2
      go_end0
      exact ⟨rfl, _, by simpa [highBits] using HR.out, HO.out⟩

theorem align_step (bs : List Bool) (h : bs.length % 8 ≠ 0) : alignBits (bs ++ [false]) = alignBits bs := by
  unfold alignBits
  rw [List.append_assoc]
  congr 1
  rw [List.length_append, List.length_singleton]
  obtain ⟨m, hm⟩ : ∃ m, (bs.length + 7) / 8 * 8 - bs.length = m + 1 := ⟨(bs.length + 7) / 8 * 8 - bs.length - 1, by omega⟩
  rw [hm, show (bs.length + 1 + 7) / 8 * 8 - (bs.length + 1) = m by omega]
  rfl
theorem align_done (bs : List Bool) (h : bs.length % 8 = 0) : alignBits bs = bs := by
  unfold alignBits
  rw [show (bs.length + 7) / 8 * 8 - bs.length = 0 by omega]
  simp

set_option maxHeartbeats 400000 in
theorem qwalign_any (p : Nat) (v : Value) (bs : List Bool) (w : World) (h : Wq w p v bs) (hN2 : bs.length ≤ 900000000000) :
    Calls Tryz.prog 29 #[.pointer (some ⟨p, 0, none⟩)] w fun e w' => e = .returned (.tuple #[]) ∧ ∃ v', Wq w' p v' (alignBits bs) ∧ Step p v v' w w' := by
  have H := hide h
  clear h
  go_enter Tryz.func29, Tryz.ntmps29
  go_wp2
  go_loopg [] ((alignBits bs).length - bs.length) (fun gk wr => ∃ (cs : List Bool) (vj : Value), Hid (Wq wr p vj cs) ∧ cs.length ≤ 900000000008 ∧ (cs.length + 7) / 8 * 8 - cs.length ≤ gk ∧ Hid (alignBits cs = alignBits bs) ∧ Hid (Step p v vj w wr))
  case atStart => exact ⟨bs, v, H, by omega, by rw [alignBits_length]; exact Nat.le_refl _, rfl, Step.refl _ _ _⟩
  case round =>
    obtain ⟨cs, vj, HR, hlen, hgk, HA, HS⟩ := hrel
    obtain ⟨out, hr1, hp1⟩ := HR.out
    have _c1 := hr1.c1
    clear hr1 hp1
    by_cases h0 : cs.length % 8 = 0
    · have hpl : (((cs.length : Int) % 8) == 0) = true := by simp; omega
      have HD := hide (align_done cs h0)
      go_wp2
      go_end0
      rw [← HA.out, HD.out]
      exact ⟨rfl, _, HR.out, HS.out⟩
    · have hpl : (((cs.length : Int) % 8) == 0) = false := by simp; omega
      have HD := hide (align_step cs h0)
      go_wp2_with (first | (go_at_call 27; refine (qwbit_any p vj cs _ _ HR.out (by omega)).mono ?_; rintro e w1 ⟨rfl, v1, hr1, ho1⟩; have HR1 := hide hr1; have HO1 := hide ho1; clear hr1 ho1))
      go_roundg ((cs.length + 1 + 7) / 8 * 8 - (cs.length + 1))
      case measure => omega
      case rel => exact ⟨cs ++ [false], v1, HR1, by rw [List.length_append, List.length_singleton]; omega, by rw [List.length_append, List.length_singleton]; exact Nat.le_refl _, HD.out.trans HA.out, HS.out.trans HO1.out⟩

theorem byte_bits (x : UInt8) : lowBits ((x.toNat : Nat) : Int) 8 = (List.range 8).map fun j => x.toNat.testBit j := by
  unfold lowBits
  apply List.map_congr_left
  intro i hi
  rw [Nat.testBit_eq_decide_div_mod_eq]
  have e : ((x.toNat : Int) / 2 ^ i % 2) = ((x.toNat / 2 ^ i % 2 : Nat) : Int) := by
    rw [Int.natCast_emod, Int.natCast_ediv, Int.natCast_pow]
    rfl
  rw [e]
  apply decide_eq_decide.2
  omega
theorem bytes_snoc (l : List UInt8) (x : UInt8) : bytesBits (l ++ [x]) = bytesBits l ++ lowBits ((x.toNat : Nat) : Int) 8 := by
  rw [byte_bits]
  induction l with
  | nil => simp [bytesBits]
  | cons y l ih => rw [List.cons_append, bytesBits, ih, bytesBits, List.append_assoc]

def bAt (s : ByteArray) (i : Nat) : Nat := (s.data.toList.getD i 0).toNat
theorem bAt_get (s : ByteArray) (i : Nat) (h : i < s.size) : s[i].toNat = bAt s i := by
  unfold bAt
  have hk : i < s.data.toList.length := by simpa using h
  rw [List.getD_eq_getElem?_getD, List.getElem?_eq_getElem hk]
  rfl
theorem str_index (s : ByteArray) (i : Nat) (h : i < s.size) (w : World) : (Instr.index 9 (.string s) (.int .i64 (i : Nat))).run Tryz.prog w = .ok (.int .u8 (bAt s i : Nat)) w := by
  have hg := bAt_get s i h
  simp [Instr.index, asIntOf, run_underlying Tryz.underlying9, h, hg]

set_option maxHeartbeats 400000 in
theorem qwtext_any (p : Nat) (v : Value) (bs : List Bool) (s : ByteArray) (w : World) (h : Wq w p v bs) (hN2 : bs.length ≤ 800000000000) (hs : s.size ≤ 10000000000) :
    Calls Tryz.prog 30 #[.pointer (some ⟨p, 0, none⟩), .string s] w fun e w' => e = .returned (.tuple #[]) ∧ ∃ v', Wq w' p v' (alignBits bs ++ bytesBits s.data.toList) ∧ Step p v v' w w' := by
  have HAL := hide (qwalign_any p v bs w h (by omega))
  clear h
  obtain ⟨n, hn⟩ : ∃ n, s.size = n := ⟨_, rfl⟩
  have HN := hide hn
  have HLL := hide (show s.data.toList.length = n by rw [Array.length_toList]; exact hn)
  have zn : ((s.size : Nat) : Int) = (n : Int) := by omega
  rw [hn] at hs
  have hal : (alignBits bs).length ≤ 800000000008 := by rw [alignBits_length]; omega
  clear hn
  go_enter Tryz.func30, Tryz.ntmps30
  go_wp2_with fail
  refine HAL.out.mono ?_
  rintro e w1 ⟨rfl, v1, hr1, ho1⟩
  have HR1 := hide hr1
  have HO1 := hide ho1
  clear hr1 ho1
  go_wp2
  go_loopw [4] (fun c wr => ∃ (j : Nat) (vj : Value), j ≤ n ∧ c = .int .i64 j ∧ Hid (Wq wr p vj (alignBits bs ++ bytesBits (s.data.toList.take j))) ∧ Hid (Step p v vj w wr)) (fun c _ => n - (intOf c).toNat)
  case atStart => exact ⟨0, v1, Nat.zero_le _, rfl, by simpa [bytesBits] using HR1, HO1⟩
  case round =>
    clear HR1 HO1
    obtain ⟨j, vj, hj, rfl, HR, HO⟩ := hrel
    by_cases hlt : j < n
    · have zj : (j : Int) < (n : Int) := by omega
      have hlen : (alignBits bs ++ bytesBits (s.data.toList.take j)).length ≤ 900000000000 := by
        have : (s.data.toList.take j).length ≤ j := by rw [List.length_take]; omega
        rw [List.length_append, bytesBits_length]
        omega
      have HIS := hide (show j < s.size by rw [HN.out]; exact hlt)
      have ix := str_index s j HIS.out
      have HB := hide (bytes_snoc (s.data.toList.take j) (s.data.toList.getD j 0))
      have HTK := hide (show s.data.toList.take (j + 1) = s.data.toList.take j ++ [s.data.toList.getD j 0] by
        rw [List.take_add_one, List.getD_eq_getElem?_getD, List.getElem?_eq_getElem (by rw [HLL.out]; exact hlt)]; rfl)
      have hb8 : bAt s j < 256 := (s.data.toList.getD j 0).toNat_lt
      obtain ⟨y, hy⟩ : ∃ y, bAt s j = y := ⟨_, rfl⟩
      have HY := hide hy
      rw [hy] at ix hb8
      clear hy
      have HP := hide (fun w' h => qwput_any p vj (alignBits bs ++ bytesBits (s.data.toList.take j)) ((y : Nat) : Int) 8 w' (by omega) h hlen)
      clear hlen
      go_wp2_with fail
      refine (HP.out _ HR.out).mono ?_
      rintro e w2 ⟨rfl, v2, hr2, ho2⟩
      have HR2 := hide hr2
      have HO2 := hide ho2
      clear hr2 ho2 ix HP
      go_wp2
      go_roundw
      case rel =>
        refine ⟨j + 1, v2, hlt, by go_num, ?_, HO.out.trans HO2.out⟩
        rw [HTK.out, HB.out, ← List.append_assoc]
        rw [← HY.out] at HR2
        exact HR2
      case measure => first | (simp [intOf]; done) | (simp [intOf]; omega)
    · have hjk : j = n := by omega
      subst hjk
      have zj : ¬ (j : Int) < (j : Int) := by omega
      go_wp2
      go_end0
      have HR2 := HR.out
      rw [← HLL.out, List.take_length] at HR2
      exact ⟨rfl, _, HR2, HO.out⟩

set_option maxHeartbeats 400000 in
theorem qwbytes_any (p : Nat) (v : Value) (bs : List Bool) (w : World) (h : Wq w p v bs) :
    Calls Tryz.prog 17 #[.pointer (some ⟨p, 0, none⟩)] w fun e w' => (∃ out, e = .returned (.string ⟨out.toArray⟩) ∧ Packs bs out) ∧ w = w' := by
  obtain ⟨out, hw, hp⟩ := h
  have _c0 := hw.c0
  have hcv := hw.str
  clear hw
  go_enter Tryz.func17, Tryz.ntmps17
  go_wp2
  go_ret
  exact ⟨⟨out, rfl, hp⟩, rfl⟩

end Go.Proofs.YtpgkmbakohfpkaaGreat
