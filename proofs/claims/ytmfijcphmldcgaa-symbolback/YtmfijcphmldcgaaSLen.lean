/- How many bits a number has: the library's Len64 and Len, for numbers of up to sixteen bits. -/
import Derived.Test.YtmfijcphmldcgaaSRef
import Derived.Lib.BitFns
import Derived.Below
namespace Go.Proofs.Ytmfijcphmldcgaa
open Go.RowKit Go.Lib

/-- From the highest bit on. -/
theorem bitlen_at (x m : Nat) (h1 : 2 ^ m ≤ x) (h2 : x < 2 ^ (m + 1)) (hm : m < 16) : Lib.bitLen x = m + 1 := by
  have hx : x < 2 ^ 64 := Nat.lt_of_lt_of_le h2 (Nat.pow_le_pow_right (by decide) (by omega))
  have h3 : x / 2 ^ m = 1 := by
    rw [Nat.pow_succ] at h2
    have hp : 0 < 2 ^ m := Nat.pow_pos (by decide)
    have := (Nat.div_lt_iff_lt_mul hp).2 (show x < 2 * 2 ^ m by omega)
    have := (Nat.le_div_iff_mul_le hp).2 (show 1 * 2 ^ m ≤ x by omega)
    omega
  rw [Lib.bitLen_shift m x h1 hx, h3]
  rfl

/-- A byte of the library's table. -/
theorem tab_bits (i : Nat) (h : i < 256) (hi : i < len8tab.size) : wrap64 ((len8tab[i]'hi).toNat : Int) = (Lib.bitLen i : Int) := by
  have h1 := Lib.len8_of (i : Int) (by omega) (by omega)
  have h2 := Lib.bitLen_le8' (i : Int) (by omega) (by omega)
  rw [Int.toNat_natCast] at h1 h2
  have h3 : len8 (i : Int) = ((len8tab[i]'hi).toNat : Int) := by
    unfold len8
    rw [Int.toNat_natCast, ByteArray.getElem?_lt' _ _ hi]
    rfl
  rw [← h3, h1]
  unfold wrap64; omega

set_option maxHeartbeats 4000000 in
set_option maxRecDepth 100000 in
theorem len64_any (x : Int) (w : World) (h0 : 0 ≤ x) (h1 : x ≤ 65535) :
    Calls Try.prog 19 #[.int .u64 x] w fun e w' => e = .returned (.int .i64 (Lib.bitLen x.toNat)) ∧ w = w' := by
  by_cases hx : 256 ≤ x
  · have hz : x / 256 < (len8tab.size : Int) := by rw [len8tab_size]; omega
    have H8 := hide (Lib.bitLen_shift8 x.toNat (by omega) (by omega))
    have HT := hide (tab_bits (x / 256).toNat (by omega) (by omega))
    have HL := hide (Lib.bitLen_le8' (x / 256) (by omega) (by omega))
    go_enter Try.func19, Try.ntmps19
    go_wp2
    go_ret
    refine ⟨congrArg Ending.returned (congrArg (Value.int IntKind.i64) ?_), rfl⟩
    have e : (x / 256).toNat = x.toNat / 256 := by omega
    have l := HL.out
    rw [HT.out, H8.out]
    rw [e] at l ⊢
    unfold wrap64; omega
  · have hz : x < (len8tab.size : Int) := by rw [len8tab_size]; omega
    have HT := hide (tab_bits x.toNat (by omega) (by omega))
    have HL := hide (Lib.bitLen_le8' x (by omega) (by omega))
    go_enter Try.func19, Try.ntmps19
    go_wp2
    go_ret
    refine ⟨congrArg Ending.returned (congrArg (Value.int IntKind.i64) ?_), rfl⟩
    have l := HL.out
    rw [HT.out]
    unfold wrap64; omega

theorem blen_any (x : Int) (w : World) (h0 : 0 ≤ x) (h1 : x ≤ 65535) :
    Calls Try.prog 17 #[.int .u64 x] w fun e w' => e = .returned (.int .i64 (Lib.bitLen x.toNat)) ∧ w = w' := by
  have HC := hide (len64_any x)
  go_enter Try.func17, Try.ntmps17
  go_wp2_with fail
  refine (HC.out _ h0 h1).mono ?_
  rintro e w1 ⟨rfl, rfl⟩
  go_wp2
  go_ret
  exact ⟨rfl, rfl⟩

/-- A number in two: the highest bits, and those below them. -/
theorem parted_any (n k e : Nat) (w : World) (hn : n ≤ 65535) (_hk : k ≤ 3) (he : e ≤ 13) (hb : Lib.bitLen n = e + k) :
    Calls Try.prog 16 #[.int .i64 (n : Int), .int .i64 (k : Int)] w fun x w' =>
      x = .returned (.tuple #[.int .i64 ((n / 2 ^ e : Nat) : Int), .int .i64 (e : Int), .int .i64 ((n : Int) - ((n / 2 ^ e * 2 ^ e : Nat) : Int))]) ∧ Below w.heap.size w w' := by
  have HC := hide (blen_any (n : Int) w (by omega) (by omega))
  rw [Int.toNat_natCast, hb] at HC
  have HS : n / 2 ^ e * 2 ^ e ≤ n := Nat.div_mul_le_self n (2 ^ e)
  clear hb
  go_enter Try.func16, Try.ntmps16
  go_wp2_with fail
  refine HC.out.mono ?_
  rintro x w1 ⟨rfl, rfl⟩
  go_wp2
  go_quiet (fail)
  go_wp2
  go_ret3
  refine ⟨?_, ⟨rfl, rfl, rfl, Nat.le_refl _, fun _ _ => rfl⟩⟩
  have e1 : ((n / 2 ^ e * 2 ^ e : Nat) : Int) = (n : Int) / 2 ^ e * 2 ^ e := by rw [Int.natCast_mul, Int.natCast_ediv, Int.natCast_pow]; rfl
  have e2 : ((n / 2 ^ e : Nat) : Int) = (n : Int) / 2 ^ e := by rw [Int.natCast_ediv, Int.natCast_pow]; rfl
  have e3 : wrap64 ((n : Int) / 2 ^ e * 2 ^ e) = ((n / 2 ^ e * 2 ^ e : Nat) : Int) := by rw [← e1]; unfold wrap64; omega
  rw [e2, e3, show wrap64 ((n : Int) - ((n / 2 ^ e * 2 ^ e : Nat) : Int)) = (n : Int) - ((n / 2 ^ e * 2 ^ e : Nat) : Int) by unfold wrap64; omega]
  rfl

theorem dist_mono : ∀ t, t ≤ 29 → ∀ s, s < t → distBase (s + 1) ≤ distBase t := by decide
theorem len_mono : ∀ t, t ≤ 28 → ∀ s, s < t → lenBase (s + 1) ≤ lenBase t := by decide
theorem dist_of : ∀ e, e ≤ 13 → 1 ≤ e → ∀ h, h ≤ 3 → 2 ≤ h → distBase (2 * e + h) = 1 + h * 2 ^ e ∧ distBits (2 * e + h) = e := by decide
theorem len_of : ∀ e, e ≤ 5 → 1 ≤ e → ∀ h, h ≤ 7 → 4 ≤ h → lenBase (4 * e + h) = 3 + h * 2 ^ e ∧ lenBits (4 * e + h) = e := by decide

/-- A distance by its highest bits. -/
theorem ds_heads (m e h : Nat) (he : e ≤ 13) (he1 : 1 ≤ e) (hh : h ≤ 3) (hh2 : 2 ≤ h) (h1 : h * 2 ^ e ≤ m) (h2 : m < (h + 1) * 2 ^ e) (hm : m ≤ 32767) :
    dsOk ((m + 1 : Nat) : Int) = true ∧ dsS ((m + 1 : Nat) : Int) = ((2 * e + h : Nat) : Int) ∧ dsX ((m + 1 : Nat) : Int) = (e : Int) ∧ dsE ((m + 1 : Nat) : Int) = (m : Int) - ((h * 2 ^ e : Nat) : Int) := by
  obtain ⟨b1, b2⟩ := dist_of e he he1 h hh hh2
  have g := ds_yes (m + 1) (2 * e + h) (by omega) (by omega) (by omega) (by omega) (fun t g1 g2 => by
    have g3 := dist_mono t g2 _ g1
    have g4 := dist_next (2 * e + h) (by omega)
    rw [b1, b2] at g4
    rw [Nat.succ_mul] at h2
    omega)
  rw [b1, b2] at g
  refine ⟨g.1, g.2.1, g.2.2.1, ?_⟩
  rw [g.2.2.2]
  omega
/-- A length by its highest bits. -/
theorem ln_heads (m e h : Nat) (he : e ≤ 5) (he1 : 1 ≤ e) (hh : h ≤ 7) (hh2 : 4 ≤ h) (h1 : h * 2 ^ e ≤ m) (h2 : m < (h + 1) * 2 ^ e) (hm : m ≤ 254) :
    lnOk ((m + 3 : Nat) : Int) = true ∧ lnS ((m + 3 : Nat) : Int) = 257 + ((4 * e + h : Nat) : Int) ∧ lnX ((m + 3 : Nat) : Int) = (e : Int) ∧ lnE ((m + 3 : Nat) : Int) = (m : Int) - ((h * 2 ^ e : Nat) : Int) := by
  obtain ⟨b1, b2⟩ := len_of e he he1 h hh hh2
  have g := ln_yes (m + 3) (4 * e + h) (by omega) (by omega) (by omega) (by omega) (fun t g1 g2 => by
    have g3 := len_mono t g2 _ g1
    by_cases g5 : 4 * e + h < 27
    · have g4 := len_next (4 * e + h) g5
      rw [b1, b2] at g4
      rw [Nat.succ_mul] at h2
      omega
    · have g6 : 4 * e + h = 27 := by omega
      have g7 : lenBase 28 ≤ lenBase t := by rw [g6] at g3; exact g3
      have := len_last.1
      omega)
  rw [b1, b2] at g
  refine ⟨g.1, g.2.1, g.2.2.1, ?_⟩
  rw [g.2.2.2]
  omega

/-- Where the highest bit of what has 2 to 16 bits stands. -/
theorem high_at (m k : Nat) (hk : 1 ≤ k) (hk3 : k ≤ 3) (h1 : 2 ^ k ≤ m) (h2 : m < 32768) : ∃ e, 1 ≤ e ∧ e + k ≤ 15 ∧ 2 ^ (e + k - 1) ≤ m ∧ m < 2 ^ (e + k) := by
  have : ∀ f, k ≤ f → f ≤ 15 → 2 ^ k ≤ m → m < 2 ^ f → ∃ e, 1 ≤ e ∧ e + k ≤ f ∧ 2 ^ (e + k - 1) ≤ m ∧ m < 2 ^ (e + k) := by
    intro f
    induction f with
    | zero => intro a1 a2 a3 a4; omega
    | succ f ih =>
      intro a1 a2 a3 a4
      by_cases hf : f + 1 = k
      · rw [hf] at a4; omega
      by_cases hl : m < 2 ^ f
      · obtain ⟨e, c1, c2, c3, c4⟩ := ih (by omega) (by omega) a3 hl
        exact ⟨e, c1, by omega, c3, c4⟩
      · refine ⟨f + 1 - k, by omega, by omega, ?_, ?_⟩
        · rw [show f + 1 - k + k - 1 = f by omega]; omega
        · rw [show f + 1 - k + k = f + 1 by omega]; exact a4
  exact this 15 (by omega) (by omega) h1 h2

/-- The same, told by head and number of bits. -/
theorem head_at (m k : Nat) (hk : 1 ≤ k) (hk3 : k ≤ 3) (h1 : 2 ^ k ≤ m) (h2 : m < 32768) :
    ∃ e h, 1 ≤ e ∧ e + k ≤ 15 ∧ Lib.bitLen m = e + k ∧ m / 2 ^ e = h ∧ 2 ^ (k - 1) ≤ h ∧ h < 2 ^ k ∧ h * 2 ^ e ≤ m ∧ m < (h + 1) * 2 ^ e ∧ 2 ^ (e + k - 1) ≤ m := by
  obtain ⟨e, c1, c2, c3, c4⟩ := high_at m k hk hk3 h1 h2
  have hp : 0 < 2 ^ e := Nat.pow_pos (by decide)
  refine ⟨e, m / 2 ^ e, c1, c2, ?_, rfl, ?_, ?_, Nat.div_mul_le_self _ _, ?_, c3⟩
  · have := bitlen_at m (e + k - 1) c3 (by rw [show e + k - 1 + 1 = e + k by omega]; exact c4) (by omega)
    omega
  · refine (Nat.le_div_iff_mul_le hp).2 ?_
    rw [← Nat.pow_add, show k - 1 + e = e + k - 1 by omega]
    exact c3
  · refine (Nat.div_lt_iff_lt_mul hp).2 ?_
    rw [← Nat.pow_add, Nat.add_comm k e]
    exact c4
  · have := Nat.lt_div_mul_add (a := m) hp
    rw [Nat.succ_mul]
    omega

end Go.Proofs.Ytmfijcphmldcgaa
