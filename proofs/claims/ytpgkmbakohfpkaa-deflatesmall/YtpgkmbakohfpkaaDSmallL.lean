/- DeflateSmall, the walk: a stream is never longer than its text, and a few bytes. -/
import Derived.Test.YtpgkmbakohfpkaaDSpec
namespace Go.Proofs.Ytpgkmbakohfpkaa
open Go.RowKit Go.Lib

theorem pack_small {s : ByteArray} {level : Int} {t : List UInt8} {er : Int} (h : PackRel s level t er) (h0 : 0 ≤ level) (h9 : level ≤ 9) (hs : s.size ≤ 3000) : er = 0 ∧ 2 ≤ t.length ∧ t.length ≤ s.size + 6 * (s.size / 512 + 1) + 1 := by
  rcases h with ⟨h1, _⟩ | ⟨h1, h2, h3⟩ | ⟨h1, h2, h3, ts, bits, k, h4, h5, h6⟩
  · omega
  · refine ⟨h3, ?_⟩
    have hl := h2.1
    rw [storeAll_length, List.length_nil] at hl
    omega
  · refine ⟨h3, ?_⟩
    have hc := toks_cov s level ts 0 h4
    have hb := Blocks.le (by omega) k [] 0 _ _ h5 (by omega)
    have hg := cov_ge (ts.map castT)
    have hl := h6.1
    rw [List.length_nil] at hb
    have : (ts.map castT).length / 512 ≤ s.size / 512 := Nat.div_le_div_right (by omega)
    omega

set_option maxRecDepth 20000 in
set_option maxHeartbeats 8000000 in
theorem small_of (C : DSpec) (W : World) (s : ByteArray) (u : Nat) (hu : u < 256) :
    Calls Try.prog 3 #[.string s, .int .u8 (u : Int)] W fun e w' => e = .returned (.bool true) ∧ Below W.heap.size W w' := by
  have HC := hide C
  have HA := hide (awake10_any C)
  obtain ⟨n, hn⟩ : ∃ n, s.size = n := ⟨_, rfl⟩
  have HN := hide hn
  have zn : ((s.size : Nat) : Int) = (n : Int) := by omega
  have zu : (u : Int) ≤ 255 := by omega
  obtain ⟨q, hq⟩ : ∃ q, u % 10 = q := ⟨_, rfl⟩
  have zq : (u : Int) % 10 = (q : Int) := by omega
  have hq10 : q < 10 := by omega
  clear hn hq
  by_cases hl : 900 < n
  · have zl : (900 : Int) < n := by omega
    go_enter Try.func3, Try.ntmps3
    go_wp2_with fail
    refine (HA.out _).mono ?_
    rintro e w1 ⟨rfl, b1⟩
    have B1 := hide b1
    clear b1
    go_wp2
    go_ret
    exact ⟨rfl, B1.out⟩
  · have zl : ¬ (900 : Int) < n := by omega
    have HS := hide (show s.size ≤ 3000 by rw [HN.out]; omega)
    go_enter Try.func3, Try.ntmps3
    go_wp2_with fail
    refine (HC.out.pack s (q : Int) _ HS.out).mono ?_
    rintro e w1 ⟨t1, e1, rfl, h1, b1⟩
    obtain ⟨rfl, h2, h3⟩ := pack_small h1 (by omega) (by omega) HS.out
    rw [HN.out] at h3
    have B1 := hide b1
    obtain ⟨m, hm⟩ : ∃ m, t1.length = m := ⟨_, rfl⟩
    have zm : (((⟨t1.toArray⟩ : ByteArray).size : Nat) : Int) = (m : Int) := by rw [← hm]; rfl
    rw [hm] at h2 h3
    obtain ⟨d, hd⟩ : ∃ d, n / 512 = d := ⟨_, rfl⟩
    have zd : Int.tdiv (n : Int) 512 = (d : Int) := by rw [← hd]; rfl
    rw [hd] at h3
    have hd9 : d ≤ 900 := by omega
    generalize (⟨t1.toArray⟩ : ByteArray) = tb at *
    clear h1 b1 hm hd
    go_wp2_with fail
    refine (HA.out _).mono ?_
    rintro e w3 ⟨rfl, b3⟩
    have B3 := hide (B1.out.trans (b3.mono B1.out.size))
    clear b3
    have z2 : (m : Int) ≤ (n : Int) + 6 * ((d : Int) + 1) + 1 := by omega
    have z3 : (2 : Int) ≤ m := by omega
    go_wp2
    go_ret
    exact ⟨rfl, B3.out⟩
theorem small_law (C : DSpec) (W : World) (s : ByteArray) (_ws : s.size ≤ maxLen) (x : Int) (wx : (Lit.int .u8 x).wf = true) :
    Calls Try.prog 3 #[.string s, .int .u8 x] W fun e w' => e = .returned (.bool true) ∧ Below W.heap.size W w' := by
  have hx := bounds_u8 wx
  obtain ⟨m, rfl⟩ := Int.eq_ofNat_of_zero_le hx.1
  exact small_of C W s m (by omega)

end Go.Proofs.Ytpgkmbakohfpkaa
