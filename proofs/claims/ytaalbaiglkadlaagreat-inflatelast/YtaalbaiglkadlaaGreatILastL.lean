/- InflateLast, the walk: a stream's last byte has the end. -/
import Derived.Test.YtaalbaiglkadlaaGreatIEndsM
import Derived.Test.YtaalbaiglkadlaaGreatDSpec
namespace Go.Proofs.YtaalbaiglkadlaaGreat
open Go.RowKit Go.Lib

set_option maxRecDepth 20000 in
set_option maxHeartbeats 8000000 in
theorem last_of (C : ISpec) (D : DSpec) (W : World) (s : ByteArray) (u : Nat) (hu : u < 256) :
    Calls Tryz.prog 5 #[.string s, .int .u8 (u : Int)] W fun e w' => e = .returned (.bool true) ∧ Below W.heap.size W w' := by
  have HC := hide C
  have HD := hide D
  have HA := hide (awake11_any C)
  obtain ⟨n, hn⟩ : ∃ n, s.size = n := ⟨_, rfl⟩
  have HN := hide hn
  have zn : ((s.size : Nat) : Int) = (n : Int) := by omega
  have zu : (u : Int) ≤ 255 := by omega
  obtain ⟨q, hq⟩ : ∃ q, u % 10 = q := ⟨_, rfl⟩
  have zq : (u : Int) % 10 = (q : Int) := by omega
  have hq10 : q < 10 := by omega
  clear hn hq
  by_cases hl : 500 < n
  · have zl : (500 : Int) < n := by omega
    go_enter Tryz.func5, Tryz.ntmps5
    go_wp2_with fail
    refine (HA.out _).mono ?_
    rintro e w1 ⟨rfl, b1⟩
    have B1 := hide b1
    clear b1
    go_wp2
    go_ret
    exact ⟨rfl, B1.out⟩
  · have zl : ¬ (500 : Int) < n := by omega
    have HS := hide (show s.size ≤ 3000 by rw [HN.out]; omega)
    go_enter Tryz.func5, Tryz.ntmps5
    go_wp2_with fail
    refine (HD.out.pack s (q : Int) _ HS.out).mono ?_
    rintro e w1 ⟨t1, e1, rfl, h1, b1⟩
    obtain ⟨rfl, h2, h3⟩ := pack_small h1 (by omega) (by omega) HS.out
    rw [HN.out] at h3
    have HP := hide h1
    have B1 := hide b1
    obtain ⟨m, hm⟩ : ∃ m, t1.length = m := ⟨_, rfl⟩
    rw [hm] at h2 h3
    obtain ⟨k, hk⟩ : ∃ k, m = k + 1 := ⟨m - 1, by omega⟩
    have HE := hide (ends_short h1 (by omega) (by omega) (by have := HS.out; omega) k (by omega))
    rw [HN.out] at HE
    obtain ⟨tb, htb⟩ : ∃ tb : ByteArray, (⟨t1.toArray⟩ : ByteArray) = tb := ⟨_, rfl⟩
    have htm : tb.size = m := by rw [← htb, ← hm]; exact mk_size t1
    rw [htb] at HE ⊢
    have zm : ((tb.size : Nat) : Int) = (m : Int) := by omega
    have zk : (m : Int) - 1 = (k : Int) := by omega
    have hs1 := text_to tb k (by omega)
    have hm2 : ¬ (m : Int) < 2 := by omega
    have hm9 : m ≤ 100000 := by omega
    have HSB := hide (show (subB tb 0 k).size ≤ 100000 by rw [subB_size tb 0 k (by omega)]; omega)
    clear h1 b1 hm hk h3 htm htb
    go_wp2_with fail
    refine (HC.out.opens (subB tb 0 k) (n : Int) _ HSB.out (by omega) (by omega)).mono ?_
    rintro e w2 ⟨rfl, _, b2⟩
    rw [HE.out]
    have B2 := hide (B1.out.trans (b2.mono B1.out.size))
    clear b2
    generalize strOf (openO (subB tb 0 k) (n : Int)) = y2
    generalize openN (subB tb 0 k) (n : Int) = n2
    go_wp2_with fail
    refine (HA.out _).mono ?_
    rintro e w3 ⟨rfl, b3⟩
    have B3 := hide (B2.out.trans (b3.mono B2.out.size))
    clear b3
    go_wp2
    go_ret
    exact ⟨rfl, B3.out⟩
theorem last_law (C : ISpec) (D : DSpec) (W : World) (s : ByteArray) (_ws : s.size ≤ maxLen) (x : Int) (wx : (Lit.int .u8 x).wf = true) :
    Calls Tryz.prog 5 #[.string s, .int .u8 x] W fun e w' => e = .returned (.bool true) ∧ Below W.heap.size W w' := by
  have hx := bounds_u8 wx
  obtain ⟨m, rfl⟩ := Int.eq_ofNat_of_zero_le hx.1
  exact last_of C D W s m (by omega)

end Go.Proofs.YtaalbaiglkadlaaGreat
