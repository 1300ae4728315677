/- InflatePacked, the walk: what was packed is opened as it was, all of it. -/
import Derived.Test.YtaalbaiglkadlaaGreatIEndsM
import Derived.Test.YtaalbaiglkadlaaGreatDSpec
namespace Go.Proofs.YtaalbaiglkadlaaGreat
open Go.RowKit Go.Lib

set_option maxRecDepth 20000 in
set_option maxHeartbeats 8000000 in
theorem packed_of (C : ISpec) (D : DSpec) (W : World) (s : ByteArray) (u : Nat) (z : ByteArray) (hu : u < 256) :
    Calls Tryz.prog 3 #[.string s, .int .u8 (u : Int), .string z] W fun e w' => e = .returned (.bool true) ∧ Below W.heap.size W w' := by
  have HC := hide C
  have HD := hide D
  have HA := hide (awake11_any C)
  obtain ⟨n, hn⟩ : ∃ n, s.size = n := ⟨_, rfl⟩
  have HN := hide hn
  have zn : ((s.size : Nat) : Int) = (n : Int) := by omega
  obtain ⟨k, hk⟩ : ∃ k, z.size = k := ⟨_, rfl⟩
  have HK := hide hk
  have zk : ((z.size : Nat) : Int) = (k : Int) := by omega
  have zu : (u : Int) ≤ 255 := by omega
  obtain ⟨q, hq⟩ : ∃ q, u % 10 = q := ⟨_, rfl⟩
  have zq : (u : Int) % 10 = (q : Int) := by omega
  have hq10 : q < 10 := by omega
  clear hn hq hk
  by_cases hl : 900 < n
  · have zl : (900 : Int) < n := by omega
    go_enter Tryz.func3, Tryz.ntmps3
    go_wp2_with fail
    refine (HA.out _).mono ?_
    rintro e w1 ⟨rfl, b1⟩
    have B1 := hide b1
    clear b1
    go_wp2
    go_ret
    exact ⟨rfl, B1.out⟩
  have zl : ¬ (900 : Int) < n := by omega
  by_cases hk : 100 < k
  · have zm : decide ((100 : Int) < (k : Int)) = true := decide_eq_true (by omega)
    go_enter Tryz.func3, Tryz.ntmps3
    go_wp2_with fail
    refine (HA.out _).mono ?_
    rintro e w1 ⟨rfl, b1⟩
    have B1 := hide b1
    clear b1
    go_wp2
    go_ret
    exact ⟨rfl, B1.out⟩
  · have zm : decide ((100 : Int) < (k : Int)) = false := decide_eq_false (by omega)
    have HS := hide (show s.size ≤ 3000 by rw [HN.out]; omega)
    go_enter Tryz.func3, Tryz.ntmps3
    go_wp2_with fail
    refine (HD.out.pack s (q : Int) _ HS.out).mono ?_
    rintro e w1 ⟨t1, e1, rfl, h1, b1⟩
    obtain ⟨rfl, h2, h3⟩ := pack_small h1 (by omega) (by omega) HS.out
    rw [HN.out] at h3
    have B1 := hide b1
    obtain ⟨m, hm⟩ : ∃ m, t1.length = m := ⟨_, rfl⟩
    rw [hm] at h2 h3
    have HE := hide (ends_facts h1 (by omega) (by omega) (by have := HS.out; omega) z)
    rw [hm, HN.out] at HE
    obtain ⟨tb, htb⟩ : ∃ tb : ByteArray, (⟨t1.toArray⟩ : ByteArray) = tb := ⟨_, rfl⟩
    have htm : tb.size = m := by rw [← htb, ← hm]; exact mk_size t1
    rw [htb] at HE ⊢
    have HTM := hide htm
    have zm : ((tb.size : Nat) : Int) = (m : Int) := by omega
    have hm9 : m ≤ 90000 := by omega
    have q1 : (9223372036854775807 < tb.size + z.size) = False := eq_false (by rw [HK.out]; omega)
    have HSC := hide (show (tb ++ z).size ≤ 100000 by rw [ByteArray.size_append, HTM.out, HK.out]; omega)
    clear h1 b1 hm h3 htm htb
    go_wp2_with fail
    refine (HC.out.opens (tb ++ z) (n : Int) _ HSC.out (by omega) (by omega)).mono ?_
    rintro e w4 ⟨rfl, _, b4⟩
    rw [HE.out.1, HE.out.2.1, HE.out.2.2]
    have B4 := hide (B1.out.trans (b4.mono B1.out.size))
    clear b4
    go_wp2_with fail
    refine (HA.out _).mono ?_
    rintro e w5 ⟨rfl, b5⟩
    have B5 := hide (B4.out.trans (b5.mono B4.out.size))
    clear b5
    go_wp2
    go_ret
    exact ⟨rfl, B5.out⟩
theorem packed_law (C : ISpec) (D : DSpec) (W : World) (s : ByteArray) (_ws : s.size ≤ maxLen) (x : Int) (wx : (Lit.int .u8 x).wf = true) (z : ByteArray) (_wz : z.size ≤ maxLen) :
    Calls Tryz.prog 3 #[.string s, .int .u8 x, .string z] W fun e w' => e = .returned (.bool true) ∧ Below W.heap.size W w' := by
  have hx := bounds_u8 wx
  obtain ⟨m, rfl⟩ := Int.eq_ofNat_of_zero_le hx.1
  exact packed_of C D W s m z (by omega)

end Go.Proofs.YtaalbaiglkadlaaGreat
