/- InflateEnds, the walk: a stream without its end; what stands behind one; one byte less than there are. -/
import Derived.Test.YtaalbaiglkadlaaIEndsM
import Derived.Test.YtaalbaiglkadlaaDRef
namespace Go.Proofs.Ytaalbaiglkadlaa
open Go.RowKit Go.Lib

set_option maxRecDepth 20000 in
set_option maxHeartbeats 8000000 in
theorem ends_of (C : ISpec) (W : World) (s : ByteArray) (u c : Nat) (hu : u < 256) (hc : c < 65536) :
    Calls Try.prog 5 #[.string s, .int .u8 (u : Int), .int .u16 (c : Int)] W fun e w' => e = .returned (.bool true) ∧ Below W.heap.size W w' := by
  have HC := hide C
  have HA := hide (awake11_any C)
  obtain ⟨n, hn⟩ : ∃ n, s.size = n := ⟨_, rfl⟩
  have HN := hide hn
  have zn : ((s.size : Nat) : Int) = (n : Int) := by omega
  have zu : (u : Int) ≤ 255 := by omega
  have zc : (c : Int) ≤ 65535 := by omega
  obtain ⟨q, hq⟩ : ∃ q, u % 10 = q := ⟨_, rfl⟩
  have zq : (u : Int) % 10 = (q : Int) := by omega
  have hq10 : q < 10 := by omega
  clear hn hq
  by_cases hl : 500 < n
  · have zl : (500 : Int) < n := by omega
    go_enter Try.func5, Try.ntmps5
    go_wp2_with fail
    refine (HA.out _).mono ?_
    rintro e w1 ⟨rfl, b1⟩
    have B1 := hide b1
    clear b1
    go_wp2
    go_ret
    exact ⟨rfl, B1.out⟩
  · have zl : ¬ (500 : Int) < n := by omega
    have HS := hide (show s.size ≤ 3000 by rw [HN.out]; omega)
    go_enter Try.func5, Try.ntmps5
    go_wp2_with fail
    refine (qpack_any s (q : Int) _ HS.out).mono ?_
    rintro e w1 ⟨t1, e1, rfl, h1, b1⟩
    obtain ⟨rfl, h2, h3⟩ := pack_small h1 (by omega) (by omega) HS.out
    rw [HN.out] at h3
    have B1 := hide b1
    obtain ⟨m, hm⟩ : ∃ m, t1.length = m := ⟨_, rfl⟩
    obtain ⟨k, hk⟩ : ∃ k, c % m = k := ⟨_, rfl⟩
    rw [hm] at h2 h3
    have hkm : k < m := by rw [← hk]; exact Nat.mod_lt _ (by omega)
    have zk : (c : Int) % (m : Int) = (k : Int) := by have h := Int.natCast_emod c m; rw [hk] at h; exact h.symm
    have HS6 := hide (show s.size ≤ 65535 by have := HS.out; omega)
    have HE1 := hide (ends_short h1 (by omega) (by omega) HS6.out k (by omega))
    have HE2 := hide (fun g : 1 ≤ s.size => ends_beyond h1 (by omega) (by omega) HS6.out g)
    have HE3 := hide (ends_facts h1 (by omega) (by omega) HS6.out s)
    rw [hm] at HE3
    rw [HN.out] at HE1 HE2 HE3
    obtain ⟨tb, htb⟩ : ∃ tb : ByteArray, (⟨t1.toArray⟩ : ByteArray) = tb := ⟨_, rfl⟩
    have htm : tb.size = m := by rw [← htb, ← hm]; exact mk_size t1
    rw [htb] at HE1 HE2 HE3 ⊢
    have HTM := hide htm
    have zm : ((tb.size : Nat) : Int) = (m : Int) := by omega
    have bm : ((m : Int) == 0) = false := by simp; omega
    have zkm : (k : Int) ≤ (m : Int) := by omega
    have hs1 := text_to tb k (by omega)
    have hm9 : m ≤ 100000 := by omega
    have q1 : (9223372036854775807 < tb.size + s.size) = False := eq_false (by rw [HN.out]; omega)
    have HSB := hide (show (subB tb 0 k).size ≤ 100000 by rw [subB_size tb 0 k (by omega)]; omega)
    have HSC := hide (show (tb ++ s).size ≤ 100000 by rw [ByteArray.size_append, HTM.out, HN.out]; omega)
    have HST := hide (show tb.size ≤ 100000 by rw [HTM.out]; omega)
    clear h1 b1 hm hk h3 htm htb
    go_wp2_with fail
    refine (HC.out.opens (subB tb 0 k) (n : Int) _ HSB.out (by omega) (by omega)).mono ?_
    rintro e w2 ⟨rfl, _, b2⟩
    rw [HE1.out]
    have B2 := hide (B1.out.trans (b2.mono B1.out.size))
    clear b2
    generalize strOf (openO (subB tb 0 k) (n : Int)) = y2
    generalize openN (subB tb 0 k) (n : Int) = n2
    go_wp2_with fail
    refine (HC.out.opens tb ((n : Int) - 1) _ HST.out (by omega) (by omega)).mono ?_
    rintro e w3 ⟨rfl, _, b3⟩
    have B3 := hide (B2.out.trans (b3.mono B2.out.size))
    clear b3
    generalize strOf (openO tb ((n : Int) - 1)) = y3
    generalize openN tb ((n : Int) - 1) = n3
    generalize openE tb ((n : Int) - 1) = e3 at *
    go_wp2_with fail
    refine (HC.out.opens (tb ++ s) (n : Int) _ HSC.out (by omega) (by omega)).mono ?_
    rintro e w4 ⟨rfl, _, b4⟩
    rw [HE3.out.1, HE3.out.2.1, HE3.out.2.2]
    have B4 := hide (B3.out.trans (b4.mono B3.out.size))
    clear b4
    by_cases n0 : n = 0
    · have b0 : ((n : Int) == 0) = true := by simp; exact n0
      clear HE2
      go_wp2_with fail
      refine (HA.out _).mono ?_
      rintro e w5 ⟨rfl, b5⟩
      have B5 := hide (B4.out.trans (b5.mono B4.out.size))
      clear b5
      go_wp2
      go_ret
      exact ⟨rfl, B5.out⟩
    · have b0 : ((n : Int) == 0) = false := by simp; exact n0
      have he3 := HE2.out (by omega)
      clear HE2
      subst he3
      go_wp2_with fail
      refine (HA.out _).mono ?_
      rintro e w5 ⟨rfl, b5⟩
      have B5 := hide (B4.out.trans (b5.mono B4.out.size))
      clear b5
      go_wp2
      go_ret
      exact ⟨rfl, B5.out⟩
theorem ends_law (C : ISpec) (W : World) (s : ByteArray) (_ws : s.size ≤ maxLen) (x : Int) (wx : (Lit.int .u8 x).wf = true) (y : Int) (wy : (Lit.int .u16 y).wf = true) :
    Calls Try.prog 5 #[.string s, .int .u8 x, .int .u16 y] W fun e w' => e = .returned (.bool true) ∧ Below W.heap.size W w' := by
  have hx := bounds_u8 wx
  have hy := bounds_u16 wy
  obtain ⟨m, rfl⟩ := Int.eq_ofNat_of_zero_le hx.1
  obtain ⟨k, rfl⟩ := Int.eq_ofNat_of_zero_le hy.1
  exact ends_of C W s m k (by omega) (by omega)

end Go.Proofs.Ytaalbaiglkadlaa
