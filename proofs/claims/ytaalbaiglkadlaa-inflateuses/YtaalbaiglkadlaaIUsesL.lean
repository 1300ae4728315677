/- InflateUses, the walk: what is opened is opened of the bytes that are used alone. -/
import Derived.Test.YtaalbaiglkadlaaIEndsM
namespace Go.Proofs.Ytaalbaiglkadlaa
open Go.RowKit Go.Lib

set_option maxRecDepth 20000 in
set_option maxHeartbeats 8000000 in
theorem uses_of (C : ISpec) (W : World) (s : ByteArray) (c : Nat) (hc : c < 65536) :
    Calls Try.prog 6 #[.string s, .int .u16 (c : Int)] W fun e w' => e = .returned (.bool true) ∧ Below W.heap.size W w' := by
  have HC := hide C
  have HA := hide (awake11_any C)
  obtain ⟨n, hn⟩ : ∃ n, s.size = n := ⟨_, rfl⟩
  have HN := hide hn
  have zn : ((s.size : Nat) : Int) = (n : Int) := by omega
  have zc : (c : Int) ≤ 65535 := by omega
  clear hn
  by_cases hl : 1500 < n
  · have zl : (1500 : Int) < n := by omega
    go_enter Try.func6, Try.ntmps6
    go_wp2_with fail
    refine (HA.out _).mono ?_
    rintro e w1 ⟨rfl, b1⟩
    have B1 := hide b1
    clear b1
    go_wp2
    go_ret
    exact ⟨rfl, B1.out⟩
  · have zl : ¬ (1500 : Int) < n := by omega
    have HS := hide (show s.size ≤ 100000 by rw [HN.out]; omega)
    go_enter Try.func6, Try.ntmps6
    go_wp2_with fail
    refine (HC.out.opens s 50000 _ HS.out (by decide) (by decide)).mono ?_
    rintro e w1 ⟨rfl, hok, b1⟩
    have B1 := hide b1
    clear b1
    by_cases he : openE s 50000 = 0
    · obtain ⟨o, j, hR⟩ := hok he
      obtain ⟨g1, g2, g3⟩ := open_ok hR
      obtain ⟨k1, k2, k3, k4⟩ := open_uses hR
      have k5 := open_len hR (by decide)
      rw [g1, g2, g3]
      rw [HN.out] at k2
      obtain ⟨m, hm⟩ : ∃ m, (j + 7) / 8 = m := ⟨_, rfl⟩
      rw [hm] at k1 k2 k3 k4 ⊢
      obtain ⟨k, hk⟩ : ∃ k, m = k + 1 := ⟨m - 1, by omega⟩
      rw [← sub_extract] at k3 k4
      have hmk : m - 1 = k := by omega
      rw [hmk] at k4
      obtain ⟨L, hL⟩ : ∃ L, o.length = L := ⟨_, rfl⟩
      rw [hL] at k5
      have HE1 := hide (show strOf (openO (subB s 0 m) ((L : Int) + (c : Int))) = strOf o ∧ openN (subB s 0 m) ((L : Int) + (c : Int)) = m ∧ openE (subB s 0 m) ((L : Int) + (c : Int)) = 0 by
        obtain ⟨e1, e2, e3⟩ := open_ok (open_limits (M := (L : Int) + (c : Int)) k3 (by decide) (by rw [hL]; omega))
        exact ⟨by rw [e1], by rw [e2, hm], e3⟩)
      have HE2 := hide (open_err k4).2.2
      have hol : (strOf o).size = L := by rw [strOf_len]; exact hL
      have zo : (((strOf o).size : Nat) : Int) = (L : Int) := by omega
      generalize strOf o = y at *
      have zk : (m : Int) - 1 = (k : Int) := by omega
      have d1 : decide ((m : Int) < 1) = false := decide_eq_false (by omega)
      have d2 : decide ((n : Int) < (m : Int)) = false := decide_eq_false (by omega)
      have hs1 := text_to s m (by rw [HN.out]; exact k2)
      have hs2 := text_to s k (by rw [HN.out]; omega)
      have HB1 := hide (show (subB s 0 m).size ≤ 100000 by rw [subB_size s 0 m (by rw [HN.out]; omega)]; omega)
      have HB2 := hide (show (subB s 0 k).size ≤ 100000 by rw [subB_size s 0 k (by rw [HN.out]; omega)]; omega)
      have zmn : (m : Int) ≤ n := by omega
      have zkn : (k : Int) ≤ n := by omega
      have hL9 : L ≤ 50000 := by omega
      have hm9 : m ≤ 1500 := by omega
      clear hok he hR g1 g2 g3 k1 k2 k3 k4 k5 hm hk hmk hL hol
      go_wp2_with fail
      refine (HC.out.opens (subB s 0 m) ((L : Int) + (c : Int)) _ HB1.out (by omega) (by omega)).mono ?_
      rintro e w2 ⟨rfl, _, b2⟩
      rw [HE1.out.1, HE1.out.2.1, HE1.out.2.2]
      have B2 := hide (B1.out.trans (b2.mono B1.out.size))
      clear b2
      go_wp2_with fail
      refine (HC.out.opens (subB s 0 k) 50000 _ HB2.out (by decide) (by decide)).mono ?_
      rintro e w3 ⟨rfl, _, b3⟩
      rw [HE2.out]
      have B3 := hide (B2.out.trans (b3.mono B2.out.size))
      clear b3
      generalize strOf (openO (subB s 0 k) 50000) = y3
      generalize openN (subB s 0 k) 50000 = n3
      go_wp2_with fail
      refine (HA.out _).mono ?_
      rintro e w5 ⟨rfl, b5⟩
      have B5 := hide (B3.out.trans (b5.mono B3.out.size))
      clear b5
      go_wp2
      go_ret
      exact ⟨rfl, B5.out⟩
    · obtain ⟨g1, g2⟩ := open_no he
      rw [g1, g2, show strOf [] = ⟨#[]⟩ from rfl]
      have be : (openE s 50000 == 0) = false := by simp; exact he
      generalize openE s 50000 = er at *
      clear hok g1 g2 he
      go_wp2_with fail
      refine (HA.out _).mono ?_
      rintro e w5 ⟨rfl, b5⟩
      have B5 := hide (B1.out.trans (b5.mono B1.out.size))
      clear b5
      go_wp2
      go_ret
      exact ⟨rfl, B5.out⟩
theorem uses_law (C : ISpec) (W : World) (s : ByteArray) (_ws : s.size ≤ maxLen) (y : Int) (wy : (Lit.int .u16 y).wf = true) :
    Calls Try.prog 6 #[.string s, .int .u16 y] W fun e w' => e = .returned (.bool true) ∧ Below W.heap.size W w' := by
  have hy := bounds_u16 wy
  obtain ⟨k, rfl⟩ := Int.eq_ofNat_of_zero_le hy.1
  exact uses_of C W s k (by omega)

end Go.Proofs.Ytaalbaiglkadlaa
