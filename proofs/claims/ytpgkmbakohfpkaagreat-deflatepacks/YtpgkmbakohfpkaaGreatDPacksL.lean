/- DeflatePacks, the walk: the stream of any text, by any level, is the document's. -/
import Derived.Test.YtpgkmbakohfpkaaGreatDSpec
import Derived.Test.YtpgkmbakohfpkaaGreatDRef
namespace Go.Proofs.YtpgkmbakohfpkaaGreat
open Go.RowKit Go.Lib

set_option maxRecDepth 20000 in
set_option maxHeartbeats 8000000 in
theorem packs_law (C : DSpec) (W : World) (s : ByteArray) (_ws : s.size ≤ maxLen) (x : Int) (_wx : (Lit.int .i64 x).wf = true) :
    Calls Tryz.prog 3 #[.string s, .int .i64 x] W fun e w' => e = .returned (.bool true) ∧ Below W.heap.size W w' := by
  have HC := hide C
  have HA := hide (awake10_any C)
  obtain ⟨n, hn⟩ : ∃ n, s.size = n := ⟨_, rfl⟩
  have HN := hide hn
  have zn : ((s.size : Nat) : Int) = (n : Int) := by omega
  clear hn _ws _wx
  by_cases hl : 900 < n
  · have zl : (900 : Int) < n := by omega
    go_enter Tryz.func3, Tryz.ntmps3
    go_wp2_with fail
    refine (HA.out _).mono ?_
    rintro e w1 ⟨rfl, b1⟩
    have B1 := hide b1
    clear b1
    go_wp2
    go_ret
    exact ⟨rfl, B1.out⟩
  · have zl : ¬ (900 : Int) < n := by omega
    have HS := hide (show s.size ≤ 3000 by rw [HN.out]; omega)
    go_enter Tryz.func3, Tryz.ntmps3
    go_wp2_with fail
    refine (HC.out.pack s x _ HS.out).mono ?_
    rintro e w1 ⟨t1, e1, rfl, h1, b1⟩
    have H1 := hide h1
    have B1 := hide b1
    clear h1 b1
    go_wp2_with fail
    refine (qpack_any s x _ HS.out).mono ?_
    rintro e w2 ⟨t2, e2, rfl, h2, b2⟩
    obtain ⟨rfl, rfl⟩ := H1.out.uniq h2
    have B2 := hide (B1.out.trans (b2.mono B1.out.size))
    clear h2 b2
    go_wp2_with fail
    refine (HA.out _).mono ?_
    rintro e w3 ⟨rfl, b3⟩
    have B3 := hide (B2.out.trans (b3.mono B2.out.size))
    clear b3
    go_wp2
    go_ret
    exact ⟨rfl, B3.out⟩

end Go.Proofs.YtpgkmbakohfpkaaGreat
