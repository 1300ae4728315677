/- InflateOpens, the walk: what any bytes are opened to is the document's. -/
import Derived.Test.YtaalbaiglkadlaaISpec
import Derived.Test.YtaalbaiglkadlaaIOpen
namespace Go.Proofs.Ytaalbaiglkadlaa
open Go.RowKit Go.Lib

set_option maxRecDepth 20000 in
set_option maxHeartbeats 8000000 in
theorem opens_law (C : ISpec) (W : World) (s : ByteArray) (_ws : s.size ≤ maxLen) (x : Int) (wx : (Lit.int .i64 x).wf = true) :
    Calls Try.prog 3 #[.string s, .int .i64 x] W fun e w' => e = .returned (.bool true) ∧ Below W.heap.size W w' := by
  have hx := bounds_i64 wx
  have HC := hide C
  have HA := hide (awake11_any C)
  obtain ⟨n, hn⟩ : ∃ n, s.size = n := ⟨_, rfl⟩
  have HN := hide hn
  have zn : ((s.size : Nat) : Int) = (n : Int) := by omega
  have HX := hide hx
  clear hn _ws wx hx
  by_cases hl : 1500 < n
  · have zl : (1500 : Int) < n := by omega
    go_enter Try.func3, Try.ntmps3
    go_wp2_with fail
    refine (HA.out _).mono ?_
    rintro e w1 ⟨rfl, b1⟩
    have B1 := hide b1
    clear b1
    go_wp2
    go_ret
    exact ⟨rfl, B1.out⟩
  have zl : ¬ (1500 : Int) < n := by omega
  by_cases hm : 100000 < x
  · have zm : decide ((100000 : Int) < x) = true := decide_eq_true hm
    go_enter Try.func3, Try.ntmps3
    go_wp2_with fail
    refine (HA.out _).mono ?_
    rintro e w1 ⟨rfl, b1⟩
    have B1 := hide b1
    clear b1
    go_wp2
    go_ret
    exact ⟨rfl, B1.out⟩
  · have zm : decide ((100000 : Int) < x) = false := decide_eq_false hm
    have HS := hide (show s.size ≤ 100000 by rw [HN.out]; omega)
    have HM := hide hm
    clear hm hl
    go_enter Try.func3, Try.ntmps3
    go_wp2_with fail
    refine (HC.out.opens s x _ HS.out HX.out.1 (by have := HM.out; omega)).mono ?_
    rintro e w1 ⟨rfl, _, b1⟩
    have B1 := hide b1
    clear b1
    go_wp2_with fail
    refine (qopen_any s x _ HS.out HX.out.1 (by have := HM.out; omega)).mono ?_
    intro e w2 h
    obtain ⟨rfl, _, b2⟩ := h.is
    have B2 := hide (B1.out.trans (b2.mono B1.out.size))
    clear b2 h
    generalize strOf (openO s x) = y
    generalize openN s x = m
    generalize openE s x = er
    go_wp2_with fail
    refine (HA.out _).mono ?_
    rintro e w3 ⟨rfl, b3⟩
    have B3 := hide (B2.out.trans (b3.mono B2.out.size))
    clear b3
    go_wp2
    go_ret
    exact ⟨rfl, B3.out⟩

end Go.Proofs.Ytaalbaiglkadlaa
