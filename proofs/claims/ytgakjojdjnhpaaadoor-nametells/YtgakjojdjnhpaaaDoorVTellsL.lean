/- NameTells, the walk: whether any text may be a name, a comment, an archive's file, are the document's. -/
import Derived.Test.YtgakjojdjnhpaaaDoorNSpec
import Derived.Test.YtgakjojdjnhpaaaDoorVRef3
namespace Go.Proofs.YtgakjojdjnhpaaaDoor
open Go.RowKit Go.Lib

set_option maxRecDepth 20000 in
set_option maxHeartbeats 8000000 in
theorem tells_law (C : NSpec) (D : NSpecA) (W : World) (hT : Tabs W) (s : ByteArray) (_ws : s.size ≤ maxLen) :
    Calls Tryd.prog 3 #[.string s] W fun e w' => e = .returned (.bool true) ∧ Below W.heap.size W w' := by
  have HC := hide C
  have HD := hide D
  have HT := hide hT
  have HA := hide (awake12_any C D)
  obtain ⟨n, hn⟩ : ∃ n, s.size = n := ⟨_, rfl⟩
  have HN := hide hn
  have zn : ((s.size : Nat) : Int) = (n : Int) := by omega
  clear hn _ws hT C D
  by_cases hl : 2000 < n
  · have zl : (2000 : Int) < n := by omega
    go_enter Tryd.func3, Tryd.ntmps3
    go_wp2_with fail
    refine (HA.out _ HT.out).mono ?_
    rintro e w1 ⟨rfl, b1⟩
    have B1 := hide b1
    clear b1
    go_wp2
    go_ret
    exact ⟨rfl, B1.out⟩
  · have zl : ¬ (2000 : Int) < n := by omega
    have HS := hide (show s.size ≤ 3000 by rw [HN.out]; omega)
    have HS2 := hide (show s.size ≤ 1000000 by rw [HN.out]; omega)
    go_enter Tryd.func3, Tryd.ntmps3
    go_wp2_with fail
    refine (HA.out _ HT.out).mono ?_
    rintro e w1 ⟨rfl, b1⟩
    have B1 := hide b1
    clear b1
    go_wp2_with fail
    refine (HC.out.right s _ (HT.out.from B1.out) HS.out).mono ?_
    rintro e w2 ⟨rfl, b⟩
    have B2 := hide (B1.out.trans (b.mono B1.out.size))
    clear b
    go_wp2_with fail
    refine (qright12 s _ (HT.out.from B2.out) HS2.out).mono ?_
    rintro e w3 ⟨rfl, b⟩
    have B3 := hide (B2.out.trans (b.mono B2.out.size))
    clear b
    generalize rightN s.data.toList = y1
    go_wp2_with fail
    refine (HC.out.note s _ (HT.out.from B3.out) HS.out).mono ?_
    rintro e w4 ⟨rfl, b⟩
    have B4 := hide (B3.out.trans (b.mono B3.out.size))
    clear b
    go_wp2_with fail
    refine (qnote12 s _ (HT.out.from B4.out) HS2.out).mono ?_
    rintro e w5 ⟨rfl, b⟩
    have B5 := hide (B4.out.trans (b.mono B4.out.size))
    clear b
    generalize noteN s.data.toList = y2
    go_wp2_with fail
    refine (HD.out.ascii s _ HS.out).mono ?_
    rintro e w6 ⟨rfl, b⟩
    have B6 := hide (B5.out.trans (b.mono B5.out.size))
    clear b
    go_wp2_with fail
    refine (qascii12 s _ HS2.out).mono ?_
    rintro e w7 ⟨rfl, b⟩
    have B7 := hide (B6.out.trans (b.mono B6.out.size))
    clear b
    generalize asciiN s.data.toList = y3
    go_wp2_with fail
    refine (HC.out.file s _ (HT.out.from B7.out) HS.out).mono ?_
    rintro e w8 ⟨rfl, b⟩
    have B8 := hide (B7.out.trans (b.mono B7.out.size))
    clear b
    go_wp2_with fail
    refine (qfile12 s _ (HT.out.from B8.out) HS2.out).mono ?_
    rintro e w9 ⟨rfl, b⟩
    have B9 := hide (B8.out.trans (b.mono B8.out.size))
    clear b
    generalize fileN s.data.toList = y4
    go_wp2
    go_ret
    exact ⟨rfl, B9.out⟩

end Go.Proofs.YtgakjojdjnhpaaaDoor
