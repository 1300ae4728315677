/- Whatever a number is: its bytes in two, four and eight are the document's: 'FieldWrites' answers true. No condition. -/
import Derived.Test.YtaflncfghphkgaaFQLow
namespace Go.Proofs.Ytaflncfghphkgaa
open Go.RowKit Go.Lib

set_option maxHeartbeats 1000000 in
theorem fwrites_walk (n : Int) (w : World) :
    Calls Try.prog 3 #[.int .i64 n] w fun e w' => e = .returned (.bool true) ∧ Below w.heap.size w w' := by
  go_enter Try.func3, Try.ntmps3
  go_wp2_with fail
  refine (fawake_any _).mono ?_
  rintro e w0 ⟨rfl, b0⟩
  have B0 := hide b0
  clear b0
  go_wp2_with fail
  refine (u16_any n _).mono ?_
  rintro e w1 ⟨rfl, b1⟩
  have B1 := hide (B0.out.trans (b1.mono B0.out.size))
  clear b1
  go_wp2_with fail
  refine (q16_any n _).mono ?_
  rintro e w2 ⟨rfl, b1⟩
  have B2 := hide (B1.out.trans (b1.mono B1.out.size))
  clear b1
  go_wp2_with fail
  refine (u32_any n _).mono ?_
  rintro e w3 ⟨rfl, b1⟩
  have B3 := hide (B2.out.trans (b1.mono B2.out.size))
  clear b1
  go_wp2_with fail
  refine (q32_any n _).mono ?_
  rintro e w4 ⟨rfl, b1⟩
  have B4 := hide (B3.out.trans (b1.mono B3.out.size))
  clear b1
  go_wp2_with fail
  refine (u64_any n _).mono ?_
  rintro e w5 ⟨rfl, b1⟩
  have B5 := hide (B4.out.trans (b1.mono B4.out.size))
  clear b1
  go_wp2_with fail
  refine (q64_any n _).mono ?_
  rintro e w6 ⟨rfl, b1⟩
  have B6 := hide (B5.out.trans (b1.mono B5.out.size))
  clear b1
  go_wp2
  go_ret
  exact ⟨rfl, B6.out⟩

theorem fwrites_law (w : World) (a0 : Int) (_w0 : (Lit.int .i64 a0).wf = true) :
    Calls Try.prog 3 #[.int .i64 a0] w fun e w' => e = .returned (.bool true) ∧ Below w.heap.size w w' := fwrites_walk a0 w

end Go.Proofs.Ytaflncfghphkgaa
