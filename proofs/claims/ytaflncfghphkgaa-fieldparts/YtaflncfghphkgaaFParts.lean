/- Whatever a number is: its four bytes are its two lowest ones, and the next two; its eight likewise: 'FieldParts' answers true. No condition. -/
import Derived.Test.YtaflncfghphkgaaFQLow
namespace Go.Proofs.Ytaflncfghphkgaa
open Go.RowKit Go.Lib

set_option maxHeartbeats 1000000 in
theorem fparts_walk (n : Int) (w : World) :
    Calls Try.prog 6 #[.int .i64 n] w fun e w' => e = .returned (.bool true) ∧ Below w.heap.size w w' := by
  have s1 := lowS_size n 2
  have s2 := lowS_size (n / 65536) 2
  have s3 := lowS_size n 4
  have s4 := lowS_size (n / 4294967296) 4
  have s5 := lowS_size n 8
  go_enter Try.func6, Try.ntmps6
  go_wp2_with fail
  refine (fawake_any _).mono ?_
  rintro e w0 ⟨rfl, b0⟩
  have B0 := hide b0
  clear b0
  go_wp2_with fail
  refine (u32_any n _).mono ?_
  rintro e w1 ⟨rfl, b1⟩
  have B1 := hide (B0.out.trans (b1.mono B0.out.size))
  clear b1
  go_wp2_with fail
  refine (u16_any n _).mono ?_
  rintro e w2 ⟨rfl, b1⟩
  have B2 := hide (B1.out.trans (b1.mono B1.out.size))
  clear b1
  go_wp2_with fail
  refine (u16_any _ _).mono ?_
  rintro e w3 ⟨rfl, b1⟩
  have B3 := hide (B2.out.trans (b1.mono B2.out.size))
  clear b1
  have e4 := lowS_4 n
  have e8 := lowS_8 n
  go_wp2_with fail
  refine (u64_any n _).mono ?_
  rintro e w4 ⟨rfl, b1⟩
  have B4 := hide (B3.out.trans (b1.mono B3.out.size))
  clear b1
  go_wp2_with fail
  refine (u32_any n _).mono ?_
  rintro e w5 ⟨rfl, b1⟩
  have B5 := hide (B4.out.trans (b1.mono B4.out.size))
  clear b1
  go_wp2_with fail
  refine (u32_any _ _).mono ?_
  rintro e w6 ⟨rfl, b1⟩
  have B6 := hide (B5.out.trans (b1.mono B5.out.size))
  clear b1
  go_wp2_with fail
  refine (u64_any n _).mono ?_
  rintro e w7 ⟨rfl, b1⟩
  have B7 := hide (B6.out.trans (b1.mono B6.out.size))
  clear b1
  go_wp2
  go_ret
  exact ⟨rfl, B7.out⟩

theorem fparts_law (w : World) (a0 : Int) (_w0 : (Lit.int .i64 a0).wf = true) :
    Calls Try.prog 6 #[.int .i64 a0] w fun e w' => e = .returned (.bool true) ∧ Below w.heap.size w w' := fparts_walk a0 w

end Go.Proofs.Ytaflncfghphkgaa
