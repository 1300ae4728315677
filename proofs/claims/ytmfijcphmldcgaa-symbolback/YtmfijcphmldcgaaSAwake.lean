/- The fixed runs of layer 6 come out true. -/
import Derived.Test.YtmfijcphmldcgaaSCode
namespace Go.Proofs.Ytmfijcphmldcgaa
open Go.RowKit Go.Lib

theorem ln258 : lnV 258 = .tuple #[.int .i64 285, .int .i64 0, .int .i64 0, .bool true] := by kernel_rfl
theorem ln12 : lnV 12 = .tuple #[.int .i64 265, .int .i64 1, .int .i64 1, .bool true] := by kernel_rfl
theorem ds9 : dsV 9 = .tuple #[.int .i64 6, .int .i64 2, .int .i64 0, .bool true] := by kernel_rfl
theorem db29 : dbV 29 = .tuple #[.int .i64 24577, .int .i64 13, .bool true] := by kernel_rfl
theorem lb284 : lbV 284 = .tuple #[.int .i64 227, .int .i64 5, .bool true] := by kernel_rfl

set_option maxRecDepth 20000 in
set_option maxHeartbeats 2000000 in
theorem sawake_any (w : World) :
    Calls Try.prog 15 #[] w fun e w' => e = .returned (.bool true) ∧ Below w.heap.size w w' := by
  have H1 := hide (len_any 258)
  have H2 := hide (len_any 12)
  have H3 := hide (dist_any 9)
  have H4 := hide (distbase_any 29)
  have H5 := hide (lenbase_any 284)
  rw [ln258] at H1
  rw [ln12] at H2
  rw [ds9] at H3
  rw [db29] at H4
  rw [lb284] at H5
  have B0 := hide (Below.refl w.heap.size w)
  go_enter Try.func15, Try.ntmps15
  go_wp2_with fail
  refine (H1.out _).mono ?_
  rintro e w1 ⟨rfl, b1⟩
  have B1 := hide (B0.out.trans (b1.mono B0.out.size))
  clear b1
  go_wp2_with fail
  refine (H2.out _).mono ?_
  rintro e w2 ⟨rfl, b2⟩
  have B2 := hide (B1.out.trans (b2.mono B1.out.size))
  clear b2
  go_wp2_with fail
  refine (H3.out _).mono ?_
  rintro e w3 ⟨rfl, b3⟩
  have B3 := hide (B2.out.trans (b3.mono B2.out.size))
  clear b3
  go_wp2_with fail
  refine (H4.out _).mono ?_
  rintro e w4 ⟨rfl, b4⟩
  have B4 := hide (B3.out.trans (b4.mono B3.out.size))
  clear b4
  go_wp2_with fail
  refine (H5.out _).mono ?_
  rintro e w5 ⟨rfl, b5⟩
  have B5 := hide (B4.out.trans (b5.mono B4.out.size))
  clear b5
  go_wp2
  go_ret
  exact ⟨rfl, B5.out⟩

end Go.Proofs.Ytmfijcphmldcgaa
