/- SymbolTells, the walk: the program's answers are the document's. -/
import Derived.Test.YtmfijcphmldcgaaSAwake
namespace Go.Proofs.Ytmfijcphmldcgaa
open Go.RowKit Go.Lib

set_option maxRecDepth 20000 in
set_option maxHeartbeats 4000000 in
theorem symbolTells_walk (w : World) (n : Int) (_wn : (Lit.int .i64 n).wf = true) (d : Int) (_wd : (Lit.int .i64 d).wf = true) :
    Calls Try.prog 3 #[.int .i64 n, .int .i64 d] w fun e w' => e = .returned (.bool true) ∧ Below w.heap.size w w' := by
  have H1 := hide (len_any n)
  have Q1 := hide (qlen_any n)
  have H2 := hide (dist_any d)
  have Q2 := hide (qdist_any d)
  have H3 := hide (lenbase_any n)
  have Q3 := hide (qlenbase_any n)
  have H4 := hide (distbase_any d)
  have Q4 := hide (qdistbase_any d)
  unfold lnV at H1 Q1
  unfold dsV at H2 Q2
  unfold lbV at H3 Q3
  unfold dbV at H4 Q4
  generalize lnS n = a1 at *
  generalize lnX n = a2 at *
  generalize lnE n = a3 at *
  generalize lnOk n = a4 at *
  generalize dsS d = b1 at *
  generalize dsX d = b2 at *
  generalize dsE d = b3 at *
  generalize dsOk d = b4 at *
  generalize lbI n = c1 at *
  generalize lbX n = c2 at *
  generalize lbOk n = c3 at *
  generalize dbI d = d1 at *
  generalize dbX d = d2 at *
  generalize dbOk d = d3 at *
  have B0 := hide (Below.refl w.heap.size w)
  clear _wn _wd
  go_enter Try.func3, Try.ntmps3
  go_wp2_with fail
  refine (H1.out _).mono ?_
  rintro e w1 ⟨rfl, b1'⟩
  have B1 := hide (B0.out.trans (b1'.mono B0.out.size))
  clear b1'
  go_wp2_with fail
  refine (Q1.out _).mono ?_
  rintro e w1' ⟨rfl, rfl⟩
  go_wp2_with fail
  refine (H2.out _).mono ?_
  rintro e w2 ⟨rfl, b2'⟩
  have B2 := hide (B1.out.trans (b2'.mono B1.out.size))
  clear b2'
  go_wp2_with fail
  refine (Q2.out _).mono ?_
  rintro e w2' ⟨rfl, rfl⟩
  go_wp2_with fail
  refine (H3.out _).mono ?_
  rintro e w3 ⟨rfl, b3'⟩
  have B3 := hide (B2.out.trans (b3'.mono B2.out.size))
  clear b3'
  go_wp2_with fail
  refine (Q3.out _).mono ?_
  rintro e w3' ⟨rfl, rfl⟩
  go_wp2_with fail
  refine (H4.out _).mono ?_
  rintro e w4 ⟨rfl, b4'⟩
  have B4 := hide (B3.out.trans (b4'.mono B3.out.size))
  clear b4'
  go_wp2_with fail
  refine (Q4.out _).mono ?_
  rintro e w4' ⟨rfl, rfl⟩
  go_wp2_with fail
  refine (sawake_any _).mono ?_
  rintro e w5 ⟨rfl, b5'⟩
  have B5 := hide (B4.out.trans (b5'.mono B4.out.size))
  clear b5'
  go_wp2
  go_ret
  exact ⟨rfl, B5.out⟩

end Go.Proofs.Ytmfijcphmldcgaa
