/- Contract of 'taken' of package bits: it computes and touches nothing. -/
import Derived.Test.YteillcfdmjmaeaaRows
import Derived.Test.YteillcfdmjmaeaaBitMath
import Derived.WalkKit
import Derived.WalkSpells
import Derived.WalkLawsBesides
namespace Go.Proofs.Yteillcfdmjmaeaa
open Go.RowKit

def takenI (n : Int) : Int := if n < 0 then 0 else if 30 < n then 30 else n

set_option maxHeartbeats 400000 in
theorem taken_any (n : Int) (w : World) :
    Calls Try.prog 29 #[.int .i64 n] w fun e w' => e = .returned (.int .i64 (takenI n)) ∧ w = w' := by
  by_cases h0 : n < 0
  · go_enter Try.func29, Try.ntmps29
    go_wp2
    go_ret
    exact ⟨by simp [takenI, h0], rfl⟩
  · by_cases h1 : 30 < n
    · go_enter Try.func29, Try.ntmps29
      go_wp2
      go_ret
      exact ⟨by simp [takenI, h0, h1], rfl⟩
    · go_enter Try.func29, Try.ntmps29
      go_wp2
      go_ret
      exact ⟨by rw [takenI, if_neg (by omega), if_neg (by omega)]; rfl, rfl⟩

end Go.Proofs.Yteillcfdmjmaeaa
