/- Contracts of the smallest functions of package bits: 'taken' and 'whole' compute and touch nothing. -/
import Derived.Test.YtlhffiepmhlmpaaRows
import Derived.Test.YtlhffiepmhlmpaaBitMath
import Derived.WalkKit
import Derived.WalkSpells
import Derived.WalkLawsBesides
namespace Go.Proofs.Ytlhffiepmhlmpaa
open Go.RowKit

def takenI (n : Int) : Int := if n < 0 then 0 else if 30 < n then 30 else n

set_option maxHeartbeats 400000 in
theorem taken_any (n : Int) (w : World) :
    Calls Try.prog 25 #[.int .i64 n] w fun e w' => e = .returned (.int .i64 (takenI n)) ∧ w = w' := by
  by_cases h0 : n < 0
  · go_enter Try.func25, Try.ntmps25
    go_wp2
    go_ret
    exact ⟨by simp [takenI, h0], rfl⟩
  · by_cases h1 : 30 < n
    · go_enter Try.func25, Try.ntmps25
      go_wp2
      go_ret
      exact ⟨by simp [takenI, h0, h1], rfl⟩
    · go_enter Try.func25, Try.ntmps25
      go_wp2
      go_ret
      exact ⟨by rw [takenI, if_neg (by omega), if_neg (by omega)]; rfl, rfl⟩

set_option maxHeartbeats 400000 in
theorem whole_any (n : Int) (w : World) (h0 : 0 ≤ n) (h1 : n ≤ 1000000000000) :
    Calls Try.prog 26 #[.int .i64 n] w fun e w' => e = .returned (.int .i64 ((n + 7) / 8 * 8)) ∧ w = w' := by
  go_enter Try.func26, Try.ntmps26
  go_wp2
  go_ret
  exact ⟨congrArg (fun z => Ending.returned (Value.int .i64 z)) (andNot7_i64 (n + 7) (by omega) (by omega)), rfl⟩

end Go.Proofs.Ytlhffiepmhlmpaa
