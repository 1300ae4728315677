/-
  No cell of these rows narrows 'for every input' (looked for: loops, veiled, ifaces, maps, wideKeys, modest, calm, conditions, laid).
  DERIVED. THE GIVEN ROWS OF THIS SEAT. 5 by the template 'for every input the law returns true; each argument reads behind the call as it read before'; 0 by the template 'total and deterministic' (their statements: YtihgdlnnfhpdcaaTotals.lean).
  GIVEN WITH THE SEED: the statements are not yours to turn. If you find one false, say at which input.
  Laid BY PROGRAM, IN A SANDBOX (cutbox-rows.mjs): the forced cells as the released guide's own fill.sh prints them over the translation aed3832beefa08be… (all of the seat's roots in one cut). By AI agents, Wed Nov 11 2026. No macro, syntax, notation, axiom, sorry.
-/
import Derived.Test.YtihgdlnnfhpdcaaChecked
import GoSem.Claim
import GoSem.ClaimJoined
import GoSem.ClaimMapViews
import Derived.JoinedTies
import Derived.KernelRfl
namespace Go.Proofs.Ytihgdlnnfhpdcaa
/- THE CELL 'sum', in the pinned program and in every row, IS THE sha256 OF THE DUMP (.gsa) THAT YtihgdlnnfhpdcaaProg.lean LOADS. Nothing in Lean hashes anything: it is a label: what it is worth is what the hold of that sum in a sandbox is worth. -/
noncomputable def Try.pinned : Pinned := { name := "ytihgdlnnfhpdcaa", sum := "aed3832beefa08be3b601f83266f7ab898c4998150e9a36d0f9a7519d207e342", checked := Try.checked }
namespace Rows
def none {H : Type} : Left H := { results := [], args := [] }

/-- 'stevedorelaw04.WeighLengths': WHATEVER THE INPUT: true; the input reads as it did. -/
def weighLengthsSpec : ChangeSpec := { name := "weighLengths", fn := fun _ => fun
  | [d1, d2] => { results := [.lit (.bool true)], args := [d1, d2] }
  | _ => none }
def weighLengthsRow : OpenClaim := { program := "ytihgdlnnfhpdcaa", sum := "aed3832beefa08be3b601f83266f7ab898c4998150e9a36d0f9a7519d207e342", func := "stevedore/stevedorelaw04.WeighLengths", spec := "weighLengths", unfollowed := true, recurses := true, apart := false }
def WeighLengthsSaid : Prop := weighLengthsRow.holds Try.pinned (OpenSpec.ofChange weighLengthsSpec)

/-- ITS FALSE NEIGHBOUR: 'it returns false'. Refute it at one input. -/
def weighLengthsWrong : ChangeSpec := { name := "weighLengths", fn := fun _ => fun
  | [d1, d2] => { results := [.lit (.bool false)], args := [d1, d2] }
  | _ => none }
def WeighLengthsWrongFalsely : Prop := weighLengthsRow.holds Try.pinned (OpenSpec.ofChange weighLengthsWrong)

/-- 'stevedorelaw04.WeighFills': WHATEVER THE INPUT: true; the input reads as it did. -/
def weighFillsSpec : ChangeSpec := { name := "weighFills", fn := fun _ => fun
  | [d1, d2] => { results := [.lit (.bool true)], args := [d1, d2] }
  | _ => none }
def weighFillsRow : OpenClaim := { program := "ytihgdlnnfhpdcaa", sum := "aed3832beefa08be3b601f83266f7ab898c4998150e9a36d0f9a7519d207e342", func := "stevedore/stevedorelaw04.WeighFills", spec := "weighFills", unfollowed := true, recurses := true, apart := false }
def WeighFillsSaid : Prop := weighFillsRow.holds Try.pinned (OpenSpec.ofChange weighFillsSpec)

/-- ITS FALSE NEIGHBOUR: 'it returns false'. Refute it at one input. -/
def weighFillsWrong : ChangeSpec := { name := "weighFills", fn := fun _ => fun
  | [d1, d2] => { results := [.lit (.bool false)], args := [d1, d2] }
  | _ => none }
def WeighFillsWrongFalsely : Prop := weighFillsRow.holds Try.pinned (OpenSpec.ofChange weighFillsWrong)

/-- 'stevedorelaw04.WeighLeast': WHATEVER THE INPUT: true; the input reads as it did. -/
def weighLeastSpec : ChangeSpec := { name := "weighLeast", fn := fun _ => fun
  | [d1, d2] => { results := [.lit (.bool true)], args := [d1, d2] }
  | _ => none }
def weighLeastRow : OpenClaim := { program := "ytihgdlnnfhpdcaa", sum := "aed3832beefa08be3b601f83266f7ab898c4998150e9a36d0f9a7519d207e342", func := "stevedore/stevedorelaw04.WeighLeast", spec := "weighLeast", unfollowed := true, recurses := true, apart := false }
def WeighLeastSaid : Prop := weighLeastRow.holds Try.pinned (OpenSpec.ofChange weighLeastSpec)

/-- ITS FALSE NEIGHBOUR: 'it returns false'. Refute it at one input. -/
def weighLeastWrong : ChangeSpec := { name := "weighLeast", fn := fun _ => fun
  | [d1, d2] => { results := [.lit (.bool false)], args := [d1, d2] }
  | _ => none }
def WeighLeastWrongFalsely : Prop := weighLeastRow.holds Try.pinned (OpenSpec.ofChange weighLeastWrong)

/-- 'stevedorelaw04.WeighCosts': WHATEVER THE INPUT: true; the input reads as it did. -/
def weighCostsSpec : ChangeSpec := { name := "weighCosts", fn := fun _ => fun
  | [d1, d2] => { results := [.lit (.bool true)], args := [d1, d2] }
  | _ => none }
def weighCostsRow : OpenClaim := { program := "ytihgdlnnfhpdcaa", sum := "aed3832beefa08be3b601f83266f7ab898c4998150e9a36d0f9a7519d207e342", func := "stevedore/stevedorelaw04.WeighCosts", spec := "weighCosts", unfollowed := true, recurses := true, apart := false }
def WeighCostsSaid : Prop := weighCostsRow.holds Try.pinned (OpenSpec.ofChange weighCostsSpec)

/-- ITS FALSE NEIGHBOUR: 'it returns false'. Refute it at one input. -/
def weighCostsWrong : ChangeSpec := { name := "weighCosts", fn := fun _ => fun
  | [d1, d2] => { results := [.lit (.bool false)], args := [d1, d2] }
  | _ => none }
def WeighCostsWrongFalsely : Prop := weighCostsRow.holds Try.pinned (OpenSpec.ofChange weighCostsWrong)

/-- 'stevedorelaw04.WeighScales': WHATEVER THE INPUT: true; the input reads as it did. -/
def weighScalesSpec : ChangeSpec := { name := "weighScales", fn := fun _ => fun
  | [d1, d2] => { results := [.lit (.bool true)], args := [d1, d2] }
  | _ => none }
def weighScalesRow : OpenClaim := { program := "ytihgdlnnfhpdcaa", sum := "aed3832beefa08be3b601f83266f7ab898c4998150e9a36d0f9a7519d207e342", func := "stevedore/stevedorelaw04.WeighScales", spec := "weighScales", unfollowed := true, recurses := true, apart := false }
def WeighScalesSaid : Prop := weighScalesRow.holds Try.pinned (OpenSpec.ofChange weighScalesSpec)

/-- ITS FALSE NEIGHBOUR: 'it returns false'. Refute it at one input. -/
def weighScalesWrong : ChangeSpec := { name := "weighScales", fn := fun _ => fun
  | [d1, d2] => { results := [.lit (.bool false)], args := [d1, d2] }
  | _ => none }
def WeighScalesWrongFalsely : Prop := weighScalesRow.holds Try.pinned (OpenSpec.ofChange weighScalesWrong)

/- THE SECOND FORM. 'bulk': how many values and letters a reading holds, each counted each time it is reached (what is shared counts as often as it is met; a slice's spare places count too). A statement '..UptoSaid' is the law's where the arguments, and the package variables that the reading takes, are together of bulk at most 1048576: NARROWER than '..Said'. Prove '..Said' where nothing that the law and all that it calls make is longer than what came in: it says more and counts as full. Else prove '..UptoSaid'. A law counts once. -/
mutual
def uptoBulk {H : Type} : DataW H → Nat
  | .lit (.string bytes) => bytes.length + 1
  | .lit _ => 1
  | .nil => 1
  | .ptr d => uptoBulk d + 1
  | .slice elems spare => uptoBulkAll elems + uptoBulkAll spare + 1
  | .agg parts => uptoBulkAll parts + 1
  | .iface _ d => uptoBulk d + 1
  | .map entries => uptoBulkEntries entries + 1
  | .held _ => 1
def uptoBulkAll {H : Type} : List (DataW H) → Nat
  | [] => 0
  | d :: r => uptoBulk d + uptoBulkAll r
def uptoBulkEntries {H : Type} : List (Lit × DataW H) → Nat
  | [] => 0
  | x :: r => uptoBulkEntry x + uptoBulkEntries r
def uptoBulkEntry {H : Type} : Lit × DataW H → Nat
  | (.string bytes, d) => bytes.length + uptoBulk d + 1
  | (_, d) => uptoBulk d + 1
 end
def uptoSmall : (H : Type) → List (DataW H) → Bool := fun _ ds => decide (uptoBulkAll ds ≤ 1048576)
def OpenSpec.upto (s : _root_.Go.ChangeSpec) : _root_.Go.OpenSpec := { _root_.Go.OpenSpec.ofChange s with cond := some uptoSmall }

/-- 'stevedorelaw04.WeighLengths', WHERE WHAT IT READS IS OF BULK AT MOST 1048576: true; the input reads as it did. -/
def weighLengthsUptoRow : OpenClaim := { program := "ytihgdlnnfhpdcaa", sum := "aed3832beefa08be3b601f83266f7ab898c4998150e9a36d0f9a7519d207e342", func := "stevedore/stevedorelaw04.WeighLengths", spec := "weighLengths", unfollowed := true, recurses := true, apart := false, narrowed := true }
def WeighLengthsUptoSaid : Prop := weighLengthsUptoRow.holds Try.pinned (OpenSpec.upto weighLengthsSpec)

/-- 'stevedorelaw04.WeighFills', WHERE WHAT IT READS IS OF BULK AT MOST 1048576: true; the input reads as it did. -/
def weighFillsUptoRow : OpenClaim := { program := "ytihgdlnnfhpdcaa", sum := "aed3832beefa08be3b601f83266f7ab898c4998150e9a36d0f9a7519d207e342", func := "stevedore/stevedorelaw04.WeighFills", spec := "weighFills", unfollowed := true, recurses := true, apart := false, narrowed := true }
def WeighFillsUptoSaid : Prop := weighFillsUptoRow.holds Try.pinned (OpenSpec.upto weighFillsSpec)

/-- 'stevedorelaw04.WeighLeast', WHERE WHAT IT READS IS OF BULK AT MOST 1048576: true; the input reads as it did. -/
def weighLeastUptoRow : OpenClaim := { program := "ytihgdlnnfhpdcaa", sum := "aed3832beefa08be3b601f83266f7ab898c4998150e9a36d0f9a7519d207e342", func := "stevedore/stevedorelaw04.WeighLeast", spec := "weighLeast", unfollowed := true, recurses := true, apart := false, narrowed := true }
def WeighLeastUptoSaid : Prop := weighLeastUptoRow.holds Try.pinned (OpenSpec.upto weighLeastSpec)

/-- 'stevedorelaw04.WeighCosts', WHERE WHAT IT READS IS OF BULK AT MOST 1048576: true; the input reads as it did. -/
def weighCostsUptoRow : OpenClaim := { program := "ytihgdlnnfhpdcaa", sum := "aed3832beefa08be3b601f83266f7ab898c4998150e9a36d0f9a7519d207e342", func := "stevedore/stevedorelaw04.WeighCosts", spec := "weighCosts", unfollowed := true, recurses := true, apart := false, narrowed := true }
def WeighCostsUptoSaid : Prop := weighCostsUptoRow.holds Try.pinned (OpenSpec.upto weighCostsSpec)

/-- 'stevedorelaw04.WeighScales', WHERE WHAT IT READS IS OF BULK AT MOST 1048576: true; the input reads as it did. -/
def weighScalesUptoRow : OpenClaim := { program := "ytihgdlnnfhpdcaa", sum := "aed3832beefa08be3b601f83266f7ab898c4998150e9a36d0f9a7519d207e342", func := "stevedore/stevedorelaw04.WeighScales", spec := "weighScales", unfollowed := true, recurses := true, apart := false, narrowed := true }
def WeighScalesUptoSaid : Prop := weighScalesUptoRow.holds Try.pinned (OpenSpec.upto weighScalesSpec)

end Rows
end Go.Proofs.Ytihgdlnnfhpdcaa
