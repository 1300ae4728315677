/-
  No cell of these rows narrows 'for every input' (looked for: loops, veiled, ifaces, maps, wideKeys, modest, calm, conditions, laid).
  DERIVED. THE GIVEN ROWS OF THIS SEAT. 5 by the template 'for every input the law returns true; each argument reads behind the call as it read before'; 0 by the template 'total and deterministic' (their statements: YtaalbaiglkadlaaTotals.lean).
  GIVEN WITH THE SEED: the statements are not yours to turn. If you find one false, say at which input.
  Laid BY PROGRAM, IN A SANDBOX (cutbox-rows.mjs): the forced cells as the released guide's own fill.sh prints them over the translation 8acd9f520cef6d8d… (all of the seat's roots in one cut). By AI agents, Wed Nov 11 2026. No macro, syntax, notation, axiom, sorry.
-/
import Derived.Test.YtaalbaiglkadlaaChecked
import GoSem.Claim
import GoSem.ClaimJoined
import GoSem.ClaimMapViews
import Derived.JoinedTies
import Derived.KernelRfl
namespace Go.Proofs.Ytaalbaiglkadlaa
/- THE CELL 'sum', in the pinned program and in every row, IS THE sha256 OF THE DUMP (.gsa) THAT YtaalbaiglkadlaaProg.lean LOADS. Nothing in Lean hashes anything: it is a label: what it is worth is what the hold of that sum in a sandbox is worth. -/
noncomputable def Try.pinned : Pinned := { name := "ytaalbaiglkadlaa", sum := "8acd9f520cef6d8dfe5fb0926eacf90364126b006dc022c3c0bc2252bda13a49", checked := Try.checked }
namespace Rows
def none {H : Type} : Left H := { results := [], args := [] }

/-- 'stevedorelaw11.InflateOpens': WHATEVER THE INPUT: true; the input reads as it did. -/
def inflateOpensSpec : ChangeSpec := { name := "inflateOpens", fn := fun _ => fun
  | [d1, d2] => { results := [.lit (.bool true)], args := [d1, d2] }
  | _ => none }
def inflateOpensRow : OpenClaim := { program := "ytaalbaiglkadlaa", sum := "8acd9f520cef6d8dfe5fb0926eacf90364126b006dc022c3c0bc2252bda13a49", func := "stevedore/stevedorelaw11.InflateOpens", spec := "inflateOpens", unfollowed := true, recurses := true, apart := false }
def InflateOpensSaid : Prop := inflateOpensRow.holds Try.pinned (OpenSpec.ofChange inflateOpensSpec)

/-- ITS FALSE NEIGHBOUR: 'it returns false'. Refute it at one input. -/
def inflateOpensWrong : ChangeSpec := { name := "inflateOpens", fn := fun _ => fun
  | [d1, d2] => { results := [.lit (.bool false)], args := [d1, d2] }
  | _ => none }
def InflateOpensWrongFalsely : Prop := inflateOpensRow.holds Try.pinned (OpenSpec.ofChange inflateOpensWrong)

/-- 'stevedorelaw11.InflateBack': WHATEVER THE INPUT: true; the input reads as it did. -/
def inflateBackSpec : ChangeSpec := { name := "inflateBack", fn := fun _ => fun
  | [d1, d2] => { results := [.lit (.bool true)], args := [d1, d2] }
  | _ => none }
def inflateBackRow : OpenClaim := { program := "ytaalbaiglkadlaa", sum := "8acd9f520cef6d8dfe5fb0926eacf90364126b006dc022c3c0bc2252bda13a49", func := "stevedore/stevedorelaw11.InflateBack", spec := "inflateBack", unfollowed := true, recurses := true, apart := false }
def InflateBackSaid : Prop := inflateBackRow.holds Try.pinned (OpenSpec.ofChange inflateBackSpec)

/-- ITS FALSE NEIGHBOUR: 'it returns false'. Refute it at one input. -/
def inflateBackWrong : ChangeSpec := { name := "inflateBack", fn := fun _ => fun
  | [d1, d2] => { results := [.lit (.bool false)], args := [d1, d2] }
  | _ => none }
def InflateBackWrongFalsely : Prop := inflateBackRow.holds Try.pinned (OpenSpec.ofChange inflateBackWrong)

/-- 'stevedorelaw11.InflateEnds': WHATEVER THE INPUT: true; the input reads as it did. -/
def inflateEndsSpec : ChangeSpec := { name := "inflateEnds", fn := fun _ => fun
  | [d1, d2, d3] => { results := [.lit (.bool true)], args := [d1, d2, d3] }
  | _ => none }
def inflateEndsRow : OpenClaim := { program := "ytaalbaiglkadlaa", sum := "8acd9f520cef6d8dfe5fb0926eacf90364126b006dc022c3c0bc2252bda13a49", func := "stevedore/stevedorelaw11.InflateEnds", spec := "inflateEnds", unfollowed := true, recurses := true, apart := false }
def InflateEndsSaid : Prop := inflateEndsRow.holds Try.pinned (OpenSpec.ofChange inflateEndsSpec)

/-- ITS FALSE NEIGHBOUR: 'it returns false'. Refute it at one input. -/
def inflateEndsWrong : ChangeSpec := { name := "inflateEnds", fn := fun _ => fun
  | [d1, d2, d3] => { results := [.lit (.bool false)], args := [d1, d2, d3] }
  | _ => none }
def InflateEndsWrongFalsely : Prop := inflateEndsRow.holds Try.pinned (OpenSpec.ofChange inflateEndsWrong)

/-- 'stevedorelaw11.InflateUses': WHATEVER THE INPUT: true; the input reads as it did. -/
def inflateUsesSpec : ChangeSpec := { name := "inflateUses", fn := fun _ => fun
  | [d1, d2] => { results := [.lit (.bool true)], args := [d1, d2] }
  | _ => none }
def inflateUsesRow : OpenClaim := { program := "ytaalbaiglkadlaa", sum := "8acd9f520cef6d8dfe5fb0926eacf90364126b006dc022c3c0bc2252bda13a49", func := "stevedore/stevedorelaw11.InflateUses", spec := "inflateUses", unfollowed := true, recurses := true, apart := false }
def InflateUsesSaid : Prop := inflateUsesRow.holds Try.pinned (OpenSpec.ofChange inflateUsesSpec)

/-- ITS FALSE NEIGHBOUR: 'it returns false'. Refute it at one input. -/
def inflateUsesWrong : ChangeSpec := { name := "inflateUses", fn := fun _ => fun
  | [d1, d2] => { results := [.lit (.bool false)], args := [d1, d2] }
  | _ => none }
def InflateUsesWrongFalsely : Prop := inflateUsesRow.holds Try.pinned (OpenSpec.ofChange inflateUsesWrong)

/-- 'stevedorelaw11.InflateLimits': WHATEVER THE INPUT: true; the input reads as it did. -/
def inflateLimitsSpec : ChangeSpec := { name := "inflateLimits", fn := fun _ => fun
  | [d1, d2] => { results := [.lit (.bool true)], args := [d1, d2] }
  | _ => none }
def inflateLimitsRow : OpenClaim := { program := "ytaalbaiglkadlaa", sum := "8acd9f520cef6d8dfe5fb0926eacf90364126b006dc022c3c0bc2252bda13a49", func := "stevedore/stevedorelaw11.InflateLimits", spec := "inflateLimits", unfollowed := true, recurses := true, apart := false }
def InflateLimitsSaid : Prop := inflateLimitsRow.holds Try.pinned (OpenSpec.ofChange inflateLimitsSpec)

/-- ITS FALSE NEIGHBOUR: 'it returns false'. Refute it at one input. -/
def inflateLimitsWrong : ChangeSpec := { name := "inflateLimits", fn := fun _ => fun
  | [d1, d2] => { results := [.lit (.bool false)], args := [d1, d2] }
  | _ => none }
def InflateLimitsWrongFalsely : Prop := inflateLimitsRow.holds Try.pinned (OpenSpec.ofChange inflateLimitsWrong)

/- THE SECOND FORM. 'bulk': how many values and letters a reading holds, each counted each time it is reached (what is shared counts as often as it is met; a slice's spare places count too). A statement '..UptoSaid' is the law's where the arguments, and the package variables that the reading takes, are together of bulk at most 1048576: NARROWER than '..Said'. Prove '..Said' where nothing that the law and all that it calls make is longer than what came in: it says more and counts as full. Else prove '..UptoSaid'. A law counts once. -/
mutual
def uptoBulk {H : Type} : DataW H → Nat
  | .lit (.string bytes) => bytes.length + 1
  | .lit _ => 1
  | .nil => 1
  | .ptr d => uptoBulk d + 1
  | .slice elems spare => uptoBulkAll elems + uptoBulkAll spare + 1
  | .agg parts => uptoBulkAll parts + 1
  | .iface _ d => uptoBulk d + 1
  | .map entries => uptoBulkEntries entries + 1
  | .held _ => 1
def uptoBulkAll {H : Type} : List (DataW H) → Nat
  | [] => 0
  | d :: r => uptoBulk d + uptoBulkAll r
def uptoBulkEntries {H : Type} : List (Lit × DataW H) → Nat
  | [] => 0
  | x :: r => uptoBulkEntry x + uptoBulkEntries r
def uptoBulkEntry {H : Type} : Lit × DataW H → Nat
  | (.string bytes, d) => bytes.length + uptoBulk d + 1
  | (_, d) => uptoBulk d + 1
 end
def uptoSmall : (H : Type) → List (DataW H) → Bool := fun _ ds => decide (uptoBulkAll ds ≤ 1048576)
def OpenSpec.upto (s : _root_.Go.ChangeSpec) : _root_.Go.OpenSpec := { _root_.Go.OpenSpec.ofChange s with cond := some uptoSmall }

/-- 'stevedorelaw11.InflateOpens', WHERE WHAT IT READS IS OF BULK AT MOST 1048576: true; the input reads as it did. -/
def inflateOpensUptoRow : OpenClaim := { program := "ytaalbaiglkadlaa", sum := "8acd9f520cef6d8dfe5fb0926eacf90364126b006dc022c3c0bc2252bda13a49", func := "stevedore/stevedorelaw11.InflateOpens", spec := "inflateOpens", unfollowed := true, recurses := true, apart := false, narrowed := true }
def InflateOpensUptoSaid : Prop := inflateOpensUptoRow.holds Try.pinned (OpenSpec.upto inflateOpensSpec)

/-- 'stevedorelaw11.InflateBack', WHERE WHAT IT READS IS OF BULK AT MOST 1048576: true; the input reads as it did. -/
def inflateBackUptoRow : OpenClaim := { program := "ytaalbaiglkadlaa", sum := "8acd9f520cef6d8dfe5fb0926eacf90364126b006dc022c3c0bc2252bda13a49", func := "stevedore/stevedorelaw11.InflateBack", spec := "inflateBack", unfollowed := true, recurses := true, apart := false, narrowed := true }
def InflateBackUptoSaid : Prop := inflateBackUptoRow.holds Try.pinned (OpenSpec.upto inflateBackSpec)

/-- 'stevedorelaw11.InflateEnds', WHERE WHAT IT READS IS OF BULK AT MOST 1048576: true; the input reads as it did. -/
def inflateEndsUptoRow : OpenClaim := { program := "ytaalbaiglkadlaa", sum := "8acd9f520cef6d8dfe5fb0926eacf90364126b006dc022c3c0bc2252bda13a49", func := "stevedore/stevedorelaw11.InflateEnds", spec := "inflateEnds", unfollowed := true, recurses := true, apart := false, narrowed := true }
def InflateEndsUptoSaid : Prop := inflateEndsUptoRow.holds Try.pinned (OpenSpec.upto inflateEndsSpec)

/-- 'stevedorelaw11.InflateUses', WHERE WHAT IT READS IS OF BULK AT MOST 1048576: true; the input reads as it did. -/
def inflateUsesUptoRow : OpenClaim := { program := "ytaalbaiglkadlaa", sum := "8acd9f520cef6d8dfe5fb0926eacf90364126b006dc022c3c0bc2252bda13a49", func := "stevedore/stevedorelaw11.InflateUses", spec := "inflateUses", unfollowed := true, recurses := true, apart := false, narrowed := true }
def InflateUsesUptoSaid : Prop := inflateUsesUptoRow.holds Try.pinned (OpenSpec.upto inflateUsesSpec)

/-- 'stevedorelaw11.InflateLimits', WHERE WHAT IT READS IS OF BULK AT MOST 1048576: true; the input reads as it did. -/
def inflateLimitsUptoRow : OpenClaim := { program := "ytaalbaiglkadlaa", sum := "8acd9f520cef6d8dfe5fb0926eacf90364126b006dc022c3c0bc2252bda13a49", func := "stevedore/stevedorelaw11.InflateLimits", spec := "inflateLimits", unfollowed := true, recurses := true, apart := false, narrowed := true }
def InflateLimitsUptoSaid : Prop := inflateLimitsUptoRow.holds Try.pinned (OpenSpec.upto inflateLimitsSpec)

end Rows
end Go.Proofs.Ytaalbaiglkadlaa
