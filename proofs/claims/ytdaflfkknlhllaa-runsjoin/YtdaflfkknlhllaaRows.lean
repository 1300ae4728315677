/-
  No cell of these rows narrows 'for every input' (looked for: loops, veiled, ifaces, maps, wideKeys, modest, calm, conditions, laid).
  DERIVED. THE GIVEN ROWS OF THIS SEAT. 5 by the template 'for every input the law returns true; each argument reads behind the call as it read before'; 0 by the template 'total and deterministic' (their statements: YtdaflfkknlhllaaTotals.lean).
  GIVEN WITH THE SEED: the statements are not yours to turn. If you find one false, say at which input.
  Laid BY PROGRAM, IN A SANDBOX (cutbox-rows.mjs): the forced cells as the released guide's own fill.sh prints them over the translation 4044f980764c343d… (all of the seat's roots in one cut). By AI agents, Wed Nov 11 2026. No macro, syntax, notation, axiom, sorry.
-/
import Derived.Test.YtdaflfkknlhllaaChecked
import GoSem.Claim
import GoSem.ClaimJoined
import GoSem.ClaimMapViews
import Derived.JoinedTies
import Derived.KernelRfl
namespace Go.Proofs.Ytdaflfkknlhllaa
/- THE CELL 'sum', in the pinned program and in every row, IS THE sha256 OF THE DUMP (.gsa) THAT YtdaflfkknlhllaaProg.lean LOADS. Nothing in Lean hashes anything: it is a label: what it is worth is what the hold of that sum in a sandbox is worth. -/
noncomputable def Try.pinned : Pinned := { name := "ytdaflfkknlhllaa", sum := "4044f980764c343db78a6059ae2899a3622a4644b1fcf8241c7ff57c94a7e833", checked := Try.checked }
namespace Rows
def none {H : Type} : Left H := { results := [], args := [] }

/-- 'stevedorelaw07.RunsFold': WHATEVER THE INPUT: true; the input reads as it did. -/
def runsFoldSpec : ChangeSpec := { name := "runsFold", fn := fun _ => fun
  | [d1, d2] => { results := [.lit (.bool true)], args := [d1, d2] }
  | _ => none }
def runsFoldRow : OpenClaim := { program := "ytdaflfkknlhllaa", sum := "4044f980764c343db78a6059ae2899a3622a4644b1fcf8241c7ff57c94a7e833", func := "stevedore/stevedorelaw07.RunsFold", spec := "runsFold", apart := false }
def RunsFoldSaid : Prop := runsFoldRow.holds Try.pinned (OpenSpec.ofChange runsFoldSpec)

/-- ITS FALSE NEIGHBOUR: 'it returns false'. Refute it at one input. -/
def runsFoldWrong : ChangeSpec := { name := "runsFold", fn := fun _ => fun
  | [d1, d2] => { results := [.lit (.bool false)], args := [d1, d2] }
  | _ => none }
def RunsFoldWrongFalsely : Prop := runsFoldRow.holds Try.pinned (OpenSpec.ofChange runsFoldWrong)

/-- 'stevedorelaw07.RunsUnfold': WHATEVER THE INPUT: true; the input reads as it did. -/
def runsUnfoldSpec : ChangeSpec := { name := "runsUnfold", fn := fun _ => fun
  | [d1, d2] => { results := [.lit (.bool true)], args := [d1, d2] }
  | _ => none }
def runsUnfoldRow : OpenClaim := { program := "ytdaflfkknlhllaa", sum := "4044f980764c343db78a6059ae2899a3622a4644b1fcf8241c7ff57c94a7e833", func := "stevedore/stevedorelaw07.RunsUnfold", spec := "runsUnfold", apart := false }
def RunsUnfoldSaid : Prop := runsUnfoldRow.holds Try.pinned (OpenSpec.ofChange runsUnfoldSpec)

/-- ITS FALSE NEIGHBOUR: 'it returns false'. Refute it at one input. -/
def runsUnfoldWrong : ChangeSpec := { name := "runsUnfold", fn := fun _ => fun
  | [d1, d2] => { results := [.lit (.bool false)], args := [d1, d2] }
  | _ => none }
def RunsUnfoldWrongFalsely : Prop := runsUnfoldRow.holds Try.pinned (OpenSpec.ofChange runsUnfoldWrong)

/-- 'stevedorelaw07.RunsBack': WHATEVER THE INPUT: true; the input reads as it did. -/
def runsBackSpec : ChangeSpec := { name := "runsBack", fn := fun _ => fun
  | [d] => { results := [.lit (.bool true)], args := [d] }
  | _ => none }
def runsBackRow : OpenClaim := { program := "ytdaflfkknlhllaa", sum := "4044f980764c343db78a6059ae2899a3622a4644b1fcf8241c7ff57c94a7e833", func := "stevedore/stevedorelaw07.RunsBack", spec := "runsBack", apart := false }
def RunsBackSaid : Prop := runsBackRow.holds Try.pinned (OpenSpec.ofChange runsBackSpec)

/-- ITS FALSE NEIGHBOUR: 'it returns false'. Refute it at one input. -/
def runsBackWrong : ChangeSpec := { name := "runsBack", fn := fun _ => fun
  | [d] => { results := [.lit (.bool false)], args := [d] }
  | _ => none }
def RunsBackWrongFalsely : Prop := runsBackRow.holds Try.pinned (OpenSpec.ofChange runsBackWrong)

/-- 'stevedorelaw07.RunsFew': WHATEVER THE INPUT: true; the input reads as it did. -/
def runsFewSpec : ChangeSpec := { name := "runsFew", fn := fun _ => fun
  | [d1, d2] => { results := [.lit (.bool true)], args := [d1, d2] }
  | _ => none }
def runsFewRow : OpenClaim := { program := "ytdaflfkknlhllaa", sum := "4044f980764c343db78a6059ae2899a3622a4644b1fcf8241c7ff57c94a7e833", func := "stevedore/stevedorelaw07.RunsFew", spec := "runsFew", apart := false }
def RunsFewSaid : Prop := runsFewRow.holds Try.pinned (OpenSpec.ofChange runsFewSpec)

/-- ITS FALSE NEIGHBOUR: 'it returns false'. Refute it at one input. -/
def runsFewWrong : ChangeSpec := { name := "runsFew", fn := fun _ => fun
  | [d1, d2] => { results := [.lit (.bool false)], args := [d1, d2] }
  | _ => none }
def RunsFewWrongFalsely : Prop := runsFewRow.holds Try.pinned (OpenSpec.ofChange runsFewWrong)

/-- 'stevedorelaw07.RunsJoin': WHATEVER THE INPUT: true; the input reads as it did. -/
def runsJoinSpec : ChangeSpec := { name := "runsJoin", fn := fun _ => fun
  | [d1, d2] => { results := [.lit (.bool true)], args := [d1, d2] }
  | _ => none }
def runsJoinRow : OpenClaim := { program := "ytdaflfkknlhllaa", sum := "4044f980764c343db78a6059ae2899a3622a4644b1fcf8241c7ff57c94a7e833", func := "stevedore/stevedorelaw07.RunsJoin", spec := "runsJoin", apart := false }
def RunsJoinSaid : Prop := runsJoinRow.holds Try.pinned (OpenSpec.ofChange runsJoinSpec)

/-- ITS FALSE NEIGHBOUR: 'it returns false'. Refute it at one input. -/
def runsJoinWrong : ChangeSpec := { name := "runsJoin", fn := fun _ => fun
  | [d1, d2] => { results := [.lit (.bool false)], args := [d1, d2] }
  | _ => none }
def RunsJoinWrongFalsely : Prop := runsJoinRow.holds Try.pinned (OpenSpec.ofChange runsJoinWrong)

/- THE SECOND FORM. 'bulk': how many values and letters a reading holds, each counted each time it is reached (what is shared counts as often as it is met; a slice's spare places count too). A statement '..UptoSaid' is the law's where the arguments, and the package variables that the reading takes, are together of bulk at most 1048576: NARROWER than '..Said'. Prove '..Said' where nothing that the law and all that it calls make is longer than what came in: it says more and counts as full. Else prove '..UptoSaid'. A law counts once. -/
mutual
def uptoBulk {H : Type} : DataW H → Nat
  | .lit (.string bytes) => bytes.length + 1
  | .lit _ => 1
  | .nil => 1
  | .ptr d => uptoBulk d + 1
  | .slice elems spare => uptoBulkAll elems + uptoBulkAll spare + 1
  | .agg parts => uptoBulkAll parts + 1
  | .iface _ d => uptoBulk d + 1
  | .map entries => uptoBulkEntries entries + 1
  | .held _ => 1
def uptoBulkAll {H : Type} : List (DataW H) → Nat
  | [] => 0
  | d :: r => uptoBulk d + uptoBulkAll r
def uptoBulkEntries {H : Type} : List (Lit × DataW H) → Nat
  | [] => 0
  | x :: r => uptoBulkEntry x + uptoBulkEntries r
def uptoBulkEntry {H : Type} : Lit × DataW H → Nat
  | (.string bytes, d) => bytes.length + uptoBulk d + 1
  | (_, d) => uptoBulk d + 1
 end
def uptoSmall : (H : Type) → List (DataW H) → Bool := fun _ ds => decide (uptoBulkAll ds ≤ 1048576)
def OpenSpec.upto (s : _root_.Go.ChangeSpec) : _root_.Go.OpenSpec := { _root_.Go.OpenSpec.ofChange s with cond := some uptoSmall }

/-- 'stevedorelaw07.RunsFold', WHERE WHAT IT READS IS OF BULK AT MOST 1048576: true; the input reads as it did. -/
def runsFoldUptoRow : OpenClaim := { program := "ytdaflfkknlhllaa", sum := "4044f980764c343db78a6059ae2899a3622a4644b1fcf8241c7ff57c94a7e833", func := "stevedore/stevedorelaw07.RunsFold", spec := "runsFold", apart := false, narrowed := true }
def RunsFoldUptoSaid : Prop := runsFoldUptoRow.holds Try.pinned (OpenSpec.upto runsFoldSpec)

/-- 'stevedorelaw07.RunsUnfold', WHERE WHAT IT READS IS OF BULK AT MOST 1048576: true; the input reads as it did. -/
def runsUnfoldUptoRow : OpenClaim := { program := "ytdaflfkknlhllaa", sum := "4044f980764c343db78a6059ae2899a3622a4644b1fcf8241c7ff57c94a7e833", func := "stevedore/stevedorelaw07.RunsUnfold", spec := "runsUnfold", apart := false, narrowed := true }
def RunsUnfoldUptoSaid : Prop := runsUnfoldUptoRow.holds Try.pinned (OpenSpec.upto runsUnfoldSpec)

/-- 'stevedorelaw07.RunsBack', WHERE WHAT IT READS IS OF BULK AT MOST 1048576: true; the input reads as it did. -/
def runsBackUptoRow : OpenClaim := { program := "ytdaflfkknlhllaa", sum := "4044f980764c343db78a6059ae2899a3622a4644b1fcf8241c7ff57c94a7e833", func := "stevedore/stevedorelaw07.RunsBack", spec := "runsBack", apart := false, narrowed := true }
def RunsBackUptoSaid : Prop := runsBackUptoRow.holds Try.pinned (OpenSpec.upto runsBackSpec)

/-- 'stevedorelaw07.RunsFew', WHERE WHAT IT READS IS OF BULK AT MOST 1048576: true; the input reads as it did. -/
def runsFewUptoRow : OpenClaim := { program := "ytdaflfkknlhllaa", sum := "4044f980764c343db78a6059ae2899a3622a4644b1fcf8241c7ff57c94a7e833", func := "stevedore/stevedorelaw07.RunsFew", spec := "runsFew", apart := false, narrowed := true }
def RunsFewUptoSaid : Prop := runsFewUptoRow.holds Try.pinned (OpenSpec.upto runsFewSpec)

/-- 'stevedorelaw07.RunsJoin', WHERE WHAT IT READS IS OF BULK AT MOST 1048576: true; the input reads as it did. -/
def runsJoinUptoRow : OpenClaim := { program := "ytdaflfkknlhllaa", sum := "4044f980764c343db78a6059ae2899a3622a4644b1fcf8241c7ff57c94a7e833", func := "stevedore/stevedorelaw07.RunsJoin", spec := "runsJoin", apart := false, narrowed := true }
def RunsJoinUptoSaid : Prop := runsJoinUptoRow.holds Try.pinned (OpenSpec.upto runsJoinSpec)

end Rows
end Go.Proofs.Ytdaflfkknlhllaa
