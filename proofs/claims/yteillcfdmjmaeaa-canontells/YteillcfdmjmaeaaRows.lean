/-
  No cell of these rows narrows 'for every input' (looked for: loops, veiled, ifaces, maps, wideKeys, modest, calm, conditions, laid).
  DERIVED. THE GIVEN ROWS OF THIS SEAT. 6 by the template 'for every input the law returns true; each argument reads behind the call as it read before'; 0 by the template 'total and deterministic' (their statements: YteillcfdmjmaeaaTotals.lean).
  GIVEN WITH THE SEED: the statements are not yours to turn. If you find one false, say at which input.
  Laid BY PROGRAM, IN A SANDBOX (cutbox-rows.mjs): the forced cells as the released guide's own fill.sh prints them over the translation 1648f8ce235dc8ab… (all of the seat's roots in one cut). By AI agents, Wed Nov 11 2026. No macro, syntax, notation, axiom, sorry.
-/
import Derived.Test.YteillcfdmjmaeaaChecked
import GoSem.Claim
import GoSem.ClaimJoined
import GoSem.ClaimMapViews
import Derived.JoinedTies
import Derived.KernelRfl
namespace Go.Proofs.Yteillcfdmjmaeaa
/- THE CELL 'sum', in the pinned program and in every row, IS THE sha256 OF THE DUMP (.gsa) THAT YteillcfdmjmaeaaProg.lean LOADS. Nothing in Lean hashes anything: it is a label: what it is worth is what the hold of that sum in a sandbox is worth. -/
noncomputable def Try.pinned : Pinned := { name := "yteillcfdmjmaeaa", sum := "1648f8ce235dc8abbc090aef5f2c6790807e530c52a4ad526f535f7f7c098cc3", checked := Try.checked }
namespace Rows
def none {H : Type} : Left H := { results := [], args := [] }

/-- 'stevedorelaw05.CanonTells': WHATEVER THE INPUT: true; the input reads as it did. -/
def canonTellsSpec : ChangeSpec := { name := "canonTells", fn := fun _ => fun
  | [d] => { results := [.lit (.bool true)], args := [d] }
  | _ => none }
def canonTellsRow : OpenClaim := { program := "yteillcfdmjmaeaa", sum := "1648f8ce235dc8abbc090aef5f2c6790807e530c52a4ad526f535f7f7c098cc3", func := "stevedore/stevedorelaw05.CanonTells", spec := "canonTells", apart := false }
def CanonTellsSaid : Prop := canonTellsRow.holds Try.pinned (OpenSpec.ofChange canonTellsSpec)

/-- ITS FALSE NEIGHBOUR: 'it returns false'. Refute it at one input. -/
def canonTellsWrong : ChangeSpec := { name := "canonTells", fn := fun _ => fun
  | [d] => { results := [.lit (.bool false)], args := [d] }
  | _ => none }
def CanonTellsWrongFalsely : Prop := canonTellsRow.holds Try.pinned (OpenSpec.ofChange canonTellsWrong)

/-- 'stevedorelaw05.CanonReads': WHATEVER THE INPUT: true; the input reads as it did. -/
def canonReadsSpec : ChangeSpec := { name := "canonReads", fn := fun _ => fun
  | [d1, d2] => { results := [.lit (.bool true)], args := [d1, d2] }
  | _ => none }
def canonReadsRow : OpenClaim := { program := "yteillcfdmjmaeaa", sum := "1648f8ce235dc8abbc090aef5f2c6790807e530c52a4ad526f535f7f7c098cc3", func := "stevedore/stevedorelaw05.CanonReads", spec := "canonReads", apart := false }
def CanonReadsSaid : Prop := canonReadsRow.holds Try.pinned (OpenSpec.ofChange canonReadsSpec)

/-- ITS FALSE NEIGHBOUR: 'it returns false'. Refute it at one input. -/
def canonReadsWrong : ChangeSpec := { name := "canonReads", fn := fun _ => fun
  | [d1, d2] => { results := [.lit (.bool false)], args := [d1, d2] }
  | _ => none }
def CanonReadsWrongFalsely : Prop := canonReadsRow.holds Try.pinned (OpenSpec.ofChange canonReadsWrong)

/-- 'stevedorelaw05.CanonBack': WHATEVER THE INPUT: true; the input reads as it did. -/
def canonBackSpec : ChangeSpec := { name := "canonBack", fn := fun _ => fun
  | [d1, d2] => { results := [.lit (.bool true)], args := [d1, d2] }
  | _ => none }
def canonBackRow : OpenClaim := { program := "yteillcfdmjmaeaa", sum := "1648f8ce235dc8abbc090aef5f2c6790807e530c52a4ad526f535f7f7c098cc3", func := "stevedore/stevedorelaw05.CanonBack", spec := "canonBack", apart := false }
def CanonBackSaid : Prop := canonBackRow.holds Try.pinned (OpenSpec.ofChange canonBackSpec)

/-- ITS FALSE NEIGHBOUR: 'it returns false'. Refute it at one input. -/
def canonBackWrong : ChangeSpec := { name := "canonBack", fn := fun _ => fun
  | [d1, d2] => { results := [.lit (.bool false)], args := [d1, d2] }
  | _ => none }
def CanonBackWrongFalsely : Prop := canonBackRow.holds Try.pinned (OpenSpec.ofChange canonBackWrong)

/-- 'stevedorelaw05.CanonPrefix': WHATEVER THE INPUT: true; the input reads as it did. -/
def canonPrefixSpec : ChangeSpec := { name := "canonPrefix", fn := fun _ => fun
  | [d1, d2] => { results := [.lit (.bool true)], args := [d1, d2] }
  | _ => none }
def canonPrefixRow : OpenClaim := { program := "yteillcfdmjmaeaa", sum := "1648f8ce235dc8abbc090aef5f2c6790807e530c52a4ad526f535f7f7c098cc3", func := "stevedore/stevedorelaw05.CanonPrefix", spec := "canonPrefix", apart := false }
def CanonPrefixSaid : Prop := canonPrefixRow.holds Try.pinned (OpenSpec.ofChange canonPrefixSpec)

/-- ITS FALSE NEIGHBOUR: 'it returns false'. Refute it at one input. -/
def canonPrefixWrong : ChangeSpec := { name := "canonPrefix", fn := fun _ => fun
  | [d1, d2] => { results := [.lit (.bool false)], args := [d1, d2] }
  | _ => none }
def CanonPrefixWrongFalsely : Prop := canonPrefixRow.holds Try.pinned (OpenSpec.ofChange canonPrefixWrong)

/-- 'stevedorelaw05.CanonAll': WHATEVER THE INPUT: true; the input reads as it did. -/
def canonAllSpec : ChangeSpec := { name := "canonAll", fn := fun _ => fun
  | [d1, d2] => { results := [.lit (.bool true)], args := [d1, d2] }
  | _ => none }
def canonAllRow : OpenClaim := { program := "yteillcfdmjmaeaa", sum := "1648f8ce235dc8abbc090aef5f2c6790807e530c52a4ad526f535f7f7c098cc3", func := "stevedore/stevedorelaw05.CanonAll", spec := "canonAll", apart := false }
def CanonAllSaid : Prop := canonAllRow.holds Try.pinned (OpenSpec.ofChange canonAllSpec)

/-- ITS FALSE NEIGHBOUR: 'it returns false'. Refute it at one input. -/
def canonAllWrong : ChangeSpec := { name := "canonAll", fn := fun _ => fun
  | [d1, d2] => { results := [.lit (.bool false)], args := [d1, d2] }
  | _ => none }
def CanonAllWrongFalsely : Prop := canonAllRow.holds Try.pinned (OpenSpec.ofChange canonAllWrong)

/-- 'stevedorelaw05.CanonCounts': WHATEVER THE INPUT: true; the input reads as it did. -/
def canonCountsSpec : ChangeSpec := { name := "canonCounts", fn := fun _ => fun
  | [d] => { results := [.lit (.bool true)], args := [d] }
  | _ => none }
def canonCountsRow : OpenClaim := { program := "yteillcfdmjmaeaa", sum := "1648f8ce235dc8abbc090aef5f2c6790807e530c52a4ad526f535f7f7c098cc3", func := "stevedore/stevedorelaw05.CanonCounts", spec := "canonCounts", apart := false }
def CanonCountsSaid : Prop := canonCountsRow.holds Try.pinned (OpenSpec.ofChange canonCountsSpec)

/-- ITS FALSE NEIGHBOUR: 'it returns false'. Refute it at one input. -/
def canonCountsWrong : ChangeSpec := { name := "canonCounts", fn := fun _ => fun
  | [d] => { results := [.lit (.bool false)], args := [d] }
  | _ => none }
def CanonCountsWrongFalsely : Prop := canonCountsRow.holds Try.pinned (OpenSpec.ofChange canonCountsWrong)

/- THE SECOND FORM. 'bulk': how many values and letters a reading holds, each counted each time it is reached (what is shared counts as often as it is met; a slice's spare places count too). A statement '..UptoSaid' is the law's where the arguments, and the package variables that the reading takes, are together of bulk at most 1048576: NARROWER than '..Said'. Prove '..Said' where nothing that the law and all that it calls make is longer than what came in: it says more and counts as full. Else prove '..UptoSaid'. A law counts once. -/
mutual
def uptoBulk {H : Type} : DataW H → Nat
  | .lit (.string bytes) => bytes.length + 1
  | .lit _ => 1
  | .nil => 1
  | .ptr d => uptoBulk d + 1
  | .slice elems spare => uptoBulkAll elems + uptoBulkAll spare + 1
  | .agg parts => uptoBulkAll parts + 1
  | .iface _ d => uptoBulk d + 1
  | .map entries => uptoBulkEntries entries + 1
  | .held _ => 1
def uptoBulkAll {H : Type} : List (DataW H) → Nat
  | [] => 0
  | d :: r => uptoBulk d + uptoBulkAll r
def uptoBulkEntries {H : Type} : List (Lit × DataW H) → Nat
  | [] => 0
  | x :: r => uptoBulkEntry x + uptoBulkEntries r
def uptoBulkEntry {H : Type} : Lit × DataW H → Nat
  | (.string bytes, d) => bytes.length + uptoBulk d + 1
  | (_, d) => uptoBulk d + 1
 end
def uptoSmall : (H : Type) → List (DataW H) → Bool := fun _ ds => decide (uptoBulkAll ds ≤ 1048576)
def OpenSpec.upto (s : _root_.Go.ChangeSpec) : _root_.Go.OpenSpec := { _root_.Go.OpenSpec.ofChange s with cond := some uptoSmall }

/-- 'stevedorelaw05.CanonTells', WHERE WHAT IT READS IS OF BULK AT MOST 1048576: true; the input reads as it did. -/
def canonTellsUptoRow : OpenClaim := { program := "yteillcfdmjmaeaa", sum := "1648f8ce235dc8abbc090aef5f2c6790807e530c52a4ad526f535f7f7c098cc3", func := "stevedore/stevedorelaw05.CanonTells", spec := "canonTells", apart := false, narrowed := true }
def CanonTellsUptoSaid : Prop := canonTellsUptoRow.holds Try.pinned (OpenSpec.upto canonTellsSpec)

/-- 'stevedorelaw05.CanonReads', WHERE WHAT IT READS IS OF BULK AT MOST 1048576: true; the input reads as it did. -/
def canonReadsUptoRow : OpenClaim := { program := "yteillcfdmjmaeaa", sum := "1648f8ce235dc8abbc090aef5f2c6790807e530c52a4ad526f535f7f7c098cc3", func := "stevedore/stevedorelaw05.CanonReads", spec := "canonReads", apart := false, narrowed := true }
def CanonReadsUptoSaid : Prop := canonReadsUptoRow.holds Try.pinned (OpenSpec.upto canonReadsSpec)

/-- 'stevedorelaw05.CanonBack', WHERE WHAT IT READS IS OF BULK AT MOST 1048576: true; the input reads as it did. -/
def canonBackUptoRow : OpenClaim := { program := "yteillcfdmjmaeaa", sum := "1648f8ce235dc8abbc090aef5f2c6790807e530c52a4ad526f535f7f7c098cc3", func := "stevedore/stevedorelaw05.CanonBack", spec := "canonBack", apart := false, narrowed := true }
def CanonBackUptoSaid : Prop := canonBackUptoRow.holds Try.pinned (OpenSpec.upto canonBackSpec)

/-- 'stevedorelaw05.CanonPrefix', WHERE WHAT IT READS IS OF BULK AT MOST 1048576: true; the input reads as it did. -/
def canonPrefixUptoRow : OpenClaim := { program := "yteillcfdmjmaeaa", sum := "1648f8ce235dc8abbc090aef5f2c6790807e530c52a4ad526f535f7f7c098cc3", func := "stevedore/stevedorelaw05.CanonPrefix", spec := "canonPrefix", apart := false, narrowed := true }
def CanonPrefixUptoSaid : Prop := canonPrefixUptoRow.holds Try.pinned (OpenSpec.upto canonPrefixSpec)

/-- 'stevedorelaw05.CanonAll', WHERE WHAT IT READS IS OF BULK AT MOST 1048576: true; the input reads as it did. -/
def canonAllUptoRow : OpenClaim := { program := "yteillcfdmjmaeaa", sum := "1648f8ce235dc8abbc090aef5f2c6790807e530c52a4ad526f535f7f7c098cc3", func := "stevedore/stevedorelaw05.CanonAll", spec := "canonAll", apart := false, narrowed := true }
def CanonAllUptoSaid : Prop := canonAllUptoRow.holds Try.pinned (OpenSpec.upto canonAllSpec)

/-- 'stevedorelaw05.CanonCounts', WHERE WHAT IT READS IS OF BULK AT MOST 1048576: true; the input reads as it did. -/
def canonCountsUptoRow : OpenClaim := { program := "yteillcfdmjmaeaa", sum := "1648f8ce235dc8abbc090aef5f2c6790807e530c52a4ad526f535f7f7c098cc3", func := "stevedore/stevedorelaw05.CanonCounts", spec := "canonCounts", apart := false, narrowed := true }
def CanonCountsUptoSaid : Prop := canonCountsUptoRow.holds Try.pinned (OpenSpec.upto canonCountsSpec)

end Rows
end Go.Proofs.Yteillcfdmjmaeaa
