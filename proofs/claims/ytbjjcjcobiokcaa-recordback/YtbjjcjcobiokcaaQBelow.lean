/- A region that draws its order, whose operations only read what was there, and whose callees may make new blocks: one walk, in the text's order. Nothing of the program is named here. -/
import Derived.WalkKit
import Derived.BigQuiet
import Derived.Deep.QuietTactic
import Derived.Below
namespace Go.Proofs.Ytbjjcjcobiokcaa
open Go.RowKit

/-- A world behind w0: what was there is as it was. -/
def Since0 (w0 : World) : Type := { x : World // Below w0.heap.size w0 x }

theorem wp_region_below {P : Program} {id : Nat} {Q : Exit → Act → World → Prop} {a : Act} {w : World} {l : List Oper} (w0 : World) (hw : Below w0.heap.size w0 w) (hm : P.follows .mixedOrders = true) (hB : Region.lexB .any l.toArray = true)
    (h : wpQuiet P l.toArray (fun w' => ∃ u : Since0 w0, w' = u.1) (fun a' => ∀ w', (∃ u : Since0 w0, w' = u.1) → Q .normal a' w') l a) : (Code.region id l.toArray true).wp P Q a w :=
  wp_region_quiet (C := fun w' => ∃ u : Since0 w0, w' = u.1) hm hB ⟨⟨{ w with drawn := w.drawn + 1 }, ⟨hw.os, hw.tape, hw.output, hw.size, hw.block⟩⟩, rfl⟩ (by simpa using h)

/-- A callee that leaves what was there: its contract, met in any such world. -/
theorem calls_since {P : Program} {f : FuncId} {args : Array Value} {w0 : World} {v : Value} (u : Since0 w0) (h : Calls P f args u.1 fun e w' => e = .returned v ∧ Below u.1.heap.size u.1 w') : Calls P f args u.1 fun e w'' => e = .returned v ∧ ∃ x : Since0 w0, w'' = x.1 :=
  h.mono fun _ w' ⟨he, hb⟩ => ⟨he, ⟨w', u.2.trans (hb.mono u.2.size)⟩, rfl⟩

theorem Since0.cell {w0 : World} (u : Since0 w0) {p : Addr} (hp : p.block < w0.heap.size) : u.1.cell? p = w0.cell? p := u.2.cell hp

end Go.Proofs.Ytbjjcjcobiokcaa
