/- RecordSizes, as its frame wants it. -/
import Derived.Test.YtbjjcjcobiokcaaOArg
import Derived.Test.YtbjjcjcobiokcaaOSizesL
namespace Go.Proofs.Ytbjjcjcobiokcaa
open Go.RowKit

theorem sizes_law (S : OSpec) (w : World) {H : Type} {enc : TypeId × Value → H} {d : DataW H} {p : List MemPlace} (v : Value) {b0 : Nat} (hv : Value.okWide Try.prog w .any b0 23 v) (hd : DataW.Trod enc Try.prog w 0 (fun _ => true) true 23 v d p) :
    Calls Try.prog 6 #[v] w fun e w' => e = .returned (.bool true) ∧ Below w.heap.size w w' := by
  obtain ⟨t, rfl, ht, _, _⟩ := open_record hv hd
  exact sizes_walk S t ht w

end Go.Proofs.Ytbjjcjcobiokcaa
