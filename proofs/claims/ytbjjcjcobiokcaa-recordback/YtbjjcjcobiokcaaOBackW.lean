/- RecordBack, as its frame wants it. -/
import Derived.Test.YtbjjcjcobiokcaaOArg
import Derived.Test.YtbjjcjcobiokcaaOBackL
namespace Go.Proofs.Ytbjjcjcobiokcaa
open Go.RowKit

theorem recback_law (S : OSpec) (w : World) {H : Type} {enc : TypeId × Value → H} {d : DataW H} {p : List MemPlace} (v : Value) {b0 : Nat} (hv : Value.okWide Try.prog w .any b0 23 v) (hd : DataW.Trod enc Try.prog w 0 (fun _ => true) true 23 v d p) (s : ByteArray) (_ws : s.size ≤ maxLen) :
    Calls Try.prog 5 #[v, .string s] w fun e w' => e = .returned (.bool true) ∧ Below w.heap.size w w' := by
  obtain ⟨t, rfl, ht, _, _⟩ := open_record hv hd
  exact back_walk S t s ht w

end Go.Proofs.Ytbjjcjcobiokcaa
