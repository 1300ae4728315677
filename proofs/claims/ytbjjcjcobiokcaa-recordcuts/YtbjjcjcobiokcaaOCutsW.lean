/- RecordCuts, as its frame wants it. -/
import Derived.Test.YtbjjcjcobiokcaaOArg
import Derived.Test.YtbjjcjcobiokcaaOCutsL
namespace Go.Proofs.Ytbjjcjcobiokcaa
open Go.RowKit

theorem wf_u16O {n : Int} (h : (Lit.int .u16 n).wf = true) : 0 ≤ n ∧ n ≤ 65535 := by
  have e : (Lit.int .u16 n).wf = (decide (0 ≤ n) && decide (n ≤ 65535)) := by
    first | rfl | (simp [Lit.wf, IntKind.inRange])
  rw [e, Bool.and_eq_true, decide_eq_true_eq, decide_eq_true_eq] at h
  exact h
theorem cuts_law (S : OSpec) (w : World) {H : Type} {enc : TypeId × Value → H} {d : DataW H} {p : List MemPlace} (v : Value) {b0 : Nat} (hv : Value.okWide Try.prog w .any b0 23 v) (hd : DataW.Trod enc Try.prog w 0 (fun _ => true) true 23 v d p) (x : Int) (wx : (Lit.int .u16 x).wf = true) :
    Calls Try.prog 7 #[v, .int .u16 x] w fun e w' => e = .returned (.bool true) ∧ Below w.heap.size w w' := by
  obtain ⟨t, rfl, ht, _, _⟩ := open_record hv hd
  have hx := wf_u16O wx
  obtain ⟨m, rfl⟩ := Int.eq_ofNat_of_zero_le hx.1
  exact cuts_walk S t m (by omega) ht w

end Go.Proofs.Ytbjjcjcobiokcaa
