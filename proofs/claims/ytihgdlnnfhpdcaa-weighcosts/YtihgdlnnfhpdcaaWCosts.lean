/- Whatever weights and lengths are: what they cost is the document's answer: 'WeighCosts' answers true. No condition. -/
import Derived.Test.YtihgdlnnfhpdcaaWOpen
namespace Go.Proofs.Ytihgdlnnfhpdcaa
open Go.RowKit Go.Lib

set_option maxHeartbeats 1000000 in
theorem costs_walk (a b : List Int) (pa pb : Option Addr) (ca cb : Nat) (W : World) (ha : ArgZ W pa a) (hb : ArgZ W pb b) :
    Calls Try.prog 6 #[.slice pa a.length ca, .slice pb b.length cb] W fun e w' => e = .returned (.bool true) ∧ Below W.heap.size W w' := by
  have HA := hide ha
  have HB := hide hb
  clear ha hb
  by_cases h1 : 500 < a.length
  · have z1 : (500 : Int) < a.length := by omega
    go_enter Try.func6, Try.ntmps6
    go_wp2_with fail
    refine (wawake_any _).mono ?_
    rintro e w1 ⟨rfl, b1⟩
    have B1 := hide b1
    clear b1
    go_wp2
    go_ret
    exact ⟨rfl, B1.out⟩
  · have z1 : ¬ (500 : Int) < a.length := by omega
    by_cases h2 : 500 < b.length
    · have z2 : (500 : Int) < b.length := by omega
      go_enter Try.func6, Try.ntmps6
      go_wp2_with fail
      refine (wawake_any _).mono ?_
      rintro e w1 ⟨rfl, b1⟩
      have B1 := hide b1
      clear b1
      go_wp2
      go_ret
      exact ⟨rfl, B1.out⟩
    · have z2 : ¬ (500 : Int) < b.length := by omega
      have HL := hide (show a.length ≤ 1000 ∧ b.length ≤ 1000 by omega)
      go_enter Try.func6, Try.ntmps6
      go_wp2_with fail
      refine (wawake_any _).mono ?_
      rintro e w1 ⟨rfl, b1⟩
      have B1 := hide b1
      clear b1
      go_wp2_with fail
      refine (cost_any a b pa pb ca cb _ (HA.out.below B1.out) (HB.out.below B1.out) HL.out.1 HL.out.2).mono ?_
      rintro e w2 ⟨rfl, b2⟩
      have B2 := hide (B1.out.trans (b2.mono B1.out.size))
      clear b2
      go_wp2_with fail
      refine (qcost_any a b pa pb ca cb _ (HA.out.below B2.out) (HB.out.below B2.out) HL.out.1 HL.out.2).mono ?_
      rintro e w3 ⟨rfl, b3⟩
      have B3 := hide (B2.out.trans (b3.mono B2.out.size))
      clear b3
      go_wp2
      go_ret
      exact ⟨rfl, B3.out⟩

theorem costs_law (w : World) (v0 : Value) {b0 : Nat} {H : Type} {enc : TypeId × Value → H} {d0 d1 : DataW H} {p0 p1 : List MemPlace}
    (o0 : Value.okWide Try.prog w .any b0 22 v0) (k0 : DataW.Trod enc Try.prog w 0 (fun _ => true) true 22 v0 d0 p0) (v1 : Value)
    (o1 : Value.okWide Try.prog w .any b0 22 v1) (k1 : DataW.Trod enc Try.prog w 0 (fun _ => true) true 22 v1 d1 p1) :
    Calls Try.prog 6 #[v0, v1] w fun e w' => e = .returned (.bool true) ∧ Below w.heap.size w w' := by
  obtain ⟨pa, ca, a, rfl, ha, _, _⟩ := open_argZ o0 k0
  obtain ⟨pb, cb, b, rfl, hb, _, _⟩ := open_argZ o1 k1
  exact costs_walk a b pa pb ca cb w ha hb

end Go.Proofs.Ytihgdlnnfhpdcaa
