/- Contracts of layer 4's small calls: the document's Cost, and the statements' 'same'. -/
import Derived.Test.YtihgdlnnfhpdcaaWLen
namespace Go.Proofs.Ytihgdlnnfhpdcaa
open Go.RowKit Go.Lib

/-- What the first j products come to, going round. -/
def costW (a b : List Int) : Nat → Int
  | 0 => 0
  | j + 1 => wrap64 (costW a b j + wrap64 (a.getD j 0 * b.getD j 0))

theorem getZ (l : List Int) (i : Nat) (h : i < l.length) : l[i]? = some (l.getD i 0) := by
  rw [List.getD_eq_getElem?_getD, List.getElem?_eq_getElem h]
  rfl

theorem below_drewN {B : Nat} {a w : World} (h : Below B a w) (n : Nat) : Below B a (w.drewN n) := ⟨h.os, h.tape, h.output, h.size, h.block⟩

set_option maxHeartbeats 1000000 in
theorem qcost_any (a b : List Int) (pa pb : Option Addr) (ca cb : Nat) (W : World) (ha : ArgZ W pa a) (hb : ArgZ W pb b) (la : a.length ≤ 1000) (_lb : b.length ≤ 1000) :
    Calls Try.prog 13 #[.slice pa a.length ca, .slice pb b.length cb] W fun e w' => e = .returned (.int .i64 (costW a b (min a.length b.length))) ∧ Below W.heap.size W w' := by
  have HA := hide ha
  have HB := hide hb
  have B0 := hide (Below.refl W.heap.size W)
  clear ha hb
  go_enter Try.func13, Try.ntmps13
  go_wp2
  go_loopw [5, 6] (fun c i wr => ∃ j : Nat, j ≤ min a.length b.length ∧ i = .int .i64 j ∧ c = .int .i64 (costW a b j) ∧ Hid (Below W.heap.size W wr)) (fun _ i _ => min a.length b.length - (intOf i).toNat)
  case atStart => exact ⟨0, Nat.zero_le _, rfl, rfl, B0⟩
  case round =>
    obtain ⟨j, hj, rfl, rfl, BB⟩ := hrel
    by_cases hlt : j < min a.length b.length
    · have h1 : j < a.length := by omega
      have h2 : j < b.length := by omega
      obtain ⟨x, offx, rfl, hx, hcx⟩ := HA.out j _ (getZ a j h1)
      obtain ⟨y, offy, rfl, hy, hcy⟩ := HB.out j _ (getZ b j h2)
      have _c1 := (BB.out.cell (p := ⟨x, offx + j, none⟩) hx).trans hcx
      have _c2 := (BB.out.cell (p := ⟨y, offy + j, none⟩) hy).trans hcy
      have z1 : (j : Int) < a.length := by omega
      have z2 : (j : Int) < b.length := by omega
      have HC := hide (show costW a b (j + 1) = wrap64 (costW a b j + wrap64 (a.getD j 0 * b.getD j 0)) from rfl)
      have HLT := hide hlt
      generalize a.getD j 0 = u at *
      generalize b.getD j 0 = v at *
      clear hx hy hcx hcy hlt hj
      go_wp2
      go_quiet (fail)
      go_wp2
      go_roundw
      case rel => exact ⟨j + 1, HLT.out, by go_num, by rw [HC.out], hide (below_drewN BB.out _)⟩
      case measure => exact meas_oneW j _ HLT.out
    · have hje : j = min a.length b.length := by omega
      have HJ := hide hje
      by_cases h1 : j < a.length
      · have z1 : (j : Int) < a.length := by omega
        have z2 : ¬ (j : Int) < b.length := by omega
        clear hje hlt hj
        go_wp2
        go_ret
        exact ⟨by rw [← HJ.out]; rfl, BB.out⟩
      · have z1 : ¬ (j : Int) < a.length := by omega
        clear hje hlt hj
        go_wp2
        go_ret
        exact ⟨by rw [← HJ.out]; rfl, BB.out⟩

set_option maxHeartbeats 1000000 in
theorem same_any (a : List Int) (pa pb : Option Addr) (ca cb : Nat) (W : World) (ha : ArgZ W pa a) (hb : ArgZ W pb a) (la : a.length ≤ 1000) :
    Calls Try.prog 11 #[.slice pa a.length ca, .slice pb a.length cb] W fun e w' => e = .returned (.bool true) ∧ Below W.heap.size W w' := by
  have HA := hide ha
  have HB := hide hb
  have B0 := hide (Below.refl W.heap.size W)
  clear ha hb
  go_enter Try.func11, Try.ntmps11
  go_wp2
  go_loopw [5] (fun i wr => ∃ j : Nat, j ≤ a.length ∧ i = .int .i64 j ∧ Hid (Below W.heap.size W wr)) (fun i _ => a.length - (intOf i).toNat)
  case atStart => exact ⟨0, Nat.zero_le _, rfl, B0⟩
  case round =>
    obtain ⟨j, hj, rfl, BB⟩ := hrel
    by_cases hlt : j < a.length
    · obtain ⟨x, offx, rfl, hx, hcx⟩ := HA.out j _ (getZ a j hlt)
      obtain ⟨y, offy, rfl, hy, hcy⟩ := HB.out j _ (getZ a j hlt)
      have _c1 := (BB.out.cell (p := ⟨x, offx + j, none⟩) hx).trans hcx
      have _c2 := (BB.out.cell (p := ⟨y, offy + j, none⟩) hy).trans hcy
      have z1 : (j : Int) < a.length := by omega
      have HLT := hide hlt
      generalize a.getD j 0 = u at *
      clear hx hy hcx hcy hj hlt
      go_wp2
      go_quiet (fail)
      go_wp2
      go_roundw
      case rel => exact ⟨j + 1, HLT.out, by go_num, hide (below_drewN BB.out _)⟩
      case measure => exact meas_oneW j _ HLT.out
    · have hje : j = a.length := by omega
      subst hje
      go_wp2
      go_ret
      exact ⟨rfl, BB.out⟩

end Go.Proofs.Ytihgdlnnfhpdcaa
