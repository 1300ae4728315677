/- Like runs, and like numbers, are told to be: the document's 'Same' of layer 7, and the statements' 'same'. -/
import Derived.Test.YtdaflfkknlhllaaRUn
namespace Go.Proofs.Ytdaflfkknlhllaa
open Go.RowKit Go.Lib

set_option maxHeartbeats 2000000 in
theorem same7_any (l : List Int) (n : Nat) (pa pb : Option Addr) (ca cb : Nat) (W : World) (hn : l.length = n) (ha : ArgZ W pa l) (hb : ArgZ W pb l) (la : n ≤ 300000) :
    Calls Try.prog 18 #[.slice pa n ca, .slice pb n cb] W fun e w' => e = .returned (.bool true) ∧ Below W.heap.size W w' := by
  have HA := hide ha
  have HB := hide hb
  have HN := hide hn
  have B0 := hide (Below.refl W.heap.size W)
  clear ha hb hn
  go_enter Try.func18, Try.ntmps18
  go_wp2
  go_loopw [5] (fun i wr => ∃ j : Nat, j ≤ n ∧ i = .int .i64 j ∧ Hid (Below W.heap.size W wr)) (fun i _ => n - (intOf i).toNat)
  case atStart => exact ⟨0, Nat.zero_le _, rfl, B0⟩
  case round =>
    obtain ⟨j, hj, rfl, BB⟩ := hrel
    by_cases hlt : j < n
    · obtain ⟨u, hu⟩ := getZ? l j (by rw [HN.out]; exact hlt)
      obtain ⟨x, offx, rfl, hx, hcx⟩ := HA.out j _ hu
      obtain ⟨y, offy, rfl, hy, hcy⟩ := HB.out j _ hu
      have _c1 := (BB.out.cell (p := ⟨x, offx + j, none⟩) hx).trans hcx
      have _c2 := (BB.out.cell (p := ⟨y, offy + j, none⟩) hy).trans hcy
      have z1 : (j : Int) < n := by omega
      have HLT := hide hlt
      clear hx hy hcx hcy hj hlt hu
      go_wp2
      go_quiet (fail)
      go_wp2
      go_roundw
      case rel => exact ⟨j + 1, HLT.out, by go_num, hide (below_drewN BB.out _)⟩
      case measure => exact meas_oneW j _ HLT.out
    · have hje : j = n := by omega
      subst hje
      go_wp2
      go_ret
      exact ⟨rfl, BB.out⟩

set_option maxHeartbeats 2000000 in
theorem qrsame_any (l : List (Int × Int)) (n : Nat) (pa pb : Option Addr) (ca cb : Nat) (W : World) (hn : l.length = n) (ha : ArgR W pa l) (hb : ArgR W pb l) (la : n ≤ 10000) :
    Calls Try.prog 9 #[.slice pa n ca, .slice pb n cb] W fun e w' => e = .returned (.bool true) ∧ Below W.heap.size W w' := by
  have HA := hide ha
  have HB := hide hb
  have HN := hide hn
  have B0 := hide (Below.refl W.heap.size W)
  clear ha hb hn
  go_enter Try.func9, Try.ntmps9
  go_wp2
  go_loopw [5] (fun i wr => ∃ j : Nat, j ≤ n ∧ i = .int .i64 j ∧ Hid (Below W.heap.size W wr)) (fun i _ => n - (intOf i).toNat)
  case atStart => exact ⟨0, Nat.zero_le _, rfl, B0⟩
  case round =>
    obtain ⟨j, hj, rfl, BB⟩ := hrel
    by_cases hlt : j < n
    · obtain ⟨⟨u, v⟩, hu⟩ : ∃ r, l[j]? = some r := ⟨_, List.getElem?_eq_getElem (by rw [HN.out]; exact hlt)⟩
      obtain ⟨x, offx, rfl, hx, hcx, hdx⟩ := HA.out j _ _ hu
      obtain ⟨y, offy, rfl, hy, hcy, hdy⟩ := HB.out j _ _ hu
      have _c1 := (BB.out.cell (p := ⟨x, offx + j * 2, none⟩) hx).trans hcx
      have _c2 := (BB.out.cell (p := ⟨y, offy + j * 2, none⟩) hy).trans hcy
      have _d1 := (BB.out.cell (p := ⟨x, offx + j * 2 + 1, none⟩) hx).trans hdx
      have _d2 := (BB.out.cell (p := ⟨y, offy + j * 2 + 1, none⟩) hy).trans hdy
      have z1 : (j : Int) < n := by omega
      have HLT := hide hlt
      clear hx hy hcx hcy hdx hdy hj hlt hu
      go_wp2
      go_quiet (fail)
      go_wp2
      go_roundw
      case rel => exact ⟨j + 1, HLT.out, by go_num, hide (below_drewN BB.out _)⟩
      case measure => exact meas_oneW j _ HLT.out
    · have hje : j = n := by omega
      subst hje
      go_wp2
      go_ret
      exact ⟨rfl, BB.out⟩

end Go.Proofs.Ytdaflfkknlhllaa
