/- Like tokens are told to be: the document's 'Same' of layer 8; and contracts of the stand-in (practice). -/
import Derived.Test.YtifcpaeofmkokaaMExp
namespace Go.Proofs.Ytifcpaeofmkokaa
open Go.RowKit Go.Lib

set_option maxHeartbeats 2000000 in
theorem qtsame_any (l : List (Nat × Int × Int)) (n : Nat) (pa pb : Option Addr) (ca cb : Nat) (W : World) (hn : l.length = n) (ha : ArgT W pa l) (hb : ArgT W pb l) (la : n ≤ 1000000) :
    Calls Try.prog 10 #[.slice pa n ca, .slice pb n cb] W fun e w' => e = .returned (.bool true) ∧ Below W.heap.size W w' := by
  have HA := hide ha
  have HB := hide hb
  have HN := hide hn
  have B0 := hide (Below.refl W.heap.size W)
  clear ha hb hn
  go_enter Try.func10, Try.ntmps10
  go_wp2
  go_loopw [5] (fun i wr => ∃ j : Nat, j ≤ n ∧ i = .int .i64 j ∧ Hid (Below W.heap.size W wr)) (fun i _ => n - (intOf i).toNat)
  case atStart => exact ⟨0, Nat.zero_le _, rfl, B0⟩
  case round =>
    obtain ⟨j, hj, rfl, BB⟩ := hrel
    by_cases hlt : j < n
    · obtain ⟨⟨u, v, t⟩, hu⟩ : ∃ r, l[j]? = some r := ⟨_, List.getElem?_eq_getElem (by rw [HN.out]; exact hlt)⟩
      obtain ⟨x, offx, rfl, hx, hcx, hdx, hex⟩ := HA.out j _ hu
      obtain ⟨y, offy, rfl, hy, hcy, hdy, hey⟩ := HB.out j _ hu
      have _c1 := (BB.out.cell (p := ⟨x, offx + j * 3, none⟩) hx).trans hcx
      have _c2 := (BB.out.cell (p := ⟨y, offy + j * 3, none⟩) hy).trans hcy
      have _d1 := (BB.out.cell (p := ⟨x, offx + j * 3 + 1, none⟩) hx).trans hdx
      have _d2 := (BB.out.cell (p := ⟨y, offy + j * 3 + 1, none⟩) hy).trans hdy
      have _e1 := (BB.out.cell (p := ⟨x, offx + j * 3 + 2, none⟩) hx).trans hex
      have _e2 := (BB.out.cell (p := ⟨y, offy + j * 3 + 2, none⟩) hy).trans hey
      have z1 : (j : Int) < n := by omega
      have HLT := hide hlt
      dsimp only at _c1 _c2 _d1 _d2 _e1 _e2
      clear hx hy hcx hcy hdx hdy hex hey hj hlt hu
      go_wp2
      go_quiet (fail)
      go_wp2
      go_roundw
      case rel => exact ⟨j + 1, HLT.out, by go_num, hide (below_drewN BB.out _)⟩
      case measure => exact meas_oneW j _ HLT.out
    · have hje : j = n := by omega
      subst hje
      go_wp2
      go_ret
      exact ⟨rfl, BB.out⟩

end Go.Proofs.Ytifcpaeofmkokaa
