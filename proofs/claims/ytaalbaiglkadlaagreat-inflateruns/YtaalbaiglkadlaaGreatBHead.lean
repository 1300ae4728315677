/- Contract of the document's 'head' of layer 9. -/
import Derived.Test.YtaalbaiglkadlaaGreatBR
import Derived.Test.YtaalbaiglkadlaaGreatAppArg
import Derived.Deep.RegionHeld3
namespace Go.Proofs.YtaalbaiglkadlaaGreat
open Go.RowKit Go.Lib

theorem argN_none {w : World} {l : List Nat} {a : Option Addr} (h : ArgN w a l) (e : a = none) : l.length = 0 := by
  subst e
  cases l with
  | nil => rfl
  | cons x l =>
    obtain ⟨b, off, h1, _⟩ := h 0 x rfl
    cases h1
theorem argN_news {w : World} {l : List Nat} {a : Option Addr} (h : ArgN w a l) (ad : Addr) (e : a = some ad) : ∀ j u, (natCs l)[j]? = some u → w.cell? (ad.add j) = some u := by
  intro j u hu
  unfold natCs at hu
  rw [List.getElem?_map] at hu
  cases hx : l[j]? with
  | none => rw [hx] at hu; cases hu
  | some x =>
    rw [hx] at hu
    injection hu with hu
    subst hu
    obtain ⟨b, off, h1, _, h3⟩ := h j x hx
    rw [e] at h1
    injection h1 with h1
    subst h1
    rw [add_noneW]
    exact h3
theorem own_empty (w : World) (e : TypeId) (size : Nat) : (w.alloc (.cells #[] e)).ownsRow w.heap.size e size (.slice (some ⟨w.heap.size, 0, none⟩) 0 0) 0 [] :=
  World.ownsRow_lit (e := e) (size := size) w #[] 0 (Nat.le_refl _) (by unfold maxLen; omega) (by simp)

end Go.Proofs.YtaalbaiglkadlaaGreat
