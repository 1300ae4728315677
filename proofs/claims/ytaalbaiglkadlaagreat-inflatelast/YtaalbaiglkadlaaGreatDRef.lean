/- Contracts of the document's layer 10: covered, stored, Pack. -/
import Derived.Test.YtaalbaiglkadlaaGreatDM
namespace Go.Proofs.YtaalbaiglkadlaaGreat
open Go.RowKit Go.Lib

theorem cov_range (l : List (Nat × Int × Int)) (h : ∀ t ∈ l, RightT t) : covL l ≤ 258 * l.length := by
  induction l with
  | nil => exact Nat.le_refl _
  | cons t l ih =>
    have e : covL (t :: l) = covT t + covL l := rfl
    have h1 := ih (fun x hx => h x (List.mem_cons_of_mem _ hx))
    have h2 : covT t ≤ 258 := by
      have h3 := (h t List.mem_cons_self).2
      unfold covT
      split
      · omega
      · have := h3 (by omega); omega
    rw [e, List.length_cons]
    omega

theorem meas_len (a a2 : Option Addr) (n m c c2 : Nat) (h : n < m) : lenV (.slice a n c) < lenV (.slice a2 m c2) := h

end Go.Proofs.YtaalbaiglkadlaaGreat
