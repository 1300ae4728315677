import Derived.Test.YtaalbaiglkadlaaWL
import Derived.Test.YtaalbaiglkadlaaIRow
import Derived.Test.YtaalbaiglkadlaaWB
/- Contracts of layer 4's small functions: Cost, above, halved, standing. -/
namespace Go.Proofs.Ytaalbaiglkadlaa
open Go.RowKit Go.Lib

theorem fillTo_all (ws : List Nat) : fillTo (fun i => (ws.getD i 0 + 1) / 2) ws.length ws.length = halves ws := by
  rw [← partH_all]
  unfold fillTo partH
  refine List.map_congr_left fun i hi => ?_
  rw [if_pos (List.mem_range.1 hi), if_pos (List.mem_range.1 hi)]

/-- The first j of those that stand. -/
theorem stand_append (a b : List Nat) : ∀ i, stand (a ++ b) i = stand a i ++ stand b (i + a.length) := by
  induction a with
  | nil => intro i; rfl
  | cons x a ih =>
    intro i
    have e : i + 1 + a.length = i + (a.length + 1) := by omega
    simp only [List.cons_append, stand, ih, List.length_cons, e]
    split
    · rfl
    · rfl

theorem stand_take (ws : List Nat) (j x : Nat) (h : ws[j]? = some x) : stand (ws.take (j + 1)) 0 = stand (ws.take j) 0 ++ if x = 0 then [] else [j] := by
  have hl : j < ws.length := (List.getElem?_eq_some_iff.1 h).1
  rw [take_snocW ws j x h, stand_append, Nat.zero_add, List.length_take, show min j ws.length = j by omega]
  rfl

theorem stand_le (ws : List Nat) : (stand ws 0).length ≤ ws.length := by
  rw [cntL_cnt]
  exact cntL_le ws

theorem two_one (x y : Int) : ∀ u ∈ [Value.int .i64 x, Value.int .i64 y], u.oneCell' = true := by
  intro u hu
  simp at hu
  rcases hu with rfl | rfl <;> rfl
end Go.Proofs.Ytaalbaiglkadlaa

/- Contracts of layer 4's 'leaves' and 'depths'. -/
namespace Go.Proofs.Ytaalbaiglkadlaa
open Go.RowKit Go.Lib

end Go.Proofs.Ytaalbaiglkadlaa

/- Contract of layer 4's 'parents': the pile and the row of parents, side by side. -/
namespace Go.Proofs.Ytaalbaiglkadlaa
open Go.RowKit Go.Lib

theorem PSim.bounds {ws : List Nat} {d all : List (Nat × Int)} {live : List Gr} {n : Nat} {dd : Nat → Nat} (h : PSim ws d all live n dd) (hlen : ws.length ≤ 512) : n ≤ 1024 ∧ live.length ≤ 1024 ∧ n + live.length ≤ 1024 := by
  have h1 := h.num
  have h2 := cntL_le ws
  have h3 := h.sim.len
  omega
theorem PSim.ne {ws : List Nat} {d all : List (Nat × Int)} {a b : Gr} {r : List Gr} {n : Nat} {dd : Nat → Nat} (h : PSim ws d all (a :: b :: r) n dd) : a.id ≠ b.id := by
  have hna := h.sim.node a List.mem_cons_self
  have hnb := h.sim.node b (List.mem_cons_of_mem _ List.mem_cons_self)
  have := (List.pairwise_cons.1 h.sim.st.ord).1 b List.mem_cons_self
  unfold ahead at this
  intro e
  have h2 := node_inj hna hnb e
  omega
theorem PSim.sums {ws : List Nat} {d all : List (Nat × Int)} {a b : Gr} {r : List Gr} {n : Nat} {dd : Nat → Nat} (h : PSim ws d all (a :: b :: r) n dd) (hlen : ws.length ≤ 512) (hmax : ∀ x ∈ ws, x ≤ 1099511627776) : a.w + b.w ≤ 562949953421312 := by
  have h1 := h.sim.sum
  have h2 := sum_le ws 1099511627776 hmax
  have h3 : ws.length * 1099511627776 ≤ 512 * 1099511627776 := Nat.mul_le_mul_right _ hlen
  simp only [List.map_cons, List.sum_cons] at h1
  omega

theorem node_pr (g : Gr) : nodeV (prP g) = .agg #[.int .i64 (g.w : Int), .int .i64 (g.id : Int)] := rfl

end Go.Proofs.Ytaalbaiglkadlaa

/- Contracts of layer 4's 'unlimited', 'allowed' and 'Lengths', of the landed code: the error, or the lengths by the plain process, with the limit. -/
namespace Go.Proofs.Ytaalbaiglkadlaa
open Go.RowKit Go.Lib

/-- The lengths of the first j symbols that stand. -/
def fillS (ws : List Nat) (j : Nat) : List Nat := (List.range ws.length).map fun s => if s ∈ (stand ws 0).take j then lenF ws s else 0

theorem fillS_length (ws : List Nat) (j : Nat) : (fillS ws j).length = ws.length := by simp [fillS]
theorem fillS_get (ws : List Nat) (j i : Nat) (h : i < ws.length) : (fillS ws j)[i]? = some (if i ∈ (stand ws 0).take j then lenF ws i else 0) := by
  unfold fillS
  rw [List.getElem?_map, List.getElem?_range h]
  rfl
theorem fillS_zero (ws : List Nat) : fillS ws 0 = List.replicate ws.length 0 := by
  apply List.eq_replicate_iff.2
  refine ⟨fillS_length ws 0, fun b hb => ?_⟩
  obtain ⟨i, _, rfl⟩ := List.mem_map.1 hb
  simp
theorem fillS_set (ws : List Nat) (j s : Nat) (h : (stand ws 0)[j]? = some s) : (fillS ws j).set s (lenF ws s) = fillS ws (j + 1) := by
  have hs := ((stand0 ws s).1 (List.mem_of_getElem? h)).1
  apply List.ext_getElem?
  intro i
  have htk : (stand ws 0).take (j + 1) = (stand ws 0).take j ++ [s] := by rw [List.take_add_one, h]; rfl
  by_cases hi : i < ws.length
  · rw [List.getElem?_set, fillS_get ws (j + 1) i hi, htk]
    by_cases e : s = i
    · subst e
      rw [if_pos rfl, if_pos (by rw [fillS_length]; exact hs), if_pos (by simp)]
    · rw [if_neg e, fillS_get ws j i hi]
      by_cases h2 : i ∈ (stand ws 0).take j
      · rw [if_pos h2, if_pos (List.mem_append_left _ h2)]
      · rw [if_neg h2, if_neg (by
          intro h3
          rcases List.mem_append.1 h3 with h4 | h4
          · exact h2 h4
          · exact e (List.mem_singleton.1 h4).symm)]
  · rw [List.getElem?_eq_none (by rw [List.length_set, fillS_length]; omega), List.getElem?_eq_none (by rw [fillS_length]; omega)]
theorem fillS_all (ws : List Nat) : fillS ws (cnt ws) = lens ws := by
  unfold fillS lens
  refine List.map_congr_left fun i hi => ?_
  have e : (stand ws 0).take (cnt ws) = stand ws 0 := List.take_of_length_le (Nat.le_refl _)
  rw [e]
  by_cases h : i ∈ stand ws 0
  · rw [if_pos h]
  · rw [if_neg h]
    unfold lenF
    rw [if_pos]
    refine Classical.byContradiction fun h2 => h ((stand0 ws i).2 ⟨List.mem_range.1 hi, h2⟩)

/-- Of numbers that are none below 0. -/
theorem ArgZ.nat {w : World} {a : Option Addr} {l : List Int} (h : ArgZ w a l) (he : ∀ x ∈ l, 0 ≤ x ∧ x ≤ 1099511627776) : ArgN w a (l.map Int.toNat) := by
  intro i x hx
  rw [List.getElem?_map] at hx
  cases hl : l[i]? with
  | none => rw [hl] at hx; cases hx
  | some z =>
    rw [hl] at hx
    injection hx with hx
    obtain ⟨b, off, h1, h2, h3⟩ := h i z hl
    refine ⟨b, off, h1, h2, ?_⟩
    rw [h3, ← hx]
    have := he z (mem_of_get hl)
    rw [Int.toNat_of_nonneg this.1]

/-- The weights under way: halved i times. -/
structure LenC (w W : World) (a : Option Addr) (ws : List Nat) (k i : Nat) : Prop where
  arg : ArgN w a (halfJ i ws)
  bel : Below W.heap.size W w
  not : ∀ z, z < i → ¬ shortL (halfJ z ws) k

end Go.Proofs.Ytaalbaiglkadlaa
