import Derived.Test.YtaalbaiglkadlaaGreatWDep
import Derived.Test.YtaalbaiglkadlaaGreatIRow
/- Contract of the document's 'Lengths' of layer 4: the error, or the lengths by the plain process, with the limit. -/
namespace Go.Proofs.YtaalbaiglkadlaaGreat
open Go.RowKit Go.Lib

/-- j times halved. -/
def halfJ : Nat → List Nat → List Nat
  | 0, ws => ws
  | j + 1, ws => halves (halfJ j ws)

def shortL (ws : List Nat) (m : Nat) : Prop := ∀ x ∈ lens ws, x ≤ m

/-- The first of the halves whose lengths are short enough. -/
def LimTo (ws : List Nat) (m : Nat) (out : List Nat) : Prop := ∃ j, out = lens (halfJ j ws) ∧ shortL (halfJ j ws) m ∧ ∀ i, i < j → ¬ shortL (halfJ i ws) m

theorem LimTo.uniq {ws : List Nat} {m : Nat} {a b : List Nat} (h : LimTo ws m a) (k : LimTo ws m b) : a = b := by
  obtain ⟨i, rfl, h2, h3⟩ := h
  obtain ⟨j, rfl, k2, k3⟩ := k
  have e : i = j := by
    refine Classical.byContradiction fun hne => ?_
    by_cases hij : i < j
    · exact k3 i hij h2
    · exact h3 j (by omega) k2
  rw [e]

theorem halfJ_cnt (j : Nat) (ws : List Nat) : cnt (halfJ j ws) = cnt ws := by
  induction j with
  | zero => rfl
  | succ j ih => show cnt (halves _) = _; rw [halves_cnt, ih]
theorem halfJ_len (j : Nat) (ws : List Nat) : (halfJ j ws).length = ws.length := by
  induction j with
  | zero => rfl
  | succ j ih => show (halves _).length = _; unfold halves; rw [List.length_map, ih]
theorem halfJ_max (j : Nat) (ws : List Nat) (M : Nat) (h : ∀ x ∈ ws, x ≤ M) : ∀ x ∈ halfJ j ws, x ≤ M := by
  induction j with
  | zero => exact h
  | succ j ih =>
    intro x hx
    obtain ⟨y, hy, rfl⟩ := List.mem_map.1 hx
    have := ih y hy
    by_cases h0 : y = 0
    · subst h0; omega
    · show (y + 1) / 2 ≤ M
      omega

theorem shortL_iff (ws : List Nat) (m : Nat) : shortL ws m ↔ short ws m := by
  unfold shortL short
  constructor
  · intro h s
    by_cases hs : s < ws.length
    · exact h _ (List.mem_map.2 ⟨s, List.mem_range.2 hs, rfl⟩)
    · have : lenF ws s = 0 := by
        unfold lenF
        rw [if_pos (by rw [List.getD_eq_getElem?_getD, List.getElem?_eq_none (by omega)]; rfl)]
      omega
  · intro h x hx
    obtain ⟨s, _, rfl⟩ := List.mem_map.1 hx
    exact h s

/-- What the document takes. -/
structure GoodW (l : List Int) (m : Int) : Prop where
  lo : 1 ≤ m
  hi : m ≤ 15
  len : l.length ≤ 512
  each : ∀ x ∈ l, 0 ≤ x ∧ x ≤ 1099511627776
  few : cntL (l.map Int.toNat) ≤ 2 ^ m.toNat

/-- The answer: an error, or lengths. -/
def LenRes (W : World) (l : List Int) (m : Int) (r : Value) (w' : World) : Prop :=
  (¬ GoodW l m ∧ r = .tuple #[.slice none 0 0, .int .i64 1]) ∨
  (GoodW l m ∧ ∃ v out, r = .tuple #[v, .int .i64 0] ∧ LimTo (l.map Int.toNat) m.toNat out ∧ w'.ownsRow W.heap.size 3 1 v l.length (natCs out))

/-- How many of the first j stand. -/
def cntZ (l : List Int) (j : Nat) : Nat := cntL ((l.take j).map Int.toNat)

theorem cnt_snoc (l : List Int) (j : Nat) (x : Int) (h : l[j]? = some x) : cntZ l (j + 1) = cntZ l j + if x.toNat = 0 then 0 else 1 := by
  unfold cntZ
  rw [List.take_add_one, h, List.map_append]
  exact cntL_snoc _ _
theorem cntZ_le (l : List Int) (j : Nat) : cntZ l j ≤ l.length := by
  have h := cntL_le ((l.take j).map Int.toNat)
  rw [List.length_map, List.length_take] at h
  unfold cntZ
  omega
theorem cntZ_all (l : List Int) : cntZ l l.length = cntL (l.map Int.toNat) := by
  unfold cntZ
  rw [List.take_of_length_le (Nat.le_refl _)]

theorem pow_wrap (k : Nat) (h : k ≤ 15) : ∃ p : Nat, wrap64 ((2 : Int) ^ k) = (p : Int) ∧ p = 2 ^ k := by
  refine ⟨2 ^ k, ?_, rfl⟩
  have h1 : (2 : Nat) ^ k ≤ 2 ^ 15 := Nat.pow_le_pow_right (by decide) h
  have e : (2 : Int) ^ k = ((2 ^ k : Nat) : Int) := by rw [Int.natCast_pow]; rfl
  rw [e]
  generalize (2 : Nat) ^ k = P at *
  unfold wrap64
  omega

theorem arg_cells {w : World} {ad : Addr} {l : List Int} (h : ArgZ w (some ad) l) (he : ∀ x ∈ l, 0 ≤ x ∧ x ≤ 1099511627776) : ∀ (j : Nat) (u : Value), (natCs (l.map Int.toNat))[j]? = some u → w.cell? (ad.add j) = some u := by
  intro j u hu
  unfold natCs at hu
  rw [List.map_map, List.getElem?_map] at hu
  cases hx : l[j]? with
  | none => rw [hx] at hu; cases hu
  | some x =>
    rw [hx] at hu
    obtain ⟨b, off, e1, _, e3⟩ := h j x hx
    injection e1 with e1
    subst e1
    have hb := he x (mem_of_get hx)
    rw [Addr.add_mid, e3, ← hu]
    show some (Value.int .i64 x) = some (Value.int .i64 ((x.toNat : Nat) : Int))
    rw [Int.toNat_of_nonneg hb.1]

/-- The greatest of the first q. -/
def topOf (l : List Nat) : Nat → Nat
  | 0 => 0
  | q + 1 => max (topOf l q) (l.getD q 0)

theorem topOf_le (l : List Nat) (m : Nat) : ∀ q, topOf l q ≤ m ↔ ∀ z, z < q → l.getD z 0 ≤ m
  | 0 => ⟨fun _ z hz => by omega, fun _ => Nat.zero_le _⟩
  | q + 1 => by
    have ih := topOf_le l m q
    show max (topOf l q) (l.getD q 0) ≤ m ↔ _
    rw [Nat.max_le, ih]
    constructor
    · rintro ⟨h1, h2⟩ z hz
      by_cases e : z = q
      · rw [e]; exact h2
      · exact h1 z (by omega)
    · intro h
      exact ⟨fun z hz => h z (by omega), h q (by omega)⟩

theorem top_short (ws : List Nat) (m : Nat) : topOf (lens ws) ws.length ≤ m ↔ shortL ws m := by
  rw [topOf_le]
  unfold shortL
  constructor
  · intro h x hx
    obtain ⟨z, hz, rfl⟩ := List.getElem_of_mem hx
    rw [lens_length] at hz
    have h2 := h z hz
    rw [List.getD_eq_getElem?_getD, List.getElem?_eq_getElem (by rw [lens_length]; exact hz)] at h2
    exact h2
  · intro h z hz
    rw [List.getD_eq_getElem?_getD, List.getElem?_eq_getElem (by rw [lens_length]; exact hz)]
    exact h _ (List.getElem_mem _)

/-- The weights, the first q halved. -/
def partH (ws : List Nat) (q : Nat) : List Nat := (List.range ws.length).map fun i => if i < q then (ws.getD i 0 + 1) / 2 else ws.getD i 0
theorem partH_length (ws : List Nat) (q : Nat) : (partH ws q).length = ws.length := by simp [partH]
theorem partH_get (ws : List Nat) (q i : Nat) (h : i < ws.length) : (partH ws q)[i]? = some (if i < q then (ws.getD i 0 + 1) / 2 else ws.getD i 0) := by
  unfold partH
  rw [List.getElem?_map, List.getElem?_range h]
  rfl
theorem partH_zero (ws : List Nat) : partH ws 0 = ws := by
  apply List.ext_getElem?
  intro i
  by_cases hi : i < ws.length
  · rw [partH_get ws 0 i hi, if_neg (by omega), getD_some ws i hi]
  · rw [List.getElem?_eq_none (by rw [partH_length]; omega), List.getElem?_eq_none (by omega)]
theorem partH_all (ws : List Nat) : partH ws ws.length = halves ws := by
  apply List.ext_getElem?
  intro i
  by_cases hi : i < ws.length
  · unfold halves
    rw [partH_get ws _ i hi, if_pos hi, List.getElem?_map, getD_some ws i hi]
    rfl
  · rw [List.getElem?_eq_none (by rw [partH_length]; omega), List.getElem?_eq_none (by unfold halves; rw [List.length_map]; omega)]
theorem partH_set (ws : List Nat) (q : Nat) (h : q < ws.length) : (partH ws q).set q ((ws.getD q 0 + 1) / 2) = partH ws (q + 1) := by
  apply List.ext_getElem?
  intro i
  by_cases hi : i < ws.length
  · rw [List.getElem?_set, partH_get ws (q + 1) i hi]
    by_cases e : q = i
    · subst e
      rw [if_pos rfl, if_pos (by rw [partH_length]; exact h), if_pos (by omega)]
    · rw [if_neg e, partH_get ws q i hi]
      by_cases h2 : i < q
      · rw [if_pos h2, if_pos (by omega)]
      · rw [if_neg h2, if_neg (by omega)]
  · rw [List.getElem?_eq_none (by rw [List.length_set, partH_length]; omega), List.getElem?_eq_none (by rw [partH_length]; omega)]

theorem half_quo (z : Nat) (h : z ≤ 1099511627776) : wrap64 (((z : Int) + 1).tdiv 2) = (((z + 1) / 2 : Nat) : Int) := by
  rw [Int.tdiv_eq_ediv_of_nonneg (by omega)]
  unfold wrap64
  omega

theorem max_if (t z : Nat) : (if t < z then (z : Int) else (t : Int)) = ((max t z : Nat) : Int) := by
  split <;> omega

/-- The weights under way: halved i times. -/
structure LenLoop (w W : World) (vw : Value) (ws : List Nat) (k i : Nat) : Prop where
  own : w.ownsRow W.heap.size 3 1 vw ws.length (natCs (halfJ i ws))
  bel : Below W.heap.size W w
  not : ∀ z, z < i → ¬ shortL (halfJ z ws) k

end Go.Proofs.YtaalbaiglkadlaaGreat

/- Contracts of layer 4's small calls: the document's Cost, and the statements' 'same'. -/
namespace Go.Proofs.YtaalbaiglkadlaaGreat
open Go.RowKit Go.Lib

/-- What the first j products come to, going round. -/
def costW (a b : List Int) : Nat → Int
  | 0 => 0
  | j + 1 => wrap64 (costW a b j + wrap64 (a.getD j 0 * b.getD j 0))

end Go.Proofs.YtaalbaiglkadlaaGreat
