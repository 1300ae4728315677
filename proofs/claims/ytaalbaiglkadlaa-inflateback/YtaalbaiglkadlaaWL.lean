import Derived.Test.YtaalbaiglkadlaaWDep
import Derived.Test.YtaalbaiglkadlaaIRow
/- Contract of the document's 'Lengths' of layer 4: the error, or the lengths by the plain process, with the limit. -/
namespace Go.Proofs.Ytaalbaiglkadlaa
open Go.RowKit Go.Lib

/-- j times halved. -/
def halfJ : Nat → List Nat → List Nat
  | 0, ws => ws
  | j + 1, ws => halves (halfJ j ws)

def shortL (ws : List Nat) (m : Nat) : Prop := ∀ x ∈ lens ws, x ≤ m

/-- The first of the halves whose lengths are short enough. -/
def LimTo (ws : List Nat) (m : Nat) (out : List Nat) : Prop := ∃ j, out = lens (halfJ j ws) ∧ shortL (halfJ j ws) m ∧ ∀ i, i < j → ¬ shortL (halfJ i ws) m

theorem LimTo.uniq {ws : List Nat} {m : Nat} {a b : List Nat} (h : LimTo ws m a) (k : LimTo ws m b) : a = b := by
  obtain ⟨i, rfl, h2, h3⟩ := h
  obtain ⟨j, rfl, k2, k3⟩ := k
  have e : i = j := by
    refine Classical.byContradiction fun hne => ?_
    by_cases hij : i < j
    · exact k3 i hij h2
    · exact h3 j (by omega) k2
  rw [e]

theorem halfJ_cnt (j : Nat) (ws : List Nat) : cnt (halfJ j ws) = cnt ws := by
  induction j with
  | zero => rfl
  | succ j ih => show cnt (halves _) = _; rw [halves_cnt, ih]
theorem halfJ_len (j : Nat) (ws : List Nat) : (halfJ j ws).length = ws.length := by
  induction j with
  | zero => rfl
  | succ j ih => show (halves _).length = _; unfold halves; rw [List.length_map, ih]
theorem halfJ_max (j : Nat) (ws : List Nat) (M : Nat) (h : ∀ x ∈ ws, x ≤ M) : ∀ x ∈ halfJ j ws, x ≤ M := by
  induction j with
  | zero => exact h
  | succ j ih =>
    intro x hx
    obtain ⟨y, hy, rfl⟩ := List.mem_map.1 hx
    have := ih y hy
    by_cases h0 : y = 0
    · subst h0; omega
    · show (y + 1) / 2 ≤ M
      omega

theorem shortL_iff (ws : List Nat) (m : Nat) : shortL ws m ↔ short ws m := by
  unfold shortL short
  constructor
  · intro h s
    by_cases hs : s < ws.length
    · exact h _ (List.mem_map.2 ⟨s, List.mem_range.2 hs, rfl⟩)
    · have : lenF ws s = 0 := by
        unfold lenF
        rw [if_pos (by rw [List.getD_eq_getElem?_getD, List.getElem?_eq_none (by omega)]; rfl)]
      omega
  · intro h x hx
    obtain ⟨s, _, rfl⟩ := List.mem_map.1 hx
    exact h s

/-- What the document takes. -/
structure GoodW (l : List Int) (m : Int) : Prop where
  lo : 1 ≤ m
  hi : m ≤ 15
  len : l.length ≤ 512
  each : ∀ x ∈ l, 0 ≤ x ∧ x ≤ 1099511627776
  few : cntL (l.map Int.toNat) ≤ 2 ^ m.toNat

/-- The answer: an error, or lengths. -/
def LenRes (W : World) (l : List Int) (m : Int) (r : Value) (w' : World) : Prop :=
  (¬ GoodW l m ∧ r = .tuple #[.slice none 0 0, .int .i64 1]) ∨
  (GoodW l m ∧ ∃ v out, r = .tuple #[v, .int .i64 0] ∧ LimTo (l.map Int.toNat) m.toNat out ∧ w'.ownsRow W.heap.size 3 1 v l.length (natCs out))

/-- How many of the first j stand. -/
def cntZ (l : List Int) (j : Nat) : Nat := cntL ((l.take j).map Int.toNat)

theorem cnt_snoc (l : List Int) (j : Nat) (x : Int) (h : l[j]? = some x) : cntZ l (j + 1) = cntZ l j + if x.toNat = 0 then 0 else 1 := by
  unfold cntZ
  rw [List.take_add_one, h, List.map_append]
  exact cntL_snoc _ _
theorem cntZ_le (l : List Int) (j : Nat) : cntZ l j ≤ l.length := by
  have h := cntL_le ((l.take j).map Int.toNat)
  rw [List.length_map, List.length_take] at h
  unfold cntZ
  omega
theorem cntZ_all (l : List Int) : cntZ l l.length = cntL (l.map Int.toNat) := by
  unfold cntZ
  rw [List.take_of_length_le (Nat.le_refl _)]

theorem pow_wrap (k : Nat) (h : k ≤ 15) : ∃ p : Nat, wrap64 ((2 : Int) ^ k) = (p : Int) ∧ p = 2 ^ k := by
  refine ⟨2 ^ k, ?_, rfl⟩
  have h1 : (2 : Nat) ^ k ≤ 2 ^ 15 := Nat.pow_le_pow_right (by decide) h
  have e : (2 : Int) ^ k = ((2 ^ k : Nat) : Int) := by rw [Int.natCast_pow]; rfl
  rw [e]
  generalize (2 : Nat) ^ k = P at *
  unfold wrap64
  omega

theorem arg_cells {w : World} {ad : Addr} {l : List Int} (h : ArgZ w (some ad) l) (he : ∀ x ∈ l, 0 ≤ x ∧ x ≤ 1099511627776) : ∀ (j : Nat) (u : Value), (natCs (l.map Int.toNat))[j]? = some u → w.cell? (ad.add j) = some u := by
  intro j u hu
  unfold natCs at hu
  rw [List.map_map, List.getElem?_map] at hu
  cases hx : l[j]? with
  | none => rw [hx] at hu; cases hu
  | some x =>
    rw [hx] at hu
    obtain ⟨b, off, e1, _, e3⟩ := h j x hx
    injection e1 with e1
    subst e1
    have hb := he x (mem_of_get hx)
    rw [Addr.add_mid, e3, ← hu]
    show some (Value.int .i64 x) = some (Value.int .i64 ((x.toNat : Nat) : Int))
    rw [Int.toNat_of_nonneg hb.1]

/-- The greatest of the first q. -/
def topOf (l : List Nat) : Nat → Nat
  | 0 => 0
  | q + 1 => max (topOf l q) (l.getD q 0)

theorem topOf_le (l : List Nat) (m : Nat) : ∀ q, topOf l q ≤ m ↔ ∀ z, z < q → l.getD z 0 ≤ m
  | 0 => ⟨fun _ z hz => by omega, fun _ => Nat.zero_le _⟩
  | q + 1 => by
    have ih := topOf_le l m q
    show max (topOf l q) (l.getD q 0) ≤ m ↔ _
    rw [Nat.max_le, ih]
    constructor
    · rintro ⟨h1, h2⟩ z hz
      by_cases e : z = q
      · rw [e]; exact h2
      · exact h1 z (by omega)
    · intro h
      exact ⟨fun z hz => h z (by omega), h q (by omega)⟩

theorem top_short (ws : List Nat) (m : Nat) : topOf (lens ws) ws.length ≤ m ↔ shortL ws m := by
  rw [topOf_le]
  unfold shortL
  constructor
  · intro h x hx
    obtain ⟨z, hz, rfl⟩ := List.getElem_of_mem hx
    rw [lens_length] at hz
    have h2 := h z hz
    rw [List.getD_eq_getElem?_getD, List.getElem?_eq_getElem (by rw [lens_length]; exact hz)] at h2
    exact h2
  · intro h z hz
    rw [List.getD_eq_getElem?_getD, List.getElem?_eq_getElem (by rw [lens_length]; exact hz)]
    exact h _ (List.getElem_mem _)

/-- The weights, the first q halved. -/
def partH (ws : List Nat) (q : Nat) : List Nat := (List.range ws.length).map fun i => if i < q then (ws.getD i 0 + 1) / 2 else ws.getD i 0
theorem partH_length (ws : List Nat) (q : Nat) : (partH ws q).length = ws.length := by simp [partH]
theorem partH_get (ws : List Nat) (q i : Nat) (h : i < ws.length) : (partH ws q)[i]? = some (if i < q then (ws.getD i 0 + 1) / 2 else ws.getD i 0) := by
  unfold partH
  rw [List.getElem?_map, List.getElem?_range h]
  rfl
theorem partH_zero (ws : List Nat) : partH ws 0 = ws := by
  apply List.ext_getElem?
  intro i
  by_cases hi : i < ws.length
  · rw [partH_get ws 0 i hi, if_neg (by omega), getD_some ws i hi]
  · rw [List.getElem?_eq_none (by rw [partH_length]; omega), List.getElem?_eq_none (by omega)]
theorem partH_all (ws : List Nat) : partH ws ws.length = halves ws := by
  apply List.ext_getElem?
  intro i
  by_cases hi : i < ws.length
  · unfold halves
    rw [partH_get ws _ i hi, if_pos hi, List.getElem?_map, getD_some ws i hi]
    rfl
  · rw [List.getElem?_eq_none (by rw [partH_length]; omega), List.getElem?_eq_none (by unfold halves; rw [List.length_map]; omega)]
theorem partH_set (ws : List Nat) (q : Nat) (h : q < ws.length) : (partH ws q).set q ((ws.getD q 0 + 1) / 2) = partH ws (q + 1) := by
  apply List.ext_getElem?
  intro i
  by_cases hi : i < ws.length
  · rw [List.getElem?_set, partH_get ws (q + 1) i hi]
    by_cases e : q = i
    · subst e
      rw [if_pos rfl, if_pos (by rw [partH_length]; exact h), if_pos (by omega)]
    · rw [if_neg e, partH_get ws q i hi]
      by_cases h2 : i < q
      · rw [if_pos h2, if_pos (by omega)]
      · rw [if_neg h2, if_neg (by omega)]
  · rw [List.getElem?_eq_none (by rw [List.length_set, partH_length]; omega), List.getElem?_eq_none (by rw [partH_length]; omega)]

theorem half_quo (z : Nat) (h : z ≤ 1099511627776) : wrap64 (((z : Int) + 1).tdiv 2) = (((z + 1) / 2 : Nat) : Int) := by
  rw [Int.tdiv_eq_ediv_of_nonneg (by omega)]
  unfold wrap64
  omega

theorem max_if (t z : Nat) : (if t < z then (z : Int) else (t : Int)) = ((max t z : Nat) : Int) := by
  split <;> omega

/-- The weights under way: halved i times. -/
structure LenLoop (w W : World) (vw : Value) (ws : List Nat) (k i : Nat) : Prop where
  own : w.ownsRow W.heap.size 3 1 vw ws.length (natCs (halfJ i ws))
  bel : Below W.heap.size W w
  not : ∀ z, z < i → ¬ shortL (halfJ z ws) k

set_option maxRecDepth 20000 in
set_option maxHeartbeats 4000000 in
theorem qlengths_any (l : List Int) (m : Int) (a : Option Addr) (cap : Nat) (W : World) (harg : ArgZ W a l) (hnil : a = none → cap = 0) :
    Calls Try.prog 55 #[.slice a l.length cap, .int .i64 m] W fun e w' => ∃ r, e = .returned r ∧ LenRes W l m r w' ∧ Below W.heap.size W w' := by
  have HA := hide harg
  have HNIL := hide hnil
  clear harg hnil
  by_cases h1 : m < 1
  · have HB := hide (show ¬ GoodW l m from fun h => by have := h.lo; omega)
    go_enter Try.func55, Try.ntmps55
    go_wp2
    go_ret2
    exact ⟨_, rfl, .inl ⟨HB.out, rfl⟩, Below.refl _ _⟩
  · have d1 : decide (m < 1) = false := by simp; omega
    by_cases h2 : 15 < m
    · have HB := hide (show ¬ GoodW l m from fun h => by have := h.hi; omega)
      go_enter Try.func55, Try.ntmps55
      go_wp2
      go_ret2
      exact ⟨_, rfl, .inl ⟨HB.out, rfl⟩, Below.refl _ _⟩
    · have d2 : decide (15 < m) = false := by simp; omega
      by_cases h3 : 512 < l.length
      · have HB := hide (show ¬ GoodW l m from fun h => by have := h.len; omega)
        have z3 : (512 : Int) < l.length := by omega
        go_enter Try.func55, Try.ntmps55
        go_wp2
        go_ret2
        exact ⟨_, rfl, .inl ⟨HB.out, rfl⟩, Below.refl _ _⟩
      · have z3 : ¬ (512 : Int) < l.length := by omega
        have hl512 : l.length ≤ 512 := by omega
        have HL := hide hl512
        obtain ⟨k, rfl⟩ : ∃ k : Nat, m = (k : Int) := ⟨m.toNat, by omega⟩
        have hk : 1 ≤ k ∧ k ≤ 15 := by omega
        have HK := hide hk
        clear hk
        go_enter Try.func55, Try.ntmps55
        go_wp2
        go_loop [6, 7] (fun c i => ∃ j : Nat, j ≤ l.length ∧ i = .int .i64 j ∧ c = .int .i64 (cntZ l j : Nat) ∧ Hid (∀ x ∈ l.take j, 0 ≤ x ∧ x ≤ 1099511627776)) (fun _ i => l.length - (intOf i).toNat)
        case atStart => exact ⟨0, Nat.zero_le _, rfl, rfl, hide (fun x hx => by simp at hx)⟩
        case round =>
          obtain ⟨j, hj, rfl, rfl, HE⟩ := hrel
          by_cases hlt : j < l.length
          · obtain ⟨x, hx⟩ : ∃ x, l[j]? = some x := ⟨_, List.getElem?_eq_getElem hlt⟩
            obtain ⟨b, off, rfl, hb, _c⟩ := HA.out j x hx
            have zj : (j : Int) < l.length := by omega
            have HX := hide hx
            have hcl := cntZ_le l j
            have HCN := hide (cnt_snoc l j x hx)
            have HTK := hide (show l.take (j + 1) = l.take j ++ [x] by rw [List.take_add_one, hx]; rfl)
            clear hx
            by_cases q1 : x < 0
            · have HB := hide (show ¬ GoodW l (k : Int) from fun h => by have := (h.each x (mem_of_get HX.out)).1; omega)
              go_wp2
              go_ret2
              exact ⟨_, rfl, .inl ⟨HB.out, rfl⟩, Below.refl _ _⟩
            · have q1d : decide (x < 0) = false := by simp; omega
              by_cases q2 : 1099511627776 < x
              · have HB := hide (show ¬ GoodW l (k : Int) from fun h => by have := (h.each x (mem_of_get HX.out)).2; omega)
                go_wp2
                go_ret2
                exact ⟨_, rfl, .inl ⟨HB.out, rfl⟩, Below.refl _ _⟩
              · have q2d : decide (1099511627776 < x) = false := by simp; omega
                have HE2 := hide (show ∀ z ∈ l.take (j + 1), 0 ≤ z ∧ z ≤ 1099511627776 from fun z hz => by
                  rw [HTK.out] at hz
                  rcases List.mem_append.1 hz with e | e
                  · exact HE.out z e
                  · rw [List.mem_singleton.1 e]; omega)
                clear q2
                by_cases q3 : 0 < x
                · have HC2 := hide (show cntZ l (j + 1) = cntZ l j + 1 by rw [HCN.out, if_neg (by omega)])
                  go_wp2
                  go_round
                  case rel => exact ⟨j + 1, hlt, by go_num, by rw [HC2.out]; go_num, HE2⟩
                  case measure => exact meas_oneW j l.length hlt
                · have HC2 := hide (show cntZ l (j + 1) = cntZ l j by rw [HCN.out, if_pos (by omega)]; rfl)
                  have q3d : decide (0 < x) = false := by simp; omega
                  go_wp2
                  go_round
                  case rel => exact ⟨j + 1, hlt, by go_num, by rw [HC2.out], HE2⟩
                  case measure => exact meas_oneW j l.length hlt
          · have hje : j = l.length := by omega
            subst hje
            have HEA : Hid (∀ x ∈ l, 0 ≤ x ∧ x ≤ 1099511627776) := hide (by have h := HE.out; rw [List.take_of_length_le (Nat.le_refl _)] at h; exact h)
            have hcl := cntZ_le l l.length
            have HCA := hide (cntZ_all l)
            clear HE
            generalize cntZ l l.length = c at *
            obtain ⟨p, hp, hp2⟩ := pow_wrap k HK.out.2
            have HP2 := hide hp2
            clear hp2
            by_cases q4 : p < c
            · have z4 : (p : Int) < c := by omega
              have HB := hide (show ¬ GoodW l (k : Int) from fun h => by have h5 := h.few; rw [← HCA.out, Int.toNat_natCast, ← HP2.out] at h5; omega)
              go_wp2
              go_ret2
              exact ⟨_, rfl, .inl ⟨HB.out, rfl⟩, Below.refl _ _⟩
            · have z4 : ¬ (p : Int) < c := by omega
              have HG := hide (show GoodW l (k : Int) from ⟨by have := HK.out.1; omega, by have := HK.out.2; omega, HL.out, HEA.out, by rw [← HCA.out, Int.toNat_natCast, ← HP2.out]; omega⟩)
              obtain ⟨i0, hi, hz0, hz1, hz2⟩ := info_parts Try.infoInt
              cases a with
              | none =>
                have hl0 := empty_arg HA.out
                have hc0 := HNIL.out rfl
                subst hl0
                subst hc0
                have o0 : (W.alloc (.cells #[] 3)).ownsRow W.heap.size 3 1 (.slice (some ⟨W.heap.size, 0, none⟩) 0 0) 0 [] := World.ownsRow_lit W #[] 0 (Nat.le_refl _) (by decide) rfl
                have hap := run_append_owned_none (P := Try.prog) (W.alloc (.cells #[] 3)) W.heap.size 59 59 3 i0 1 Try.underlying59 hi (.slice (some ⟨W.heap.size, 0, none⟩) 0 0) 0 [] o0
                have HO1 := hide o0
                have HB1 := hide ((Below.refl _ W).alloc (Nat.le_refl _) (.cells #[] 3))
                have HCD := hide (depths_any [] (by decide) (fun x hx => by cases hx) (some ⟨W.heap.size, 0, none⟩) 0 (W.alloc (.cells #[] 3)) (fun i x hx => by simp at hx))
                have hk0 : (0 : Int) ≤ k := by omega
                clear o0
                go_wp2
                generalize hw1 : W.alloc (.cells #[] 3) = w1 at *
                have HW1 := hide hw1
                clear hw1 hap
                go_loopg [9] 0 (fun _ _ wr => wr = w1)
                case atStart => exact rfl
                case round =>
                  obtain rfl := hrel
                  go_wp2_with fail
                  refine HCD.out.mono ?_
                  rintro e w2 ⟨v2, rfl, o2, b2⟩
                  obtain ⟨a2, c2, rfl⟩ : ∃ a2 c2, v2 = .slice a2 0 c2 := by
                    rcases len_form o2 with ⟨e1, e2⟩ | ⟨g, cc, e1⟩
                    · exact ⟨none, 0, by rw [e1]⟩
                    · exact ⟨_, _, e1⟩
                  have HO2 := hide (ownsRow_base o2 HB1.out.size)
                  have HB2 := hide (HB1.out.trans (b2.mono HB1.out.size))
                  clear o2 b2
                  go_wp2
                  go_loop [10, 11] (fun dv qv => dv = .int .i64 0 ∧ qv = .int .i64 0) (fun _ _ => 0)
                  case atStart => exact ⟨rfl, rfl⟩
                  case round =>
                    obtain ⟨rfl, rfl⟩ := hrel
                    go_wp2
                    go_ret2
                    exact ⟨_, rfl, .inr ⟨HG.out, _, [], rfl, ⟨0, rfl, (fun x hx => (by cases hx)), (fun i hi => (by omega))⟩, HO2.out⟩, HB2.out⟩
              | some ad =>
                have o0 : (W.alloc (.cells #[] 3)).ownsRow W.heap.size 3 1 (.slice (some ⟨W.heap.size, 0, none⟩) 0 0) 0 [] := World.ownsRow_lit W #[] 0 (Nat.le_refl _) (by decide) rfl
                have b0 : Below W.heap.size W (W.alloc (.cells #[] 3)) := (Below.refl _ W).alloc (Nat.le_refl _) _
                have HO0 := hide o0
                have HB0 := hide b0
                have X0 := hide (arg_cells (HA.out.below b0) HEA.out)
                have X1 := hide (show (natCs (l.map Int.toNat)).length = l.length * 1 by rw [natCs_len, List.length_map, Nat.mul_one])
                have X2 := hide (show 0 + l.length ≤ maxLen by unfold maxLen; omega)
                have X3 := hide (show (0 + l.length) * 8 ≤ 140737488355328 by omega)
                clear o0 b0
                go_wp2_with (first
                  | (at_builtin; refine wpList_append_fresh _ rfl _ _ 59 rfl W.heap.size 3 i0 (.int .i64 0) 1 8 Try.underlying59 hi hz0 hz1 hz2 rfl (by decide) (.slice (some ⟨W.heap.size, 0, none⟩) 0 0) _ _ rfl HO0.out ad l.length cap (natCs (l.map Int.toNat)) rfl X1.out X0.out (natCs_one _) X2.out X3.out (size_alloc_le (Nat.le_refl _)) ?_; intro v1 w1 o1 g1 f1; have HO1 := hide o1; have HB1 := hide (Below.grownB HB0.out g1 HO0.out (size_alloc_le (Nat.le_refl _))); clear o1 g1 f1))
                have HW := hide (show LenLoop w1 W v1 (l.map Int.toNat) k 0 from ⟨by have h := HO1.out; rw [Nat.zero_add, List.nil_append] at h; rw [List.length_map]; exact h, HB1.out, fun z hz => by omega⟩)
                have hwl : (l.map Int.toNat).length = l.length := List.length_map ..
                have hwm : ∀ x ∈ l.map Int.toNat, x ≤ 1099511627776 := fun x hx => by
                  obtain ⟨y, hy, rfl⟩ := List.mem_map.1 hx
                  have := HEA.out y hy
                  omega
                have HC5 := hide (show cnt (l.map Int.toNat) ≤ 2 ^ k by have h5 := HG.out.few; rw [Int.toNat_natCast] at h5; have e : cnt (l.map Int.toNat) = cntL (l.map Int.toNat) := cntL_cnt _ 0; omega)
                obtain ⟨ws, hws⟩ : ∃ ws, l.map Int.toNat = ws := ⟨_, rfl⟩
                have HWS := hide hws
                rw [hws] at HW hwl hwm HC5
                have HWL := hide hwl
                have HWM := hide hwm
                obtain ⟨aw, cw, rfl⟩ : ∃ aw cw, v1 = .slice aw l.length cw := by
                  rcases len_form HW.out.own with ⟨e1, e2⟩ | ⟨g, cc, e1⟩
                  · exact ⟨none, 0, by rw [e1]; congr 1; omega⟩
                  · exact ⟨_, _, by rw [e1, hwl]⟩
                clear hws hwl hwm HO1 HB1
                rename World => wst
                go_loopg [9] ws.sum (fun gk _ wr => ∃ i, (halfJ i ws).sum ≤ gk ∧ Hid (LenLoop wr W (.slice aw l.length cw) ws k i))
                case atStart => exact ⟨0, Nat.le_refl _, HW⟩
                case round =>
                  obtain ⟨i, hsum, HI⟩ := hrel
                  have hli : (halfJ i ws).length = l.length := by rw [halfJ_len, HWL.out]
                  have HARG := hide (own_arg (by have h := HI.out.own; rw [HWL.out] at h; exact h) hli)
                  have HCD := hide (depths_any (halfJ i ws) (by rw [hli]; exact HL.out) (halfJ_max i ws _ HWM.out) aw cw wr HARG.out)
                  rw [hli] at HCD
                  have HLI := hide hli
                  have HSUM := hide hsum
                  clear hli hsum
                  rename World => wi
                  go_wp2_with fail
                  refine HCD.out.mono ?_
                  rintro e w2 ⟨v2, rfl, o2, b2⟩
                  have hll : (lens (halfJ i ws)).length = l.length := by rw [lens_length, HLI.out]
                  obtain ⟨a2, c2, rfl⟩ : ∃ a2 c2, v2 = .slice a2 l.length c2 := by
                    rcases len_form o2 with ⟨e1, e2⟩ | ⟨g, cc, e1⟩
                    · exact ⟨none, 0, by rw [e1, e2]⟩
                    · exact ⟨_, _, e1⟩
                  have HO2 := hide o2
                  have HB2 := hide b2
                  have HLL := hide hll
                  have HSH := hide (top_short (halfJ i ws) k)
                  rw [HLI.out] at HSH
                  clear o2 b2 hll
                  obtain ⟨ln, hln⟩ : ∃ ln, lens (halfJ i ws) = ln := ⟨_, rfl⟩
                  have HLN := hide hln
                  rw [hln] at HO2 HLL HSH
                  clear hln
                  go_wp2
                  go_loop [10, 11] (fun dv qv => ∃ q : Nat, q ≤ l.length ∧ qv = .int .i64 q ∧ dv = .int .i64 (topOf ln q : Nat)) (fun _ qv => l.length - (intOf qv).toNat)
                  case atStart => exact ⟨0, Nat.zero_le _, rfl, rfl⟩
                  case round =>
                    obtain ⟨q, hq, rfl, rfl⟩ := hrel
                    by_cases hlt : q < l.length
                    · have ho := HO2.out
                      obtain ⟨g2, cc2, e2⟩ := own_slice ho (by omega)
                      injection e2 with e3 e4 e5
                      subst e3
                      rw [← HLL.out] at ho
                      have hz := getD_some ln q (by rw [HLL.out]; exact hlt)
                      obtain ⟨_c, _⟩ := own_nat ho hz
                      have HT := hide (show topOf ln (q + 1) = max (topOf ln q) (ln.getD q 0) from rfl)
                      have zq : (q : Int) < l.length := by omega
                      generalize ln.getD q 0 = z at *
                      generalize topOf ln q = t at *
                      clear hz ho
                      go_wp2
                      go_round
                      case rel => exact ⟨q + 1, hlt, by go_num, by rw [HT.out, max_if]⟩
                      case measure => exact meas_oneW q l.length hlt
                    · have hqe : q = l.length := by omega
                      subst hqe
                      by_cases hsh : topOf ln l.length ≤ k
                      · have HS := hide (HSH.out.1 hsh)
                        have zt : ((topOf ln l.length : Nat) : Int) ≤ k := by omega
                        have HOUT := hide (ownsRow_base HO2.out HI.out.bel.size)
                        have HBEL := hide (HI.out.bel.trans (HB2.out.mono HI.out.bel.size))
                        clear hsh
                        go_wp2
                        go_ret2
                        exact ⟨_, rfl, .inr ⟨HG.out, _, ln, rfl, ⟨i, by rw [HWS.out]; exact HLN.out.symm, by rw [HWS.out, Int.toNat_natCast]; exact HS.out, by rw [HWS.out, Int.toNat_natCast]; exact HI.out.not⟩, HOUT.out⟩, HBEL.out⟩
                      · have HNS := hide (fun h => hsh (HSH.out.2 h))
                        have zt : ¬ ((topOf ln l.length : Nat) : Int) ≤ k := by omega
                        have HP0 := hide (show w2.ownsRow W.heap.size 3 1 (.slice aw l.length cw) l.length (natCs (partH (halfJ i ws) 0)) by
                          rw [partH_zero]
                          have h := own_below HI.out.own HB2.out (Nat.le_refl _)
                          rw [HWL.out] at h
                          exact h)
                        have HBEL := hide (HI.out.bel.trans (HB2.out.mono HI.out.bel.size))
                        clear hsh
                        go_wp2
                        go_loopw [12] (fun cv wr => ∃ q : Nat, q ≤ l.length ∧ cv = .int .i64 q ∧ Hid (wr.ownsRow W.heap.size 3 1 (.slice aw l.length cw) l.length (natCs (partH (halfJ i ws) q))) ∧ Hid (Below W.heap.size W wr)) (fun cv _ => l.length - (intOf cv).toNat)
                        case atStart => exact ⟨0, Nat.zero_le _, rfl, HP0, HBEL⟩
                        case round =>
                          obtain ⟨q, hq, rfl, HP, HBQ⟩ := hrel
                          by_cases hlt : q < l.length
                          · have ho := HP.out
                            obtain ⟨g3, cc3, e2⟩ := own_slice ho (by omega)
                            injection e2 with e3 e4 e5
                            subst e3
                            have hz : (partH (halfJ i ws) q)[q]? = some ((halfJ i ws).getD q 0) := by rw [partH_get _ q q (by rw [HLI.out]; exact hlt), if_neg (by omega)]
                            have hpl : (partH (halfJ i ws) q).length = l.length := by rw [partH_length, HLI.out]
                            obtain ⟨_c, _f⟩ := own_nat (by rw [hpl]; exact ho) hz
                            have hz40 : (halfJ i ws).getD q 0 ≤ 1099511627776 := halfJ_max i ws _ HWM.out _ (List.mem_of_getElem? (getD_some _ q (by rw [HLI.out]; exact hlt)))
                            have HSET := hide (own_set ho q (((halfJ i ws).getD q 0 + 1) / 2))
                            rw [partH_set _ q (by rw [HLI.out]; exact hlt)] at HSET
                            have hgW := (ho.lt g3 rfl).1
                            have zq : (q : Int) < l.length := by omega
                            obtain ⟨z, hzz⟩ : ∃ z, (halfJ i ws).getD q 0 = z := ⟨_, rfl⟩
                            rw [hzz] at _c HSET hz40
                            have zw := (wrap_one z hz40).1
                            have zw2 := (wrap_one z hz40).2
                            have HZH := hide (half_quo z hz40)
                            clear hz hpl hz40 hzz ho
                            go_wp2
                            go_roundw
                            case rel => exact ⟨q + 1, hlt, by go_num, by rw [HZH.out]; exact HSET, hide (HBQ.out.setCell (p := ⟨g3, q, none⟩) hgW _)⟩
                            case measure => exact meas_oneW q l.length hlt
                          · have hqe : q = l.length := by omega
                            subst hqe
                            have HNX := hide (show LenLoop wr W (.slice aw l.length cw) ws k (i + 1) from ⟨by
                              have h := HP.out
                              rw [← HLI.out, partH_all] at h
                              have e : ws.length = (halfJ i ws).length := (halfJ_len i ws).symm
                              rw [e]
                              rw [HLI.out] at h ⊢
                              exact h, HBQ.out, fun z hz => by
                              by_cases e : z = i
                              · rw [e]; intro h; exact HNS.out (by exact h)
                              · exact HI.out.not z (by omega)⟩)
                            have HLESS := hide (halves_less (halfJ i ws) k HK.out.1 (by rw [halfJ_cnt]; exact HC5.out) (fun h => HNS.out ((shortL_iff _ _).2 h)))
                            go_wp2
                            go_roundg ((halfJ (i + 1) ws).sum)
                            case measure => exact Nat.lt_of_lt_of_le HLESS.out HSUM.out
                            case rel => exact ⟨i + 1, Nat.le_refl _, HNX⟩
end Go.Proofs.Ytaalbaiglkadlaa

/- Contracts of layer 4's small calls: the document's Cost, and the statements' 'same'. -/
namespace Go.Proofs.Ytaalbaiglkadlaa
open Go.RowKit Go.Lib

/-- What the first j products come to, going round. -/
def costW (a b : List Int) : Nat → Int
  | 0 => 0
  | j + 1 => wrap64 (costW a b j + wrap64 (a.getD j 0 * b.getD j 0))

end Go.Proofs.Ytaalbaiglkadlaa
