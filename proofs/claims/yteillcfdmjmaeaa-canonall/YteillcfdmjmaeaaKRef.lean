/- Contract of the document's 'Check' of layer 5: whether lengths make a code. -/
import Derived.Test.YteillcfdmjmaeaaIRow
import Derived.Test.YteillcfdmjmaeaaKMath
namespace Go.Proofs.Yteillcfdmjmaeaa
open Go.RowKit Go.Lib

/-- Lengths, any numbers: they make a code. -/
def goodB (l : List Int) : Bool := l.all (fun x => decide (0 ≤ x) && decide (x ≤ 15)) && (decide (krTo (l.map Int.toNat) 15 = 32768) || decide (numL (l.map Int.toNat) = 0) || (decide (numL (l.map Int.toNat) = 1) && decide (krTo (l.map Int.toNat) 15 = 16384)))
/-- The error's number. -/
def chkI (l : List Int) : Int := if goodB l = true then 0 else 4

theorem goodB_iff (l : List Int) : goodB l = true ↔ (∀ x ∈ l, 0 ≤ x ∧ x ≤ 15) ∧ MakesC (l.map Int.toNat) := by
  unfold goodB
  simp only [Bool.and_eq_true, Bool.or_eq_true, decide_eq_true_eq, List.all_eq_true]
  constructor
  · rintro ⟨h1, h2⟩
    refine ⟨h1, fun x hx => ?_, ?_⟩
    · obtain ⟨y, hy, rfl⟩ := List.mem_map.1 hx
      have := h1 y hy
      omega
    · rcases h2 with (h2 | h2) | h2
      · exact .inl h2
      · exact .inr (.inl h2)
      · exact .inr (.inr h2)
  · rintro ⟨h1, h2⟩
    refine ⟨h1, ?_⟩
    rcases h2.full with h3 | h3 | h3
    · exact .inl (.inl h3)
    · exact .inl (.inr h3)
    · exact .inr h3
theorem chkI_good {l : List Int} (h : goodB l = true) : chkI l = 0 := by unfold chkI; rw [if_pos h]
theorem chkI_bad {l : List Int} (h : ¬ goodB l = true) : chkI l = 4 := by unfold chkI; rw [if_neg h]

/-- The first j, as numbers from 0 on. -/
def preN (l : List Int) (j : Nat) : List Nat := (l.take j).map Int.toNat
theorem preN_succ (l : List Int) (j : Nat) (x : Int) (h : l[j]? = some x) : preN l (j + 1) = preN l j ++ [x.toNat] := by
  unfold preN
  rw [List.take_add_one, h, List.map_append]
  rfl
theorem preN_all (l : List Int) : preN l l.length = l.map Int.toNat := by unfold preN; rw [List.take_of_length_le (Nat.le_refl _)]
theorem kr_snoc (a : List Nat) (x : Nat) (hx : x ≤ 15) : krTo (a ++ [x]) 15 = krTo a 15 + if x = 0 then 0 else 2 ^ (15 - x) := by
  unfold krTo
  rw [List.map_append, List.sum_append]
  simp only [List.map_cons, List.map_nil, List.sum_cons, List.sum_nil, Nat.add_zero]
  rw [if_pos hx]
theorem num_snoc (a : List Nat) (x : Nat) : numL (a ++ [x]) = numL a + if x = 0 then 0 else 1 := by
  unfold numL
  rw [List.countP_append, List.countP_singleton]
  by_cases h : x = 0
  · simp [h]
  · simp [h]
theorem kr_append (a b : List Nat) : krTo (a ++ b) 15 = krTo a 15 + krTo b 15 := by
  unfold krTo
  rw [List.map_append, List.sum_append]
theorem kr_pre (l : List Int) (j : Nat) : krTo (preN l j) 15 ≤ krTo (l.map Int.toNat) 15 := by
  have e : l.map Int.toNat = preN l j ++ (l.drop j).map Int.toNat := by unfold preN; rw [← List.map_append, List.take_append_drop]
  rw [e, kr_append]
  omega
theorem num_le (a : List Nat) : numL a ≤ a.length := List.countP_le_length

theorem pow15 (y : Nat) (h : y ≤ 15) : ∃ p : Nat, (2 : Int) ^ y = (p : Int) ∧ p = 2 ^ y ∧ 1 ≤ p ∧ p ≤ 32768 := by
  refine ⟨2 ^ y, ?_, rfl, Nat.two_pow_pos _, ?_⟩
  · rw [Int.natCast_pow]; rfl
  · have : (2 : Nat) ^ y ≤ 2 ^ 15 := Nat.pow_le_pow_right (by decide) h
    omega

set_option maxRecDepth 20000 in
set_option maxHeartbeats 2000000 in
theorem qcheck_any (l : List Int) (a : Option Addr) (cap : Nat) (W : World) (harg : ArgZ W a l) (hl : l.length ≤ 1000) :
    Calls Try.prog 15 #[.slice a l.length cap] W fun e w' => e = .returned (.int .i64 (chkI l)) ∧ W = w' := by
  have HA := hide harg
  clear harg
  go_enter Try.func15, Try.ntmps15
  go_wp2
  go_loop [3, 4, 5] (fun nv lv iv => ∃ (j c k : Nat), j ≤ l.length ∧ iv = .int .i64 j ∧ nv = .int .i64 (c : Nat) ∧ lv = .int .i64 (k : Nat) ∧ Hid (∀ x ∈ l.take j, 0 ≤ x ∧ x ≤ 15) ∧ Hid (numL (preN l j) = c) ∧ Hid (krTo (preN l j) 15 + k = 32768)) (fun _ _ iv => l.length - (intOf iv).toNat)
  case atStart => exact ⟨0, 0, 32768, Nat.zero_le _, rfl, rfl, rfl, hide (fun x hx => by simp at hx), hide rfl, hide rfl⟩
  case round =>
    obtain ⟨j, c, k, hj, rfl, rfl, rfl, HE, HC, HK⟩ := hrel
    have hc2 : c ≤ 1000 := by
      have h1 := num_le (preN l j)
      have h2 := HC.out
      have h3 : (preN l j).length ≤ l.length := by unfold preN; rw [List.length_map, List.length_take]; omega
      omega
    have hk2 : k ≤ 32768 := by have := HK.out; omega
    by_cases hlt : j < l.length
    · obtain ⟨x, hx⟩ : ∃ x, l[j]? = some x := ⟨_, List.getElem?_eq_getElem hlt⟩
      obtain ⟨b, off, rfl, hb, _c⟩ := HA.out j x hx
      have zj : (j : Int) < l.length := by omega
      have HX := hide hx
      have HTK := hide (show l.take (j + 1) = l.take j ++ [x] by rw [List.take_add_one, hx]; rfl)
      have HPR := hide (preN_succ l j x hx)
      clear hx
      by_cases q1 : x < 0
      · have HB := hide (chkI_bad (l := l) fun h => by have := (((goodB_iff l).1 h).1 x (mem_of_get HX.out)).1; omega)
        go_wp2
        go_ret
        exact ⟨by rw [HB.out]; rfl, rfl⟩
      · have q1d : decide (x < 0) = false := by simp; omega
        by_cases q2 : 15 < x
        · have HB := hide (chkI_bad (l := l) fun h => by have := (((goodB_iff l).1 h).1 x (mem_of_get HX.out)).2; omega)
          go_wp2
          go_ret
          exact ⟨by rw [HB.out]; rfl, rfl⟩
        · have q2d : decide (15 < x) = false := by simp; omega
          have HE2 := hide (show ∀ z ∈ l.take (j + 1), 0 ≤ z ∧ z ≤ 15 from fun z hz => by
            rw [HTK.out] at hz
            rcases List.mem_append.1 hz with e | e
            · exact HE.out z e
            · rw [List.mem_singleton.1 e]; omega)
          obtain ⟨y, rfl⟩ := Int.eq_ofNat_of_zero_le (show 0 ≤ x by omega)
          have hy : y ≤ 15 := by omega
          have HC2 := hide (num_snoc (preN l j) y)
          have HK2 := hide (kr_snoc (preN l j) y hy)
          rw [Int.toNat_natCast] at HPR
          rw [← HPR.out] at HC2 HK2
          by_cases h0 : y = 0
          · subst h0
            have HC3 := hide (show numL (preN l (j + 1)) = c by rw [HC2.out, HC.out]; rfl)
            have HK3 := hide (show krTo (preN l (j + 1)) 15 + k = 32768 by rw [HK2.out]; exact HK.out)
            clear HC2 HK2 q1 q2
            go_wp2
            go_round
            case rel => exact ⟨j + 1, c, k, hlt, by go_num, rfl, rfl, HE2, HC3, HK3⟩
            case measure => exact meas_oneW j l.length hlt
          · have z0 : (0 : Int) < y := by omega
            obtain ⟨p, hp1, hp2, hp3, hp4⟩ := pow15 (15 - y) (by omega)
            have HC3 := hide (show numL (preN l (j + 1)) = c + 1 by rw [HC2.out, HC.out, if_neg h0])
            rw [if_neg h0, ← hp2] at HK2
            have zw : IntKind.i64.wrap (15 - (y : Int)) = ((15 - y : Nat) : Int) := by rw [IntKind.wrap_i64]; omega
            have zw2 : (15 : Int) - (y : Int) = ((15 - y : Nat) : Int) := by omega
            generalize 15 - y = t at *
            by_cases hn : k < p
            · have HB := hide (chkI_bad (l := l) fun h => by
                have h1 := ((goodB_iff l).1 h).2.le
                have h2 := kr_pre l (j + 1)
                have h3 := HK2.out
                have h4 := HK.out
                omega)
              clear HC2 HK2 q1 q2 hp2
              go_wp2
              go_ret
              exact ⟨by rw [HB.out]; rfl, rfl⟩
            · have HK3 := hide (show krTo (preN l (j + 1)) 15 + (k - p) = 32768 by have h3 := HK2.out; have h4 := HK.out; omega)
              have zk : ¬ ((k : Int) < (p : Int)) := by omega
              have zs : (k : Int) - (p : Int) = ((k - p : Nat) : Int) := by omega
              generalize k - p = k9 at *
              clear HC2 HK2 q1 q2 hp2
              go_wp2
              go_round
              case rel => exact ⟨j + 1, c + 1, k9, hlt, by go_num, by go_num, rfl, HE2, HC3, HK3⟩
              case measure => exact meas_oneW j l.length hlt
    · have hje : j = l.length := by omega
      subst hje
      have hE : ∀ x ∈ l, 0 ≤ x ∧ x ≤ 15 := by have h := HE.out; rw [List.take_of_length_le (Nat.le_refl _)] at h; exact h
      have HG := hide (goodB_iff l)
      have HE' := hide hE
      have HM := hide (show ∀ x ∈ l.map Int.toNat, x ≤ 15 from fun x hx => by
        obtain ⟨y, hy, rfl⟩ := List.mem_map.1 hx
        have := hE y hy
        omega)
      rw [preN_all] at HC HK
      clear hE HE
      by_cases h1 : k = 0
      · subst h1
        have HB := hide (chkI_good (HG.out.2 ⟨HE'.out, HM.out, .inl HK.out⟩))
        go_wp2
        go_ret
        exact ⟨by rw [HB.out]; rfl, rfl⟩
      · have b1 : ((k : Int) == 0) = false := by simp; omega
        by_cases h2 : c = 0
        · subst h2
          have HB := hide (chkI_good (HG.out.2 ⟨HE'.out, HM.out, .inr (.inl HC.out)⟩))
          go_wp2
          go_ret
          exact ⟨by rw [HB.out]; rfl, rfl⟩
        · have b2 : ((c : Int) == 0) = false := by simp; omega
          by_cases h3 : c = 1
          · subst h3
            by_cases h4 : k = 16384
            · subst h4
              have HB := hide (chkI_good (HG.out.2 ⟨HE'.out, HM.out, .inr (.inr ⟨HC.out, by have := HK.out; omega⟩)⟩))
              go_wp2
              go_ret
              exact ⟨by rw [HB.out]; rfl, rfl⟩
            · have b4 : ((k : Int) == 16384) = false := by simp; omega
              have HB := hide (chkI_bad (l := l) fun h => by
                rcases (HG.out.1 h).2.full with e | e | e
                · have := HK.out; omega
                · have := HC.out; omega
                · have := HK.out; omega)
              go_wp2
              go_ret
              exact ⟨by rw [HB.out]; rfl, rfl⟩
          · have b3 : ((c : Int) == 1) = false := by simp; omega
            have HB := hide (chkI_bad (l := l) fun h => by
              rcases (HG.out.1 h).2.full with e | e | e
              · have := HK.out; omega
              · have := HC.out; omega
              · have := HC.out; omega)
            go_wp2
            go_ret
            exact ⟨by rw [HB.out]; rfl, rfl⟩

end Go.Proofs.Yteillcfdmjmaeaa
