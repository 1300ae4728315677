/- Contracts of layer 4's 'unlimited', 'allowed' and 'Lengths', of the landed code: the error, or the lengths by the plain process, with the limit. -/
import Derived.Test.YtihgdlnnfhpdcaaWPar
namespace Go.Proofs.Ytihgdlnnfhpdcaa
open Go.RowKit Go.Lib

/-- The lengths of the first j symbols that stand. -/
def fillS (ws : List Nat) (j : Nat) : List Nat := (List.range ws.length).map fun s => if s ∈ (stand ws 0).take j then lenF ws s else 0

theorem fillS_length (ws : List Nat) (j : Nat) : (fillS ws j).length = ws.length := by simp [fillS]
theorem fillS_get (ws : List Nat) (j i : Nat) (h : i < ws.length) : (fillS ws j)[i]? = some (if i ∈ (stand ws 0).take j then lenF ws i else 0) := by
  unfold fillS
  rw [List.getElem?_map, List.getElem?_range h]
  rfl
theorem fillS_zero (ws : List Nat) : fillS ws 0 = List.replicate ws.length 0 := by
  apply List.eq_replicate_iff.2
  refine ⟨fillS_length ws 0, fun b hb => ?_⟩
  obtain ⟨i, _, rfl⟩ := List.mem_map.1 hb
  simp
theorem fillS_set (ws : List Nat) (j s : Nat) (h : (stand ws 0)[j]? = some s) : (fillS ws j).set s (lenF ws s) = fillS ws (j + 1) := by
  have hs := ((stand0 ws s).1 (List.mem_of_getElem? h)).1
  apply List.ext_getElem?
  intro i
  have htk : (stand ws 0).take (j + 1) = (stand ws 0).take j ++ [s] := by rw [List.take_add_one, h]; rfl
  by_cases hi : i < ws.length
  · rw [List.getElem?_set, fillS_get ws (j + 1) i hi, htk]
    by_cases e : s = i
    · subst e
      rw [if_pos rfl, if_pos (by rw [fillS_length]; exact hs), if_pos (by simp)]
    · rw [if_neg e, fillS_get ws j i hi]
      by_cases h2 : i ∈ (stand ws 0).take j
      · rw [if_pos h2, if_pos (List.mem_append_left _ h2)]
      · rw [if_neg h2, if_neg (by
          intro h3
          rcases List.mem_append.1 h3 with h4 | h4
          · exact h2 h4
          · exact e (List.mem_singleton.1 h4).symm)]
  · rw [List.getElem?_eq_none (by rw [List.length_set, fillS_length]; omega), List.getElem?_eq_none (by rw [fillS_length]; omega)]
theorem fillS_all (ws : List Nat) : fillS ws (cnt ws) = lens ws := by
  unfold fillS lens
  refine List.map_congr_left fun i hi => ?_
  have e : (stand ws 0).take (cnt ws) = stand ws 0 := List.take_of_length_le (Nat.le_refl _)
  rw [e]
  by_cases h : i ∈ stand ws 0
  · rw [if_pos h]
  · rw [if_neg h]
    unfold lenF
    rw [if_pos]
    refine Classical.byContradiction fun h2 => h ((stand0 ws i).2 ⟨List.mem_range.1 hi, h2⟩)

theorem arg_form {w : World} {B n : Nat} {v : Value} {l : List Nat} (h : w.ownsRow B 3 1 v n (natCs l)) (hl : l.length = n) : ∃ a c, v = .slice a n c ∧ ArgN w a l := by
  rcases len_form h with ⟨e1, e2⟩ | ⟨g, c, e1⟩
  · subst e2
    exact ⟨none, 0, e1, own_arg (c := 0) (by rw [e1] at h; exact h) hl⟩
  · rw [e1] at h
    exact ⟨_, c, e1, own_arg h hl⟩

theorem ArgN.only {w w' : World} {a : Option Addr} {l : List Nat} {L : Nat} (h : ArgN w a l) (o : Only L w w') (hne : ∀ b off, a = some ⟨b, off, none⟩ → b ≠ L) : ArgN w' a l := by
  intro i x hx
  obtain ⟨b, off, h1, h2, h3⟩ := h i x hx
  refine ⟨b, off, h1, by rw [o.size]; exact h2, ?_⟩
  rw [World.cell?_of_block (a := ⟨b, off + i, none⟩) (o.block b (hne b off h1))]
  exact h3

set_option maxRecDepth 20000 in
set_option maxHeartbeats 2000000 in
theorem unlimited_any (ws : List Nat) (n : Nat) (a : Option Addr) (c : Nat) (W : World) (hn : ws.length = n) (harg : ArgN W a ws) (hl : n ≤ 512) (hmax : ∀ x ∈ ws, x ≤ 1099511627776) :
    Calls Try.prog 15 #[.slice a n c] W fun e w' => ∃ g, e = .returned (.slice (some ⟨g, 0, none⟩) n n) ∧ Hid (w'.ownsRow W.heap.size 3 1 (.slice (some ⟨g, 0, none⟩) n n) n (natCs (lens ws))) ∧ Hid (Below W.heap.size W w') := by
  have HA := hide harg
  have HN := hide hn
  have HX := hide hmax
  have O0 := hide (own_made0 W n (by omega))
  have B0 := hide ((Below.refl W.heap.size W).alloc (Nat.le_refl _) (.cells (madeCells #[.int .i64 0] n) 3))
  have hmk := run_make_row' (P := Try.prog) 22 3 (.int .i64 0) 8 Try.underlying22 Try.infoInt rfl .i64 .i64 n (by omega) (by omega)
  have HA1 := hide (HA.out.below B0.out (Nat.le_refl _))
  have hL : W.heap.size < (W.alloc (.cells (madeCells #[.int .i64 0] n) 3)).heap.size := by show W.heap.size < (W.heap.push _).size; simp
  have HL := hide hL
  have HC1 := hide (standing_any ws n a c _ hn HA1.out hl)
  clear harg hn hmax hL
  go_enter Try.func15, Try.ntmps15
  go_wp2_with fail
  obtain ⟨w1, hw1⟩ : ∃ w1, W.alloc (.cells (madeCells #[.int .i64 0] n) 3) = w1 := ⟨_, rfl⟩
  rw [hw1] at O0 B0 HA1 HL HC1
  simp only [hw1]
  clear hmk hw1
  refine HC1.out.mono ?_
  rintro e w2 ⟨v2, rfl, HO2, HB2⟩
  obtain ⟨m, hm⟩ : ∃ m, (stand ws 0).length = m := ⟨_, rfl⟩
  have HM := hide hm
  rw [hm] at HO2
  obtain ⟨b, cs, rfl, harg2⟩ := arg_form HO2.out hm
  have HS2 := hide harg2
  have HOL2 := hide (own_below O0.out HB2.out (Nat.le_refl _))
  have HBW2 := hide (B0.out.trans (HB2.out.mono B0.out.size))
  have HA2 := hide (HA1.out.below HB2.out (Nat.le_refl _))
  clear hm harg2
  by_cases h1 : m = 1
  · subst h1
    obtain ⟨s, hs⟩ : ∃ s, stand ws 0 = [s] := List.length_eq_one_iff.1 HM.out
    have hs0 : (stand ws 0)[0]? = some s := by rw [hs]; rfl
    have hsn := ((stand0 ws s).1 (List.mem_of_getElem? hs0)).1
    rw [HN.out] at hsn
    obtain ⟨b1, off1, rfl, hb1, hc1⟩ := HS2.out 0 s hs0
    have ho := HOL2.out
    obtain ⟨c2, f2⟩ := own_nat (l := List.replicate n 0) (j := s) (x := 0) (by rw [List.length_replicate]; exact ho) (by rw [List.getElem?_replicate, if_pos hsn])
    have HF := hide (show (List.replicate n 0).set s 1 = lens ws by
      have hl1 : lenF ws s = 1 := by unfold lenF; rw [if_neg ((stand0 ws s).1 (List.mem_of_getElem? hs0)).2, if_pos (show cnt ws = 1 from HM.out)]
      have h3 := fillS_set ws 0 s hs0
      rw [fillS_zero, hl1, HN.out] at h3
      have h4 := fillS_all ws
      rw [show cnt ws = 1 from HM.out] at h4
      rw [h3, h4])
    have HSET := hide (own_set ho s 1)
    rw [HF.out] at HSET
    have HBS := hide (fun v => HBW2.out.setCell (p := ⟨W.heap.size, s, none⟩) (Nat.le_refl _) v)
    have zs : (s : Int) < n := by omega
    rw [Nat.add_zero] at hc1
    clear ho hs hs0 hsn
    go_wp2
    go_ret
    exact ⟨_, rfl, HSET, hide (HBS.out _)⟩
  · have hne : ((m : Int) == 1) = false := by simp; omega
    have HNE := hide h1
    have hm512 : m ≤ 512 := by have h := stand_le ws; have := HM.out; have := HN.out; omega
    clear h1
    go_wp2_with fail
    refine (leaves_any ws n m a b c cs w2 HN.out HM.out HA2.out HS2.out hl).mono ?_
    rintro e w3 ⟨v3, rfl, HO3, HB3⟩
    have HC4 := hide (parents_any ws m v3 w2.heap.size w3 HM.out HO3.out HB3.out.size (by rw [HN.out]; exact hl) HX.out)
    go_wp2_with fail
    refine HC4.out.mono ?_
    rintro e w4 ⟨u4, rfl, par, HE4, HO4, HB4⟩
    obtain ⟨np, hnp⟩ : ∃ np, par.length = np := ⟨_, rfl⟩
    have HNP := hide hnp
    rw [hnp] at HO4
    obtain ⟨a4, c4, rfl, harg4⟩ := arg_form HO4.out hnp
    have hnp2 : np ≤ 1024 ∧ m ≤ np := by have h := HE4.out.len; have e : cnt ws = m := HM.out; omega
    have HC5 := hide (cdepths_any par np a4 c4 w4 hnp harg4 (by omega) HE4.out.ok)
    clear hnp harg4 HC4
    go_wp2_with fail
    refine HC5.out.mono ?_
    rintro e w5 ⟨g5, rfl, D, HD5, HO5, HB5⟩
    have HB24 := hide (HB3.out.trans HB4.out)
    have hs24 : w2.heap.size ≤ w4.heap.size := HB24.out.size
    have HB25 := hide (HB24.out.trans (HB5.out.mono hs24))
    have HS5 := hide (HS2.out.below HB25.out (Nat.le_refl _))
    have HOL5 := hide (own_below HOL2.out HB25.out (Nat.le_refl _))
    have hW2 : W.heap.size ≤ w2.heap.size := HBW2.out.size
    have HBW5 := hide (HBW2.out.trans (HB25.out.mono hW2))
    have hDl : D.length = np := by rw [HD5.out.len, HNP.out]
    have HA5 := hide (own_arg HO5.out hDl)
    have HDL := hide hDl
    have hg5 : g5 ≠ W.heap.size := by
      have h1 := (HO5.out.lt g5 rfl).1
      have h2 := HL.out
      have h3 := HB2.out.size
      omega
    have hb5 : ∀ b0 off, b = some ⟨b0, off, none⟩ → b0 ≠ W.heap.size := by
      intro b0 off e
      have hh := HO2.out
      rcases len_form hh with ⟨e1, _⟩ | ⟨g', c', e1⟩
      · injection e1 with e1; rw [e1] at e; cases e
      · injection e1 with e1
        rw [e1] at e
        injection e with e
        injection e with e
        have h1 := (hh.lt g' (by rw [e1]; rfl)).1
        have h2 := HL.out
        omega
    have HG5 := hide hg5
    have HBB5 := hide hb5
    have HLZ : Hid (w5.ownsRow W.heap.size 3 1 (.slice (some ⟨W.heap.size, 0, none⟩) n n) n (natCs (fillS ws 0))) := hide (by rw [fillS_zero, HN.out]; exact HOL5.out)
    have HOn0 := hide (Only.refl W.heap.size w5)
    clear hnp2 hs24 hW2 hDl hg5 hb5
    go_wp2
    go_loopw [29] (fun i wr => ∃ j : Nat, j ≤ m ∧ i = .int .i64 j ∧ Hid (wr.ownsRow W.heap.size 3 1 (.slice (some ⟨W.heap.size, 0, none⟩) n n) n (natCs (fillS ws j))) ∧ Hid (Only W.heap.size w5 wr)) (fun i _ => m - (intOf i).toNat)
    case atStart => exact ⟨0, Nat.zero_le _, rfl, HLZ, HOn0⟩
    case round =>
      obtain ⟨j, hj, rfl, HO, HON⟩ := hrel
      by_cases hlt : j < m
      · have hs := getD_some (stand ws 0) j (by rw [HM.out]; exact hlt)
        have hsl := ((stand0 ws _).1 (List.mem_of_getElem? hs)).1
        have hmp : j < D.length := by
          have h := HE4.out.len
          have e : cnt ws = m := HM.out
          rw [HDL.out, ← HNP.out]
          omega
        have HDD := hide (HE4.out.deep D HD5.out j _ hs)
        have HLF := hide (show lenF ws ((stand ws 0).getD j 0) = dep ws ((stand ws 0).getD j 0) by unfold lenF; rw [if_neg ((stand0 ws _).1 (List.mem_of_getElem? hs)).2, if_neg (fun e => HNE.out (by rw [← HM.out]; exact e))])
        have HFS := hide (fillS_set ws j _ hs)
        have hget := fillS_get ws j ((stand ws 0).getD j 0) hsl
        obtain ⟨b1, off1, rfl, hb1, _c1⟩ := (HS5.out.only HON.out HBB5.out) j _ hs
        obtain ⟨b2, off2, e2, hb2, _c2⟩ := (HA5.out.only HON.out (fun b0 off e => by injection e with e; injection e with e; rw [← e]; exact HG5.out)) j _ (getD_some D j hmp)
        injection e2 with e2
        injection e2 with e3 e4
        subst e3
        subst e4
        rw [HDL.out] at hmp
        rw [HN.out] at hsl
        have ho := HO.out
        obtain ⟨_c3, _f3⟩ := own_nat (by rw [fillS_length, HN.out]; exact ho) hget
        have HSET := hide (own_set ho ((stand ws 0).getD j 0) (lenF ws ((stand ws 0).getD j 0)))
        rw [HFS.out, HLF.out, ← HDD.out] at HSET
        rw [Nat.zero_add] at _c2
        generalize (stand ws 0).getD j 0 = s at *
        generalize D.getD j 0 = y at *
        have HONS := hide (fun v => HON.out.trans (Only.setCell W.heap.size s wr v))
        have zj : (j : Int) < m := by omega
        have zs : (s : Int) < n := by omega
        have zp : (j : Int) < np := by omega
        clear hs ho hget hmp hsl
        go_wp2
        go_roundw
        case rel => exact ⟨j + 1, hlt, by go_num, HSET, hide (HONS.out _)⟩
        case measure => exact meas_oneW j m hlt
      · have hje : j = m := by omega
        subst hje
        have HFA := hide (fillS_all ws)
        rw [show cnt ws = j from HM.out] at HFA
        rw [HFA.out] at HO
        have HBF := hide (show Below W.heap.size W wr from ⟨HON.out.os.trans HBW5.out.os, HON.out.tape.trans HBW5.out.tape, HON.out.output.trans HBW5.out.output, by rw [HON.out.size]; exact HBW5.out.size, fun k hk => by rw [HON.out.block k (by omega)]; exact HBW5.out.block k hk⟩)
        go_wp2
        go_ret
        exact ⟨_, rfl, HO, HBF⟩

/-- Of numbers that are none below 0. -/
theorem ArgZ.nat {w : World} {a : Option Addr} {l : List Int} (h : ArgZ w a l) (he : ∀ x ∈ l, 0 ≤ x ∧ x ≤ 1099511627776) : ArgN w a (l.map Int.toNat) := by
  intro i x hx
  rw [List.getElem?_map] at hx
  cases hl : l[i]? with
  | none => rw [hl] at hx; cases hx
  | some z =>
    rw [hl] at hx
    injection hx with hx
    obtain ⟨b, off, h1, h2, h3⟩ := h i z hl
    refine ⟨b, off, h1, h2, ?_⟩
    rw [h3, ← hx]
    have := he z (mem_of_get hl)
    rw [Int.toNat_of_nonneg this.1]

set_option maxRecDepth 20000 in
set_option maxHeartbeats 2000000 in
theorem allowed_any (l : List Int) (m : Int) (a : Option Addr) (cap : Nat) (W : World) (harg : ArgZ W a l) (r : Bool) (hr : r = true ↔ GoodW l m) :
    Calls Try.prog 14 #[.slice a l.length cap, .int .i64 m] W fun e w' => e = .returned (.bool r) ∧ Hid (Below W.heap.size W w') := by
  have HA := hide harg
  have HR := hide hr
  have B0 := hide (Below.refl W.heap.size W)
  have HNO := hide (show ¬ GoodW l m → r = false from fun h => by cases r with | false => rfl | true => exact absurd (HR.out.1 rfl) h)
  clear harg hr
  by_cases h1 : m < 1
  · have HB := hide (HNO.out fun h => by have := h.lo; omega)
    rw [HB.out]
    clear HB HNO HR
    go_enter Try.func14, Try.ntmps14
    go_wp2
    go_ret
    exact ⟨rfl, B0⟩
  · have d1 : decide (m < 1) = false := by simp; omega
    by_cases h2 : 15 < m
    · have HB := hide (HNO.out fun h => by have := h.hi; omega)
      rw [HB.out]
      clear HB HNO HR
      go_enter Try.func14, Try.ntmps14
      go_wp2
      go_ret
      exact ⟨rfl, B0⟩
    · have d2 : decide (15 < m) = false := by simp; omega
      by_cases h3 : 512 < l.length
      · have HB := hide (HNO.out fun h => by have := h.len; omega)
        have z3 : (512 : Int) < l.length := by omega
        rw [HB.out]
        clear HB HNO HR
        go_enter Try.func14, Try.ntmps14
        go_wp2
        go_ret
        exact ⟨rfl, B0⟩
      · have z3 : ¬ (512 : Int) < l.length := by omega
        have hl512 : l.length ≤ 512 := by omega
        have HL := hide hl512
        obtain ⟨k, rfl⟩ : ∃ k : Nat, m = (k : Int) := ⟨m.toNat, by omega⟩
        have hk : 1 ≤ k ∧ k ≤ 15 := by omega
        have HK := hide hk
        clear hk
        go_enter Try.func14, Try.ntmps14
        go_wp2
        go_loop [20] (fun i => ∃ j : Nat, j ≤ l.length ∧ i = .int .i64 j ∧ Hid (∀ x ∈ l.take j, 0 ≤ x ∧ x ≤ 1099511627776)) (fun i => l.length - (intOf i).toNat)
        case atStart => exact ⟨0, Nat.zero_le _, rfl, hide (fun x hx => by simp at hx)⟩
        case round =>
          obtain ⟨j, hj, rfl, HE⟩ := hrel
          by_cases hlt : j < l.length
          · obtain ⟨x, hx⟩ : ∃ x, l[j]? = some x := ⟨_, List.getElem?_eq_getElem hlt⟩
            obtain ⟨b, off, rfl, hb, _c⟩ := HA.out j x hx
            have zj : (j : Int) < l.length := by omega
            have HX := hide hx
            have HTK := hide (show l.take (j + 1) = l.take j ++ [x] by rw [List.take_add_one, hx]; rfl)
            clear hx
            by_cases q1 : x < 0
            · have HB := hide (HNO.out fun h => by have := (h.each x (mem_of_get HX.out)).1; omega)
              go_wp2
              go_ret
              exact ⟨by rw [HB.out]; rfl, B0⟩
            · have q1d : decide (x < 0) = false := by simp; omega
              by_cases q2 : 1099511627776 < x
              · have HB := hide (HNO.out fun h => by have := (h.each x (mem_of_get HX.out)).2; omega)
                go_wp2
                go_ret
                exact ⟨by rw [HB.out]; rfl, B0⟩
              · have q2d : decide (1099511627776 < x) = false := by simp; omega
                have HE2 := hide (show ∀ z ∈ l.take (j + 1), 0 ≤ z ∧ z ≤ 1099511627776 from fun z hz => by
                  rw [HTK.out] at hz
                  rcases List.mem_append.1 hz with e | e
                  · exact HE.out z e
                  · rw [List.mem_singleton.1 e]; omega)
                clear q2
                go_wp2
                go_round
                case rel => exact ⟨j + 1, hlt, by go_num, HE2⟩
                case measure => exact meas_oneW j l.length hlt
          · have hje : j = l.length := by omega
            subst hje
            have HEA : Hid (∀ x ∈ l, 0 ≤ x ∧ x ≤ 1099511627776) := hide (by have h := HE.out; rw [List.take_of_length_le (Nat.le_refl _)] at h; exact h)
            obtain ⟨p, hp, hp2⟩ := pow_wrap k HK.out.2
            have HWL := hide (show (l.map Int.toNat).length = l.length from List.length_map ..)
            have HARG := hide (HA.out.nat HEA.out)
            have HC := hide (standing_any (l.map Int.toNat) l.length a cap W.drew HWL.out HARG.out HL.out)
            obtain ⟨q, hq⟩ : ∃ q, (stand (l.map Int.toNat) 0).length = q := ⟨_, rfl⟩
            have HQ := hide (show r = decide (q ≤ p) by
              have e1 : cntL (l.map Int.toNat) = q := by rw [← hq]; exact (cntL_cnt _ 0).symm
              have e2 : GoodW l (k : Int) ↔ q ≤ p := by
                rw [hp2]
                constructor
                · intro h; have := h.few; rw [e1, Int.toNat_natCast] at this; exact this
                · intro h; exact ⟨by have := HK.out.1; omega, by have := HK.out.2; omega, HL.out, HEA.out, by rw [e1, Int.toNat_natCast]; exact h⟩
              by_cases h : q ≤ p
              · rw [HR.out.2 (e2.2 h)]; simp [h]
              · rw [HNO.out (fun h2 => h (e2.1 h2))]; simp [h])
            rw [hq] at HC
            have hk0 : (0 : Int) ≤ k := by omega
            have HQ0 := hide hq
            have HPK : Hid (IntKind.i64.wrap ((2 : Int) ^ k) = (p : Int)) := hide (by rw [IntKind.wrap_i64]; unfold wrap64 at hp; exact hp)
            have HBD := hide (Below.refl W.heap.size W).drew
            clear HE hp hp2 hlt hj hq
            go_wp2_with fail
            go_region_held3 (fun _ => True) (exact trivial) (first
              | (go_at_call 19; refine HC.out.mono ?_; rintro e w1 ⟨v1, rfl, HO1, HB1⟩; obtain ⟨b1, cs1, rfl, _⟩ := arg_form HO1.out HQ0.out; have HF := hide (HBD.out.trans HB1.out)))
            go_wp2
            go_ret
            refine ⟨?_, HF⟩
            rw [HQ.out]
            show Ending.returned (.bool (decide ((q : Int) ≤ IntKind.i64.wrap (2 ^ k)))) = _
            rw [HPK.out]
            congr 2
            exact decide_eq_decide.2 Int.ofNat_le

/-- The weights under way: halved i times. -/
structure LenC (w W : World) (a : Option Addr) (ws : List Nat) (k i : Nat) : Prop where
  arg : ArgN w a (halfJ i ws)
  bel : Below W.heap.size W w
  not : ∀ z, z < i → ¬ shortL (halfJ z ws) k

set_option maxRecDepth 20000 in
set_option maxHeartbeats 4000000 in
theorem lengths_any (l : List Int) (m : Int) (a : Option Addr) (cap : Nat) (W : World) (harg : ArgZ W a l) (_hnil : a = none → cap = 0) :
    Calls Try.prog 9 #[.slice a l.length cap, .int .i64 m] W fun e w' => ∃ r, e = .returned r ∧ LenRes W l m r w' ∧ Below W.heap.size W w' := by
  have HA := hide harg
  clear harg _hnil
  by_cases hgood : GoodW l m
  · have HG := hide hgood
    have HC := hide (allowed_any l m a cap W HA.out true ⟨fun _ => hgood, fun _ => rfl⟩)
    obtain ⟨k, rfl⟩ : ∃ k : Nat, m = (k : Int) := ⟨m.toNat, by have := hgood.lo; omega⟩
    have HK := hide (show 1 ≤ k ∧ k ≤ 15 by have := hgood.lo; have := hgood.hi; omega)
    obtain ⟨ws, hws⟩ : ∃ ws, l.map Int.toNat = ws := ⟨_, rfl⟩
    have HWS := hide hws
    have HWL := hide (show ws.length = l.length by rw [← hws]; exact List.length_map ..)
    have HWM := hide (show ∀ x ∈ ws, x ≤ 1099511627776 from fun x hx => by
      rw [← hws] at hx
      obtain ⟨y, hy, rfl⟩ := List.mem_map.1 hx
      have := hgood.each y hy
      omega)
    have HC5 := hide (show cnt ws ≤ 2 ^ k by have h5 := hgood.few; rw [Int.toNat_natCast, hws] at h5; have e : cnt ws = cntL ws := cntL_cnt _ 0; omega)
    have HARG := hide (show ArgN W a ws by rw [← hws]; exact HA.out.nat hgood.each)
    have hlen := hgood.len
    have HL := hide hlen
    clear hgood hws
    go_enter Try.func9, Try.ntmps9
    go_wp2_with fail
    refine HC.out.mono ?_
    rintro e w1 ⟨rfl, HB1⟩
    have HW := hide (show LenC w1 W a ws k 0 from ⟨HARG.out.below HB1.out (Nat.le_refl _), HB1.out, fun z hz => by omega⟩)
    clear HC
    go_wp2
    go_loopg [0] ws.sum (fun gk wv wr => ∃ aw cw i, wv = .slice aw l.length cw ∧ (halfJ i ws).sum ≤ gk ∧ Hid (LenC wr W aw ws k i))
    case atStart => exact ⟨a, cap, 0, rfl, Nat.le_refl _, HW⟩
    case round =>
      obtain ⟨aw, cw, i, rfl, hsum, HI⟩ := hrel
      have hli : (halfJ i ws).length = l.length := by rw [halfJ_len, HWL.out]
      have HCU := hide (unlimited_any (halfJ i ws) l.length aw cw wr hli HI.out.arg HL.out (halfJ_max i ws _ HWM.out))
      have HLI := hide hli
      have HSUM := hide hsum
      clear hli hsum HW
      rename World => wi
      go_wp2_with fail
      refine HCU.out.mono ?_
      rintro e w2 ⟨g2, rfl, HO2, HB2⟩
      have hll : (lens (halfJ i ws)).length = l.length := by rw [lens_length, HLI.out]
      have HSH := hide (top_short (halfJ i ws) k)
      rw [HLI.out] at HSH
      have HBEL := hide (HI.out.bel.trans (HB2.out.mono HI.out.bel.size))
      by_cases hsh : topOf (lens (halfJ i ws)) l.length ≤ k
      · have HS := hide (HSH.out.1 hsh)
        have HCA := hide (above_any (lens (halfJ i ws)) k l.length _ _ _ w2 hll HO2.out HL.out false (by simp [hsh]))
        have HOUT := hide (ownsRow_base HO2.out HI.out.bel.size)
        clear hsh hll
        go_wp2_with fail
        refine HCA.out.mono ?_
        rintro e w3 ⟨rfl, rfl⟩
        go_wp2
        go_ret2
        exact ⟨_, rfl, .inr ⟨HG.out, _, _, rfl, ⟨i, by rw [HWS.out], by rw [HWS.out, Int.toNat_natCast]; exact HS.out, by rw [HWS.out, Int.toNat_natCast]; exact HI.out.not⟩, HOUT.out⟩, HBEL.out⟩
      · have HNS := hide (fun h => hsh (HSH.out.2 h))
        have HCA := hide (above_any (lens (halfJ i ws)) k l.length _ _ _ w2 hll HO2.out HL.out true (by simp [hsh]))
        have HARG2 := hide (HI.out.arg.below HB2.out (Nat.le_refl _))
        have HCH := hide (halved_any (halfJ i ws) l.length aw cw w2 HLI.out HARG2.out HL.out (halfJ_max i ws _ HWM.out))
        clear hsh hll
        go_wp2_with fail
        refine HCA.out.mono ?_
        rintro e w3 ⟨rfl, rfl⟩
        go_wp2_with fail
        refine HCH.out.mono ?_
        rintro e w4 ⟨g4, rfl, HO4, HB4⟩
        have HNX := hide (show LenC w4 W (some ⟨g4, 0, none⟩) ws k (i + 1) from ⟨own_arg HO4.out (by show (halfJ (i + 1) ws).length = _; rw [halfJ_len, HWL.out]), HBEL.out.trans (HB4.out.mono HBEL.out.size), fun z hz => by
          by_cases e : z = i
          · rw [e]; intro h; exact HNS.out h
          · exact HI.out.not z (by omega)⟩)
        have HLESS := hide (halves_less (halfJ i ws) k HK.out.1 (by rw [halfJ_cnt]; exact HC5.out) (fun h => HNS.out ((shortL_iff _ _).2 h)))
        go_wp2
        go_roundg ((halfJ (i + 1) ws).sum)
        case measure => exact Nat.lt_of_lt_of_le HLESS.out HSUM.out
        case rel => exact ⟨_, _, i + 1, rfl, Nat.le_refl _, HNX⟩
  · have HG := hide hgood
    have HC := hide (allowed_any l m a cap W HA.out false ⟨fun h => (by cases h), fun h => absurd h hgood⟩)
    clear hgood
    go_enter Try.func9, Try.ntmps9
    go_wp2_with fail
    refine HC.out.mono ?_
    rintro e w1 ⟨rfl, HB1⟩
    go_wp2
    go_ret2
    exact ⟨_, rfl, .inl ⟨HG.out, rfl⟩, HB1.out⟩

end Go.Proofs.Ytihgdlnnfhpdcaa
