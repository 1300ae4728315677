/- Contract of the code of layer 8: counted. -/
import Derived.Test.YtifcpaeofmkokaaMCodeC
import Derived.Test.YtifcpaeofmkokaaMExp
namespace Go.Proofs.Ytifcpaeofmkokaa
open Go.RowKit Go.Lib

/-- How many bytes tokens come to, behind so many, or the error. -/
def cntT (limit : Int) : Nat → List (Nat × Int × Int) → Nat × Nat
  | S, [] => (S, 0)
  | S, t :: ts =>
    if t.2.1 ≤ 0 then (if limit ≤ (S : Int) then (0, 6) else cntT limit (S + 1) ts)
    else if t.2.2 < 1 ∨ (S : Int) < t.2.2 then (0, 5)
    else if limit - (S : Int) < t.2.1 then (0, 6)
    else cntT limit (S + t.2.1.toNat) ts
/-- What is counted is what they come to. -/
theorem cnt_ex (limit : Int) : ∀ (ts : List (Nat × Int × Int)) (out : List Nat), (cntT limit out.length ts).2 = (exF 5 6 limit out ts).2 ∧ ((exF 5 6 limit out ts).2 = 0 → (cntT limit out.length ts).1 = (exF 5 6 limit out ts).1.length) ∧ ((exF 5 6 limit out ts).2 ≠ 0 → (cntT limit out.length ts).1 = 0)
  | [], out => ⟨rfl, fun _ => rfl, fun h => absurd rfl h⟩
  | t :: ts, out => by
    unfold exF cntT
    by_cases c1 : t.2.1 ≤ 0
    · rw [if_pos c1, if_pos c1]
      by_cases c2 : limit ≤ (out.length : Int)
      · rw [if_pos c2, if_pos c2]
        exact ⟨rfl, fun h => (by cases h), fun _ => rfl⟩
      · rw [if_neg c2, if_neg c2]
        have h := cnt_ex limit ts (out ++ [t.1])
        rw [List.length_append] at h
        exact h
    · rw [if_neg c1, if_neg c1]
      by_cases c2 : t.2.2 < 1 ∨ (out.length : Int) < t.2.2
      · rw [if_pos c2, if_pos c2]
        exact ⟨rfl, fun h => (by cases h), fun _ => rfl⟩
      · rw [if_neg c2, if_neg c2]
        by_cases c3 : limit - (out.length : Int) < t.2.1
        · rw [if_pos c3, if_pos c3]
          exact ⟨rfl, fun h => (by cases h), fun _ => rfl⟩
        · rw [if_neg c3, if_neg c3]
          have h := cnt_ex limit ts (copyN t.2.2.toNat t.2.1.toNat out)
          rw [copyN_length] at h
          exact h

/-- A counting under way. -/
structure CntT (w W : World) (l : List (Nat × Int × Int)) (limit : Int) (i S : Nat) : Prop where
  bel : Below W.heap.size W w
  cnt : cntT limit 0 l = cntT limit S (l.drop i)
  room : S = 0 ∨ (S : Int) ≤ limit
/-- What a counting gives. -/
def CntTPost (W : World) (l : List (Nat × Int × Int)) (limit : Int) (e : Ending) (w' : World) : Prop := e = .returned (.tuple #[.int .i64 ((cntT limit 0 l).1 : Nat), .int .i64 ((cntT limit 0 l).2 : Nat)]) ∧ Below W.heap.size W w'
theorem CntT.step {w W : World} {l : List (Nat × Int × Int)} {limit : Int} {i S : Nat} (h : CntT w W l limit i S) (t : Nat × Int × Int) (ht : l[i]? = some t) :
    cntT limit 0 l = (if t.2.1 ≤ 0 then (if limit ≤ (S : Int) then (0, 6) else cntT limit (S + 1) (l.drop (i + 1)))
      else if t.2.2 < 1 ∨ (S : Int) < t.2.2 then (0, 5)
      else if limit - (S : Int) < t.2.1 then (0, 6)
      else cntT limit (S + t.2.1.toNat) (l.drop (i + 1))) := by
  obtain ⟨hi, e⟩ := List.getElem?_eq_some_iff.1 ht
  rw [h.cnt, List.drop_eq_getElem_cons hi, e]
  rfl
theorem cntT_post {W w : World} {l : List (Nat × Int × Int)} {limit : Int} {n e : Nat} (h : cntT limit 0 l = (n, e)) (b : Below W.heap.size W w) : CntTPost W l limit (.returned (.tuple #[.int .i64 (n : Nat), .int .i64 (e : Nat)])) w := by
  unfold CntTPost
  rw [h]
  exact ⟨rfl, b⟩

set_option maxRecDepth 20000 in
set_option maxHeartbeats 4000000 in
theorem counted8 (l : List (Nat × Int × Int)) (a : Option Addr) (m cap : Nat) (limit : Int) (W : World) (hm : l.length = m) (harg : ArgT W a l) (hl : m ≤ 100000) (h1 : -9223372036854775808 ≤ limit) (h2 : limit ≤ 1000000) :
    Calls Try.prog 21 #[.slice a m cap, .int .i64 limit] W fun e w' => CntTPost W l limit e w' := by
  have HA := hide harg
  have HM := hide hm
  have HWR := hide (fun L => wrap_lessM limit L h1 (by omega))
  have HLM := hide h2
  have HC0 := hide (show CntT W W l limit 0 0 from ⟨Below.refl _ _, by rw [List.drop_zero], .inl rfl⟩)
  clear harg hm h1 h2
  go_enter Try.func21, Try.ntmps21
  go_wp2
  go_loopw [6, 11] (fun sv iv wr => ∃ i S : Nat, i ≤ m ∧ iv = .int .i64 (i : Nat) ∧ sv = .int .i64 (S : Nat) ∧ Hid (CntT wr W l limit i S)) (fun _ iv _ => m - (intOf iv).toNat)
  case atStart => exact ⟨0, 0, Nat.zero_le _, rfl, rfl, HC0⟩
  case round =>
    clear HC0
    obtain ⟨i, S, hi, rfl, rfl, HC⟩ := hrel
    have hroom := HC.out.room
    have hS9 : S ≤ 1000000 := by have := HLM.out; omega
    have ew1 := (HWR.out S hroom).1
    have ew2 := (HWR.out S hroom).2
    have HRM := hide hroom
    clear hroom
    by_cases hlt : i < m
    · obtain ⟨⟨b, len, dist⟩, hr⟩ : ∃ r, l[i]? = some r := ⟨_, List.getElem?_eq_getElem (by rw [HM.out]; exact hlt)⟩
      have HSTEP := hide (HC.out.step _ hr)
      dsimp only at HSTEP
      obtain ⟨g, off, rfl, hg, hc1, hc2, hc3⟩ := HA.out i _ hr
      dsimp only at hc1 hc2 hc3
      have _c1 := (HC.out.bel.cell (p := ⟨g, off + i * 3, none⟩) hg).trans hc1
      have _c2 := (HC.out.bel.cell (p := ⟨g, off + i * 3 + 1, none⟩) hg).trans hc2
      have _c3 := (HC.out.bel.cell (p := ⟨g, off + i * 3 + 2, none⟩) hg).trans hc3
      have zi : (i : Int) < m := by omega
      have HB1 := hide (HC.out.bel.alloc HC.out.bel.size (.cells #[.int .i64 len, .int .i64 dist, .int .u8 (b : Int)] 32))
      have HZ := hide (fun w => size8 len dist b w)
      have HHB := hide (show (wr.alloc (.cells #[.int .i64 len, .int .i64 dist, .int .u8 (b : Int)] 32)).heap[wr.heap.size]? = some (.cells #[.int .i64 len, .int .i64 dist, .int .u8 (b : Int)] 32 (0, 0)) by show (wr.heap.push _)[wr.heap.size]? = _; simp)
      have HLT := hide hlt
      clear hr hc1 hc2 hc3 hi hlt
      by_cases c1 : len ≤ 0
      · rw [if_pos c1] at HSTEP
        rw [show max len 1 = 1 by omega] at HZ
        by_cases c2 : limit ≤ (S : Int)
        · rw [if_pos c2] at HSTEP
          have z2 : decide (limit - (S : Int) < 1) = true := decide_eq_true (by omega)
          go_wp2_with fail
          refine (HZ.out _).mono ?_
          rintro e w2 ⟨rfl, b2⟩
          have HG := hide (cntT_post HSTEP.out (HB1.out.trans (b2.mono HB1.out.size)))
          clear b2
          go_wp2
          go_ret2
          exact HG.out
        · rw [if_neg c2] at HSTEP
          have z2 : decide (limit - (S : Int) < 1) = false := decide_eq_false (by omega)
          have HR2 := hide (show ((S + 1 : Nat) : Int) ≤ limit by omega)
          go_wp2_with fail
          refine (HZ.out _).mono ?_
          rintro e w2 ⟨rfl, b2⟩
          have HB2 := hide (HB1.out.trans (b2.mono HB1.out.size))
          obtain ⟨_z0, _z1, _z2⟩ := three_cells (show w2.heap[wr.heap.size]? = some (.cells #[.int .i64 len, .int .i64 dist, .int .u8 (b : Int)] 32 (0, 0)) by rw [b2.block _ (Array.getElem?_eq_some_iff.1 HHB.out).1]; exact HHB.out)
          clear b2
          go_wp2_with fail
          refine (HZ.out _).mono ?_
          rintro e w3 ⟨rfl, b3⟩
          have HN3 := hide (show CntT w3 W l limit (i + 1) (S + 1) from ⟨HB2.out.trans (b3.mono HB2.out.size), HSTEP.out, .inr HR2.out⟩)
          clear b3
          go_wp2
          go_roundw
          case rel => exact ⟨i + 1, S + 1, HLT.out, by go_num, by go_num, HN3⟩
          case measure => exact meas_oneW i m HLT.out
      · rw [if_neg c1] at HSTEP
        have d1 : decide (0 < len) = true := decide_eq_true (by omega)
        by_cases c2 : dist < 1
        · rw [if_pos (.inl c2)] at HSTEP
          have HG := hide (cntT_post HSTEP.out HB1.out)
          go_wp2
          go_ret2
          exact HG.out
        · have d2 : decide (dist < 1) = false := decide_eq_false c2
          by_cases c3 : (S : Int) < dist
          · rw [if_pos (.inr c3)] at HSTEP
            have HG := hide (cntT_post HSTEP.out HB1.out)
            have d3 : decide ((S : Int) < dist) = true := decide_eq_true c3
            go_wp2
            go_ret2
            exact HG.out
          · have d3 : decide ((S : Int) < dist) = false := decide_eq_false c3
            rw [if_neg (show ¬ (dist < 1 ∨ (S : Int) < dist) by omega)] at HSTEP
            rw [show max len 1 = len by omega] at HZ
            by_cases c4 : limit - (S : Int) < len
            · rw [if_pos c4] at HSTEP
              have d4 : decide (limit - (S : Int) < len) = true := decide_eq_true c4
              go_wp2_with fail
              refine (HZ.out _).mono ?_
              rintro e w2 ⟨rfl, b2⟩
              have HG := hide (cntT_post HSTEP.out (HB1.out.trans (b2.mono HB1.out.size)))
              clear b2
              go_wp2
              go_ret2
              exact HG.out
            · rw [if_neg c4] at HSTEP
              have d4 : decide (limit - (S : Int) < len) = false := decide_eq_false c4
              obtain ⟨N, rfl⟩ := Int.eq_ofNat_of_zero_le (show 0 ≤ len by omega)
              rw [Int.toNat_natCast] at HSTEP
              have HR2 := hide (show ((S + N : Nat) : Int) ≤ limit by omega)
              have hN9 : N ≤ 2000000 := by have := HR2.out; have := HLM.out; omega
              go_wp2_with fail
              refine (HZ.out _).mono ?_
              rintro e w2 ⟨rfl, b2⟩
              have HB2 := hide (HB1.out.trans (b2.mono HB1.out.size))
              obtain ⟨_z0, _z1, _z2⟩ := three_cells (show w2.heap[wr.heap.size]? = some (.cells #[.int .i64 (N : Int), .int .i64 dist, .int .u8 (b : Int)] 32 (0, 0)) by rw [b2.block _ (Array.getElem?_eq_some_iff.1 HHB.out).1]; exact HHB.out)
              clear b2
              go_wp2_with fail
              refine (HZ.out _).mono ?_
              rintro e w3 ⟨rfl, b3⟩
              have HN3 := hide (show CntT w3 W l limit (i + 1) (S + N) from ⟨HB2.out.trans (b3.mono HB2.out.size), HSTEP.out, .inr HR2.out⟩)
              clear b3
              go_wp2
              go_roundw
              case rel => exact ⟨i + 1, S + N, HLT.out, by go_num, by go_num, HN3⟩
              case measure => exact meas_oneW i m HLT.out
    · have hie : i = m := by omega
      subst hie
      have HG := hide (cntT_post (show cntT limit 0 l = (S, 0) by
        rw [HC.out.cnt, List.drop_of_length_le (by rw [HM.out]; exact Nat.le_refl _)]
        rfl) HC.out.bel)
      go_wp2
      go_ret2
      exact HG.out

end Go.Proofs.Ytifcpaeofmkokaa
