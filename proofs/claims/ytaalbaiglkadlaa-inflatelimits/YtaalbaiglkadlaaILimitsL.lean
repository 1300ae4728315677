/- InflateLimits, the walk: a stream that is opened by a limit has no more bytes; by any lesser one than it has, it isn't. -/
import Derived.Test.YtaalbaiglkadlaaIEndsM
import Derived.ProofKit
import Derived.OpenShut
import Derived.Lib.MinMax
namespace Go.Proofs.Ytaalbaiglkadlaa
open Go.RowKit Go.Lib

theorem Try.u16Cells : Try.prog.cellsOf 39 = 1 := by kernel_rfl
theorem Try.twoCells16 : Try.prog.cellsOf 43 = 2 := by kernel_rfl
set_option maxRecDepth 20000 in
/-- Two numbers that came in. -/
theorem open_two16 {H : Type} {enc : TypeId × Value → H} {w : World} {r : Go.Reach} {b0 base : Nat} {sp : Nat → Bool} {held : Bool} {v : Value} {d : DataW H} {ps : List MemPlace}
    (ho : Value.okWide Try.prog w r b0 43 v) (hk : DataW.Trod enc Try.prog w base sp held 43 v d ps) :
    ∃ x y : Nat, x < 65536 ∧ y < 65536 ∧ v = .agg #[.int .u16 (x : Int), .int .u16 (y : Int)] := by
  unfold Value.okWide at ho
  rw [Try.underlying43] at ho
  obtain ⟨cs, rfl, hsz, _⟩ := ho
  rw [Try.twoCells16] at hsz
  obtain ⟨fuel, hf⟩ := hk
  obtain ⟨xs, m, rfl, hx, hl, hxl, hel⟩ := DataW.trod_array Try.underlying43 hf
  have key : ∀ i, i < 2 → ∃ z : Nat, z < 65536 ∧ cs[i]? = some (.int .u16 (z : Int)) := by
    intro i hi
    have h := hel i hi
    rw [Try.u16Cells, Nat.mul_one, List.getElem?_eq_getElem (by omega)] at h
    obtain ⟨z, hz, _, hwf⟩ := DataW.trod_int Try.underlying39 h
    have hb := bounds_u16 hwf
    refine ⟨z.toNat, by omega, ?_⟩
    have h0 : ((cs.toList.drop i).take 1)[0]? = some (.int .u16 z) := by
      have : (Value.agg cs).cells = cs := rfl
      rw [this] at hz
      rw [hz]
      rfl
    rw [List.getElem?_take, if_pos (by decide), List.getElem?_drop, Nat.add_zero, Array.getElem?_toList] at h0
    rw [h0, Int.toNat_of_nonneg hb.1]
  obtain ⟨x, hx1, hx2⟩ := key 0 (by decide)
  obtain ⟨y, hy1, hy2⟩ := key 1 (by decide)
  refine ⟨x, y, hx1, hy1, ?_⟩
  congr 1
  apply Array.ext_getElem?
  intro i
  by_cases h0 : i = 0
  · subst h0; rw [hx2]; rfl
  · by_cases h1 : i = 1
    · subst h1; rw [hy2]; rfl
    · rw [Array.getElem?_eq_none (by omega), Array.getElem?_eq_none (by show 2 ≤ i; omega)]

/-- Two limits, told. -/
theorem limits_facts (s : ByteArray) (a b : Nat) (hab : a ≤ b) :
    (openE s (a : Int) = 0 ∧ openE s (b : Int) = 0 ∧ openO s (a : Int) = openO s (b : Int) ∧ (openO s (b : Int)).length ≤ a) ∨
    (openE s (a : Int) ≠ 0 ∧ openO s (a : Int) = [] ∧ (openE s (b : Int) ≠ 0 ∨ (openE s (b : Int) = 0 ∧ a < (openO s (b : Int)).length ∧ openE s (a : Int) = 6))) ∨ (∃ e, openR s (a : Int) = .error e ∧ e = 0) ∨ (∃ e, openR s (b : Int) = .error e ∧ e = 0) := by
  rcases open_two (s := s) (a := (a : Int)) (b := (b : Int)) (by omega) (by omega) with ⟨o, j, g1, g2⟩ | ⟨e, e', g1, g2⟩
  · obtain ⟨h1, _, h3⟩ := open_ok g1
    rcases g2 with ⟨g3, g4⟩ | ⟨g3, g4⟩
    · obtain ⟨k1, _, k3⟩ := open_ok g4
      exact .inl ⟨k3, h3, k1.trans h1.symm, by rw [h1]; omega⟩
    · obtain ⟨k1, _, k3⟩ := open_err g4
      exact .inr (.inl ⟨by rw [k3]; decide, k1, .inr ⟨h3, by rw [h1]; omega, k3⟩⟩)
  · obtain ⟨h1, _, h3⟩ := open_err g1
    obtain ⟨k1, _, k3⟩ := open_err g2
    by_cases z : e' = 0
    · exact .inr (.inr (.inl ⟨e', g2, z⟩))
    · by_cases z2 : e = 0
      · exact .inr (.inr (.inr ⟨e, g1, z2⟩))
      · exact .inr (.inl ⟨by rw [k3]; exact z, k1, .inl (by rw [h3]; exact z2)⟩)

set_option maxRecDepth 20000 in
set_option maxHeartbeats 8000000 in
theorem limits_of (C : ISpec) (W : World) (s : ByteArray) (x y : Nat) (hx : x < 65536) (hy : y < 65536) :
    Calls Try.prog 7 #[.string s, .agg #[.int .u16 (x : Int), .int .u16 (y : Int)]] W fun e w' => e = .returned (.bool true) ∧ Below W.heap.size W w' := by
  have HC := hide C
  have HA := hide (awake11_any C)
  obtain ⟨n, hn⟩ : ∃ n, s.size = n := ⟨_, rfl⟩
  have HN := hide hn
  have zn : ((s.size : Nat) : Int) = (n : Int) := by omega
  have zx : (x : Int) ≤ 65535 := by omega
  have zy : (y : Int) ≤ 65535 := by omega
  obtain ⟨a, ha⟩ : ∃ a : Nat, min (x : Int) (y : Int) = (a : Int) := ⟨min x y, by omega⟩
  obtain ⟨b, hb⟩ : ∃ b : Nat, max (x : Int) (y : Int) = (b : Int) := ⟨max x y, by omega⟩
  have hab : a ≤ b := by omega
  have ha9 : a ≤ 65535 := by omega
  have hb9 : b ≤ 65535 := by omega
  have za9 : (a : Int) ≤ 65535 := by omega
  have zb9 : (b : Int) ≤ 65535 := by omega
  have HF := hide (limits_facts s a b hab)
  clear hn
  by_cases hl : 1500 < n
  · have zl : (1500 : Int) < n := by omega
    clear hab
    go_enter Try.func7, Try.ntmps7
    go_wp2_with fail
    refine (HA.out _).mono ?_
    rintro e w1 ⟨rfl, b1⟩
    have B1 := hide (((Below.refl _ W).alloc (Nat.le_refl _) (.cells #[.int .u16 (x : Int), .int .u16 (y : Int)] 43)).trans (b1.mono (by show _ ≤ (W.heap.push _).size; simp)))
    clear b1
    go_wp2
    go_ret
    exact ⟨rfl, B1.out⟩
  · have zl : ¬ (1500 : Int) < n := by omega
    have HS := hide (show s.size ≤ 100000 by rw [HN.out]; omega)
    have B0 := hide ((Below.refl _ W).alloc (Nat.le_refl _) (.cells #[.int .u16 (x : Int), .int .u16 (y : Int)] 43))
    clear hab
    have HBD := hide (fun q => below_drewN B0.out q)
    go_enter Try.func7, Try.ntmps7
    go_wp2_with fail
    go_quiet (fail)
    go_wp2_with fail
    refine (HC.out.opens s (a : Int) _ HS.out (by omega) (by omega)).mono ?_
    rintro e w1 ⟨rfl, hk1, b1⟩
    have HK1 := hide hk1
    have B1 := hide ((HBD.out _).trans (b1.mono (HBD.out _).size))
    clear b1 hk1
    go_wp2_with fail
    refine (HC.out.opens s (b : Int) _ HS.out (by omega) (by omega)).mono ?_
    rintro e w2 ⟨rfl, hk2, b2⟩
    have HK2 := hide hk2
    have B2 := hide (B1.out.trans (b2.mono B1.out.size))
    clear b2 hk2
    have HF2 := hide (show (openE s (a : Int) = 0 ∧ openE s (b : Int) = 0 ∧ openO s (a : Int) = openO s (b : Int) ∧ (openO s (b : Int)).length ≤ a) ∨
      (openE s (a : Int) ≠ 0 ∧ openO s (a : Int) = [] ∧ (openE s (b : Int) ≠ 0 ∨ (openE s (b : Int) = 0 ∧ a < (openO s (b : Int)).length ∧ openE s (a : Int) = 6))) by
      rcases HF.out with h | h | ⟨e, h1, h2⟩ | ⟨e, h1, h2⟩
      · exact .inl h
      · exact .inr h
      · obtain ⟨o, j, h3⟩ := HK1.out (by rw [(open_err h1).2.2, h2])
        rw [h1] at h3; cases h3
      · obtain ⟨o, j, h3⟩ := HK2.out (by rw [(open_err h1).2.2, h2])
        rw [h1] at h3; cases h3)
    clear HF HK1 HK2
    have HL := hide (strOf_len (openO s (b : Int)))
    obtain ⟨m, hm⟩ : ∃ m, (openO s (b : Int)).length = m := ⟨_, rfl⟩
    have HM := hide hm
    rw [hm] at HL HF2
    have zl2 : (((strOf (openO s (b : Int))).size : Nat) : Int) = (m : Int) := by have := HL.out; omega
    clear hm
    rcases HF2.out with ⟨g1, g2, g3, g4⟩ | ⟨g1, g2, g3⟩
    · rw [g1, g2, g3]
      generalize strOf (openO s (b : Int)) = y2 at *
      generalize openN s (b : Int) = n2
      generalize openN s (a : Int) = n1
      have z4 : (m : Int) ≤ (a : Int) := by omega
      clear HF2 g1 g2 g3
      go_wp2_with fail
      refine (HA.out _).mono ?_
      rintro e w3 ⟨rfl, b3⟩
      have B3 := hide (B2.out.trans (b3.mono B2.out.size))
      clear b3
      go_wp2
      go_ret
      exact ⟨rfl, B3.out⟩
    · have be : (openE s (a : Int) == 0) = false := by simp; exact g1
      rw [g2, show strOf [] = ⟨#[]⟩ from rfl]
      generalize strOf (openO s (b : Int)) = y2 at *
      generalize openN s (b : Int) = n2
      generalize openN s (a : Int) = n1
      rcases g3 with g3 | ⟨g3, g4, g5⟩
      · have bf : (openE s (b : Int) == 0) = false := by simp; exact g3
        generalize openE s (b : Int) = eb at *
        generalize openE s (a : Int) = ea at *
        have bg : (eb != 0) = true := by simp; exact g3
        clear HF2 g1 g2
        go_wp2_with fail
        refine (HA.out _).mono ?_
        rintro e w3 ⟨rfl, b3⟩
        have B3 := hide (B2.out.trans (b3.mono B2.out.size))
        clear b3
        go_wp2
        go_ret
        exact ⟨rfl, B3.out⟩
      · rw [g3, g5]
        have z4 : (a : Int) < (m : Int) := by omega
        clear HF2 g1 g2 g3 g4 be
        go_wp2_with fail
        refine (HA.out _).mono ?_
        rintro e w3 ⟨rfl, b3⟩
        have B3 := hide (B2.out.trans (b3.mono B2.out.size))
        clear b3
        go_wp2
        go_ret
        exact ⟨rfl, B3.out⟩
set_option maxRecDepth 20000 in
theorem limits_law (C : ISpec) (w : World) (s : ByteArray) (_ws : s.size ≤ maxLen) {H : Type} {enc : TypeId × Value → H} {d : DataW H} {p : List MemPlace} (v : Value) {b0 : Nat} (hv : Value.okWide Try.prog w .any b0 43 v) (hd : DataW.Trod enc Try.prog w 0 (fun _ => true) true 43 v d p) :
    Calls Try.prog 7 #[.string s, v] w fun e w' => e = .returned (.bool true) ∧ Below w.heap.size w w' := by
  obtain ⟨x, y, hx, hy, rfl⟩ := open_two16 hv hd
  exact limits_of C w s x y hx hy

end Go.Proofs.Ytaalbaiglkadlaa
