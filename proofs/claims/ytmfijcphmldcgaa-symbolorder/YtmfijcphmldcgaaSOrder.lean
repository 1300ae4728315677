/- SymbolOrder, the walk: greater lengths and distances have no lesser symbols. -/
import Derived.Test.YtmfijcphmldcgaaSBack
namespace Go.Proofs.Ytmfijcphmldcgaa
open Go.RowKit Go.Lib

theorem lnOk_nat (n : Nat) (h : lnOk (n : Int) = true) : 3 ≤ n ∧ n ≤ 258 := by
  unfold lnOk at h
  simp at h
  omega
theorem dsOk_nat (n : Nat) (h : dsOk (n : Int) = true) : 1 ≤ n ∧ n ≤ 32768 := by
  unfold dsOk at h
  simp at h
  omega
theorem ln_order (x y : Nat) (h : x ≤ y) : lnOk (x : Int) = false ∨ (lnOk (x : Int) = true ∧ lnOk (y : Int) = false) ∨ (lnOk (x : Int) = true ∧ lnOk (y : Int) = true ∧ lnS (x : Int) ≤ lnS (y : Int) ∧ 257 ≤ lnS (x : Int) ∧ lnS (y : Int) ≤ 285) := by
  cases h1 : lnOk (x : Int) with
  | false => exact .inl rfl
  | true =>
    cases h2 : lnOk (y : Int) with
    | false => exact .inr (.inl ⟨rfl, rfl⟩)
    | true =>
      have h3 := top_mono lenBase h 28
      have h4 := top_le lenBase y 28
      refine .inr (.inr ⟨rfl, rfl, ?_⟩)
      unfold lnS
      rw [if_pos h1, if_pos h2]
      unfold lnT
      rw [Int.toNat_natCast, Int.toNat_natCast]
      omega
theorem ds_order (x y : Nat) (h : x ≤ y) : dsOk (x : Int) = false ∨ (dsOk (x : Int) = true ∧ dsOk (y : Int) = false) ∨ (dsOk (x : Int) = true ∧ dsOk (y : Int) = true ∧ dsS (x : Int) ≤ dsS (y : Int) ∧ 0 ≤ dsS (x : Int) ∧ dsS (y : Int) ≤ 29) := by
  cases h1 : dsOk (x : Int) with
  | false => exact .inl rfl
  | true =>
    cases h2 : dsOk (y : Int) with
    | false => exact .inr (.inl ⟨rfl, rfl⟩)
    | true =>
      have h3 := top_mono distBase h 29
      have h4 := top_le distBase y 29
      refine .inr (.inr ⟨rfl, rfl, ?_⟩)
      unfold dsS
      rw [if_pos h1, if_pos h2]
      unfold dsT
      rw [Int.toNat_natCast, Int.toNat_natCast]
      omega

set_option maxRecDepth 20000 in
set_option maxHeartbeats 4000000 in
theorem order_lt (w : World) (a b : Nat) (hxy : a ≤ b) (h : a < b) (ha : a < 65536) (hb : b < 65536) :
    Calls Try.prog 5 #[.int .u16 (a : Int), .int .u16 (b : Int)] w fun e w' => e = .returned (.bool true) ∧ Below w.heap.size w w' := by
  have H1 := hide (len_any (a : Int))
  have H2 := hide (len_any (b : Int))
  have H3 := hide (dist_any (a : Int))
  have H4 := hide (dist_any (b : Int))
  have HL := hide (ln_order a b hxy)
  have HD := hide (ds_order a b hxy)
  unfold lnV at H1 H2
  unfold dsV at H3 H4
  generalize lnS (a : Int) = m1 at *
  generalize lnX (a : Int) = m2 at *
  generalize lnE (a : Int) = m3 at *
  generalize lnOk (a : Int) = m4 at *
  generalize lnS (b : Int) = n1 at *
  generalize lnX (b : Int) = n2 at *
  generalize lnE (b : Int) = n3 at *
  generalize lnOk (b : Int) = n4 at *
  generalize dsS (a : Int) = p1 at *
  generalize dsX (a : Int) = p2 at *
  generalize dsE (a : Int) = p3 at *
  generalize dsOk (a : Int) = p4 at *
  generalize dsS (b : Int) = q1 at *
  generalize dsX (b : Int) = q2 at *
  generalize dsE (b : Int) = q3 at *
  generalize dsOk (b : Int) = q4 at *
  have za : (a : Int) ≤ 65535 := by omega
  have zb : (b : Int) ≤ 65535 := by omega
  have hab : (a : Int) < (b : Int) := by omega
  have B0 := hide (Below.refl w.heap.size w)
  clear hxy h ha hb
  go_enter Try.func5, Try.ntmps5
  go_wp2_with fail
  refine (H1.out _).mono ?_
  rintro e w1 ⟨rfl, b1⟩
  have B1 := hide (B0.out.trans (b1.mono B0.out.size))
  clear b1
  go_wp2_with fail
  refine (H2.out _).mono ?_
  rintro e w2 ⟨rfl, b2⟩
  have B2 := hide (B1.out.trans (b2.mono B1.out.size))
  clear b2
  go_wp2_with fail
  refine (H3.out _).mono ?_
  rintro e w3 ⟨rfl, b3⟩
  have B3 := hide (B2.out.trans (b3.mono B2.out.size))
  clear b3
  go_wp2_with fail
  refine (H4.out _).mono ?_
  rintro e w4 ⟨rfl, b4⟩
  have B4 := hide (B3.out.trans (b4.mono B3.out.size))
  clear b4
  go_wp2_with fail
  refine (sawake_any _).mono ?_
  rintro e w5 ⟨rfl, b5⟩
  have B5 := hide (B4.out.trans (b5.mono B4.out.size))
  clear b5 H1 H2 H3 H4
  rcases HL.out with rfl | ⟨rfl, rfl⟩ | ⟨rfl, rfl, l1, l2, l3⟩
  · rcases HD.out with rfl | ⟨rfl, rfl⟩ | ⟨rfl, rfl, d1, d2, d3⟩
    · go_wp2
      go_ret
      exact ⟨rfl, B5.out⟩
    · go_wp2
      go_ret
      exact ⟨rfl, B5.out⟩
    · go_wp2
      go_ret
      exact ⟨rfl, B5.out⟩
  · rcases HD.out with rfl | ⟨rfl, rfl⟩ | ⟨rfl, rfl, d1, d2, d3⟩
    · go_wp2
      go_ret
      exact ⟨rfl, B5.out⟩
    · go_wp2
      go_ret
      exact ⟨rfl, B5.out⟩
    · go_wp2
      go_ret
      exact ⟨rfl, B5.out⟩
  · rcases HD.out with rfl | ⟨rfl, rfl⟩ | ⟨rfl, rfl, d1, d2, d3⟩
    · go_wp2
      go_ret
      exact ⟨rfl, B5.out⟩
    · go_wp2
      go_ret
      exact ⟨rfl, B5.out⟩
    · go_wp2
      go_ret
      exact ⟨rfl, B5.out⟩

set_option maxRecDepth 20000 in
set_option maxHeartbeats 4000000 in
theorem order_gt (w : World) (a b : Nat) (hxy : b ≤ a) (h : b < a) (ha : a < 65536) (hb : b < 65536) :
    Calls Try.prog 5 #[.int .u16 (a : Int), .int .u16 (b : Int)] w fun e w' => e = .returned (.bool true) ∧ Below w.heap.size w w' := by
  have H1 := hide (len_any (b : Int))
  have H2 := hide (len_any (a : Int))
  have H3 := hide (dist_any (b : Int))
  have H4 := hide (dist_any (a : Int))
  have HL := hide (ln_order b a hxy)
  have HD := hide (ds_order b a hxy)
  unfold lnV at H1 H2
  unfold dsV at H3 H4
  generalize lnS (b : Int) = m1 at *
  generalize lnX (b : Int) = m2 at *
  generalize lnE (b : Int) = m3 at *
  generalize lnOk (b : Int) = m4 at *
  generalize lnS (a : Int) = n1 at *
  generalize lnX (a : Int) = n2 at *
  generalize lnE (a : Int) = n3 at *
  generalize lnOk (a : Int) = n4 at *
  generalize dsS (b : Int) = p1 at *
  generalize dsX (b : Int) = p2 at *
  generalize dsE (b : Int) = p3 at *
  generalize dsOk (b : Int) = p4 at *
  generalize dsS (a : Int) = q1 at *
  generalize dsX (a : Int) = q2 at *
  generalize dsE (a : Int) = q3 at *
  generalize dsOk (a : Int) = q4 at *
  have za : (a : Int) ≤ 65535 := by omega
  have zb : (b : Int) ≤ 65535 := by omega
  have hab : (b : Int) < (a : Int) := by omega
  have B0 := hide (Below.refl w.heap.size w)
  clear hxy h ha hb
  go_enter Try.func5, Try.ntmps5
  go_wp2_with fail
  refine (H1.out _).mono ?_
  rintro e w1 ⟨rfl, b1⟩
  have B1 := hide (B0.out.trans (b1.mono B0.out.size))
  clear b1
  go_wp2_with fail
  refine (H2.out _).mono ?_
  rintro e w2 ⟨rfl, b2⟩
  have B2 := hide (B1.out.trans (b2.mono B1.out.size))
  clear b2
  go_wp2_with fail
  refine (H3.out _).mono ?_
  rintro e w3 ⟨rfl, b3⟩
  have B3 := hide (B2.out.trans (b3.mono B2.out.size))
  clear b3
  go_wp2_with fail
  refine (H4.out _).mono ?_
  rintro e w4 ⟨rfl, b4⟩
  have B4 := hide (B3.out.trans (b4.mono B3.out.size))
  clear b4
  go_wp2_with fail
  refine (sawake_any _).mono ?_
  rintro e w5 ⟨rfl, b5⟩
  have B5 := hide (B4.out.trans (b5.mono B4.out.size))
  clear b5 H1 H2 H3 H4
  rcases HL.out with rfl | ⟨rfl, rfl⟩ | ⟨rfl, rfl, l1, l2, l3⟩
  · rcases HD.out with rfl | ⟨rfl, rfl⟩ | ⟨rfl, rfl, d1, d2, d3⟩
    · go_wp2
      go_ret
      exact ⟨rfl, B5.out⟩
    · go_wp2
      go_ret
      exact ⟨rfl, B5.out⟩
    · go_wp2
      go_ret
      exact ⟨rfl, B5.out⟩
  · rcases HD.out with rfl | ⟨rfl, rfl⟩ | ⟨rfl, rfl, d1, d2, d3⟩
    · go_wp2
      go_ret
      exact ⟨rfl, B5.out⟩
    · go_wp2
      go_ret
      exact ⟨rfl, B5.out⟩
    · go_wp2
      go_ret
      exact ⟨rfl, B5.out⟩
  · rcases HD.out with rfl | ⟨rfl, rfl⟩ | ⟨rfl, rfl, d1, d2, d3⟩
    · go_wp2
      go_ret
      exact ⟨rfl, B5.out⟩
    · go_wp2
      go_ret
      exact ⟨rfl, B5.out⟩
    · go_wp2
      go_ret
      exact ⟨rfl, B5.out⟩

set_option maxRecDepth 20000 in
set_option maxHeartbeats 4000000 in
theorem order_eq (w : World) (a : Nat) (hxy : a ≤ a) (ha : a < 65536) :
    Calls Try.prog 5 #[.int .u16 (a : Int), .int .u16 (a : Int)] w fun e w' => e = .returned (.bool true) ∧ Below w.heap.size w w' := by
  have H1 := hide (len_any (a : Int))
  have H2 := hide (len_any (a : Int))
  have H3 := hide (dist_any (a : Int))
  have H4 := hide (dist_any (a : Int))
  have HL := hide (ln_order a a hxy)
  have HD := hide (ds_order a a hxy)
  unfold lnV at H1 H2
  unfold dsV at H3 H4
  generalize lnS (a : Int) = m1 at *
  generalize lnX (a : Int) = m2 at *
  generalize lnE (a : Int) = m3 at *
  generalize lnOk (a : Int) = m4 at *
  generalize dsS (a : Int) = p1 at *
  generalize dsX (a : Int) = p2 at *
  generalize dsE (a : Int) = p3 at *
  generalize dsOk (a : Int) = p4 at *
  have za : (a : Int) ≤ 65535 := by omega
  have B0 := hide (Below.refl w.heap.size w)
  clear hxy ha
  go_enter Try.func5, Try.ntmps5
  go_wp2_with fail
  refine (H1.out _).mono ?_
  rintro e w1 ⟨rfl, b1⟩
  have B1 := hide (B0.out.trans (b1.mono B0.out.size))
  clear b1
  go_wp2_with fail
  refine (H2.out _).mono ?_
  rintro e w2 ⟨rfl, b2⟩
  have B2 := hide (B1.out.trans (b2.mono B1.out.size))
  clear b2
  go_wp2_with fail
  refine (H3.out _).mono ?_
  rintro e w3 ⟨rfl, b3⟩
  have B3 := hide (B2.out.trans (b3.mono B2.out.size))
  clear b3
  go_wp2_with fail
  refine (H4.out _).mono ?_
  rintro e w4 ⟨rfl, b4⟩
  have B4 := hide (B3.out.trans (b4.mono B3.out.size))
  clear b4
  go_wp2_with fail
  refine (sawake_any _).mono ?_
  rintro e w5 ⟨rfl, b5⟩
  have B5 := hide (B4.out.trans (b5.mono B4.out.size))
  clear b5 H1 H2 H3 H4
  rcases HL.out with rfl | ⟨rfl, e⟩ | ⟨rfl, _, l1, l2, l3⟩
  · rcases HD.out with rfl | ⟨rfl, e2⟩ | ⟨rfl, _, d1, d2, d3⟩
    · go_wp2
      go_ret
      exact ⟨rfl, B5.out⟩
    · cases e2
    · go_wp2
      go_ret
      exact ⟨rfl, B5.out⟩
  · cases e
  · rcases HD.out with rfl | ⟨rfl, e2⟩ | ⟨rfl, _, d1, d2, d3⟩
    · go_wp2
      go_ret
      exact ⟨rfl, B5.out⟩
    · cases e2
    · go_wp2
      go_ret
      exact ⟨rfl, B5.out⟩

theorem symbolOrder_walk (w : World) (a : Int) (wa : (Lit.int .u16 a).wf = true) (b : Int) (wb : (Lit.int .u16 b).wf = true) :
    Calls Try.prog 5 #[.int .u16 a, .int .u16 b] w fun e w' => e = .returned (.bool true) ∧ Below w.heap.size w w' := by
  obtain ⟨a, rfl, ha⟩ := u16_nat wa
  obtain ⟨b, rfl, hb⟩ := u16_nat wb
  by_cases h : a < b
  · exact order_lt w a b (Nat.le_of_lt h) h ha hb
  · by_cases h2 : b < a
    · exact order_gt w a b (Nat.le_of_lt h2) h2 ha hb
    · have e : b = a := by omega
      subst e
      exact order_eq w b (Nat.le_refl _) ha

end Go.Proofs.Ytmfijcphmldcgaa
