/- SymbolBack, the walk: a length and a distance are their symbols' least ones and what is extra. -/
import Derived.Test.YtmfijcphmldcgaaSAwake
import Derived.OpenShut
namespace Go.Proofs.Ytmfijcphmldcgaa
open Go.RowKit Go.Lib

theorem pow_int (y m : Nat) (h : y ≤ m) (hm : m ≤ 15) : ∃ p : Nat, (2 : Int) ^ y = (p : Int) ∧ p = 2 ^ y ∧ 1 ≤ p ∧ p ≤ 32768 := by
  refine ⟨2 ^ y, ?_, rfl, Nat.two_pow_pos _, ?_⟩
  · rw [Int.natCast_pow]; rfl
  · have : (2 : Nat) ^ y ≤ 2 ^ 15 := Nat.pow_le_pow_right (by decide) (by omega)
    omega

/-- What is known of a length that is one. -/
theorem ln_parts (n : Nat) (h1 : 3 ≤ n) (h2 : n ≤ 258) : ∃ s base bx c p : Nat, lnV (n : Int) = .tuple #[.int .i64 (257 + (s : Int)), .int .i64 (bx : Int), .int .i64 (c : Int), .bool true] ∧ lbV (257 + (s : Int)) = .tuple #[.int .i64 (base : Int), .int .i64 (bx : Int), .bool true] ∧ s ≤ 28 ∧ bx ≤ 5 ∧ base ≤ 258 ∧ base + c = n ∧ (2 : Int) ^ bx = (p : Int) ∧ c < p ∧ p ≤ 32768 := by
  have hl := top_le lenBase n 28
  obtain ⟨f1, f2⟩ := len_fits n h1 h2
  obtain ⟨e1, e2, e3, e4⟩ := ln_yes n (topS lenBase n 28) h1 h2 hl f1 (top_above lenBase n 28)
  obtain ⟨g1, g2, g3⟩ := lb_yes (topS lenBase n 28) hl
  have hsm := len_small _ hl
  obtain ⟨p, p1, p2, p3, p4⟩ := pow_int (lenBits (topS lenBase n 28)) 5 hsm.2.2 (by omega)
  refine ⟨topS lenBase n 28, lenBase (topS lenBase n 28), lenBits (topS lenBase n 28), n - lenBase (topS lenBase n 28), p, ?_, ?_, hl, hsm.2.2, hsm.2.1, by omega, p1, by omega, p4⟩
  · unfold lnV
    rw [e1, e2, e3, e4]
    have : (n : Int) - (lenBase (topS lenBase n 28) : Int) = ((n - lenBase (topS lenBase n 28) : Nat) : Int) := by omega
    rw [this]
  · unfold lbV
    rw [g1, g2, g3]
theorem ds_parts (n : Nat) (h1 : 1 ≤ n) (h2 : n ≤ 32768) : ∃ s base bx c p : Nat, dsV (n : Int) = .tuple #[.int .i64 (s : Int), .int .i64 (bx : Int), .int .i64 (c : Int), .bool true] ∧ dbV (s : Int) = .tuple #[.int .i64 (base : Int), .int .i64 (bx : Int), .bool true] ∧ s ≤ 29 ∧ bx ≤ 13 ∧ base ≤ 24577 ∧ base + c = n ∧ (2 : Int) ^ bx = (p : Int) ∧ c < p ∧ p ≤ 32768 := by
  have hl := top_le distBase n 29
  obtain ⟨f1, f2⟩ := dist_fits n h1 h2
  obtain ⟨e1, e2, e3, e4⟩ := ds_yes n (topS distBase n 29) h1 h2 hl f1 (top_above distBase n 29)
  obtain ⟨g1, g2, g3⟩ := db_yes (topS distBase n 29) hl
  have hsm := dist_small _ hl
  obtain ⟨p, p1, p2, p3, p4⟩ := pow_int (distBits (topS distBase n 29)) 13 hsm.2.2 (by omega)
  refine ⟨topS distBase n 29, distBase (topS distBase n 29), distBits (topS distBase n 29), n - distBase (topS distBase n 29), p, ?_, ?_, hl, hsm.2.2, hsm.2.1, by omega, p1, by omega, p4⟩
  · unfold dsV
    rw [e1, e2, e3, e4]
    have : (n : Int) - (distBase (topS distBase n 29) : Int) = ((n - distBase (topS distBase n 29) : Nat) : Int) := by omega
    rw [this]
  · unfold dbV
    rw [g1, g2, g3]
theorem ln_none (n : Int) (h : n < 3 ∨ 258 < n) : lnV n = .tuple #[.int .i64 0, .int .i64 0, .int .i64 0, .bool false] := by
  obtain ⟨e1, e2, e3, e4⟩ := ln_no h
  unfold lnV
  rw [e1, e2, e3, e4]
theorem ds_none (n : Int) (h : n < 1 ∨ 32768 < n) : dsV n = .tuple #[.int .i64 0, .int .i64 0, .int .i64 0, .bool false] := by
  obtain ⟨e1, e2, e3, e4⟩ := ds_no h
  unfold dsV
  rw [e1, e2, e3, e4]

theorem u16_nat {n : Int} (h : (Lit.int .u16 n).wf = true) : ∃ m : Nat, n = (m : Int) ∧ m < 65536 := by
  have hb := bounds_u16 h
  exact ⟨n.toNat, by omega, by omega⟩

set_option maxRecDepth 20000 in
set_option maxHeartbeats 4000000 in
theorem back_yy (w : World) (n d : Nat) (hn : 3 ≤ n ∧ n ≤ 258) (hd : 1 ≤ d ∧ d ≤ 32768) :
    Calls Try.prog 4 #[.int .u16 (n : Int), .int .u16 (d : Int)] w fun e w' => e = .returned (.bool true) ∧ Below w.heap.size w w' := by
  obtain ⟨s, base, bx, c, p, e1, e2, hs, hbx, hba, hsum, hp1, hcp, hp2⟩ := ln_parts n hn.1 hn.2
  have H1 := hide (len_any (n : Int))
  rw [e1] at H1
  have H2 := hide (lenbase_any (257 + (s : Int)))
  rw [e2] at H2
  have y1 : (3 : Int) ≤ (n : Int) := by omega
  have y2 : (n : Int) ≤ 258 := by omega
  have y3 : ¬ (p : Int) ≤ (c : Int) := by omega
  have y4 : (base : Int) + (c : Int) = (n : Int) := by omega
  have y7 : decide ((c : Int) < 0) = false := decide_eq_false (by omega)
  clear e1 e2 hn hs hsum
  obtain ⟨s', base', bx', c', p', e1', e2', hs', hbx', hba', hsum', hp1', hcp', hp2'⟩ := ds_parts d hd.1 hd.2
  have H3 := hide (dist_any (d : Int))
  rw [e1'] at H3
  have H4 := hide (distbase_any (s' : Int))
  rw [e2'] at H4
  have y1' : (1 : Int) ≤ (d : Int) := by omega
  have y2' : (d : Int) ≤ 32768 := by omega
  have y3' : ¬ (p' : Int) ≤ (c' : Int) := by omega
  have y4' : (base' : Int) + (c' : Int) = (d : Int) := by omega
  have y7' : decide ((c' : Int) < 0) = false := decide_eq_false (by omega)
  clear e1' e2' hd hs' hsum'
  have B0 := hide (Below.refl w.heap.size w)
  go_enter Try.func4, Try.ntmps4
  go_wp2_with fail
  refine (H1.out _).mono ?_
  rintro e w1 ⟨rfl, b1⟩
  have B1 := hide (B0.out.trans (b1.mono B0.out.size))
  clear b1
  go_wp2_with fail
  refine (H2.out _).mono ?_
  rintro e w2 ⟨rfl, b2⟩
  have B2 := hide (B1.out.trans (b2.mono B1.out.size))
  clear b2
  go_wp2_with fail
  refine (H3.out _).mono ?_
  rintro e w3 ⟨rfl, b3⟩
  have B3 := hide (B2.out.trans (b3.mono B2.out.size))
  clear b3
  go_wp2_with fail
  refine (H4.out _).mono ?_
  rintro e w4 ⟨rfl, b4⟩
  have B4 := hide (B3.out.trans (b4.mono B3.out.size))
  clear b4
  go_wp2_with fail
  refine (sawake_any _).mono ?_
  rintro e w5 ⟨rfl, b5⟩
  have B5 := hide (B4.out.trans (b5.mono B4.out.size))
  clear b5
  go_wp2
  go_ret
  exact ⟨rfl, B5.out⟩

set_option maxRecDepth 20000 in
set_option maxHeartbeats 4000000 in
theorem back_yl (w : World) (n d : Nat) (hn : 3 ≤ n ∧ n ≤ 258) (hd : d < 1) :
    Calls Try.prog 4 #[.int .u16 (n : Int), .int .u16 (d : Int)] w fun e w' => e = .returned (.bool true) ∧ Below w.heap.size w w' := by
  obtain ⟨s, base, bx, c, p, e1, e2, hs, hbx, hba, hsum, hp1, hcp, hp2⟩ := ln_parts n hn.1 hn.2
  have H1 := hide (len_any (n : Int))
  rw [e1] at H1
  have H2 := hide (lenbase_any (257 + (s : Int)))
  rw [e2] at H2
  have y1 : (3 : Int) ≤ (n : Int) := by omega
  have y2 : (n : Int) ≤ 258 := by omega
  have y3 : ¬ (p : Int) ≤ (c : Int) := by omega
  have y4 : (base : Int) + (c : Int) = (n : Int) := by omega
  have y7 : decide ((c : Int) < 0) = false := decide_eq_false (by omega)
  clear e1 e2 hn hs hsum
  have H3 := hide (dist_any (d : Int))
  rw [ds_none (d : Int) (by omega)] at H3
  have y1' : ¬ (1 : Int) ≤ (d : Int) := by omega
  clear hd
  have B0 := hide (Below.refl w.heap.size w)
  go_enter Try.func4, Try.ntmps4
  go_wp2_with fail
  refine (H1.out _).mono ?_
  rintro e w1 ⟨rfl, b1⟩
  have B1 := hide (B0.out.trans (b1.mono B0.out.size))
  clear b1
  go_wp2_with fail
  refine (H2.out _).mono ?_
  rintro e w2 ⟨rfl, b2⟩
  have B2 := hide (B1.out.trans (b2.mono B1.out.size))
  clear b2
  go_wp2_with fail
  refine (H3.out _).mono ?_
  rintro e w3 ⟨rfl, b3⟩
  have B3 := hide (B2.out.trans (b3.mono B2.out.size))
  clear b3
  go_wp2_with fail
  refine (sawake_any _).mono ?_
  rintro e w4 ⟨rfl, b4⟩
  have B4 := hide (B3.out.trans (b4.mono B3.out.size))
  clear b4
  go_wp2
  go_ret
  exact ⟨rfl, B4.out⟩

set_option maxRecDepth 20000 in
set_option maxHeartbeats 4000000 in
theorem back_yh (w : World) (n d : Nat) (hn : 3 ≤ n ∧ n ≤ 258) (hd : (32768 < d ∧ d < 65536)) :
    Calls Try.prog 4 #[.int .u16 (n : Int), .int .u16 (d : Int)] w fun e w' => e = .returned (.bool true) ∧ Below w.heap.size w w' := by
  obtain ⟨s, base, bx, c, p, e1, e2, hs, hbx, hba, hsum, hp1, hcp, hp2⟩ := ln_parts n hn.1 hn.2
  have H1 := hide (len_any (n : Int))
  rw [e1] at H1
  have H2 := hide (lenbase_any (257 + (s : Int)))
  rw [e2] at H2
  have y1 : (3 : Int) ≤ (n : Int) := by omega
  have y2 : (n : Int) ≤ 258 := by omega
  have y3 : ¬ (p : Int) ≤ (c : Int) := by omega
  have y4 : (base : Int) + (c : Int) = (n : Int) := by omega
  have y7 : decide ((c : Int) < 0) = false := decide_eq_false (by omega)
  clear e1 e2 hn hs hsum
  have H3 := hide (dist_any (d : Int))
  rw [ds_none (d : Int) (by omega)] at H3
  have y1' : (1 : Int) ≤ (d : Int) := by omega
  have y2' : ¬ (d : Int) ≤ 32768 := by omega
  have y5' : (d : Int) ≤ 65535 := by omega
  clear hd
  have B0 := hide (Below.refl w.heap.size w)
  go_enter Try.func4, Try.ntmps4
  go_wp2_with fail
  refine (H1.out _).mono ?_
  rintro e w1 ⟨rfl, b1⟩
  have B1 := hide (B0.out.trans (b1.mono B0.out.size))
  clear b1
  go_wp2_with fail
  refine (H2.out _).mono ?_
  rintro e w2 ⟨rfl, b2⟩
  have B2 := hide (B1.out.trans (b2.mono B1.out.size))
  clear b2
  go_wp2_with fail
  refine (H3.out _).mono ?_
  rintro e w3 ⟨rfl, b3⟩
  have B3 := hide (B2.out.trans (b3.mono B2.out.size))
  clear b3
  go_wp2_with fail
  refine (sawake_any _).mono ?_
  rintro e w4 ⟨rfl, b4⟩
  have B4 := hide (B3.out.trans (b4.mono B3.out.size))
  clear b4
  go_wp2
  go_ret
  exact ⟨rfl, B4.out⟩

set_option maxRecDepth 20000 in
set_option maxHeartbeats 4000000 in
theorem back_ly (w : World) (n d : Nat) (hn : n < 3) (hd : 1 ≤ d ∧ d ≤ 32768) :
    Calls Try.prog 4 #[.int .u16 (n : Int), .int .u16 (d : Int)] w fun e w' => e = .returned (.bool true) ∧ Below w.heap.size w w' := by
  have H1 := hide (len_any (n : Int))
  rw [ln_none (n : Int) (by omega)] at H1
  obtain ⟨s', base', bx', c', p', e1', e2', hs', hbx', hba', hsum', hp1', hcp', hp2'⟩ := ds_parts d hd.1 hd.2
  have H3 := hide (dist_any (d : Int))
  rw [e1'] at H3
  have H4 := hide (distbase_any (s' : Int))
  rw [e2'] at H4
  have y1' : (1 : Int) ≤ (d : Int) := by omega
  have y2' : (d : Int) ≤ 32768 := by omega
  have y3' : ¬ (p' : Int) ≤ (c' : Int) := by omega
  have y4' : (base' : Int) + (c' : Int) = (d : Int) := by omega
  have y7' : decide ((c' : Int) < 0) = false := decide_eq_false (by omega)
  clear e1' e2' hd hs' hsum'
  have y1 : ¬ (3 : Int) ≤ (n : Int) := by omega
  clear hn
  have B0 := hide (Below.refl w.heap.size w)
  go_enter Try.func4, Try.ntmps4
  go_wp2_with fail
  refine (H1.out _).mono ?_
  rintro e w1 ⟨rfl, b1⟩
  have B1 := hide (B0.out.trans (b1.mono B0.out.size))
  clear b1
  go_wp2_with fail
  refine (H3.out _).mono ?_
  rintro e w2 ⟨rfl, b2⟩
  have B2 := hide (B1.out.trans (b2.mono B1.out.size))
  clear b2
  go_wp2_with fail
  refine (H4.out _).mono ?_
  rintro e w3 ⟨rfl, b3⟩
  have B3 := hide (B2.out.trans (b3.mono B2.out.size))
  clear b3
  go_wp2_with fail
  refine (sawake_any _).mono ?_
  rintro e w4 ⟨rfl, b4⟩
  have B4 := hide (B3.out.trans (b4.mono B3.out.size))
  clear b4
  go_wp2
  go_ret
  exact ⟨rfl, B4.out⟩

set_option maxRecDepth 20000 in
set_option maxHeartbeats 4000000 in
theorem back_ll (w : World) (n d : Nat) (hn : n < 3) (hd : d < 1) :
    Calls Try.prog 4 #[.int .u16 (n : Int), .int .u16 (d : Int)] w fun e w' => e = .returned (.bool true) ∧ Below w.heap.size w w' := by
  have H1 := hide (len_any (n : Int))
  rw [ln_none (n : Int) (by omega)] at H1
  have H3 := hide (dist_any (d : Int))
  rw [ds_none (d : Int) (by omega)] at H3
  have y1 : ¬ (3 : Int) ≤ (n : Int) := by omega
  clear hn
  have y1' : ¬ (1 : Int) ≤ (d : Int) := by omega
  clear hd
  have B0 := hide (Below.refl w.heap.size w)
  go_enter Try.func4, Try.ntmps4
  go_wp2_with fail
  refine (H1.out _).mono ?_
  rintro e w1 ⟨rfl, b1⟩
  have B1 := hide (B0.out.trans (b1.mono B0.out.size))
  clear b1
  go_wp2_with fail
  refine (H3.out _).mono ?_
  rintro e w2 ⟨rfl, b2⟩
  have B2 := hide (B1.out.trans (b2.mono B1.out.size))
  clear b2
  go_wp2_with fail
  refine (sawake_any _).mono ?_
  rintro e w3 ⟨rfl, b3⟩
  have B3 := hide (B2.out.trans (b3.mono B2.out.size))
  clear b3
  go_wp2
  go_ret
  exact ⟨rfl, B3.out⟩

set_option maxRecDepth 20000 in
set_option maxHeartbeats 4000000 in
theorem back_lh (w : World) (n d : Nat) (hn : n < 3) (hd : (32768 < d ∧ d < 65536)) :
    Calls Try.prog 4 #[.int .u16 (n : Int), .int .u16 (d : Int)] w fun e w' => e = .returned (.bool true) ∧ Below w.heap.size w w' := by
  have H1 := hide (len_any (n : Int))
  rw [ln_none (n : Int) (by omega)] at H1
  have H3 := hide (dist_any (d : Int))
  rw [ds_none (d : Int) (by omega)] at H3
  have y1 : ¬ (3 : Int) ≤ (n : Int) := by omega
  clear hn
  have y1' : (1 : Int) ≤ (d : Int) := by omega
  have y2' : ¬ (d : Int) ≤ 32768 := by omega
  have y5' : (d : Int) ≤ 65535 := by omega
  clear hd
  have B0 := hide (Below.refl w.heap.size w)
  go_enter Try.func4, Try.ntmps4
  go_wp2_with fail
  refine (H1.out _).mono ?_
  rintro e w1 ⟨rfl, b1⟩
  have B1 := hide (B0.out.trans (b1.mono B0.out.size))
  clear b1
  go_wp2_with fail
  refine (H3.out _).mono ?_
  rintro e w2 ⟨rfl, b2⟩
  have B2 := hide (B1.out.trans (b2.mono B1.out.size))
  clear b2
  go_wp2_with fail
  refine (sawake_any _).mono ?_
  rintro e w3 ⟨rfl, b3⟩
  have B3 := hide (B2.out.trans (b3.mono B2.out.size))
  clear b3
  go_wp2
  go_ret
  exact ⟨rfl, B3.out⟩

set_option maxRecDepth 20000 in
set_option maxHeartbeats 4000000 in
theorem back_hy (w : World) (n d : Nat) (hn : (258 < n ∧ n < 65536)) (hd : 1 ≤ d ∧ d ≤ 32768) :
    Calls Try.prog 4 #[.int .u16 (n : Int), .int .u16 (d : Int)] w fun e w' => e = .returned (.bool true) ∧ Below w.heap.size w w' := by
  have H1 := hide (len_any (n : Int))
  rw [ln_none (n : Int) (by omega)] at H1
  obtain ⟨s', base', bx', c', p', e1', e2', hs', hbx', hba', hsum', hp1', hcp', hp2'⟩ := ds_parts d hd.1 hd.2
  have H3 := hide (dist_any (d : Int))
  rw [e1'] at H3
  have H4 := hide (distbase_any (s' : Int))
  rw [e2'] at H4
  have y1' : (1 : Int) ≤ (d : Int) := by omega
  have y2' : (d : Int) ≤ 32768 := by omega
  have y3' : ¬ (p' : Int) ≤ (c' : Int) := by omega
  have y4' : (base' : Int) + (c' : Int) = (d : Int) := by omega
  have y7' : decide ((c' : Int) < 0) = false := decide_eq_false (by omega)
  clear e1' e2' hd hs' hsum'
  have y1 : (3 : Int) ≤ (n : Int) := by omega
  have y2 : ¬ (n : Int) ≤ 258 := by omega
  have y5 : (n : Int) ≤ 65535 := by omega
  clear hn
  have B0 := hide (Below.refl w.heap.size w)
  go_enter Try.func4, Try.ntmps4
  go_wp2_with fail
  refine (H1.out _).mono ?_
  rintro e w1 ⟨rfl, b1⟩
  have B1 := hide (B0.out.trans (b1.mono B0.out.size))
  clear b1
  go_wp2_with fail
  refine (H3.out _).mono ?_
  rintro e w2 ⟨rfl, b2⟩
  have B2 := hide (B1.out.trans (b2.mono B1.out.size))
  clear b2
  go_wp2_with fail
  refine (H4.out _).mono ?_
  rintro e w3 ⟨rfl, b3⟩
  have B3 := hide (B2.out.trans (b3.mono B2.out.size))
  clear b3
  go_wp2_with fail
  refine (sawake_any _).mono ?_
  rintro e w4 ⟨rfl, b4⟩
  have B4 := hide (B3.out.trans (b4.mono B3.out.size))
  clear b4
  go_wp2
  go_ret
  exact ⟨rfl, B4.out⟩

set_option maxRecDepth 20000 in
set_option maxHeartbeats 4000000 in
theorem back_hl (w : World) (n d : Nat) (hn : (258 < n ∧ n < 65536)) (hd : d < 1) :
    Calls Try.prog 4 #[.int .u16 (n : Int), .int .u16 (d : Int)] w fun e w' => e = .returned (.bool true) ∧ Below w.heap.size w w' := by
  have H1 := hide (len_any (n : Int))
  rw [ln_none (n : Int) (by omega)] at H1
  have H3 := hide (dist_any (d : Int))
  rw [ds_none (d : Int) (by omega)] at H3
  have y1 : (3 : Int) ≤ (n : Int) := by omega
  have y2 : ¬ (n : Int) ≤ 258 := by omega
  have y5 : (n : Int) ≤ 65535 := by omega
  clear hn
  have y1' : ¬ (1 : Int) ≤ (d : Int) := by omega
  clear hd
  have B0 := hide (Below.refl w.heap.size w)
  go_enter Try.func4, Try.ntmps4
  go_wp2_with fail
  refine (H1.out _).mono ?_
  rintro e w1 ⟨rfl, b1⟩
  have B1 := hide (B0.out.trans (b1.mono B0.out.size))
  clear b1
  go_wp2_with fail
  refine (H3.out _).mono ?_
  rintro e w2 ⟨rfl, b2⟩
  have B2 := hide (B1.out.trans (b2.mono B1.out.size))
  clear b2
  go_wp2_with fail
  refine (sawake_any _).mono ?_
  rintro e w3 ⟨rfl, b3⟩
  have B3 := hide (B2.out.trans (b3.mono B2.out.size))
  clear b3
  go_wp2
  go_ret
  exact ⟨rfl, B3.out⟩

set_option maxRecDepth 20000 in
set_option maxHeartbeats 4000000 in
theorem back_hh (w : World) (n d : Nat) (hn : (258 < n ∧ n < 65536)) (hd : (32768 < d ∧ d < 65536)) :
    Calls Try.prog 4 #[.int .u16 (n : Int), .int .u16 (d : Int)] w fun e w' => e = .returned (.bool true) ∧ Below w.heap.size w w' := by
  have H1 := hide (len_any (n : Int))
  rw [ln_none (n : Int) (by omega)] at H1
  have H3 := hide (dist_any (d : Int))
  rw [ds_none (d : Int) (by omega)] at H3
  have y1 : (3 : Int) ≤ (n : Int) := by omega
  have y2 : ¬ (n : Int) ≤ 258 := by omega
  have y5 : (n : Int) ≤ 65535 := by omega
  clear hn
  have y1' : (1 : Int) ≤ (d : Int) := by omega
  have y2' : ¬ (d : Int) ≤ 32768 := by omega
  have y5' : (d : Int) ≤ 65535 := by omega
  clear hd
  have B0 := hide (Below.refl w.heap.size w)
  go_enter Try.func4, Try.ntmps4
  go_wp2_with fail
  refine (H1.out _).mono ?_
  rintro e w1 ⟨rfl, b1⟩
  have B1 := hide (B0.out.trans (b1.mono B0.out.size))
  clear b1
  go_wp2_with fail
  refine (H3.out _).mono ?_
  rintro e w2 ⟨rfl, b2⟩
  have B2 := hide (B1.out.trans (b2.mono B1.out.size))
  clear b2
  go_wp2_with fail
  refine (sawake_any _).mono ?_
  rintro e w3 ⟨rfl, b3⟩
  have B3 := hide (B2.out.trans (b3.mono B2.out.size))
  clear b3
  go_wp2
  go_ret
  exact ⟨rfl, B3.out⟩

theorem symbolBack_walk (w : World) (n : Int) (wn : (Lit.int .u16 n).wf = true) (d : Int) (wd : (Lit.int .u16 d).wf = true) :
    Calls Try.prog 4 #[.int .u16 n, .int .u16 d] w fun e w' => e = .returned (.bool true) ∧ Below w.heap.size w w' := by
  obtain ⟨n, rfl, hn⟩ := u16_nat wn
  obtain ⟨d, rfl, hd⟩ := u16_nat wd
  clear wn wd
  by_cases n1 : n < 3
  · by_cases d1 : d < 1
    · exact back_ll w n d n1 d1
    · by_cases d2 : 32768 < d
      · exact back_lh w n d n1 ⟨d2, hd⟩
      · exact back_ly w n d n1 ⟨by omega, by omega⟩
  · by_cases n2 : 258 < n
    · by_cases d1 : d < 1
      · exact back_hl w n d ⟨n2, hn⟩ d1
      · by_cases d2 : 32768 < d
        · exact back_hh w n d ⟨n2, hn⟩ ⟨d2, hd⟩
        · exact back_hy w n d ⟨n2, hn⟩ ⟨by omega, by omega⟩
    · by_cases d1 : d < 1
      · exact back_yl w n d ⟨by omega, by omega⟩ d1
      · by_cases d2 : 32768 < d
        · exact back_yh w n d ⟨by omega, by omega⟩ ⟨d2, hd⟩
        · exact back_yy w n d ⟨by omega, by omega⟩ ⟨by omega, by omega⟩

end Go.Proofs.Ytmfijcphmldcgaa
