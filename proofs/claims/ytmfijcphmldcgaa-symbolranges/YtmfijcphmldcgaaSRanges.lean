/- SymbolRanges, the walk: behind all that a symbol stands for comes what the next one does. -/
import Derived.Test.YtmfijcphmldcgaaSBack
namespace Go.Proofs.Ytmfijcphmldcgaa
open Go.RowKit Go.Lib

theorem lb_v (s : Nat) (h : s ≤ 28) : lbV (257 + (s : Int)) = .tuple #[.int .i64 (lenBase s : Int), .int .i64 (lenBits s : Int), .bool true] := by
  obtain ⟨e1, e2, e3⟩ := lb_yes s h
  unfold lbV
  rw [e1, e2, e3]
theorem db_v (s : Nat) (h : s ≤ 29) : dbV (s : Int) = .tuple #[.int .i64 (distBase s : Int), .int .i64 (distBits s : Int), .bool true] := by
  obtain ⟨e1, e2, e3⟩ := db_yes s h
  unfold dbV
  rw [e1, e2, e3]

set_option maxRecDepth 20000 in
set_option maxHeartbeats 4000000 in
theorem ranges_of (w : World) (a b s d : Nat) (ha : a < 256) (hb : b < 256) (hs : a % 28 = s) (hd : b % 29 = d) :
    Calls Try.prog 6 #[.int .u8 (a : Int), .int .u8 (b : Int)] w fun e w' => e = .returned (.bool true) ∧ Below w.heap.size w w' := by
  have hs2 : s < 28 := by omega
  have hd2 : d < 29 := by omega
  have H1 := hide (lenbase_any (257 + (s : Int)))
  have H2 := hide (lenbase_any (257 + ((s + 1 : Nat) : Int)))
  have H3 := hide (distbase_any (d : Int))
  have H4 := hide (distbase_any ((d + 1 : Nat) : Int))
  rw [lb_v s (by omega)] at H1
  rw [lb_v (s + 1) (by omega)] at H2
  rw [db_v d (by omega)] at H3
  rw [db_v (d + 1) (by omega)] at H4
  rw [show (257 : Int) + ((s + 1 : Nat) : Int) = 257 + (s : Int) + 1 from by omega] at H2
  rw [show ((d + 1 : Nat) : Int) = (d : Int) + 1 from by omega] at H4
  have hl := len_small s (by omega)
  have hl2 := len_small (s + 1) (by omega)
  have hm := dist_small d (by omega)
  have hm2 := dist_small (d + 1) (by omega)
  have HNX := hide (show s < 27 → lenBase (s + 1) = lenBase s + 2 ^ lenBits s from len_next s)
  have HDX := hide (dist_next d hd2)
  have HLAST := hide (show s = 27 → lenBase (s + 1) = 258 from fun e => by rw [e]; exact len_last.1)
  obtain ⟨p, p1, p2, p3, p4⟩ := pow_int (lenBits s) 5 hl.2.2 (by omega)
  obtain ⟨q, q1, q2, q3, q4⟩ := pow_int (distBits d) 13 hm.2.2 (by omega)
  rw [← p2] at HNX
  rw [← q2] at HDX
  have hb1 := hl.2.1
  have hb2 := hl.2.2
  have hb3 := hl2.2.1
  have hd3 := hm.2.1
  have hd4 := hm.2.2
  have hd5 := hm2.2.1
  clear hl hl2 hm hm2 p2 q2
  generalize lenBase s = x at *
  generalize lenBits s = y at *
  generalize lenBase (s + 1) = z at *
  generalize lenBits (s + 1) = z' at *
  generalize distBase d = u at *
  generalize distBits d = v at *
  generalize distBase (d + 1) = t at *
  generalize distBits (d + 1) = t' at *
  have za : (a : Int) % 28 = (s : Int) := by omega
  have zb : (b : Int) % 29 = (d : Int) := by omega
  have za2 : (a : Int) ≤ 255 := by omega
  have zb2 : (b : Int) ≤ 255 := by omega
  have eD : (u : Int) + (q : Int) = (t : Int) := by have := HDX.out; omega
  have B0 := hide (Below.refl w.heap.size w)
  have HS := hide hs2
  have zs : (s : Int) < 28 := by omega
  have zd : (d : Int) < 29 := by omega
  clear ha hb hs hd hs2 hd2
  go_enter Try.func6, Try.ntmps6
  go_wp2_with fail
  refine (H1.out _).mono ?_
  rintro e w1 ⟨rfl, b1⟩
  have B1 := hide (B0.out.trans (b1.mono B0.out.size))
  clear b1
  go_wp2_with fail
  refine (H2.out _).mono ?_
  rintro e w2 ⟨rfl, b2⟩
  have B2 := hide (B1.out.trans (b2.mono B1.out.size))
  clear b2
  go_wp2_with fail
  refine (H3.out _).mono ?_
  rintro e w3 ⟨rfl, b3⟩
  have B3 := hide (B2.out.trans (b3.mono B2.out.size))
  clear b3
  go_wp2_with fail
  refine (H4.out _).mono ?_
  rintro e w4 ⟨rfl, b4⟩
  have B4 := hide (B3.out.trans (b4.mono B3.out.size))
  clear b4
  go_wp2_with fail
  refine (sawake_any _).mono ?_
  rintro e w5 ⟨rfl, b5⟩
  have B5 := hide (B4.out.trans (b5.mono B4.out.size))
  clear b5 H1 H2 H3 H4
  by_cases h27 : s < 27
  · have eL : (x : Int) + (p : Int) = (z : Int) := by have := HNX.out h27; omega
    clear h27
    go_wp2
    go_ret
    exact ⟨rfl, B5.out⟩
  · have hs27 : s = 27 := by have := HS.out; omega
    have hz := HLAST.out hs27
    subst hs27
    subst hz
    by_cases e : (x : Int) + (p : Int) = 258
    · go_wp2
      go_ret
      exact ⟨rfl, B5.out⟩
    · have be : ((x : Int) + (p : Int) == 258) = false := by simp; exact e
      go_wp2
      go_ret
      exact ⟨rfl, B5.out⟩

theorem symbolRanges_walk (w : World) (a : Int) (wa : (Lit.int .u8 a).wf = true) (b : Int) (wb : (Lit.int .u8 b).wf = true) :
    Calls Try.prog 6 #[.int .u8 a, .int .u8 b] w fun e w' => e = .returned (.bool true) ∧ Below w.heap.size w w' := by
  have h1 := bounds_u8 wa
  have h2 := bounds_u8 wb
  obtain ⟨a, rfl⟩ := Int.eq_ofNat_of_zero_le h1.1
  obtain ⟨b, rfl⟩ := Int.eq_ofNat_of_zero_le h2.1
  exact ranges_of w a b _ _ (by omega) (by omega) rfl rfl

end Go.Proofs.Ytmfijcphmldcgaa
