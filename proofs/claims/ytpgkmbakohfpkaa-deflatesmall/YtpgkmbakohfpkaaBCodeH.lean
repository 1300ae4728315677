/- Contracts of the code of layer 9: sizes. -/
import Derived.Test.YtpgkmbakohfpkaaBCodeG
import Derived.Test.YtpgkmbakohfpkaaSA
namespace Go.Proofs.Ytpgkmbakohfpkaa
open Go.RowKit Go.Lib

theorem ordBits_len (hl : List Nat) : ∀ k, k ≤ 19 → (ordBits hl k).length = 3 * k
  | 0, _ => rfl
  | k + 1, h => by
    rw [ordBits_succ hl k (by omega), List.length_append, ordBits_len hl k (by omega), lowBits_length]
    omega
theorem headBits_len (n m : Nat) (rs : List (Int × Int)) (hl : List Nat) : (headBits n m rs hl).length = 14 + 3 * ordN hl 19 + (runsBits hl rs).length := by
  unfold headBits
  simp only [List.length_append, lowBits_length, ordBits_len hl (ordN hl 19) (ordN_le hl 19)]
  omega
theorem runBits_len (hl : List Nat) (s : Nat) (e : Int) : (runBits hl ((s : Int), e)).length = hl.getD s 0 + xBits (s : Int) := by
  unfold runBits
  rw [List.length_append, high_len, lowBits_length, Int.toNat_natCast]

set_option maxRecDepth 20000 in
set_option maxHeartbeats 4000000 in
theorem headsize9 (n m t ct j cf cl : Nat) (rs : List (Int × Int)) (hl : List Nat) (gt gf gl : Option Addr) (W : World) (kf : ArgR W gf rs) (kl : ArgN W gl hl) (ht : ordN hl 19 = t) (hj : rs.length = j) (hro : ∀ r ∈ rs, 0 ≤ r.1 ∧ r.1 ≤ 18) (hj2 : j ≤ 400) (hll : hl.length = 19) (h15 : ∀ z ∈ hl, z ≤ 15) :
    Calls Try.prog 39 #[.agg #[.int .i64 (n : Nat), .int .i64 (m : Nat), .slice gt t ct, .slice gf j cf, .slice gl 19 cl]] W fun e w' => e = .returned (.int .i64 ((headBits n m rs hl).length : Nat)) ∧ Below W.heap.size W w' := by
  have HJ := hide hj
  have HRO := hide hro
  have HG7 := hide h15
  have HLL := hide hll
  have h19 := ordN_le hl 19
  have HLEN := hide (headBits_len n m rs hl)
  rw [ht] at h19 HLEN
  have hb := new_box W (.cells #[.int .i64 (n : Nat), .int .i64 (m : Nat), .slice gt t ct, .slice gf j cf, .slice gl 19 cl] 72)
  have B0 := hide ((Below.refl W.heap.size W).alloc (Nat.le_refl _) (.cells #[.int .i64 (n : Nat), .int .i64 (m : Nat), .slice gt t ct, .slice gf j cf, .slice gl 19 cl] 72))
  have KF := hide (kf.below B0.out (Nat.le_refl _))
  have KL := hide (kl.below B0.out (Nat.le_refl _))
  have HBX := hide hb
  have hlt := (Array.getElem?_eq_some_iff.1 hb).1
  have HLT0 := hide hlt
  clear kf kl ht hj hro h15 hb hlt hll
  go_enter Try.func39, Try.ntmps39
  go_wp2
  generalize (W.alloc (.cells #[.int .i64 (n : Nat), .int .i64 (m : Nat), .slice gt t ct, .slice gf j cf, .slice gl 19 cl] 72)) = w0 at *
  go_loopw [3, 14] (fun nv c wr => ∃ q : Nat, q ≤ j ∧ c = .int .i64 (q : Nat) ∧ ∃ S : Nat, nv = .int .i64 (S : Nat) ∧ Hid (S = 14 + 3 * t + (runsBits hl (rs.take q)).length) ∧ Hid (Below w0.heap.size w0 wr)) (fun _ c _ => j - (intOf c).toNat)
  case atStart => exact ⟨0, Nat.zero_le _, rfl, 14 + 3 * t, by go_num, rfl, hide (Below.refl _ _)⟩
  case round =>
    obtain ⟨q, hq, rfl, S, rfl, HS, HB⟩ := hrel
    have hlb := runsBits_le hl (fun z hz => HG7.out z hz) (rs.take q)
    have hti : (rs.take q).length ≤ q := by rw [List.length_take]; omega
    have hS9 : S ≤ 20000 := by have := HS.out; omega
    by_cases hlt : q < j
    · obtain ⟨⟨s, ex⟩, hs⟩ : ∃ t, rs[q]? = some t := ⟨_, List.getElem?_eq_getElem (by rw [HJ.out]; exact hlt)⟩
      obtain ⟨g, off, rfl, hg, hc1, hc2⟩ := KF.out q s ex hs
      have hso := HRO.out _ (List.mem_of_getElem? hs)
      obtain ⟨s, rfl⟩ := Int.eq_ofNat_of_zero_le hso.1
      have hs19 : s < 19 := by have := hso.2; dsimp only at this; omega
      obtain ⟨x, ox, rfl, hx, hcx⟩ := KL.out s _ (getD_some hl s (by rw [HLL.out]; exact hs19))
      have HSN := hide (runsBits_snoc hl (rs.take q) ((s : Int), ex))
      rw [show rs.take q ++ [((s : Int), ex)] = rs.take (q + 1) by rw [List.take_add_one, hs]; rfl] at HSN
      have HRL := hide (runBits_len hl s ex)
      have hx7 := xBits_le (s : Int)
      have hg15 := getD_le HG7.out s
      have HBT := hide (bits7_same (s : Int))
      have B1 := hide (HB.out.alloc HB.out.size (.cells #[.int .i64 (s : Int), .int .i64 ex] 89))
      have hb7 := new_box wr (.cells #[.int .i64 (s : Int), .int .i64 ex] 89)
      have _c1 := (HB.out.cell (p := ⟨g, off + q * 2, none⟩) hg).trans hc1
      have _c2 := (HB.out.cell (p := ⟨g, off + q * 2 + 1, none⟩) hg).trans hc2
      have hE := HBX.out
      rw [← B1.out.block _ HLT0.out] at hE
      obtain ⟨_, _, _, _e3, _e4⟩ := five_cells hE
      have _x := (B1.out.cell (p := ⟨x, ox + s, none⟩) hx).trans hcx
      have _r0 : (wr.alloc (.cells #[.int .i64 (s : Int), .int .i64 ex] 89)).cell? ⟨wr.heap.size, 0, none⟩ = some (.int .i64 (s : Int)) := by rw [cell_of_row _ _ 0 _ _ (0, 0) hb7]; rfl
      generalize xBits (s : Int) = xb at *
      generalize hl.getD s 0 = lv at *
      have zi : (q : Int) < j := by omega
      have zs : (s : Int) < 19 := by omega
      have HLT := hide hlt
      clear hso hs hg hc1 hc2 hx hcx hb7 hlb hti hE hlt
      go_wp2
      generalize (wr.alloc (.cells #[.int .i64 (s : Int), .int .i64 ex] 89)) = w7 at *
      go_quiet ((go_at_call 49; exact Calls.quiet_of_same (HBT.out _)))
      go_wp2
      go_roundw
      case rel => exact ⟨q + 1, HLT.out, by go_num, S + (lv + xb), by go_num, hide (by rw [HSN.out, List.length_append, HRL.out, HS.out]; omega), hide (below_drewN B1.out _)⟩
      case measure => exact meas_oneW q j HLT.out
    · have hqe : q = j := by omega
      subst hqe
      have HF := hide (show S = (headBits n m rs hl).length by rw [HLEN.out, HS.out, ← HJ.out, List.take_length])
      have HBF := hide (B0.out.trans (HB.out.mono B0.out.size))
      go_wp2
      go_ret
      exact ⟨by rw [← HF.out]; rfl, HBF.out⟩

/-- Where the walk's product is no more than it may be. -/
theorem prod_wrap (a b : Nat) (ha : a ≤ 2001) (hb : b ≤ 13) : IntKind.i64.wrap ((a : Int) * (b : Int)) = ((a * b : Nat) : Int) ∧ wrap64 ((a : Int) * (b : Int)) = ((a * b : Nat) : Int) ∧ a * b ≤ 26013 := by
  have h := Nat.mul_le_mul ha hb
  rw [← Int.natCast_mul]
  generalize a * b = P at *
  refine ⟨?_, ?_, h⟩
  · rw [IntKind.wrap_i64]; omega
  · unfold wrap64; omega
theorem lb_xl (i : Nat) (h : i < 286) : lbV (i : Int) = .tuple #[.int .i64 (lbI (i : Int)), .int .i64 (xlF i : Nat), .bool (lbOk (i : Int))] := by
  unfold lbV
  congr 3
  by_cases h1 : i < 257
  · rw [(lb_no (n := (i : Int)) (.inl (by omega))).2.2, xl_lit i h1]; rfl
  · obtain ⟨k, rfl⟩ : ∃ k, i = 257 + k := ⟨i - 257, by omega⟩
    have e := (lb_yes k (by omega)).2.2
    rw [xl_mat, show ((257 + k : Nat) : Int) = 257 + (k : Int) by omega, e]
theorem db_xl (i : Nat) (h : i < 30) : dbV (i : Int) = .tuple #[.int .i64 (dbI (i : Int)), .int .i64 (distBits i : Nat), .bool (dbOk (i : Int))] := by
  unfold dbV
  rw [(db_yes i (by omega)).2.2]
theorem xl_le (i : Nat) (h : i < 286) : xlF i ≤ 13 := by
  by_cases h1 : i < 257
  · rw [xl_lit i h1]; omega
  · obtain ⟨k, rfl⟩ : ∃ k, i = 257 + k := ⟨i - 257, by omega⟩
    rw [xl_mat]
    have := (len_small k (by omega)).2.2
    omega

end Go.Proofs.Ytpgkmbakohfpkaa
