/- InflateRuns, the walk: a text of one byte, so many times, is packed into few bytes, and opened. -/
import Derived.Test.YtaalbaiglkadlaaGreatIEndsM
import Derived.Test.YtaalbaiglkadlaaGreatDSpec
import Derived.Test.YtaalbaiglkadlaaGreatMA
namespace Go.Proofs.YtaalbaiglkadlaaGreat
open Go.RowKit Go.Lib

/-- A byte, so many times. -/
def runT (b : Nat) (k : Nat) : ByteArray := strOf (List.replicate k b)
theorem runT_size (b k : Nat) : (runT b k).size = k := by unfold runT; rw [strOf_len, List.length_replicate]
theorem runT_next (b k : Nat) : runT b k ++ strOf [b] = runT b (k + 1) := by
  unfold runT
  rw [List.replicate_succ']
  apply ByteArray.ext
  apply Array.toList_inj.1
  rw [ByteArray.data_append, Array.toList_append]
  show (List.replicate k b).map UInt8.ofNat ++ [b].map UInt8.ofNat = (List.replicate k b ++ [b]).map UInt8.ofNat
  rw [List.map_append]
theorem runT_at (b k : Nat) (hb : b < 256) (i : Nat) (hi : i < k) : bAt (runT b k) i = b := by
  unfold bAt runT strOf
  show (((List.replicate k b).map UInt8.ofNat).toArray.toList.getD i 0).toNat = b
  rw [List.toList_toArray, List.map_replicate, List.getD_eq_getElem?_getD, List.getElem?_replicate, if_pos hi]
  show (UInt8.ofNat b).toNat = b
  simp
  omega
theorem one_str (w : World) (b : Nat) : (convert 30 9 (.slice (some ⟨w.heap.size, 0, none⟩) 1 1)).run Tryz.prog (w.alloc (.cells #[.int .u8 (b : Int)] 5)) = .ok (.string (strOf [b])) (w.alloc (.cells #[.int .u8 (b : Int)] 5)) := by
  have h : (w.alloc (.cells #[.int .u8 (b : Int)] 5)).ownsRow 0 5 1 (.slice (some ⟨w.heap.size, 0, none⟩) 1 1) [b].length (u8Cs [b]) :=
    ⟨rfl, .inr ⟨w.heap.size, 1, #[.int .u8 (b : Int)], rfl, Nat.zero_le _, by show (w.heap.push _)[w.heap.size]? = _; simp, Nat.le_refl _, by decide, rfl, rfl⟩⟩
  exact str_own h

set_option maxRecDepth 20000 in
set_option maxHeartbeats 8000000 in
theorem runs_of (C : ISpec) (D : DSpec) (W : World) (b n u : Nat) (hb : b < 256) (hn : n < 65536) (hu : u < 256) :
    Calls Tryz.prog 4 #[.int .u8 (b : Int), .int .u16 (n : Int), .int .u8 (u : Int)] W fun e w' => e = .returned (.bool true) ∧ Below W.heap.size W w' := by
  have HC := hide C
  have HD := hide D
  have HA := hide (awake11_any C)
  have zb : (b : Int) ≤ 255 := by omega
  have znn : (n : Int) ≤ 65535 := by omega
  have zu : (u : Int) ≤ 255 := by omega
  obtain ⟨q, hq⟩ : ∃ q, u % 9 = q := ⟨_, rfl⟩
  have zq : (u : Int) % 9 = (q : Int) := by omega
  have hq9 : q < 9 := by omega
  obtain ⟨k, hk⟩ : ∃ k, n % 3000 = k := ⟨_, rfl⟩
  have zk : (n : Int) % 3000 = (k : Int) := by omega
  have hk9 : k < 3000 := by omega
  have HB0 := hide (Below.refl W.heap.size W)
  clear hq hk hn hu
  go_enter Tryz.func4, Tryz.ntmps4
  go_wp2
  go_loopw [8, 9] (fun tv iv wr => ∃ i : Nat, i ≤ k ∧ iv = .int .i64 (i : Nat) ∧ tv = .string (runT b i) ∧ Hid (Below W.heap.size W wr)) (fun _ iv _ => k - (intOf iv).toNat)
  case atStart => exact ⟨0, Nat.zero_le _, rfl, rfl, HB0⟩
  case round =>
    clear HB0
    obtain ⟨i, hi, rfl, rfl, HB⟩ := hrel
    by_cases hlt : i < k
    · have zi : (i : Int) < (k : Int) := by omega
      have hcv := one_str wr b
      have HNX := hide (runT_next b i)
      have q1 : (9223372036854775807 < (runT b i).size + (strOf [b]).size) = False := eq_false (by rw [runT_size, strOf_len]; show ¬ 9223372036854775807 < i + 1; omega)
      generalize runT b i = t at *
      generalize strOf [b] = t1 at *
      have HB2 := hide (HB.out.alloc HB.out.size (.cells #[.int .u8 (b : Int)] 5))
      go_wp2
      go_roundw
      case rel => exact ⟨i + 1, hlt, by go_num, by rw [← HNX.out], HB2⟩
      case measure => exact meas_oneW i k hlt
    · obtain rfl : i = k := by omega
      have zi : ¬ (i : Int) < (i : Int) := by omega
      have HSZ := hide (runT_size b i)
      have HCO := hide (runT_at b i hb)
      generalize runT b i = t at *
      have HS := hide (show t.size ≤ 3000 by rw [HSZ.out]; omega)
      clear hlt
      go_wp2_with fail
      refine (HD.out.pack t (1 + (q : Int)) _ HS.out).mono ?_
      rintro e w1 ⟨t1, e1, rfl, h1, b1⟩
      obtain ⟨rfl, h2, h3⟩ := pack_small h1 (by omega) (by omega) HS.out
      have HFEW := hide (pack_runs h1 (by omega) (by omega) (by rw [HSZ.out]; exact hk9) b hb (fun j hj => HCO.out j (by rw [HSZ.out] at hj; exact hj)))
      have HE := hide (ends_exact h1 (by omega) (by omega) (by have := HS.out; omega))
      rw [HSZ.out] at h3 HFEW HE
      have B1 := hide (HB.out.trans (b1.mono HB.out.size))
      obtain ⟨m, hm⟩ : ∃ m, t1.length = m := ⟨_, rfl⟩
      rw [hm] at h2 h3 HFEW HE
      obtain ⟨tb, htb⟩ : ∃ tb : ByteArray, (⟨t1.toArray⟩ : ByteArray) = tb := ⟨_, rfl⟩
      have htm : tb.size = m := by rw [← htb, ← hm]; exact mk_size t1
      rw [htb] at HE ⊢
      have HST := hide (show tb.size ≤ 100000 by rw [htm]; omega)
      have zm : ((tb.size : Nat) : Int) = (m : Int) := by omega
      have hm9 : m ≤ 90000 := by omega
      obtain ⟨d, hd⟩ : ∃ d, i / 100 = d := ⟨_, rfl⟩
      have zd : Int.tdiv (i : Int) 100 = (d : Int) := by rw [← hd]; rfl
      rw [hd] at HFEW
      have zf : (m : Int) ≤ 12 + (d : Int) := by have := HFEW.out; omega
      have hd9 : d ≤ 30 := by omega
      clear h1 b1 hm h3 htm htb hd
      go_wp2_with fail
      refine (HC.out.opens tb (i : Int) _ HST.out (by omega) (by omega)).mono ?_
      rintro e w4 ⟨rfl, _, b4⟩
      rw [HE.out.1, HE.out.2.1, HE.out.2.2]
      have B4 := hide (B1.out.trans (b4.mono B1.out.size))
      clear b4
      go_wp2_with fail
      refine (HA.out _).mono ?_
      rintro e w5 ⟨rfl, b5⟩
      have B5 := hide (B4.out.trans (b5.mono B4.out.size))
      clear b5
      go_wp2
      go_ret
      exact ⟨rfl, B5.out⟩
theorem runs_law (C : ISpec) (D : DSpec) (W : World) (b : Int) (wb : (Lit.int .u8 b).wf = true) (n : Int) (wn : (Lit.int .u16 n).wf = true) (u : Int) (wu : (Lit.int .u8 u).wf = true) :
    Calls Tryz.prog 4 #[.int .u8 b, .int .u16 n, .int .u8 u] W fun e w' => e = .returned (.bool true) ∧ Below W.heap.size W w' := by
  have hb := bounds_u8 wb
  have hn := bounds_u16 wn
  have hu := bounds_u8 wu
  obtain ⟨b, rfl⟩ := Int.eq_ofNat_of_zero_le hb.1
  obtain ⟨n, rfl⟩ := Int.eq_ofNat_of_zero_le hn.1
  obtain ⟨u, rfl⟩ := Int.eq_ofNat_of_zero_le hu.1
  exact runs_of C D W b n u (by omega) (by omega) (by omega)

end Go.Proofs.YtaalbaiglkadlaaGreat
