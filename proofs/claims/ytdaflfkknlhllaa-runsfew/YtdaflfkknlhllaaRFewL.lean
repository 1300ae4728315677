/- RunsFew, the walk: like lengths are folded into few runs. -/
import Derived.Test.YtdaflfkknlhllaaRBackL
namespace Go.Proofs.Ytdaflfkknlhllaa
open Go.RowKit Go.Lib

/-- The first j are v, the others 0. -/
def repTo (v n j : Nat) : List Nat := List.replicate j v ++ List.replicate (n - j) 0
theorem repTo_length (v n j : Nat) (h : j ≤ n) : (repTo v n j).length = n := by simp [repTo]; omega
theorem repTo_get (v n j : Nat) (h : j < n) : (repTo v n j)[j]? = some 0 := by
  unfold repTo
  rw [List.getElem?_append_right (by simp), List.length_replicate, Nat.sub_self, List.getElem?_replicate]
  rw [if_pos (by omega)]
theorem repTo_set (v n j : Nat) (h : j < n) : (repTo v n j).set j v = repTo v n (j + 1) := by
  unfold repTo
  obtain ⟨d, hd⟩ : ∃ d, n - j = d + 1 := ⟨n - j - 1, by omega⟩
  rw [hd, show n - (j + 1) = d by omega, List.set_append_right _ _ (by simp), List.length_replicate, Nat.sub_self, List.replicate_succ, List.set_cons_zero, List.replicate_succ', List.append_assoc]
  rfl
theorem repTo_all (v n : Nat) : repTo v n n = List.replicate n v := by simp [repTo]
theorem own_made2 (w : World) (n : Nat) (hn : n ≤ 3000) : (w.alloc (.cells (madeCells #[.int .i64 0] n) 3)).ownsRow w.heap.size 3 1 (.slice (some ⟨w.heap.size, 0, none⟩) n n) n (natCs (List.replicate n 0)) := by
  have ho := World.ownsRow_lit (e := 3) (size := 1) w (madeCells #[.int .i64 0] n) n (Nat.le_refl _) (by unfold maxLen; omega) (by rw [size_madeCells]; omega)
  rw [toList_madeCells_one] at ho
  have e : natCs (List.replicate n 0) = List.replicate n (Value.int .i64 0) := by unfold natCs; rw [List.map_replicate]; rfl
  rw [e]
  exact ho

theorem few_runs (v k : Nat) (rs : List (Int × Int)) (h : FoldRes (List.replicate k (v : Int)) rs) : (v = 0 → rs.length ≤ k / 138 + 2) ∧ (v ≠ 0 → rs.length ≤ k / 6 + 3) := by
  constructor
  · intro e
    subst e
    rcases h with ⟨_, b⟩ | ⟨_, b⟩
    · exact few_nought _ _ _ b
    · rw [b]; exact Nat.zero_le _
  · intro e
    rcases h with ⟨_, b⟩ | ⟨_, b⟩
    · exact few_none _ (by omega) _ _ b
    · rw [b]; exact Nat.zero_le _

set_option maxRecDepth 20000 in
set_option maxHeartbeats 4000000 in
theorem few_of (u m v k : Nat) (W : World) (hu : u < 256) (hm : m < 65536) (hv : u % 16 = v) (hk : m % 2000 = k) :
    Calls Try.prog 6 #[.int .u8 (u : Int), .int .u16 (m : Int)] W fun e w' => e = .returned (.bool true) ∧ Below W.heap.size W w' := by
  have hk9 : k < 2000 := by omega
  have hv9 : v < 16 := by omega
  have zu : (u : Int) % 16 = (v : Int) := by omega
  have zm : (m : Int) % 2000 = (k : Int) := by omega
  have zu9 : (u : Int) ≤ 255 := by omega
  have zm9 : (m : Int) ≤ 65535 := by omega
  have HO0 := hide (own_made2 W k (by omega))
  have HB0 := hide ((Below.refl W.heap.size W).alloc (Nat.le_refl _) (.cells (madeCells #[.int .i64 0] k) 3))
  have hmk := run_make_row' (P := Try.prog) 22 3 (.int .i64 0) 8 Try.underlying22 Try.infoInt rfl .i64 .i64 k (by omega) (by omega)
  have HVB := hide (show ∀ x ∈ List.replicate k (v : Int), 0 ≤ x ∧ x ≤ 15 from fun x hx => by rw [List.eq_of_mem_replicate hx]; omega)
  clear hu hm hv hk
  go_enter Try.func6, Try.ntmps6
  go_wp2
  clear hmk
  generalize W.alloc (.cells (madeCells #[.int .i64 0] k) 3) = w1 at *
  go_loopw [7] (fun iv wr => ∃ j : Nat, j ≤ k ∧ iv = .int .i64 (j : Nat) ∧ Hid (wr.ownsRow W.heap.size 3 1 (.slice (some ⟨W.heap.size, 0, none⟩) k k) k (natCs (repTo v k j))) ∧ Hid (Below W.heap.size W wr)) (fun iv _ => k - (intOf iv).toNat)
  case atStart => exact ⟨0, Nat.zero_le _, rfl, hide (by have h := HO0.out; simpa [repTo] using h), HB0⟩
  case round =>
    obtain ⟨j, hj, rfl, HO, HB⟩ := hrel
    by_cases hlt : j < k
    · have ho := HO.out
      have hlen := repTo_length v k j hj
      obtain ⟨_c, _f⟩ := own_nat (by rw [hlen]; exact ho) (repTo_get v k j hlt)
      have HSET := hide (own_set ho j v)
      rw [repTo_set v k j hlt] at HSET
      have HBS := hide (HB.out.setCell (p := ⟨W.heap.size, j, none⟩) (Nat.le_refl _) (.int .i64 (v : Int)))
      have zj : (j : Int) < k := by omega
      clear ho hlen
      go_wp2
      go_roundw
      case rel => exact ⟨j + 1, hlt, by go_num, HSET, HBS⟩
      case measure => exact meas_oneW j k hlt
    · have hje : j = k := by omega
      subst hje
      rw [repTo_all] at HO
      have HA := hide (show ArgZ wr (some ⟨W.heap.size, 0, none⟩) (List.replicate j (v : Int)) by
        have h := own_argZ HO.out (by simp)
        rw [List.map_replicate] at h
        exact h)
      have HF := hide (fold7_any (List.replicate j (v : Int)) (some ⟨W.heap.size, 0, none⟩) j wr HA.out (by simp; omega) (by simp))
      rw [List.length_replicate] at HF
      clear hlt hj HO
      go_wp2_with fail
      refine HF.out.mono ?_
      rintro e w2 ⟨a1, c1, rs, rfl, hr, ha1, _, b1⟩
      have HLR := hide (show rs.length ≤ j by have h1 := hr.length; rw [List.length_replicate] at h1; exact h1)
      have HFEW := hide (few_runs v j rs hr)
      have HBK := hide (back_un hr HVB.out)
      rw [List.length_replicate] at HBK
      have HA1 := hide (HA.out.belowB b1 (Nat.le_refl _))
      have B1 := hide (HB.out.trans (b1.mono HB.out.size))
      have HU := hide (unfold7_any rs a1 c1 (j : Int) w2 ha1 (by have := HLR.out; omega) (by omega) (by omega))
      unfold UnPost at HU
      rw [HBK.out.1, HBK.out.2] at HU
      clear hr ha1 b1
      go_wp2_with fail
      refine HU.out.mono ?_
      rintro e w3 ⟨a2, c2, rfl, ha2, _, b2⟩
      have HA2 := hide (HA1.out.belowB b2 (Nat.le_refl _))
      have HX2 := hide ha2
      have B2 := hide (B1.out.trans (b2.mono B1.out.size))
      clear ha2 b2
      rw [List.length_replicate]
      have hlr := HLR.out
      generalize rs.length = k2 at *
      by_cases v0 : v = 0
      · subst v0
        have zf : (k2 : Int) ≤ (j : Int) / 138 + 2 := by have := HFEW.out.1 rfl; omega
        clear hlr
        go_wp2_with fail
        refine (rawake_any _).mono ?_
        rintro e w4 ⟨rfl, b3⟩
        have HA3 := hide (HA2.out.belowB b3 (Nat.le_refl _))
        have HX3 := hide (HX2.out.belowB b3 (Nat.le_refl _))
        have B3 := hide (B2.out.trans (b3.mono B2.out.size))
        clear b3
        have HSM := hide (same7_any _ j (some ⟨W.heap.size, 0, none⟩) a2 j c2 w4 (by simp) HA3.out HX3.out (by omega))
        go_wp2_with fail
        refine HSM.out.mono ?_
        rintro e w5 ⟨rfl, b4⟩
        have B4 := hide (B3.out.trans (b4.mono B3.out.size))
        clear b4
        go_wp2
        go_ret
        exact ⟨rfl, B4.out⟩
      · have bv : ((v : Int) == 0) = false := by simp; omega
        have zf : (k2 : Int) ≤ (j : Int) / 6 + 3 := by have := HFEW.out.2 v0; omega
        clear hlr v0
        go_wp2_with fail
        refine (rawake_any _).mono ?_
        rintro e w4 ⟨rfl, b3⟩
        have HA3 := hide (HA2.out.belowB b3 (Nat.le_refl _))
        have HX3 := hide (HX2.out.belowB b3 (Nat.le_refl _))
        have B3 := hide (B2.out.trans (b3.mono B2.out.size))
        clear b3
        have HSM := hide (same7_any _ j (some ⟨W.heap.size, 0, none⟩) a2 j c2 w4 (by simp) HA3.out HX3.out (by omega))
        go_wp2_with fail
        refine HSM.out.mono ?_
        rintro e w5 ⟨rfl, b4⟩
        have B4 := hide (B3.out.trans (b4.mono B3.out.size))
        clear b4
        go_wp2
        go_ret
        exact ⟨rfl, B4.out⟩

theorem runsFew_walk (W : World) (u : Int) (wu : (Lit.int .u8 u).wf = true) (m : Int) (wm : (Lit.int .u16 m).wf = true) :
    Calls Try.prog 6 #[.int .u8 u, .int .u16 m] W fun e w' => e = .returned (.bool true) ∧ Below W.heap.size W w' := by
  have h1 := bounds_u8 wu
  have h2 := bounds_u16 wm
  obtain ⟨u, rfl⟩ := Int.eq_ofNat_of_zero_le h1.1
  obtain ⟨m, rfl⟩ := Int.eq_ofNat_of_zero_le h2.1
  exact few_of u m _ _ W (by omega) (by omega) rfl rfl

end Go.Proofs.Ytdaflfkknlhllaa
