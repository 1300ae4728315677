/- RunsBack, the walk: lengths that are folded are unfolded as they were. -/
import Derived.Test.YtdaflfkknlhllaaRAwake
namespace Go.Proofs.Ytdaflfkknlhllaa
open Go.RowKit Go.Lib

theorem FoldRes.bad {l : List Int} {rs : List (Int × Int)} (h : FoldRes l rs) (x : Int) (hx : x ∈ l) (hb : x < 0 ∨ 15 < x) : rs = [] := by
  rcases h with ⟨a, _⟩ | ⟨_, b⟩
  · have := (lenB_iff l).1 a x hx
    omega
  · exact b
theorem FoldRes.good {l : List Int} {rs : List (Int × Int)} (h : FoldRes l rs) (hv : ∀ x ∈ l, 0 ≤ x ∧ x ≤ 15) : Folds none l rs := by
  rcases h with ⟨_, b⟩ | ⟨a, _⟩
  · exact b
  · rw [(lenB_iff l).2 hv] at a; cases a
theorem back_un {l : List Int} {rs : List (Int × Int)} (h : FoldRes l rs) (hv : ∀ x ∈ l, 0 ≤ x ∧ x ≤ 15) : unO rs (l.length : Int) = l ∧ unB rs (l.length : Int) = true := by
  have h1 := back_all l rs (h.good hv) hv
  unfold unO unB
  rw [h1]
  exact ⟨rfl, rfl⟩

set_option maxRecDepth 20000 in
set_option maxHeartbeats 4000000 in
theorem rback_big (n : Nat) (a : Option Addr) (cap : Nat) (W : World) (hn : 600 < n) :
    Calls Try.prog 5 #[.slice a n cap] W fun e w' => e = .returned (.bool true) ∧ Below W.heap.size W w' := by
  have hz : (600 : Int) < n := by omega
  clear hn
  go_enter Try.func5, Try.ntmps5
  go_wp2_with fail
  refine (rawake_any _).mono ?_
  rintro e w1 ⟨rfl, b1⟩
  have B1 := hide b1
  clear b1
  go_wp2
  go_ret
  exact ⟨rfl, B1.out⟩

set_option maxRecDepth 20000 in
set_option maxHeartbeats 4000000 in
theorem rback_small (l : List Int) (a : Option Addr) (cap : Nat) (W : World) (harg : ArgZ W a l) (hl : l.length ≤ 600) (hcap : l.length ≤ cap) :
    Calls Try.prog 5 #[.slice a l.length cap] W fun e w' => e = .returned (.bool true) ∧ Below W.heap.size W w' := by
  have HF := hide (fun w' (h : ArgZ w' a l) => fold7_any l a cap w' h (by omega) hcap)
  clear hcap
  have HA := hide harg
  have HLN := hide hl
  obtain ⟨n, hn⟩ : ∃ n, l.length = n := ⟨_, rfl⟩
  rw [hn] at HF hl ⊢
  have HN := hide hn
  have hz : ¬ (600 : Int) < n := by omega
  clear harg hn
  go_enter Try.func5, Try.ntmps5
  go_wp2
  go_loop [3] (fun iv => ∃ j : Nat, j ≤ n ∧ iv = .int .i64 (j : Nat) ∧ Hid (∀ x ∈ l.take j, 0 ≤ x ∧ x ≤ 15)) (fun iv => n - (intOf iv).toNat)
  case atStart => exact ⟨0, Nat.zero_le _, rfl, hide (fun x hx => by simp at hx)⟩
  case round =>
    obtain ⟨j, hj, rfl, HE⟩ := hrel
    by_cases hlt : j < n
    · obtain ⟨x, hx⟩ := getZ? l j (by rw [HN.out]; exact hlt)
      obtain ⟨b, off, rfl, hb, _c⟩ := HA.out j x hx
      have zj : (j : Int) < n := by omega
      have HX := hide hx
      have HTK := hide (show l.take (j + 1) = l.take j ++ [x] by rw [List.take_add_one, hx]; rfl)
      clear hx
      by_cases q1 : x < 0
      · have HBAD := hide (fun rs (h : FoldRes l rs) => h.bad x (mem_of_get HX.out) (.inl q1))
        go_wp2_with fail
        refine (rawake_any _).mono ?_
        rintro e w1 ⟨rfl, b1⟩
        have HA1 := hide (HA.out.belowB b1 (Nat.le_refl _))
        have B1 := hide b1
        clear b1
        go_wp2_with fail
        refine (HF.out _ HA1.out).mono ?_
        rintro e w2 ⟨a2, c2, rs, rfl, hr2, ha2, _, b2⟩
        have ers := HBAD.out rs hr2
        subst ers
        have B2 := hide (B1.out.trans (b2.mono B1.out.size))
        clear hr2 ha2 b2
        go_wp2
        go_ret
        exact ⟨rfl, B2.out⟩
      · have q1d : decide (x < 0) = false := decide_eq_false q1
        by_cases q2 : 15 < x
        · have HBAD := hide (fun rs (h : FoldRes l rs) => h.bad x (mem_of_get HX.out) (.inr q2))
          go_wp2_with fail
          refine (rawake_any _).mono ?_
          rintro e w1 ⟨rfl, b1⟩
          have HA1 := hide (HA.out.belowB b1 (Nat.le_refl _))
          have B1 := hide b1
          clear b1
          go_wp2_with fail
          refine (HF.out _ HA1.out).mono ?_
          rintro e w2 ⟨a2, c2, rs, rfl, hr2, ha2, _, b2⟩
          have ers := HBAD.out rs hr2
          subst ers
          have B2 := hide (B1.out.trans (b2.mono B1.out.size))
          clear hr2 ha2 b2
          go_wp2
          go_ret
          exact ⟨rfl, B2.out⟩
        · have q2d : decide (15 < x) = false := decide_eq_false q2
          have HE2 := hide (show ∀ z ∈ l.take (j + 1), 0 ≤ z ∧ z ≤ 15 from fun z hz => by
            rw [HTK.out] at hz
            rcases List.mem_append.1 hz with e | e
            · exact HE.out z e
            · rw [List.mem_singleton.1 e]; omega)
          clear q1 q2
          go_wp2
          go_round
          case rel => exact ⟨j + 1, hlt, by go_num, HE2⟩
          case measure => exact meas_oneW j n hlt
    · have hje : j = n := by omega
      subst hje
      have HV := hide (show ∀ x ∈ l, 0 ≤ x ∧ x ≤ 15 by have h := HE.out; rw [List.take_of_length_le (by rw [HN.out]; exact Nat.le_refl _)] at h; exact h)
      clear HE hlt hj
      go_wp2_with fail
      refine (HF.out _ HA.out).mono ?_
      rintro e w1 ⟨a1, c1, rs, rfl, hr, ha1, _, b1⟩
      have HLR := hide (show rs.length ≤ j by have h1 := hr.length; rw [HN.out] at h1; exact h1)
      have HBK := hide (back_un hr HV.out)
      rw [HN.out] at HBK
      have HA1 := hide (HA.out.belowB b1 (Nat.le_refl _))
      have HX1 := hide ha1
      have B1 := hide b1
      have HU := hide (unfold7_any rs a1 c1 (j : Int) w1 ha1 (by have := HLR.out; omega) (by omega) (by omega))
      unfold UnPost at HU
      rw [HBK.out.1, HBK.out.2] at HU
      clear hr ha1 b1
      go_wp2_with fail
      refine HU.out.mono ?_
      rintro e w2 ⟨a2, c2, rfl, ha2, _, b2⟩
      have HA2 := hide (HA1.out.belowB b2 (Nat.le_refl _))
      have HX2 := hide ha2
      have B2 := hide (B1.out.trans (b2.mono B1.out.size))
      clear ha2 b2
      go_wp2_with fail
      refine (rawake_any _).mono ?_
      rintro e w3 ⟨rfl, b3⟩
      have HA3 := hide (HA2.out.belowB b3 (Nat.le_refl _))
      have HX3 := hide (HX2.out.belowB b3 (Nat.le_refl _))
      have B3 := hide (B2.out.trans (b3.mono B2.out.size))
      clear b3
      have HSM := hide (same7_any l j a a2 cap c2 w3 HN.out HA3.out HX3.out (by omega))
      have hlr := HLR.out
      rw [HN.out]
      generalize rs.length = k at *
      have zk : (k : Int) ≤ j := by omega
      clear hlr
      go_wp2_with fail
      refine HSM.out.mono ?_
      rintro e w4 ⟨rfl, b4⟩
      have B4 := hide (B3.out.trans (b4.mono B3.out.size))
      clear b4
      go_wp2
      go_ret
      exact ⟨rfl, B4.out⟩

theorem runsBack_walk {H : Type} {enc : TypeId × Value → H} {d : DataW H} {p : List MemPlace} {base : Nat} (W : World) (v : Value) (hv : Value.okWide Try.prog W .any base 22 v) (h : DataW.Trod enc Try.prog W 0 (fun _ => true) true 22 v d p) :
    Calls Try.prog 5 #[v] W fun e w' => e = .returned (.bool true) ∧ Below W.heap.size W w' := by
  obtain ⟨a, cap, l, rfl, harg, _, _⟩ := open_argZ hv h
  by_cases hl : 600 < l.length
  · exact rback_big _ a cap W hl
  · exact rback_small l a cap W harg (by omega) (open_capZ h)

end Go.Proofs.Ytdaflfkknlhllaa
