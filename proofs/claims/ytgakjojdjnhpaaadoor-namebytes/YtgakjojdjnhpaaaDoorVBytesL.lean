/- NameBytes, the walk: what bytes a name has. -/
import Derived.Test.YtgakjojdjnhpaaaDoorNSpec
import Derived.Test.YtgakjojdjnhpaaaDoorVRef
namespace Go.Proofs.YtgakjojdjnhpaaaDoor
open Go.RowKit Go.Lib

theorem right_all {l : List UInt8} (h : rightN l = true) : 1 ≤ l.length ∧ l.length ≤ 64 ∧ (∀ b ∈ l, ¬ b.toNat < 32 ∧ b.toNat ≠ 127 ∧ b.toNat ≠ 58 ∧ b.toNat ≠ 92) ∧
    ∀ i b, l[i]? = some b → b.toNat = 47 → i ≠ 0 ∧ i + 1 < l.length ∧ ∀ c, l[i + 1]? = some c → c.toNat ≠ 47 := by
  obtain ⟨a1, a2, a3⟩ := (right_iff l).1 h
  obtain ⟨c1, c2, _⟩ := (text_iff l 64).1 a2
  refine ⟨by cases l with | nil => exact absurd rfl a1 | cons _ _ => simp, c2, fun b hb => ?_, fun i b hi hb => ?_⟩
  · have h1 := c1 b hb
    have h2 := parts_bytes l [] a3 b hb
    have h3 : ¬ (b.toNat < 32 ∨ b.toNat = 127) := fun e => by rw [(badB_iff b).2 e] at h1; cases h1
    omega
  · obtain ⟨h1, h2, h3⟩ := name_bytes l [] a3 i b hi hb
    exact ⟨fun e => h1 e rfl, h2, h3⟩

set_option maxRecDepth 20000 in
set_option maxHeartbeats 8000000 in
theorem bytes_law (C : NSpec) (D : NSpecA) (W : World) (hT : Tabs W) (s : ByteArray) (_ws : s.size ≤ maxLen) :
    Calls Tryd.prog 5 #[.string s] W fun e w' => e = .returned (.bool true) ∧ Below W.heap.size W w' := by
  have HC := hide C
  have HT := hide hT
  have HA := hide (awake12_any C D)
  obtain ⟨n, hn⟩ : ∃ n, s.size = n := ⟨_, rfl⟩
  have HN := hide hn
  have zn : ((s.size : Nat) : Int) = (n : Int) := by omega
  clear hn _ws hT C D
  by_cases hl : 2000 < n
  · have zl : decide ((2000 : Int) < n) = true := decide_eq_true (by omega)
    go_enter Tryd.func5, Tryd.ntmps5
    go_wp2_with fail
    refine (HA.out _ HT.out).mono ?_
    rintro e w1 ⟨rfl, b1⟩
    have B1 := hide b1
    clear b1
    go_wp2
    go_ret
    exact ⟨rfl, B1.out⟩
  · have zl : decide ((2000 : Int) < n) = false := decide_eq_false (by omega)
    have HS := hide (show s.size ≤ 3000 by rw [HN.out]; omega)
    have HR := hide (HC.out.right s W HT.out HS.out)
    cases hr : rightN s.data.toList with
    | false =>
      rw [hr] at HR
      clear hr
      go_enter Tryd.func5, Tryd.ntmps5
      go_wp2_with fail
      refine HR.out.mono ?_
      rintro e w0 ⟨rfl, b⟩
      have B0 := hide b
      clear b
      go_wp2_with fail
      refine (HA.out _ (HT.out.from B0.out)).mono ?_
      rintro e w1 ⟨rfl, b⟩
      have B1 := hide (B0.out.trans (b.mono B0.out.size))
      clear b
      go_wp2
      go_ret
      exact ⟨rfl, B1.out⟩
    | true =>
      rw [hr] at HR
      have HALL := hide (right_all hr)
      have HIX := hide (fun i (h : i < s.size) => str_index s i h)
      have HBA := hide (fun i x (h : s.data.toList[i]? = some x) => bAt_at h)
      have HLL := hide ((size_list s).trans HN.out)
      rw [HLL.out] at HALL
      obtain ⟨l, hl⟩ : ∃ l, s.data.toList = l := ⟨_, rfl⟩
      rw [hl] at HALL HBA HLL
      clear hr hl
      go_enter Tryd.func5, Tryd.ntmps5
      go_wp2_with fail
      refine HR.out.mono ?_
      rintro e w0 ⟨rfl, b⟩
      have B0 := hide b
      clear b HR
      go_wp2
      go_loop [3] (fun c => ∃ j : Nat, j ≤ n ∧ c = .int .i64 (j : Nat)) (fun c => n - (RowKit.intOf c).toNat)
      case atStart => exact ⟨0, Nat.zero_le _, rfl⟩
      case round =>
        obtain ⟨j, hj, rfl⟩ := hrel
        by_cases hlt : j < n
        · obtain ⟨X, hX⟩ : ∃ r, l[j]? = some r := ⟨_, List.getElem?_eq_getElem (by rw [HLL.out]; exact hlt)⟩
          have zj : (j : Int) < n := by omega
          have hix := HIX.out j (by rw [HN.out]; exact hlt)
          have hx := HBA.out j X hX
          have h4 := HALL.out.2.2.1 X (List.mem_of_getElem? hX)
          have h5 := HALL.out.2.2.2 j X hX
          obtain ⟨x, hxx⟩ : ∃ x, X.toNat = x := ⟨_, rfl⟩
          rw [hx, hxx] at hix
          rw [hxx] at h4 h5
          have hx256 : x < 256 := by rw [← hxx]; exact X.toNat_lt
          have zx : (x : Int) ≤ 255 := by omega
          have d1 : decide ((x : Int) < 32) = false := decide_eq_false (by omega)
          have d2 : ((x : Int) == 127) = false := by simp; omega
          have d3 : ((x : Int) == 58) = false := by simp; omega
          have d4 : ((x : Int) == 92) = false := by simp; omega
          clear hX hx hxx h4
          by_cases h47 : x = 47
          · obtain ⟨k1, k2, k3⟩ := h5 h47
            obtain ⟨Y, hY⟩ : ∃ r, l[j + 1]? = some r := ⟨_, List.getElem?_eq_getElem (by rw [HLL.out]; exact k2)⟩
            have hiy := HIX.out (j + 1) (by rw [HN.out]; exact k2)
            have hy := HBA.out (j + 1) Y hY
            have k4 := k3 Y hY
            obtain ⟨y, hyy⟩ : ∃ y, Y.toNat = y := ⟨_, rfl⟩
            rw [hy, hyy] at hiy
            rw [hyy] at k4
            have hy256 : y < 256 := by rw [← hyy]; exact Y.toNat_lt
            have zy : (y : Int) ≤ 255 := by omega
            have e1 : ((y : Int) == 47) = false := by simp; omega
            have e2 : ((j : Int) == 0) = false := by simp; omega
            have e3 : ((j : Int) == (n : Int) - 1) = false := by simp; omega
            have hiy2 : ∀ w, (Instr.index 9 (.string s) (.int .i64 ((j : Int) + 1))).run Tryd.prog w = .ok (.int .u8 (y : Nat)) w := hiy
            have zj1 : (j : Int) + 1 < n := by omega
            clear hY hy hyy k3 k4 h5 hiy
            subst h47
            clear d1 d2 d3 d4
            go_wp2
            go_round
            case rel => exact ⟨j + 1, hlt, by go_num⟩
            case measure => exact meas_oneV j n hlt
          · have d5 : ((x : Int) == 47) = false := by simp; omega
            clear h5
            go_wp2
            go_round
            case rel => exact ⟨j + 1, hlt, by go_num⟩
            case measure => exact meas_oneV j n hlt
        · obtain rfl : j = n := by omega
          have zj : ¬ (j : Int) < (j : Int) := by omega
          have h1 := HALL.out.1
          have h64 := HALL.out.2.1
          have z1 : (1 : Int) ≤ (j : Int) := by omega
          have z2 : (j : Int) ≤ 64 := by omega
          clear HIX HBA
          go_wp2_with fail
          refine (HA.out _ (HT.out.from B0.out)).mono ?_
          rintro e w1 ⟨rfl, b⟩
          have B1 := hide (B0.out.trans (b.mono B0.out.size))
          clear b
          go_wp2
          go_ret
          exact ⟨rfl, B1.out⟩

end Go.Proofs.YtgakjojdjnhpaaaDoor
