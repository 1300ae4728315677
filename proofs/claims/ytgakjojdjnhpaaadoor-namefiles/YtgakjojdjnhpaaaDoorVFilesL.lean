/- NameFiles, the walk: a name without a slash is an archive's file with .zip behind it. -/
import Derived.Test.YtgakjojdjnhpaaaDoorNSpec
import Derived.Test.YtgakjojdjnhpaaaDoorVRef
namespace Go.Proofs.YtgakjojdjnhpaaaDoor
open Go.RowKit Go.Lib

def zipB : ByteArray := ⟨#[46, 122, 105, 112]⟩
def ziB : ByteArray := ⟨#[46, 122, 105]⟩
theorem zip_list (s : ByteArray) : (s ++ zipB).data.toList = s.data.toList ++ zipL := by
  rw [ByteArray.data_append, Array.toList_append]
  rfl
theorem zi_list (s : ByteArray) : (s ++ ziB).data.toList = s.data.toList ++ ziL := by
  rw [ByteArray.data_append, Array.toList_append]
  rfl
def any47 (l : List UInt8) : Bool := l.any (fun b => decide (b.toNat = 47))
theorem any47_snoc (l : List UInt8) (x : UInt8) : any47 (l ++ [x]) = (any47 l || decide (x.toNat = 47)) := by
  unfold any47
  rw [List.any_append, List.any_cons, List.any_nil, Bool.or_false]
theorem any47_no {l : List UInt8} (h : any47 l = false) : ∀ b ∈ l, b.toNat ≠ 47 := by
  intro b hb h47
  unfold any47 at h
  rw [List.any_eq_false] at h
  exact h b hb (decide_eq_true h47)
def short36 (n : Nat) : Bool := decide ((n : Int) ≤ 36)

set_option maxRecDepth 20000 in
set_option maxHeartbeats 8000000 in
theorem files_law (C : NSpec) (D : NSpecA) (W : World) (hT : Tabs W) (s : ByteArray) (_ws : s.size ≤ maxLen) :
    Calls Tryd.prog 6 #[.string s] W fun e w' => e = .returned (.bool true) ∧ Below W.heap.size W w' := by
  have HC := hide C
  have HT := hide hT
  have HA := hide (awake12_any C D)
  obtain ⟨n, hn⟩ : ∃ n, s.size = n := ⟨_, rfl⟩
  have HN := hide hn
  have zn : ((s.size : Nat) : Int) = (n : Int) := by omega
  clear hn _ws hT C D
  by_cases hl : 200 < n
  · have zl : (200 : Int) < n := by omega
    go_enter Tryd.func6, Tryd.ntmps6
    go_wp2_with fail
    refine (HA.out _ HT.out).mono ?_
    rintro e w1 ⟨rfl, b1⟩
    have B1 := hide b1
    clear b1
    go_wp2
    go_ret
    exact ⟨rfl, B1.out⟩
  · have zl : ¬ (200 : Int) < n := by omega
    have hn200 : n ≤ 200 := by omega
    have HS := hide (show s.size ≤ 3000 by rw [HN.out]; omega)
    have HS2 := hide (show (s ++ zipB).size ≤ 3000 by rw [ByteArray.size_append, HN.out]; show n + 4 ≤ 3000; omega)
    have HS3 := hide (show (s ++ ziB).size ≤ 3000 by rw [ByteArray.size_append, HN.out]; show n + 3 ≤ 3000; omega)
    have HR := hide (fun w (h : Tabs w) => HC.out.right s w h HS.out)
    have HF2 := hide (fun w (h : Tabs w) => HC.out.file (s ++ zipB) w h HS2.out)
    have HF3 := hide (fun w (h : Tabs w) => HC.out.file (s ++ ziB) w h HS3.out)
    rw [zip_list] at HF2
    rw [zi_list, file_zi] at HF3
    have HIX := hide (fun i (h : i < s.size) => str_index s i h)
    have HBA := hide (fun i x (h : s.data.toList[i]? = some x) => bAt_at h)
    have HLL := hide ((size_list s).trans HN.out)
    have HZ := hide (fun h1 h2 => file_zip (s := s.data.toList) h1 h2)
    rw [HLL.out] at HZ
    have q1 : (9223372036854775807 < s.size + zipB.size) = False := eq_false (by rw [HN.out]; show ¬ 9223372036854775807 < n + 4; omega)
    have q2 : (9223372036854775807 < s.size + ziB.size) = False := eq_false (by rw [HN.out]; show ¬ 9223372036854775807 < n + 3; omega)
    have q3 : (9223372036854775807 < s.size + 4) = False := eq_false (by rw [HN.out]; omega)
    have q4 : (9223372036854775807 < s.size + 3) = False := eq_false (by rw [HN.out]; omega)
    obtain ⟨l, hl2⟩ : ∃ l, s.data.toList = l := ⟨_, rfl⟩
    rw [hl2] at HR HF2 HBA HLL HZ
    obtain ⟨R, hR⟩ : ∃ r, rightN l = r := ⟨_, rfl⟩
    obtain ⟨F, hF⟩ : ∃ r, fileN (l ++ zipL) = r := ⟨_, rfl⟩
    simp only [hR] at HR HZ
    simp only [hF] at HF2 HZ
    obtain ⟨c, hc⟩ : ∃ c, decide ((n : Int) ≤ 36) = c := ⟨_, rfl⟩
    have HCU := hide (show decide (n ≤ 36) = c by rw [← hc]; exact decide_eq_decide.2 (by omega))
    clear hl2 hR hF hl
    go_enter Tryd.func6, Tryd.ntmps6
    go_wp2
    go_loop [3, 4] (fun bv c => ∃ (j : Nat) (q : Bool), j ≤ n ∧ c = .int .i64 (j : Nat) ∧ bv = .bool q ∧ Hid (any47 (l.take j) = q)) (fun _ c => n - (RowKit.intOf c).toNat)
    case atStart => exact ⟨0, false, Nat.zero_le _, rfl, rfl, hide (by rw [List.take_zero]; rfl)⟩
    case round =>
      obtain ⟨j, q, hj, rfl, rfl, HQ⟩ := hrel
      by_cases hlt : j < n
      · obtain ⟨X, hX⟩ : ∃ r, l[j]? = some r := ⟨_, List.getElem?_eq_getElem (by rw [HLL.out]; exact hlt)⟩
        have zj : (j : Int) < n := by omega
        have hix := HIX.out j (by rw [HN.out]; exact hlt)
        have hx := HBA.out j X hX
        have HTK := hide (show any47 (l.take (j + 1)) = (q || decide (X.toNat = 47)) by rw [take_snocB l j X hX, any47_snoc, HQ.out])
        obtain ⟨x, hxx⟩ : ∃ x, X.toNat = x := ⟨_, rfl⟩
        rw [hx, hxx] at hix
        rw [hxx] at HTK
        have hx256 : x < 256 := by rw [← hxx]; exact X.toNat_lt
        have zx : (x : Int) ≤ 255 := by omega
        clear hX hx hxx HR HF2 HF3 HZ HCU hc
        cases q with
        | true =>
          have HGO := hide (show any47 (l.take (j + 1)) = true by rw [HTK.out, Bool.true_or])
          clear HTK
          go_wp2
          go_round
          case rel => exact ⟨j + 1, true, hlt, by go_num, rfl, HGO⟩
          case measure => exact meas_oneV j n hlt
        | false =>
          by_cases h47 : x = 47
          · have HGO := hide (show any47 (l.take (j + 1)) = true by rw [HTK.out, decide_eq_true h47, Bool.or_true])
            clear HTK
            subst h47
            go_wp2
            go_round
            case rel => exact ⟨j + 1, true, hlt, by go_num, rfl, HGO⟩
            case measure => exact meas_oneV j n hlt
          · have d1 : ((x : Int) == 47) = false := by simp; omega
            have HGO := hide (show any47 (l.take (j + 1)) = false by rw [HTK.out, decide_eq_false h47]; rfl)
            clear HTK
            go_wp2
            go_round
            case rel => exact ⟨j + 1, false, hlt, by go_num, rfl, HGO⟩
            case measure => exact meas_oneV j n hlt
      · obtain rfl : j = n := by omega
        have zj : ¬ (j : Int) < (j : Int) := by omega
        have HQ2 := hide (show any47 l = q by rw [← HQ.out, List.take_of_length_le (by rw [HLL.out]; exact Nat.le_refl _)])
        clear HIX HBA HQ
        cases R with
        | false =>
          clear HZ HF2 HF3
          go_wp2_with fail
          refine (HR.out _ HT.out).mono ?_
          rintro e w0 ⟨rfl, b⟩
          have B0 := hide b
          clear b
          go_wp2_with fail
          refine (HA.out _ (HT.out.from B0.out)).mono ?_
          rintro e w1 ⟨rfl, b⟩
          have B1 := hide (B0.out.trans (b.mono B0.out.size))
          clear b
          go_wp2
          go_ret
          exact ⟨rfl, B1.out⟩
        | true =>
          cases q with
          | true =>
            clear HZ HF2 HF3
            go_wp2_with fail
            refine (HR.out _ HT.out).mono ?_
            rintro e w0 ⟨rfl, b⟩
            have B0 := hide b
            clear b
            go_wp2_with fail
            refine (HA.out _ (HT.out.from B0.out)).mono ?_
            rintro e w1 ⟨rfl, b⟩
            have B1 := hide (B0.out.trans (b.mono B0.out.size))
            clear b
            go_wp2
            go_ret
            exact ⟨rfl, B1.out⟩
          | false =>
            have hF := (HZ.out rfl (any47_no HQ2.out)).trans HCU.out
            subst hF
            clear HZ HCU
            cases F
            all_goals (
              go_wp2_with fail
              refine (HR.out _ HT.out).mono ?_
              rintro e w0 ⟨rfl, b⟩
              have B0 := hide b
              clear b
              go_wp2_with fail
              refine (HA.out _ (HT.out.from B0.out)).mono ?_
              rintro e w1 ⟨rfl, b⟩
              have B1 := hide (B0.out.trans (b.mono B0.out.size))
              clear b
              go_wp2_with fail
              refine (HF2.out _ (HT.out.from B1.out)).mono ?_
              rintro e w2 ⟨rfl, b⟩
              have B2 := hide (B1.out.trans (b.mono B1.out.size))
              clear b
              go_wp2_with fail
              refine (HF3.out _ (HT.out.from B2.out)).mono ?_
              rintro e w3 ⟨rfl, b⟩
              have B3 := hide (B2.out.trans (b.mono B2.out.size))
              clear b
              go_wp2
              go_ret
              exact ⟨rfl, B3.out⟩)

end Go.Proofs.YtgakjojdjnhpaaaDoor
