/- NameParts, the walk: two names with a slash between are a name, as long as they aren't too long. -/
import Derived.Test.YtgakjojdjnhpaaaDoorNSpec
namespace Go.Proofs.YtgakjojdjnhpaaaDoor
open Go.RowKit Go.Lib

def slashB : ByteArray := ⟨#[47]⟩
theorem two_list (a b : ByteArray) : (a ++ slashB ++ b).data.toList = a.data.toList ++ [47] ++ b.data.toList := by
  rw [ByteArray.data_append, Array.toList_append, ByteArray.data_append, Array.toList_append]
  rfl
theorem sizeL (s : ByteArray) : s.data.toList.length = s.size := by rw [Array.length_toList]; rfl
def cut (n m : Nat) : Bool := decide ((n : Int) + (m : Int) < 64)

set_option maxRecDepth 20000 in
set_option maxHeartbeats 8000000 in
theorem parts_law (C : NSpec) (D : NSpecA) (W : World) (hT : Tabs W) (a : ByteArray) (_wa : a.size ≤ maxLen) (b : ByteArray) (_wb : b.size ≤ maxLen) :
    Calls Tryd.prog 4 #[.string a, .string b] W fun e w' => e = .returned (.bool true) ∧ Below W.heap.size W w' := by
  have HC := hide C
  have HT := hide hT
  have HA := hide (awake12_any C D)
  obtain ⟨n, hn⟩ : ∃ n, a.size = n := ⟨_, rfl⟩
  obtain ⟨m, hm⟩ : ∃ m, b.size = m := ⟨_, rfl⟩
  have HN := hide hn
  have HM := hide hm
  have zn : ((a.size : Nat) : Int) = (n : Int) := by omega
  have zm : ((b.size : Nat) : Int) = (m : Int) := by omega
  clear hn hm _wa _wb hT C D
  by_cases hl : 100 < n
  · have zl : decide ((100 : Int) < n) = true := decide_eq_true (by omega)
    go_enter Tryd.func4, Tryd.ntmps4
    go_wp2_with fail
    refine (HA.out _ HT.out).mono ?_
    rintro e w1 ⟨rfl, b1⟩
    have B1 := hide b1
    clear b1
    go_wp2
    go_ret
    exact ⟨rfl, B1.out⟩
  have zl : decide ((100 : Int) < n) = false := decide_eq_false (by omega)
  by_cases hl2 : 100 < m
  · have zl2 : decide ((100 : Int) < m) = true := decide_eq_true (by omega)
    go_enter Tryd.func4, Tryd.ntmps4
    go_wp2_with fail
    refine (HA.out _ HT.out).mono ?_
    rintro e w1 ⟨rfl, b1⟩
    have B1 := hide b1
    clear b1
    go_wp2
    go_ret
    exact ⟨rfl, B1.out⟩
  have zl2 : decide ((100 : Int) < m) = false := decide_eq_false (by omega)
  have HS := hide (show a.size ≤ 3000 by rw [HN.out]; omega)
  have HS2 := hide (show b.size ≤ 3000 by rw [HM.out]; omega)
  have HS3 := hide (show (a ++ slashB ++ b).size ≤ 3000 by rw [ByteArray.size_append, ByteArray.size_append, HN.out, HM.out]; show n + 1 + m ≤ 3000; omega)
  have HR := hide (fun w (h : Tabs w) => HC.out.right a w h HS.out)
  have HR2 := hide (fun w (h : Tabs w) => HC.out.right b w h HS2.out)
  have HR3 := hide (fun w (h : Tabs w) => HC.out.right (a ++ slashB ++ b) w h HS3.out)
  have HF := hide (fun w (h : Tabs w) => HC.out.file a w h HS.out)
  have HO := hide (fun w (h : Tabs w) => HC.out.note a w h HS.out)
  rw [two_list] at HR3
  have HTWO := hide (fun (h1 : rightN a.data.toList = true) (h2 : rightN b.data.toList = true) => show rightN (a.data.toList ++ [47] ++ b.data.toList) = cut n m by
    rw [right_two h1 h2, sizeL, sizeL, HN.out, HM.out]
    unfold cut
    exact decide_eq_decide.2 (by omega))
  have HNO := hide (fun (h1 : rightN a.data.toList = true) => note_of h1)
  have HFI := hide (fun (h1 : fileN a.data.toList = true) => right_of_file h1)
  have q1 : (9223372036854775807 < a.size + slashB.size) = False := eq_false (by rw [HN.out]; show ¬ 9223372036854775807 < n + 1; omega)
  have q2 : (9223372036854775807 < a.size + slashB.size + b.size) = False := eq_false (by rw [HN.out, HM.out]; show ¬ 9223372036854775807 < n + 1 + m; omega)
  have q3 : (9223372036854775807 < a.size + 1) = False := eq_false (by rw [HN.out]; omega)
  have q4 : (9223372036854775807 < a.size + 1 + b.size) = False := eq_false (by rw [HN.out, HM.out]; omega)
  have q5 : (9223372036854775807 < (a ++ slashB).size + b.size) = False := eq_false (by rw [ByteArray.size_append, HN.out, HM.out]; show ¬ 9223372036854775807 < n + 1 + m; omega)
  have q6 : (9223372036854775807 < (a ++ ⟨#[47]⟩ : ByteArray).size + b.size) = False := q5
  obtain ⟨R1, hr1⟩ : ∃ r, rightN a.data.toList = r := ⟨_, rfl⟩
  obtain ⟨R2, hr2⟩ : ∃ r, rightN b.data.toList = r := ⟨_, rfl⟩
  obtain ⟨F1, hf1⟩ : ∃ r, fileN a.data.toList = r := ⟨_, rfl⟩
  obtain ⟨O1, ho1⟩ : ∃ r, noteN a.data.toList = r := ⟨_, rfl⟩
  obtain ⟨R3, hr3⟩ : ∃ r, rightN (a.data.toList ++ [47] ++ b.data.toList) = r := ⟨_, rfl⟩
  rw [hr1] at HR HTWO HNO HFI
  rw [hr2] at HR2 HTWO
  rw [hr3] at HR3 HTWO
  rw [hf1] at HF HFI
  rw [ho1] at HO HNO
  have ew1 : wrap64 ((n : Int) + (m : Int)) = (n : Int) + (m : Int) := by unfold wrap64; omega
  have hn9 : n ≤ 100 := by omega
  have hm9 : m ≤ 100 := by omega
  obtain ⟨c, hc⟩ : ∃ c, decide ((n : Int) + (m : Int) < 64) = c := ⟨_, rfl⟩
  have HCU := hide (show cut n m = c from hc)
  clear hr1 hr2 hr3 hf1 ho1 hl hl2
  cases R1 with
  | false =>
    have hf : F1 = false := by
      cases F1 with
      | false => rfl
      | true => exact absurd (HFI.out rfl) (by decide)
    subst hf
    clear HTWO HNO HFI
    go_enter Tryd.func4, Tryd.ntmps4
    go_wp2_with fail
    refine (HR.out _ HT.out).mono ?_
    rintro e w1 ⟨rfl, b⟩
    have B1 := hide b
    clear b
    go_wp2_with fail
    refine (HA.out _ (HT.out.from B1.out)).mono ?_
    rintro e w2 ⟨rfl, b⟩
    have B2 := hide (B1.out.trans (b.mono B1.out.size))
    clear b
    go_wp2_with fail
    refine (HF.out _ (HT.out.from B2.out)).mono ?_
    rintro e w3 ⟨rfl, b⟩
    have B3 := hide (B2.out.trans (b.mono B2.out.size))
    clear b
    go_wp2_with fail
    refine (HR.out _ (HT.out.from B3.out)).mono ?_
    rintro e w4 ⟨rfl, b⟩
    have B4 := hide (B3.out.trans (b.mono B3.out.size))
    clear b
    go_wp2
    go_ret
    exact ⟨rfl, B4.out⟩
  | true =>
    have ho := HNO.out rfl
    subst ho
    clear HNO HFI
    cases R2 with
    | false =>
      clear HTWO
      go_enter Tryd.func4, Tryd.ntmps4
      go_wp2_with fail
      refine (HR.out _ HT.out).mono ?_
      rintro e w1 ⟨rfl, b⟩
      have B1 := hide b
      clear b
      go_wp2_with fail
      refine (HR2.out _ (HT.out.from B1.out)).mono ?_
      rintro e w1b ⟨rfl, b⟩
      have B1b := hide (B1.out.trans (b.mono B1.out.size))
      clear b
      go_wp2_with fail
      refine (HA.out _ (HT.out.from B1b.out)).mono ?_
      rintro e w2 ⟨rfl, b⟩
      have B2 := hide (B1b.out.trans (b.mono B1b.out.size))
      clear b
      go_wp2_with fail
      refine (HF.out _ (HT.out.from B2.out)).mono ?_
      rintro e w3 ⟨rfl, b⟩
      have B3 := hide (B2.out.trans (b.mono B2.out.size))
      clear b
      cases F1 with
      | true =>
        go_wp2_with fail
        refine (HR.out _ (HT.out.from B3.out)).mono ?_
        rintro e w4 ⟨rfl, b⟩
        have B4 := hide (B3.out.trans (b.mono B3.out.size))
        clear b
        go_wp2_with fail
        refine (HR.out _ (HT.out.from B4.out)).mono ?_
        rintro e w5 ⟨rfl, b⟩
        have B5 := hide (B4.out.trans (b.mono B4.out.size))
        clear b
        go_wp2_with fail
        refine (HO.out _ (HT.out.from B5.out)).mono ?_
        rintro e w6 ⟨rfl, b⟩
        have B6 := hide (B5.out.trans (b.mono B5.out.size))
        clear b
        go_wp2
        go_ret
        exact ⟨rfl, B6.out⟩
      | false =>
        go_wp2_with fail
        refine (HR.out _ (HT.out.from B3.out)).mono ?_
        rintro e w5 ⟨rfl, b⟩
        have B5 := hide (B3.out.trans (b.mono B3.out.size))
        clear b
        go_wp2_with fail
        refine (HO.out _ (HT.out.from B5.out)).mono ?_
        rintro e w6 ⟨rfl, b⟩
        have B6 := hide (B5.out.trans (b.mono B5.out.size))
        clear b
        go_wp2
        go_ret
        exact ⟨rfl, B6.out⟩
    | true =>
      have h3 := (HTWO.out rfl rfl).trans HCU.out
      subst h3
      clear HTWO HCU
      cases R3
      all_goals (
        go_enter Tryd.func4, Tryd.ntmps4
        go_wp2_with fail
        refine (HR.out _ HT.out).mono ?_
        rintro e w1 ⟨rfl, b⟩
        have B1 := hide b
        clear b
        go_wp2_with fail
        refine (HR2.out _ (HT.out.from B1.out)).mono ?_
        rintro e w1b ⟨rfl, b⟩
        have B1b := hide (B1.out.trans (b.mono B1.out.size))
        clear b
        go_wp2_with fail
        refine (HA.out _ (HT.out.from B1b.out)).mono ?_
        rintro e w2a ⟨rfl, b⟩
        have B2a := hide (B1b.out.trans (b.mono B1b.out.size))
        clear b
        go_wp2_with fail
        refine (HR3.out _ (HT.out.from B2a.out)).mono ?_
        rintro e w2 ⟨rfl, b⟩
        have B2 := hide (B2a.out.trans (b.mono B2a.out.size))
        clear b
        go_wp2_with fail
        refine (HF.out _ (HT.out.from B2.out)).mono ?_
        rintro e w3 ⟨rfl, b⟩
        have B3 := hide (B2.out.trans (b.mono B2.out.size))
        clear b
        cases F1 with
        | true =>
          go_wp2_with fail
          refine (HR.out _ (HT.out.from B3.out)).mono ?_
          rintro e w4 ⟨rfl, b⟩
          have B4 := hide (B3.out.trans (b.mono B3.out.size))
          clear b
          go_wp2_with fail
          refine (HR.out _ (HT.out.from B4.out)).mono ?_
          rintro e w5 ⟨rfl, b⟩
          have B5 := hide (B4.out.trans (b.mono B4.out.size))
          clear b
          go_wp2_with fail
          refine (HO.out _ (HT.out.from B5.out)).mono ?_
          rintro e w6 ⟨rfl, b⟩
          have B6 := hide (B5.out.trans (b.mono B5.out.size))
          clear b
          go_wp2
          go_ret
          exact ⟨rfl, B6.out⟩
        | false =>
          go_wp2_with fail
          refine (HR.out _ (HT.out.from B3.out)).mono ?_
          rintro e w5 ⟨rfl, b⟩
          have B5 := hide (B3.out.trans (b.mono B3.out.size))
          clear b
          go_wp2_with fail
          refine (HO.out _ (HT.out.from B5.out)).mono ?_
          rintro e w6 ⟨rfl, b⟩
          have B6 := hide (B5.out.trans (b.mono B5.out.size))
          clear b
          go_wp2
          go_ret
          exact ⟨rfl, B6.out⟩)

end Go.Proofs.YtgakjojdjnhpaaaDoor
