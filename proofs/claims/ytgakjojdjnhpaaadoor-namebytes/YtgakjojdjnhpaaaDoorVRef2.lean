/- Contracts of the document's layer 12: Right. -/
import Derived.Test.YtgakjojdjnhpaaaDoorVRef
import Derived.Laws.Tables
namespace Go.Proofs.YtgakjojdjnhpaaaDoor
open Go.RowKit Go.Lib

/-- A text of one byte. -/
def oneB (x : UInt8) : ByteArray := ⟨#[x]⟩
theorem one_slice (s : ByteArray) (i : Nat) (X : UInt8) (h : s.data.toList[i]? = some X) (w : World) : (Instr.slice 9 (.string s) (some (.int .i64 (i : Nat))) (some (.int .i64 ((i : Int) + 1))) none).run Tryd.prog w = .ok (.string (oneB X)) w := by
  have hlt : i < s.size := by rw [← size_list]; exact (List.getElem?_eq_some_iff.1 h).1
  rw [run_slice_string (P := Tryd.prog) w 9 s .i64 .i64 (i : Int) ((i : Int) + 1) Tryd.underlying9 (by omega) (by omega) (by omega)]
  have e : s.extract i (i + 1) = oneB X := by
    apply ByteArray.ext
    apply Array.toList_inj.1
    rw [ByteArray.data_extract, Array.toList_extract, List.extract_eq_take_drop, show i + 1 - i = 1 by omega]
    obtain ⟨hh, he⟩ := List.getElem?_eq_some_iff.1 h
    rw [List.drop_eq_getElem_cons hh, he]
    rfl
  rw [Int.toNat_natCast, show ((i : Int) + 1).toNat = i + 1 by omega, e]
theorem empty_iff (s : ByteArray) : s.toList.isEmpty = decide (s.data.toList = []) := by
  rw [ByteArray.toList_eq]
  cases s.data.toList <;> rfl
theorem app_one (s : ByteArray) (x : UInt8) : (s ++ oneB x).data.toList = s.data.toList ++ [x] := by
  rw [ByteArray.data_append, Array.toList_append]
  rfl
theorem beq_list (s : ByteArray) (l : List UInt8) : (s.toList == l) = decide (s.data.toList = l) := by
  rw [ByteArray.toList_eq]
  by_cases h : s.data.toList = l
  · rw [decide_eq_true h, h]; exact beq_self_eq_true l
  · rw [decide_eq_false h]; exact beq_eq_false_iff_ne.2 h
theorem okPart_ok {p : List UInt8} : okPart p = true ↔ p ≠ [] ∧ p ≠ [46] ∧ p ≠ [46, 46] := by
  unfold okPart
  simp only [Bool.not_eq_true', Bool.or_eq_false_iff, decide_eq_false_iff_not]
theorem parts_end (p l : List UInt8) (i : Nat) (h : l.length ≤ i) : partsN p (l.drop i) = okPart p := by
  rw [List.drop_of_length_le h]
  rfl
theorem parts_step (p l : List UInt8) (i : Nat) (X : UInt8) (h : l[i]? = some X) : partsN p (l.drop i) = if X.toNat = 47 then okPart p && partsN [] (l.drop (i + 1)) else if X.toNat = 92 ∨ X.toNat = 58 then false else partsN (p ++ [X]) (l.drop (i + 1)) := by
  obtain ⟨hh, he⟩ := List.getElem?_eq_some_iff.1 h
  rw [List.drop_eq_getElem_cons hh, he]
  rfl

set_option maxRecDepth 20000 in
set_option maxHeartbeats 8000000 in
theorem qright12 (s : ByteArray) (W : World) (hT : Tabs W) (hs : s.size ≤ 1000000) :
    Calls Tryd.prog 9 #[.string s] W fun e w' => e = .returned (.bool (rightN s.data.toList)) ∧ Below W.heap.size W w' := by
  have HTX := hide (show Calls Tryd.prog 18 #[.string s, .int .i64 64] W fun e w' => e = .returned (.bool (textN s.data.toList 64)) ∧ Below W.heap.size W w' from qtext12 s 64 W hT hs (by decide))
  have hes := empty_iff s
  by_cases he : s.data.toList = []
  · rw [decide_eq_true he] at hes
    have HF := hide (show rightN s.data.toList = false by rw [he]; rfl)
    rw [HF.out]
    clear HTX he hT hs
    go_enter Tryd.func9, Tryd.ntmps9
    go_wp2
    go_ret
    exact ⟨rfl, Below.refl _ _⟩
  · rw [decide_eq_false he] at hes
    have hr : rightN s.data.toList = (textN s.data.toList 64 && partsN [] s.data.toList) := by unfold rightN; rw [decide_eq_true he, Bool.true_and]
    have HIX := hide (fun i (h : i < s.size) => str_index s i h)
    have HBA := hide (fun i x (h : s.data.toList[i]? = some x) => bAt_at h)
    have HSL := hide (fun i x (h : s.data.toList[i]? = some x) => one_slice s i x h)
    obtain ⟨n, hn⟩ : ∃ n, s.size = n := ⟨_, rfl⟩
    have zn : ((s.size : Nat) : Int) = (n : Int) := by omega
    have HNS := hide hn
    have HLL := hide ((size_list s).trans hn)
    obtain ⟨l, hl⟩ : ∃ l, s.data.toList = l := ⟨_, rfl⟩
    rw [hr]
    rw [hl] at HTX HBA HSL HLL ⊢
    obtain ⟨A, hA⟩ : ∃ A, partsN [] l = A := ⟨_, rfl⟩
    have HA0 := hide (show partsN [] (l.drop 0) = A by rw [List.drop_zero]; exact hA)
    rw [hA]
    rw [hn] at hs
    clear hn hl hA hT hr he
    cases htx : textN l 64 with
    | false =>
      rw [htx] at HTX
      rw [Bool.false_and]
      clear HIX HBA HSL htx HA0
      go_enter Tryd.func9, Tryd.ntmps9
      go_wp2_with fail
      refine HTX.out.mono ?_
      rintro e w1 ⟨rfl, b1⟩
      have B1 := hide b1
      clear b1
      go_wp2
      go_ret
      exact ⟨rfl, B1.out⟩
    | true =>
      rw [htx] at HTX
      rw [Bool.true_and]
      have HN64 := hide (show n ≤ 64 by rw [← HLL.out]; exact ((text_iff l 64).1 htx).2.1)
      clear htx
      go_enter Tryd.func9, Tryd.ntmps9
      go_wp2_with fail
      refine HTX.out.mono ?_
      rintro e w1 ⟨rfl, b1⟩
      have B1 := hide b1
      clear b1 HTX
      go_wp2
      go_loop [3, 4] (fun pv iv => ∃ (j : Nat) (pb : ByteArray), j ≤ n + 1 ∧ iv = .int .i64 (j : Nat) ∧ pv = .string pb ∧ pb.size ≤ j ∧ Hid ((j ≤ n ∧ partsN pb.data.toList (l.drop j) = A) ∨ (j = n + 1 ∧ A = true))) (fun _ iv => n + 1 - (RowKit.intOf iv).toNat)
      case atStart => exact ⟨0, ⟨#[]⟩, Nat.zero_le _, rfl, rfl, Nat.le_refl _, hide (.inl ⟨Nat.zero_le _, HA0.out⟩)⟩
      case round =>
        clear HA0
        obtain ⟨j, pb, hj, rfl, rfl, hpj, HG⟩ := hrel
        have hpj2 : pb.size ≤ 65 := by have := HN64.out; omega
        have HPE := hide (empty_iff pb)
        have HP1 := hide (beq_list pb [46])
        have HP2 := hide (beq_list pb [46, 46])
        have HPA := hide (fun x => app_one pb x)
        have HPS := hide (size_list pb)
        obtain ⟨p, hp⟩ : ∃ p, pb.data.toList = p := ⟨_, rfl⟩
        rw [hp] at HG HPE HP1 HP2 HPS
        simp only [hp] at HPA
        clear hp
        by_cases hjn : j ≤ n
        · have hA := HG.out.resolve_right (fun h => by omega)
          have HA := hide hA.2
          have zjn : (j : Int) ≤ (n : Int) := by omega
          have dj : decide ((j : Int) ≤ (n : Int)) = true := decide_eq_true zjn
          clear hA HG
          by_cases hlt : j < n
          · obtain ⟨X, hX⟩ : ∃ r, l[j]? = some r := ⟨_, List.getElem?_eq_getElem (by rw [HLL.out]; exact hlt)⟩
            have zj : (j : Int) < n := by omega
            have dj2 : decide ((j : Int) < (n : Int)) = true := decide_eq_true zj
            have hix := HIX.out j (by rw [HNS.out]; exact hlt)
            have hx := HBA.out j X hX
            have hsl := HSL.out j X hX
            have HST := hide (parts_step p l j X hX)
            obtain ⟨x, hxx⟩ : ∃ x, X.toNat = x := ⟨_, rfl⟩
            rw [hx, hxx] at hix
            rw [hxx] at HST
            have hx256 : x < 256 := by rw [← hxx]; exact X.toNat_lt
            have zx : (x : Int) ≤ 255 := by omega
            clear hX hx hxx
            by_cases h47 : x = 47
            · subst h47
              have hst := HST.out
              rw [if_pos rfl] at hst
              clear HST hsl
              by_cases p0 : p = []
              · have t0 : pb.toList.isEmpty = true := by rw [HPE.out]; exact decide_eq_true p0
                have okp : okPart p = false := by rw [p0]; decide
                have HF := hide (show A = false by rw [← HA.out, hst, okp, Bool.false_and])
                clear HA HIX HBA HSL HPA HPS
                go_wp2
                go_ret
                rw [HF.out]
                exact ⟨rfl, B1.out⟩
              have t0 : pb.toList.isEmpty = false := by rw [HPE.out]; exact decide_eq_false p0
              by_cases p1 : p = [46]
              · have t1 : (pb.toList == [46]) = true := by rw [HP1.out]; exact decide_eq_true p1
                have okp : okPart p = false := by rw [p1]; decide
                have HF := hide (show A = false by rw [← HA.out, hst, okp, Bool.false_and])
                clear HA HIX HBA HSL HPA HPS
                go_wp2
                go_ret
                rw [HF.out]
                exact ⟨rfl, B1.out⟩
              have t1 : (pb.toList == [46]) = false := by rw [HP1.out]; exact decide_eq_false p1
              by_cases p2 : p = [46, 46]
              · have t2 : (pb.toList == [46, 46]) = true := by rw [HP2.out]; exact decide_eq_true p2
                have okp : okPart p = false := by rw [p2]; decide
                have HF := hide (show A = false by rw [← HA.out, hst, okp, Bool.false_and])
                clear HA HIX HBA HSL HPA HPS
                go_wp2
                go_ret
                rw [HF.out]
                exact ⟨rfl, B1.out⟩
              have t2 : (pb.toList == [46, 46]) = false := by rw [HP2.out]; exact decide_eq_false p2
              have okp : okPart p = true := okPart_ok.2 ⟨p0, p1, p2⟩
              have HGO := hide (show partsN [] (l.drop (j + 1)) = A by rw [← HA.out, hst, okp, Bool.true_and])
              clear HA HIX HBA HSL HPA HPS p0 p1 p2 okp
              go_wp2
              go_round
              case rel => exact ⟨j + 1, ⟨#[]⟩, by omega, by go_num, rfl, Nat.zero_le _, hide (.inl ⟨hlt, HGO.out⟩)⟩
              case measure => exact meas_oneV j (n + 1) (by omega)
            · have d47 : ((x : Int) == 47) = false := by simp; omega
              have hst := HST.out
              rw [if_neg h47] at hst
              clear HST HPE HP1 HP2
              by_cases h92 : x = 92
              · have d92 : ((x : Int) == 92) = true := by simp; omega
                have HF := hide (show A = false by rw [← HA.out, hst, if_pos (.inl h92)])
                clear HA HIX HBA HSL HPA HPS hst
                subst h92
                go_wp2
                go_ret
                rw [HF.out]
                exact ⟨rfl, B1.out⟩
              have d92 : ((x : Int) == 92) = false := by simp; omega
              by_cases h58 : x = 58
              · have d58 : ((x : Int) == 58) = true := by simp; omega
                have HF := hide (show A = false by rw [← HA.out, hst, if_pos (.inr h58)])
                clear HA HIX HBA HSL HPA HPS hst
                subst h58
                go_wp2
                go_ret
                rw [HF.out]
                exact ⟨rfl, B1.out⟩
              have d58 : ((x : Int) == 58) = false := by simp; omega
              have hpa := HPA.out X
              have HGO := hide (show partsN ((pb ++ oneB X).data.toList) (l.drop (j + 1)) = A by rw [hpa, ← HA.out, hst, if_neg (by omega)])
              have HSZ := hide (show (pb ++ oneB X).size = pb.size + 1 by rw [ByteArray.size_append]; rfl)
              have q1 : (9223372036854775807 < pb.size + (oneB X).size) = False := eq_false (by show ¬ 9223372036854775807 < pb.size + 1; omega)
              have hsz1 : (oneB X).size = 1 := rfl
              generalize oneB X = ob at *
              clear HA HIX HBA HSL HPA HPS hst hpa hsz1
              go_wp2
              go_round
              case rel => exact ⟨j + 1, pb ++ ob, by omega, by go_num, rfl, by rw [HSZ.out]; omega, hide (.inl ⟨hlt, HGO.out⟩)⟩
              case measure => exact meas_oneV j (n + 1) (by omega)
          · obtain rfl : j = n := by omega
            have zj : ¬ (j : Int) < (j : Int) := by omega
            have hst := parts_end p l j (by rw [HLL.out]; exact Nat.le_refl _)
            by_cases p0 : p = []
            · have t0 : pb.toList.isEmpty = true := by rw [HPE.out]; exact decide_eq_true p0
              have okp : okPart p = false := by rw [p0]; decide
              have HF := hide (show A = false by rw [← HA.out, hst, okp])
              clear HA HIX HBA HSL HPA HPS
              go_wp2
              go_ret
              rw [HF.out]
              exact ⟨rfl, B1.out⟩
            have t0 : pb.toList.isEmpty = false := by rw [HPE.out]; exact decide_eq_false p0
            by_cases p1 : p = [46]
            · have t1 : (pb.toList == [46]) = true := by rw [HP1.out]; exact decide_eq_true p1
              have okp : okPart p = false := by rw [p1]; decide
              have HF := hide (show A = false by rw [← HA.out, hst, okp])
              clear HA HIX HBA HSL HPA HPS
              go_wp2
              go_ret
              rw [HF.out]
              exact ⟨rfl, B1.out⟩
            have t1 : (pb.toList == [46]) = false := by rw [HP1.out]; exact decide_eq_false p1
            by_cases p2 : p = [46, 46]
            · have t2 : (pb.toList == [46, 46]) = true := by rw [HP2.out]; exact decide_eq_true p2
              have okp : okPart p = false := by rw [p2]; decide
              have HF := hide (show A = false by rw [← HA.out, hst, okp])
              clear HA HIX HBA HSL HPA HPS
              go_wp2
              go_ret
              rw [HF.out]
              exact ⟨rfl, B1.out⟩
            have t2 : (pb.toList == [46, 46]) = false := by rw [HP2.out]; exact decide_eq_false p2
            have okp : okPart p = true := okPart_ok.2 ⟨p0, p1, p2⟩
            have HGO := hide (show A = true by rw [← HA.out, hst, okp])
            clear HA HIX HBA HSL HPA HPS p0 p1 p2 okp
            go_wp2
            go_round
            case rel => exact ⟨j + 1, ⟨#[]⟩, by omega, by go_num, rfl, Nat.zero_le _, hide (.inr ⟨rfl, HGO.out⟩)⟩
            case measure => exact meas_oneV j (j + 1) (by omega)
        · have hje : j = n + 1 := by omega
          have zjn : ¬ (j : Int) ≤ (n : Int) := by omega
          have dj : decide ((j : Int) ≤ (n : Int)) = false := decide_eq_false zjn
          have HF := hide (HG.out.resolve_left (fun h => hjn h.1)).2
          clear HG HIX HBA HSL HPA HPS HPE HP1 HP2
          go_wp2
          go_ret
          rw [HF.out]
          exact ⟨rfl, B1.out⟩

end Go.Proofs.YtgakjojdjnhpaaaDoor
