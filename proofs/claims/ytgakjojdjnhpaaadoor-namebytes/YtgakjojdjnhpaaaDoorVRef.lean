/- Contracts of the document's layer 12. -/
import Derived.Test.YtgakjojdjnhpaaaDoorVUtf
import Derived.Test.YtgakjojdjnhpaaaDoorVMath
import Derived.BigQuiet
namespace Go.Proofs.YtgakjojdjnhpaaaDoor
open Go.RowKit Go.Lib

/-- A text's bytes. -/
def bAt (s : ByteArray) (i : Nat) : Nat := (s.data.toList.getD i 0).toNat
theorem bAt_get (s : ByteArray) (i : Nat) (h : i < s.size) : s[i].toNat = bAt s i := by
  unfold bAt
  have hk : i < s.data.toList.length := by simpa using h
  rw [List.getD_eq_getElem?_getD, List.getElem?_eq_getElem hk]
  rfl
theorem bytes_ne {a b : ByteArray} (h : ¬ a = b) : (a.toList == b.toList) = false := by
  refine beq_eq_false_iff_ne.2 fun e => h ?_
  rw [ByteArray.toList_eq, ByteArray.toList_eq] at e
  exact ByteArray.ext (Array.ext' e)
theorem str_index (s : ByteArray) (i : Nat) (h : i < s.size) (w : World) : (Instr.index 9 (.string s) (.int .i64 (i : Nat))).run Tryd.prog w = .ok (.int .u8 (bAt s i : Nat)) w := by
  have hg := bAt_get s i h
  simp [Instr.index, asIntOf, run_underlying Tryd.underlying9, h, hg]
theorem take_snocB (l : List UInt8) (i : Nat) (x : UInt8) (h : l[i]? = some x) : l.take (i + 1) = l.take i ++ [x] := by
  rw [List.take_add_one, h]
  rfl
theorem size_list (s : ByteArray) : s.data.toList.length = s.size := by rw [Array.length_toList]; rfl
theorem bAt_at {s : ByteArray} {i : Nat} {x : UInt8} (h : s.data.toList[i]? = some x) : bAt s i = x.toNat := by
  unfold bAt
  rw [List.getD_eq_getElem?_getD, h]
  rfl
theorem meas_oneV (i n : Nat) (h : i < n) : n - (RowKit.intOf (.int .i64 ((i : Int) + 1))).toNat < n - (RowKit.intOf (.int .i64 (i : Int))).toNat := by
  simp only [RowKit.intOf]
  omega
theorem badB_iff (x : UInt8) : badB x = true ↔ x.toNat < 32 ∨ x.toNat = 127 := by
  unfold badB
  rw [Bool.or_eq_true, decide_eq_true_eq, decide_eq_true_eq]

set_option maxHeartbeats 4000000 in
theorem qtext12 (s : ByteArray) (most : Nat) (W : World) (hT : Tabs W) (hs : s.size ≤ 1000000) (_hm : most ≤ 1000) :
    Calls Tryd.prog 18 #[.string s, .int .i64 (most : Nat)] W fun e w' => e = .returned (.bool (textN s.data.toList most)) ∧ Below W.heap.size W w' := by
  have HV := hide (valid_any s W (by omega) hT)
  have HIX := hide (fun i (h : i < s.size) => str_index s i h)
  have HBA := hide (fun i x (h : s.data.toList[i]? = some x) => bAt_at h)
  obtain ⟨n, hn⟩ : ∃ n, s.size = n := ⟨_, rfl⟩
  have zn : ((s.size : Nat) : Int) = (n : Int) := by omega
  have HNS := hide hn
  have HLL := hide ((size_list s).trans hn)
  have HGOOD := hide (fun h => text_good (l := s.data.toList) h most)
  have HBAD := hide (fun b (hm : b ∈ s.data.toList) (hb : badB b = true) => text_bad hm hb most)
  rw [HLL.out] at HGOOD
  obtain ⟨l, hl⟩ : ∃ l, s.data.toList = l := ⟨_, rfl⟩
  rw [hl] at HV HBA HLL HGOOD HBAD ⊢
  obtain ⟨A, hA⟩ : ∃ A, textN l most = A := ⟨_, rfl⟩
  simp only [hA] at HGOOD HBAD ⊢
  obtain ⟨V, hV⟩ : ∃ V, validD l = V := ⟨_, rfl⟩
  simp only [hV] at HGOOD HV
  rw [hn] at hs
  clear hn hl hA hV hT
  go_enter Tryd.func18, Tryd.ntmps18
  go_wp2
  go_loop [5] (fun c => ∃ j : Nat, j ≤ n ∧ c = .int .i64 (j : Nat) ∧ Hid (∀ b ∈ l.take j, badB b = false)) (fun c => n - (RowKit.intOf c).toNat)
  case atStart => exact ⟨0, Nat.zero_le _, rfl, hide (fun b hb => by simp at hb)⟩
  case round =>
    obtain ⟨j, hj, rfl, HG⟩ := hrel
    by_cases hlt : j < n
    · obtain ⟨X, hX⟩ : ∃ r, l[j]? = some r := ⟨_, List.getElem?_eq_getElem (by rw [HLL.out]; exact hlt)⟩
      have zj : (j : Int) < n := by omega
      have hix := HIX.out j (by rw [HNS.out]; exact hlt)
      have hx := HBA.out j X hX
      obtain ⟨x, hxx⟩ : ∃ x, X.toNat = x := ⟨_, rfl⟩
      rw [hx, hxx] at hix
      have hx256 : x < 256 := by rw [← hxx]; exact X.toNat_lt
      have zx : (x : Int) ≤ 255 := by omega
      have HIF := hide (badB_iff X)
      rw [hxx] at HIF
      have HMEM := hide (List.mem_of_getElem? hX)
      have HTK := hide (take_snocB l j X hX)
      clear hX hx hxx
      by_cases h32 : x < 32
      · have d1 : decide ((x : Int) < 32) = true := decide_eq_true (by omega)
        have HF := hide (HBAD.out X HMEM.out (HIF.out.2 (.inl h32)))
        clear HBAD HGOOD HV
        go_wp2
        go_ret
        rw [HF.out]
        exact ⟨rfl, Below.refl _ _⟩
      have d1 : decide ((x : Int) < 32) = false := decide_eq_false (by omega)
      by_cases h127 : x = 127
      · have d2 : ((x : Int) == 127) = true := by simp; omega
        have HF := hide (HBAD.out X HMEM.out (HIF.out.2 (.inr h127)))
        clear HBAD HGOOD HV
        subst h127
        go_wp2
        go_ret
        rw [HF.out]
        exact ⟨rfl, Below.refl _ _⟩
      · have d2 : ((x : Int) == 127) = false := by simp; omega
        have HGO := hide (show ∀ b ∈ l.take (j + 1), badB b = false by
          rw [HTK.out]
          intro b hb
          rcases List.mem_append.1 hb with e | e
          · exact HG.out b e
          · rw [List.mem_singleton.1 e]
            cases hq : badB X with
            | false => rfl
            | true => have := HIF.out.1 hq; omega)
        clear HBAD HGOOD HV HTK
        go_wp2
        go_round
        case rel => exact ⟨j + 1, hlt, by go_num, HGO⟩
        case measure => exact meas_oneV j n hlt
    · obtain rfl : j = n := by omega
      have zj : ¬ (j : Int) < (j : Int) := by omega
      have HF := hide (HGOOD.out (by have h := HG.out; rw [List.take_of_length_le (by rw [HLL.out]; exact Nat.le_refl _)] at h; exact h))
      clear HBAD HGOOD HIX HBA
      by_cases hmn : j ≤ most
      · have d1 : decide ((j : Int) ≤ (most : Int)) = true := decide_eq_true (by omega)
        have HF2 := hide (show A = V by rw [HF.out, decide_eq_true hmn, Bool.true_and])
        go_wp2_with fail
        refine HV.out.mono ?_
        rintro e w1 ⟨rfl, b1⟩
        have B1 := hide b1
        clear b1
        go_wp2
        go_ret
        rw [HF2.out]
        exact ⟨rfl, B1.out⟩
      · have d1 : decide ((j : Int) ≤ (most : Int)) = false := decide_eq_false (by omega)
        have HF2 := hide (show A = false by rw [HF.out, decide_eq_false hmn, Bool.false_and])
        clear HV
        go_wp2
        go_ret
        rw [HF2.out]
        exact ⟨rfl, Below.refl _ _⟩

set_option maxHeartbeats 1000000 in
theorem qnote12 (s : ByteArray) (W : World) (hT : Tabs W) (hs : s.size ≤ 1000000) :
    Calls Tryd.prog 11 #[.string s] W fun e w' => e = .returned (.bool (noteN s.data.toList)) ∧ Below W.heap.size W w' := by
  have HV := hide (show Calls Tryd.prog 18 #[.string s, .int .i64 200] W fun e w' => e = .returned (.bool (noteN s.data.toList)) ∧ Below W.heap.size W w' from qtext12 s 200 W hT hs (by decide))
  generalize noteN s.data.toList = A at *
  clear hT hs
  go_enter Tryd.func11, Tryd.ntmps11
  go_wp2_with fail
  refine HV.out.mono ?_
  rintro e w1 ⟨rfl, b1⟩
  have B1 := hide b1
  clear b1
  go_wp2
  go_ret
  exact ⟨rfl, B1.out⟩

set_option maxHeartbeats 4000000 in
theorem qascii12 (s : ByteArray) (W : World) (hs : s.size ≤ 1000000) :
    Calls Tryd.prog 13 #[.string s] W fun e w' => e = .returned (.bool (asciiN s.data.toList)) ∧ Below W.heap.size W w' := by
  have HIX := hide (fun i (h : i < s.size) => str_index s i h)
  have HBA := hide (fun i x (h : s.data.toList[i]? = some x) => bAt_at h)
  obtain ⟨n, hn⟩ : ∃ n, s.size = n := ⟨_, rfl⟩
  have zn : ((s.size : Nat) : Int) = (n : Int) := by omega
  have HNS := hide hn
  have HLL := hide ((size_list s).trans hn)
  obtain ⟨l, hl⟩ : ∃ l, s.data.toList = l := ⟨_, rfl⟩
  rw [hl] at HBA HLL ⊢
  have HGOOD := hide (fun (h : ∀ b ∈ l, b.toNat < 128) => show asciiN l = true by unfold asciiN; rw [List.all_eq_true]; exact fun b hb => decide_eq_true (h b hb))
  have HBAD := hide (fun b (hm : b ∈ l) (hb : ¬ b.toNat < 128) => show asciiN l = false by unfold asciiN; rw [List.all_eq_false]; exact ⟨b, hm, by rw [decide_eq_false hb]; decide⟩)
  obtain ⟨A, hA⟩ : ∃ A, asciiN l = A := ⟨_, rfl⟩
  simp only [hA] at HGOOD HBAD ⊢
  rw [hn] at hs
  clear hn hl hA
  go_enter Tryd.func13, Tryd.ntmps13
  go_wp2
  go_loop [3] (fun c => ∃ j : Nat, j ≤ n ∧ c = .int .i64 (j : Nat) ∧ Hid (∀ b ∈ l.take j, b.toNat < 128)) (fun c => n - (RowKit.intOf c).toNat)
  case atStart => exact ⟨0, Nat.zero_le _, rfl, hide (fun b hb => by simp at hb)⟩
  case round =>
    obtain ⟨j, hj, rfl, HG⟩ := hrel
    by_cases hlt : j < n
    · obtain ⟨X, hX⟩ : ∃ r, l[j]? = some r := ⟨_, List.getElem?_eq_getElem (by rw [HLL.out]; exact hlt)⟩
      have zj : (j : Int) < n := by omega
      have hix := HIX.out j (by rw [HNS.out]; exact hlt)
      have hx := HBA.out j X hX
      obtain ⟨x, hxx⟩ : ∃ x, X.toNat = x := ⟨_, rfl⟩
      rw [hx, hxx] at hix
      have hx256 : x < 256 := by rw [← hxx]; exact X.toNat_lt
      have zx : (x : Int) ≤ 255 := by omega
      have HMEM := hide (List.mem_of_getElem? hX)
      have HTK := hide (take_snocB l j X hX)
      have HXX := hide hxx
      clear hX hx hxx
      by_cases h128 : x < 128
      · have d1 : decide ((128 : Int) ≤ (x : Int)) = false := decide_eq_false (by omega)
        have HGO := hide (show ∀ b ∈ l.take (j + 1), b.toNat < 128 by
          rw [HTK.out]
          intro b hb
          rcases List.mem_append.1 hb with e | e
          · exact HG.out b e
          · rw [List.mem_singleton.1 e, HXX.out]; exact h128)
        clear HBAD HGOOD HTK
        go_wp2
        go_round
        case rel => exact ⟨j + 1, hlt, by go_num, HGO⟩
        case measure => exact meas_oneV j n hlt
      · have d1 : decide ((128 : Int) ≤ (x : Int)) = true := decide_eq_true (by omega)
        have HF := hide (HBAD.out X HMEM.out (by rw [HXX.out]; exact h128))
        clear HBAD HGOOD
        go_wp2
        go_ret
        rw [HF.out]
        exact ⟨rfl, Below.refl _ _⟩
    · obtain rfl : j = n := by omega
      have zj : ¬ (j : Int) < (j : Int) := by omega
      have HF := hide (HGOOD.out (by have h := HG.out; rw [List.take_of_length_le (by rw [HLL.out]; exact Nat.le_refl _)] at h; exact h))
      clear HBAD HGOOD HIX HBA
      go_wp2
      go_ret
      rw [HF.out]
      exact ⟨rfl, Below.refl _ _⟩

end Go.Proofs.YtgakjojdjnhpaaaDoor
