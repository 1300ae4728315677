/- Contracts of the document's layer 12: File. -/
import Derived.Test.YtgakjojdjnhpaaaDoorVRef2
namespace Go.Proofs.YtgakjojdjnhpaaaDoor
open Go.RowKit Go.Lib

/-- A text's last four bytes. -/
def tailB (s : ByteArray) : ByteArray := ⟨(s.data.toList.drop (s.size - 4)).toArray⟩
theorem tail_slice (s : ByteArray) (n : Nat) (hn : s.size = n) (h : 4 ≤ n) (w : World) : (Instr.slice 9 (.string s) (some (.int .i64 ((n : Int) - 4))) none none).run Tryd.prog w = .ok (.string (tailB s)) w := by
  rw [run_slice_string_l (P := Tryd.prog) w 9 s Tryd.underlying9 .i64 ((n : Int) - 4) (by omega) (by omega)]
  have e : s.extract (n - 4) s.size = tailB s := by
    apply ByteArray.ext
    apply Array.toList_inj.1
    rw [ByteArray.data_extract, Array.toList_extract, List.extract_eq_take_drop]
    show (s.data.toList.drop (n - 4)).take (s.size - (n - 4)) = (s.data.toList.drop (s.size - 4))
    rw [hn, List.take_of_length_le (by rw [List.length_drop, size_list, hn]; exact Nat.le_refl _)]
  rw [show ((n : Int) - 4).toNat = n - 4 by omega, e]
theorem file_slash {l : List UInt8} {b : UInt8} (hm : b ∈ l) (hb : b.toNat = 47) : fileN l = false := by
  unfold fileN
  have : l.all (fun b => decide (b.toNat ≠ 47)) = false := by
    rw [List.all_eq_false]
    exact ⟨b, hm, by rw [decide_eq_false (fun h => h hb)]; decide⟩
  rw [this, Bool.false_and]
theorem file_none {l : List UInt8} (h : ∀ b ∈ l, b.toNat ≠ 47) : fileN l = (decide (5 ≤ l.length) && (decide (l.length ≤ 40) && (decide (l.drop (l.length - 4) = zipL) && rightN l))) := by
  unfold fileN
  have : l.all (fun b => decide (b.toNat ≠ 47)) = true := by
    rw [List.all_eq_true]
    exact fun b hb => decide_eq_true (h b hb)
  rw [this, Bool.true_and]

set_option maxRecDepth 20000 in
set_option maxHeartbeats 8000000 in
theorem qfile12 (s : ByteArray) (W : World) (hT : Tabs W) (hs : s.size ≤ 1000000) :
    Calls Tryd.prog 15 #[.string s] W fun e w' => e = .returned (.bool (fileN s.data.toList)) ∧ Below W.heap.size W w' := by
  have HR := hide (qright12 s W hT hs)
  have HIX := hide (fun i (h : i < s.size) => str_index s i h)
  have HBA := hide (fun i x (h : s.data.toList[i]? = some x) => bAt_at h)
  have HTL := hide (beq_list (tailB s) [46, 122, 105, 112])
  have htd : (tailB s).data.toList = s.data.toList.drop (s.size - 4) := List.toList_toArray
  rw [htd] at HTL
  obtain ⟨n, hn⟩ : ∃ n, s.size = n := ⟨_, rfl⟩
  have HSL := hide (tail_slice s n hn)
  have zn : ((s.size : Nat) : Int) = (n : Int) := by omega
  have HNS := hide hn
  have HLL := hide ((size_list s).trans hn)
  rw [hn] at HTL hs
  obtain ⟨l, hl⟩ : ∃ l, s.data.toList = l := ⟨_, rfl⟩
  rw [hl] at HR HBA HLL HTL ⊢
  have HGOOD := hide (fun h => file_none (l := l) h)
  rw [HLL.out] at HGOOD
  have HBAD := hide (fun b (hm : b ∈ l) (hb : b.toNat = 47) => file_slash hm hb)
  obtain ⟨A, hA⟩ : ∃ A, fileN l = A := ⟨_, rfl⟩
  obtain ⟨V, hV⟩ : ∃ V, rightN l = V := ⟨_, rfl⟩
  simp only [hA] at HGOOD HBAD ⊢
  simp only [hV] at HGOOD HR
  generalize tailB s = tb at *
  clear hn hl hA hV hT htd
  go_enter Tryd.func15, Tryd.ntmps15
  go_wp2
  go_loop [3] (fun c => ∃ j : Nat, j ≤ n ∧ c = .int .i64 (j : Nat) ∧ Hid (∀ b ∈ l.take j, b.toNat ≠ 47)) (fun c => n - (RowKit.intOf c).toNat)
  case atStart => exact ⟨0, Nat.zero_le _, rfl, hide (fun b hb => by simp at hb)⟩
  case round =>
    obtain ⟨j, hj, rfl, HG⟩ := hrel
    by_cases hlt : j < n
    · obtain ⟨X, hX⟩ : ∃ r, l[j]? = some r := ⟨_, List.getElem?_eq_getElem (by rw [HLL.out]; exact hlt)⟩
      have zj : (j : Int) < n := by omega
      have hix := HIX.out j (by rw [HNS.out]; exact hlt)
      have hx := HBA.out j X hX
      obtain ⟨x, hxx⟩ : ∃ x, X.toNat = x := ⟨_, rfl⟩
      rw [hx, hxx] at hix
      have hx256 : x < 256 := by rw [← hxx]; exact X.toNat_lt
      have zx : (x : Int) ≤ 255 := by omega
      have HMEM := hide (List.mem_of_getElem? hX)
      have HTK := hide (take_snocB l j X hX)
      have HXX := hide hxx
      clear hX hx hxx
      by_cases h47 : x = 47
      · have d1 : ((x : Int) == 47) = true := by simp; omega
        have HF := hide (HBAD.out X HMEM.out (HXX.out.trans h47))
        clear HBAD HGOOD HR HTL HSL
        subst h47
        go_wp2
        go_ret
        rw [HF.out]
        exact ⟨rfl, Below.refl _ _⟩
      · have d1 : ((x : Int) == 47) = false := by simp; omega
        have HGO := hide (show ∀ b ∈ l.take (j + 1), b.toNat ≠ 47 by
          rw [HTK.out]
          intro b hb
          rcases List.mem_append.1 hb with e | e
          · exact HG.out b e
          · rw [List.mem_singleton.1 e, HXX.out]; exact h47)
        clear HBAD HGOOD HR HTL HSL HTK
        go_wp2
        go_round
        case rel => exact ⟨j + 1, hlt, by go_num, HGO⟩
        case measure => exact meas_oneV j n hlt
    · obtain rfl : j = n := by omega
      have zj : ¬ (j : Int) < (j : Int) := by omega
      have HF := hide (HGOOD.out (by have h := HG.out; rw [List.take_of_length_le (by rw [HLL.out]; exact Nat.le_refl _)] at h; exact h))
      clear HBAD HGOOD HIX HBA HG
      by_cases h5 : 5 ≤ j
      · have d5 : decide ((5 : Int) ≤ (j : Int)) = true := decide_eq_true (by omega)
        have hsl := HSL.out (by omega)
        have zj4 : (4 : Int) ≤ (j : Int) := by omega
        clear HSL
        by_cases h40 : j ≤ 40
        · have d40 : decide ((j : Int) ≤ 40) = true := decide_eq_true (by omega)
          by_cases hz : l.drop (j - 4) = zipL
          · have t1 : (tb.toList == [46, 122, 105, 112]) = true := by rw [HTL.out]; exact decide_eq_true hz
            have HF2 := hide (show A = V by rw [HF.out, decide_eq_true h5, decide_eq_true h40, decide_eq_true hz]; simp)
            clear HTL HF hz
            go_wp2_with fail
            refine HR.out.mono ?_
            rintro e w1 ⟨rfl, b1⟩
            have B1 := hide b1
            clear b1
            go_wp2
            go_ret
            rw [HF2.out]
            exact ⟨rfl, B1.out⟩
          · have t1 : (tb.toList == [46, 122, 105, 112]) = false := by rw [HTL.out]; exact decide_eq_false hz
            have HF2 := hide (show A = false by rw [HF.out, decide_eq_false hz]; simp)
            clear HTL HF hz HR
            go_wp2
            go_ret
            rw [HF2.out]
            exact ⟨rfl, Below.refl _ _⟩
        · have d40 : decide ((j : Int) ≤ 40) = false := decide_eq_false (by omega)
          have HF2 := hide (show A = false by rw [HF.out, decide_eq_false h40]; simp)
          clear HTL HF HR
          go_wp2
          go_ret
          rw [HF2.out]
          exact ⟨rfl, Below.refl _ _⟩
      · have d5 : decide ((5 : Int) ≤ (j : Int)) = false := decide_eq_false (by omega)
        have HF2 := hide (show A = false by rw [HF.out, decide_eq_false h5]; simp)
        clear HTL HF HR HSL
        go_wp2
        go_ret
        rw [HF2.out]
        exact ⟨rfl, Below.refl _ _⟩

end Go.Proofs.YtgakjojdjnhpaaaDoor
