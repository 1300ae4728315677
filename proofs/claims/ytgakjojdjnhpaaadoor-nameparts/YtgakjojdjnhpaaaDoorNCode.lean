/- The program's layer 12: what its calls answer. -/
import Derived.Test.YtgakjojdjnhpaaaDoorNSpec
import Derived.Test.YtgakjojdjnhpaaaDoorVRef3
import Derived.Test.YtgakjojdjnhpaaaDoorVStr
namespace Go.Proofs.YtgakjojdjnhpaaaDoor
open Go.RowKit Go.Lib

theorem text_long {l : List UInt8} {most : Nat} (h : ¬ l.length ≤ most) : textN l most = false := by
  unfold textN
  rw [decide_eq_false h, Bool.false_and, Bool.and_false]

set_option maxHeartbeats 4000000 in
theorem fits12 (s : ByteArray) (most : Nat) (W : World) (hT : Tabs W) (hs : s.size ≤ 1000000) (_hm : most ≤ 1000) :
    Calls Tryd.prog 16 #[.string s, .int .i64 (most : Nat)] W fun e w' => e = .returned (.bool (textN s.data.toList most)) ∧ Below W.heap.size W w' := by
  have HV := hide (valid_any s W (by omega) hT)
  have HIX := hide (fun i (h : i < s.size) => str_index s i h)
  have HBA := hide (fun i x (h : s.data.toList[i]? = some x) => bAt_at h)
  obtain ⟨n, hn⟩ : ∃ n, s.size = n := ⟨_, rfl⟩
  have zn : ((s.size : Nat) : Int) = (n : Int) := by omega
  have HNS := hide hn
  have HLL := hide ((size_list s).trans hn)
  have HGOOD := hide (fun h => text_good (l := s.data.toList) h most)
  have HBAD := hide (fun b (hm : b ∈ s.data.toList) (hb : badB b = true) => text_bad hm hb most)
  have HLONG := hide (fun h => text_long (l := s.data.toList) (most := most) h)
  rw [HLL.out] at HGOOD HLONG
  obtain ⟨l, hl⟩ : ∃ l, s.data.toList = l := ⟨_, rfl⟩
  rw [hl] at HV HBA HLL HGOOD HBAD HLONG ⊢
  obtain ⟨A, hA⟩ : ∃ A, textN l most = A := ⟨_, rfl⟩
  simp only [hA] at HGOOD HBAD HLONG ⊢
  obtain ⟨V, hV⟩ : ∃ V, validD l = V := ⟨_, rfl⟩
  simp only [hV] at HGOOD HV
  rw [hn] at hs
  clear hn hl hA hV hT
  by_cases hmn : n ≤ most
  case neg =>
    have d0 : decide ((most : Int) < (n : Int)) = true := decide_eq_true (by omega)
    have z0 : (most : Int) < (n : Int) := by omega
    have HF := hide (HLONG.out hmn)
    clear HLONG HGOOD HBAD HV HIX HBA
    go_enter Tryd.func16, Tryd.ntmps16
    go_wp2
    go_ret
    rw [HF.out]
    exact ⟨rfl, Below.refl _ _⟩
  have d0 : decide ((most : Int) < (n : Int)) = false := decide_eq_false (by omega)
  have z0 : ¬ (most : Int) < (n : Int) := by omega
  have HDM := hide (decide_eq_true hmn)
  rw [HDM.out] at HGOOD
  clear HLONG
  go_enter Tryd.func16, Tryd.ntmps16
  go_wp2
  go_loop [12] (fun c => ∃ j : Nat, j ≤ n ∧ c = .int .i64 (j : Nat) ∧ Hid (∀ b ∈ l.take j, badB b = false)) (fun c => n - (RowKit.intOf c).toNat)
  case atStart => exact ⟨0, Nat.zero_le _, rfl, hide (fun b hb => by simp at hb)⟩
  case round =>
    obtain ⟨j, hj, rfl, HG⟩ := hrel
    by_cases hlt : j < n
    · obtain ⟨X, hX⟩ : ∃ r, l[j]? = some r := ⟨_, List.getElem?_eq_getElem (by rw [HLL.out]; exact hlt)⟩
      have zj : (j : Int) < n := by omega
      have hix := HIX.out j (by rw [HNS.out]; exact hlt)
      have hx := HBA.out j X hX
      obtain ⟨x, hxx⟩ : ∃ x, X.toNat = x := ⟨_, rfl⟩
      rw [hx, hxx] at hix
      have hx256 : x < 256 := by rw [← hxx]; exact X.toNat_lt
      have zx : (x : Int) ≤ 255 := by omega
      have HIF := hide (badB_iff X)
      rw [hxx] at HIF
      have HMEM := hide (List.mem_of_getElem? hX)
      have HTK := hide (take_snocB l j X hX)
      clear hX hx hxx
      by_cases h32 : x < 32
      · have d1 : decide ((x : Int) < 32) = true := decide_eq_true (by omega)
        have HF := hide (HBAD.out X HMEM.out (HIF.out.2 (.inl h32)))
        clear HBAD HGOOD HV
        go_wp2
        go_ret
        rw [HF.out]
        exact ⟨rfl, Below.refl _ _⟩
      have d1 : decide ((x : Int) < 32) = false := decide_eq_false (by omega)
      by_cases h127 : x = 127
      · have d2 : ((x : Int) == 127) = true := by simp; omega
        have HF := hide (HBAD.out X HMEM.out (HIF.out.2 (.inr h127)))
        clear HBAD HGOOD HV
        subst h127
        go_wp2
        go_ret
        rw [HF.out]
        exact ⟨rfl, Below.refl _ _⟩
      · have d2 : ((x : Int) == 127) = false := by simp; omega
        have HGO := hide (show ∀ b ∈ l.take (j + 1), badB b = false by
          rw [HTK.out]
          intro b hb
          rcases List.mem_append.1 hb with e | e
          · exact HG.out b e
          · rw [List.mem_singleton.1 e]
            cases hq : badB X with
            | false => rfl
            | true => have := HIF.out.1 hq; omega)
        clear HBAD HGOOD HV HTK
        go_wp2
        go_round
        case rel => exact ⟨j + 1, hlt, by go_num, HGO⟩
        case measure => exact meas_oneV j n hlt
    · obtain rfl : j = n := by omega
      have zj : ¬ (j : Int) < (j : Int) := by omega
      have HF := hide (HGOOD.out (by have h := HG.out; rw [List.take_of_length_le (by rw [HLL.out]; exact Nat.le_refl _)] at h; exact h))
      have HF2 := hide (show A = V by rw [HF.out, Bool.true_and])
      clear HBAD HGOOD HIX HBA HF
      go_wp2_with fail
      refine HV.out.mono ?_
      rintro e w1 ⟨rfl, b1⟩
      have B1 := hide b1
      clear b1
      go_wp2
      go_ret
      rw [HF2.out]
      exact ⟨rfl, B1.out⟩

set_option maxHeartbeats 2000000 in
theorem isPart12 (s : ByteArray) (W : World) :
    Calls Tryd.prog 17 #[.string s] W fun e w' => e = .returned (.bool (okPart s.data.toList)) ∧ w' = W := by
  have HPE := hide (empty_iff s)
  have HP1 := hide (beq_list s [46])
  have HP2 := hide (beq_list s [46, 46])
  obtain ⟨p, hp⟩ : ∃ p, s.data.toList = p := ⟨_, rfl⟩
  rw [hp] at HPE HP1 HP2 ⊢
  clear hp
  by_cases p0 : p = []
  · have t0 : s.toList.isEmpty = true := by rw [HPE.out]; exact decide_eq_true p0
    have HF := hide (show okPart p = false by rw [p0]; decide)
    clear HPE HP1 HP2
    go_enter Tryd.func17, Tryd.ntmps17
    go_wp2
    go_ret
    rw [HF.out]
    exact ⟨rfl, rfl⟩
  have t0 : s.toList.isEmpty = false := by rw [HPE.out]; exact decide_eq_false p0
  by_cases p1 : p = [46]
  · have t1 : (s.toList == [46]) = true := by rw [HP1.out]; exact decide_eq_true p1
    have HF := hide (show okPart p = false by rw [p1]; decide)
    clear HPE HP1 HP2
    go_enter Tryd.func17, Tryd.ntmps17
    go_wp2
    go_ret
    rw [HF.out]
    exact ⟨rfl, rfl⟩
  have t1 : (s.toList == [46]) = false := by rw [HP1.out]; exact decide_eq_false p1
  by_cases p2 : p = [46, 46]
  · have t2 : (s.toList == [46, 46]) = true := by rw [HP2.out]; exact decide_eq_true p2
    have HF := hide (show okPart p = false by rw [p2]; decide)
    clear HPE HP1 HP2
    go_enter Tryd.func17, Tryd.ntmps17
    go_wp2
    go_ret
    rw [HF.out]
    exact ⟨rfl, rfl⟩
  have t2 : (s.toList == [46, 46]) = false := by rw [HP2.out]; exact decide_eq_false p2
  have HF := hide (okPart_ok.2 ⟨p0, p1, p2⟩)
  clear HPE HP1 HP2 p0 p1 p2
  go_enter Tryd.func17, Tryd.ntmps17
  go_wp2
  go_ret
  rw [HF.out]
  exact ⟨rfl, rfl⟩

/-- A piece of a text. -/
def midB (s : ByteArray) (a b : Nat) : ByteArray := s.extract a b
theorem midB_list (s : ByteArray) (a b : Nat) (_h : a ≤ b) : (midB s a b).data.toList = (s.data.toList.take b).drop a := by
  show (s.extract a b).data.toList = _
  rw [ByteArray.data_extract, Array.toList_extract, List.extract_eq_take_drop, List.drop_take]
theorem mid_slice (s : ByteArray) (a b : Nat) (h : a ≤ b) (hb : b ≤ s.size) (w : World) : (Instr.slice 9 (.string s) (some (.int .i64 (a : Nat))) (some (.int .i64 (b : Nat))) none).run Tryd.prog w = .ok (.string (midB s a b)) w := by
  rw [run_slice_string (P := Tryd.prog) w 9 s .i64 .i64 (a : Int) (b : Int) Tryd.underlying9 (by omega) (by omega) (by omega), Int.toNat_natCast, Int.toNat_natCast]
  rfl
theorem end_slice (s : ByteArray) (a n : Nat) (hn : s.size = n) (h : a ≤ n) (w : World) : (Instr.slice 9 (.string s) (some (.int .i64 (a : Nat))) none none).run Tryd.prog w = .ok (.string (midB s a n)) w := by
  rw [run_slice_string_l (P := Tryd.prog) w 9 s Tryd.underlying9 .i64 (a : Int) (by omega) (by omega), Int.toNat_natCast, hn]
  rfl
theorem right_both (l : List UInt8) : rightN l = (textN l 64 && partsN [] l) := by
  unfold rightN
  by_cases h : l = []
  · subst h; decide +kernel
  · rw [decide_eq_true h, Bool.true_and]
theorem take_drop_new (l : List UInt8) (i : Nat) : (l.take i).drop i = [] := by
  rw [List.drop_eq_nil_iff]; exact List.length_take_le _ _
theorem take_drop_snoc (l : List UInt8) (f i : Nat) (X : UInt8) (h : l[i]? = some X) (hf : f ≤ i) : (l.take (i + 1)).drop f = (l.take i).drop f ++ [X] := by
  rw [take_snocB l i X h, List.drop_append_of_le_length]
  have := (List.getElem?_eq_some_iff.1 h).1
  rw [List.length_take]
  omega

set_option maxRecDepth 20000 in
set_option maxHeartbeats 8000000 in
theorem right12 (s : ByteArray) (W : World) (hT : Tabs W) (hs : s.size ≤ 1000000) :
    Calls Tryd.prog 8 #[.string s] W fun e w' => e = .returned (.bool (rightN s.data.toList)) ∧ Below W.heap.size W w' := by
  have HTX := hide (show Calls Tryd.prog 16 #[.string s, .int .i64 64] W fun e w' => e = .returned (.bool (textN s.data.toList 64)) ∧ Below W.heap.size W w' from fits12 s 64 W hT hs (by decide))
  have HIX := hide (fun i (h : i < s.size) => str_index s i h)
  have HBA := hide (fun i x (h : s.data.toList[i]? = some x) => bAt_at h)
  have HSL := hide (mid_slice s)
  have HML := hide (midB_list s)
  obtain ⟨n, hn⟩ : ∃ n, s.size = n := ⟨_, rfl⟩
  have HES := hide (fun a (h : a ≤ n) => end_slice s a n hn h)
  have zn : ((s.size : Nat) : Int) = (n : Int) := by omega
  have HNS := hide hn
  have HLL := hide ((size_list s).trans hn)
  obtain ⟨l, hl⟩ : ∃ l, s.data.toList = l := ⟨_, rfl⟩
  rw [hl] at HTX HBA HLL HML ⊢
  rw [right_both]
  obtain ⟨A, hA⟩ : ∃ A, partsN [] l = A := ⟨_, rfl⟩
  have HA0 := hide (show partsN ((l.take 0).drop 0) (l.drop 0) = A by rw [List.drop_zero, List.drop_zero]; exact hA)
  rw [hA]
  rw [hn] at hs
  clear hn hl hA hT
  have HIP := hide isPart12
  cases htx : textN l 64 with
  | false =>
    rw [htx] at HTX
    rw [Bool.false_and]
    clear HIX HBA HSL htx HA0 HIP HES HML
    go_enter Tryd.func8, Tryd.ntmps8
    go_wp2_with fail
    refine HTX.out.mono ?_
    rintro e w1 ⟨rfl, b1⟩
    have B1 := hide b1
    clear b1
    go_wp2
    go_ret
    exact ⟨rfl, B1.out⟩
  | true =>
    rw [htx] at HTX
    rw [Bool.true_and]
    clear htx
    go_enter Tryd.func8, Tryd.ntmps8
    go_wp2_with fail
    refine HTX.out.mono ?_
    rintro e w1 ⟨rfl, b1⟩
    have B1 := hide b1
    clear b1 HTX
    go_wp2
    go_loop [3, 10] (fun fv iv => ∃ (j f : Nat), j ≤ n ∧ f ≤ j ∧ iv = .int .i64 (j : Nat) ∧ fv = .int .i64 (f : Nat) ∧ Hid (partsN ((l.take j).drop f) (l.drop j) = A)) (fun _ iv => n - (RowKit.intOf iv).toNat)
    case atStart => exact ⟨0, 0, Nat.zero_le _, Nat.le_refl _, rfl, rfl, HA0⟩
    case round =>
      clear HA0
      obtain ⟨j, f, hj, hfj, rfl, rfl, HG⟩ := hrel
      by_cases hlt : j < n
      · obtain ⟨X, hX⟩ : ∃ r, l[j]? = some r := ⟨_, List.getElem?_eq_getElem (by rw [HLL.out]; exact hlt)⟩
        have zj : (j : Int) < n := by omega
        have hix := HIX.out j (by rw [HNS.out]; exact hlt)
        have hx := HBA.out j X hX
        have HST := hide (parts_step ((l.take j).drop f) l j X hX)
        have HSN := hide (take_drop_snoc l f j X hX hfj)
        obtain ⟨x, hxx⟩ : ∃ x, X.toNat = x := ⟨_, rfl⟩
        rw [hx, hxx] at hix
        rw [hxx] at HST
        have hx256 : x < 256 := by rw [← hxx]; exact X.toNat_lt
        have zx : (x : Int) ≤ 255 := by omega
        clear hX hx hxx
        by_cases h58 : x = 58
        · have d58 : ((x : Int) == 58) = true := by simp; omega
          have hst := HST.out
          rw [if_neg (by omega), if_pos (.inr h58)] at hst
          have HF := hide (show A = false by rw [← HG.out, hst])
          clear HG HST HSN hst HIX HBA HSL HES HML HIP
          subst h58
          go_wp2
          go_ret
          rw [HF.out]
          exact ⟨rfl, B1.out⟩
        have d58 : ((x : Int) == 58) = false := by simp; omega
        by_cases h92 : x = 92
        · have d92 : ((x : Int) == 92) = true := by simp; omega
          have hst := HST.out
          rw [if_neg (by omega), if_pos (.inl h92)] at hst
          have HF := hide (show A = false by rw [← HG.out, hst])
          clear HG HST HSN hst HIX HBA HSL HES HML HIP
          subst h92
          go_wp2
          go_ret
          rw [HF.out]
          exact ⟨rfl, B1.out⟩
        have d92 : ((x : Int) == 92) = false := by simp; omega
        by_cases h47 : x = 47
        · have d47 : ((x : Int) == 47) = true := by simp; omega
          have hst := HST.out
          rw [if_pos h47] at hst
          have hsl := HSL.out f j hfj (by rw [HNS.out]; exact hj)
          have HPK := hide (HIP.out (midB s f j))
          rw [HML.out f j hfj] at HPK
          have HST2 := hide hst
          have HNW := hide (take_drop_new l (j + 1))
          have zfj : (f : Int) ≤ (j : Int) := by omega
          clear HST HSN hst HIX HBA HSL HES HML HIP h58 h92
          subst h47
          generalize midB s f j = pb at hsl HPK
          cases hk : okPart ((l.take j).drop f) with
          | false =>
            rw [hk] at HPK HST2
            have HF := hide (show A = false by rw [← HG.out, HST2.out, Bool.false_and])
            clear HG HST2 hk HNW
            go_wp2_with fail
            refine (HPK.out _).mono ?_
            rintro e w2 ⟨rfl, rfl⟩
            go_wp2
            go_ret
            rw [HF.out]
            exact ⟨rfl, B1.out⟩
          | true =>
            rw [hk] at HPK HST2
            have HF := hide (show partsN ((l.take (j + 1)).drop (j + 1)) (l.drop (j + 1)) = A by rw [HNW.out, ← HG.out, HST2.out, Bool.true_and])
            clear HG HST2 hk HNW
            go_wp2_with fail
            refine (HPK.out _).mono ?_
            rintro e w2 ⟨rfl, rfl⟩
            go_wp2
            go_round
            case rel => exact ⟨j + 1, j + 1, hlt, Nat.le_refl _, by go_num, by go_num, HF⟩
            case measure => exact meas_oneV j n hlt
        · have d47 : ((x : Int) == 47) = false := by simp; omega
          have hst := HST.out
          rw [if_neg h47, if_neg (by omega)] at hst
          have HF := hide (show partsN ((l.take (j + 1)).drop f) (l.drop (j + 1)) = A by rw [HSN.out, ← HG.out, hst])
          clear HG HST HSN hst HIX HBA HSL HES HML HIP h58 h92 h47
          go_wp2
          go_round
          case rel => exact ⟨j + 1, f, hlt, by omega, by go_num, rfl, HF⟩
          case measure => exact meas_oneV j n hlt
      · obtain rfl : j = n := by omega
        have zj : ¬ (j : Int) < (j : Int) := by omega
        have hes := HES.out f hfj
        have HPK := hide (HIP.out (midB s f j))
        rw [HML.out f j hfj] at HPK
        have HF := hide (show okPart ((l.take j).drop f) = A by rw [← HG.out, parts_end _ _ _ (by rw [HLL.out]; exact Nat.le_refl _)])
        rw [HF.out] at HPK
        have zfj : (f : Int) ≤ (j : Int) := by omega
        clear HG HF HIX HBA HSL HES HML HIP
        generalize midB s f j = pb at hes HPK
        go_wp2_with fail
        refine (HPK.out _).mono ?_
        rintro e w2 ⟨rfl, rfl⟩
        go_wp2
        go_ret
        exact ⟨rfl, B1.out⟩

set_option maxHeartbeats 1000000 in
theorem note12 (s : ByteArray) (W : World) (hT : Tabs W) (hs : s.size ≤ 1000000) :
    Calls Tryd.prog 10 #[.string s] W fun e w' => e = .returned (.bool (noteN s.data.toList)) ∧ Below W.heap.size W w' := by
  have HV := hide (show Calls Tryd.prog 16 #[.string s, .int .i64 200] W fun e w' => e = .returned (.bool (noteN s.data.toList)) ∧ Below W.heap.size W w' from fits12 s 200 W hT hs (by decide))
  generalize noteN s.data.toList = A at *
  clear hT hs
  go_enter Tryd.func10, Tryd.ntmps10
  go_wp2_with fail
  refine HV.out.mono ?_
  rintro e w1 ⟨rfl, b1⟩
  have B1 := hide b1
  clear b1
  go_wp2
  go_ret
  exact ⟨rfl, B1.out⟩

set_option maxHeartbeats 4000000 in
theorem ascii12 (s : ByteArray) (W : World) (hs : s.size ≤ 1000000) :
    Calls Tryd.prog 12 #[.string s] W fun e w' => e = .returned (.bool (asciiN s.data.toList)) ∧ Below W.heap.size W w' := by
  have HIX := hide (fun i (h : i < s.size) => str_index s i h)
  have HBA := hide (fun i x (h : s.data.toList[i]? = some x) => bAt_at h)
  obtain ⟨n, hn⟩ : ∃ n, s.size = n := ⟨_, rfl⟩
  have zn : ((s.size : Nat) : Int) = (n : Int) := by omega
  have HNS := hide hn
  have HLL := hide ((size_list s).trans hn)
  obtain ⟨l, hl⟩ : ∃ l, s.data.toList = l := ⟨_, rfl⟩
  rw [hl] at HBA HLL ⊢
  have HGOOD := hide (fun (h : ∀ b ∈ l, b.toNat < 128) => show asciiN l = true by unfold asciiN; rw [List.all_eq_true]; exact fun b hb => decide_eq_true (h b hb))
  have HBAD := hide (fun b (hm : b ∈ l) (hb : ¬ b.toNat < 128) => show asciiN l = false by unfold asciiN; rw [List.all_eq_false]; exact ⟨b, hm, by rw [decide_eq_false hb]; decide⟩)
  obtain ⟨A, hA⟩ : ∃ A, asciiN l = A := ⟨_, rfl⟩
  simp only [hA] at HGOOD HBAD ⊢
  rw [hn] at hs
  clear hn hl hA
  go_enter Tryd.func12, Tryd.ntmps12
  go_wp2
  go_loop [6] (fun c => ∃ j : Nat, j ≤ n ∧ c = .int .i64 (j : Nat) ∧ Hid (∀ b ∈ l.take j, b.toNat < 128)) (fun c => n - (RowKit.intOf c).toNat)
  case atStart => exact ⟨0, Nat.zero_le _, rfl, hide (fun b hb => by simp at hb)⟩
  case round =>
    obtain ⟨j, hj, rfl, HG⟩ := hrel
    by_cases hlt : j < n
    · obtain ⟨X, hX⟩ : ∃ r, l[j]? = some r := ⟨_, List.getElem?_eq_getElem (by rw [HLL.out]; exact hlt)⟩
      have zj : (j : Int) < n := by omega
      have hix := HIX.out j (by rw [HNS.out]; exact hlt)
      have hx := HBA.out j X hX
      obtain ⟨x, hxx⟩ : ∃ x, X.toNat = x := ⟨_, rfl⟩
      rw [hx, hxx] at hix
      have hx256 : x < 256 := by rw [← hxx]; exact X.toNat_lt
      have zx : (x : Int) ≤ 255 := by omega
      have HMEM := hide (List.mem_of_getElem? hX)
      have HTK := hide (take_snocB l j X hX)
      have HXX := hide hxx
      clear hX hx hxx
      by_cases h128 : x < 128
      · have d1 : decide ((128 : Int) ≤ (x : Int)) = false := decide_eq_false (by omega)
        have HGO := hide (show ∀ b ∈ l.take (j + 1), b.toNat < 128 by
          rw [HTK.out]
          intro b hb
          rcases List.mem_append.1 hb with e | e
          · exact HG.out b e
          · rw [List.mem_singleton.1 e, HXX.out]; exact h128)
        clear HBAD HGOOD HTK
        go_wp2
        go_round
        case rel => exact ⟨j + 1, hlt, by go_num, HGO⟩
        case measure => exact meas_oneV j n hlt
      · have d1 : decide ((128 : Int) ≤ (x : Int)) = true := decide_eq_true (by omega)
        have HF := hide (HBAD.out X HMEM.out (by rw [HXX.out]; exact h128))
        clear HBAD HGOOD HTK
        go_wp2
        go_ret
        rw [HF.out]
        exact ⟨rfl, Below.refl _ _⟩
    · obtain rfl : j = n := by omega
      have zj : ¬ (j : Int) < (j : Int) := by omega
      have HF := hide (HGOOD.out (by have h := HG.out; rw [List.take_of_length_le (by rw [HLL.out]; exact Nat.le_refl _)] at h; exact h))
      clear HBAD HGOOD HIX HBA
      go_wp2
      go_ret
      rw [HF.out]
      exact ⟨rfl, Below.refl _ _⟩

theorem file_form (l : List UInt8) : fileN l = (decide (5 ≤ l.length) && (decide (l.length ≤ 40) && (decide (l.drop (l.length - 4) = zipL) && (!l.contains 47 && rightN l)))) := by
  have e : l.all (fun b => decide (b.toNat ≠ 47)) = !l.contains 47 := by
    rw [Bool.eq_iff_iff, List.all_eq_true, Bool.not_eq_true', ← Bool.not_eq_true, List.contains_iff_mem]
    constructor
    · intro h hm
      have := h 47 hm
      simp at this
    · intro h b hb
      refine decide_eq_true fun hn => h ?_
      have : b = 47 := UInt8.toNat_inj.1 hn
      exact this ▸ hb
  unfold fileN
  rw [e]
  cases l.contains 47 <;> cases decide (5 ≤ l.length) <;> cases decide (l.length ≤ 40) <;> cases decide (l.drop (l.length - 4) = zipL) <;> rfl

set_option maxRecDepth 20000 in
set_option maxHeartbeats 4000000 in
theorem file12 (s : ByteArray) (W : World) (hT : Tabs W) (hs : s.size ≤ 1000000) :
    Calls Tryd.prog 14 #[.string s] W fun e w' => e = .returned (.bool (fileN s.data.toList)) ∧ Below W.heap.size W w' := by
  have HR := hide (right12 s W hT hs)
  have HSX := hide (fun w => suffix_any s zipL w (by omega))
  have HCN := hide (fun w => slash_any s w)
  have hff := file_form s.data.toList
  have hsf : 5 ≤ s.size → hasSuffix s.data.toList zipL = decide (s.data.toList.drop (s.size - 4) = zipL) := fun h => suffix_drop (size_list s) (by omega)
  obtain ⟨n, hn⟩ : ∃ n, s.size = n := ⟨_, rfl⟩
  have zn : ((s.size : Nat) : Int) = (n : Int) := by omega
  have hll := (size_list s).trans hn
  rw [hn] at hsf hs
  rw [hll] at hff
  obtain ⟨l, hl⟩ : ∃ l, s.data.toList = l := ⟨_, rfl⟩
  rw [hl] at HR HSX HCN hff hsf ⊢
  obtain ⟨A, hA⟩ : ∃ A, fileN l = A := ⟨_, rfl⟩
  obtain ⟨V, hV⟩ : ∃ V, rightN l = V := ⟨_, rfl⟩
  obtain ⟨Z, hZ⟩ : ∃ Z, hasSuffix l zipL = Z := ⟨_, rfl⟩
  obtain ⟨K, hK⟩ : ∃ K, l.contains 47 = K := ⟨_, rfl⟩
  rw [hA, hV, hK] at hff
  rw [hV] at HR
  rw [hA]
  simp only [hZ] at HSX hsf
  simp only [hK] at HCN
  clear hn hl hA hV hT hZ hK hll
  by_cases h5 : 5 ≤ n
  case neg =>
    have d5 : decide ((n : Int) < 5) = true := decide_eq_true (by omega)
    have z5 : (n : Int) < 5 := by omega
    have HF := hide (show A = false by rw [hff, decide_eq_false h5, Bool.false_and])
    clear hff hsf HR HSX HCN h5
    go_enter Tryd.func14, Tryd.ntmps14
    go_wp2
    go_ret
    rw [HF.out]
    exact ⟨rfl, Below.refl _ _⟩
  have d5 : decide ((n : Int) < 5) = false := decide_eq_false (by omega)
  rw [← hsf h5, decide_eq_true h5, Bool.true_and] at hff
  clear hsf
  by_cases h40 : n ≤ 40
  case neg =>
    have d40 : decide ((40 : Int) < (n : Int)) = true := decide_eq_true (by omega)
    have z40 : (40 : Int) < (n : Int) := by omega
    have HF := hide (show A = false by rw [hff, decide_eq_false h40, Bool.false_and])
    clear hff HR HSX HCN h5 h40
    go_enter Tryd.func14, Tryd.ntmps14
    go_wp2
    go_ret
    rw [HF.out]
    exact ⟨rfl, Below.refl _ _⟩
  have d40 : decide ((40 : Int) < (n : Int)) = false := decide_eq_false (by omega)
  rw [decide_eq_true h40, Bool.true_and] at hff
  clear h5 h40
  have HFF := hide hff
  clear hff
  go_enter Tryd.func14, Tryd.ntmps14
  go_wp2_with fail
  refine (HSX.out _).mono ?_
  rintro e w1 ⟨rfl, rfl⟩
  cases Z with
  | false =>
    have HF := hide (show A = false by rw [HFF.out, Bool.false_and])
    clear HFF HR HSX HCN
    go_wp2
    go_ret
    rw [HF.out]
    exact ⟨rfl, Below.refl _ _⟩
  | true =>
    have HF := hide (show A = (!K && V) by rw [HFF.out, Bool.true_and])
    clear HFF HSX
    go_wp2_with fail
    refine (HCN.out _).mono ?_
    rintro e w2 ⟨rfl, rfl⟩
    cases K with
    | true =>
      clear HR HCN
      go_wp2
      go_ret
      rw [HF.out]
      exact ⟨rfl, Below.refl _ _⟩
    | false =>
      clear HCN
      go_wp2_with fail
      refine HR.out.mono ?_
      rintro e w3 ⟨rfl, b1⟩
      have B1 := hide b1
      clear b1
      go_wp2
      go_ret
      rw [HF.out]
      exact ⟨rfl, B1.out⟩

theorem nspec : NSpec := ⟨fun s W hT hs => right12 s W hT (by omega), fun s W hT hs => note12 s W hT (by omega), fun s W hT hs => file12 s W hT (by omega)⟩
theorem nspecA : NSpecA := ⟨fun s W hs => ascii12 s W (by omega)⟩

end Go.Proofs.YtgakjojdjnhpaaaDoor
