/- MatchBack, the walk: the tokens of a text are that text again. -/
import Derived.Test.YtifcpaeofmkokaaMAwake
namespace Go.Proofs.Ytifcpaeofmkokaa
open Go.RowKit Go.Lib

theorem toks_each {c : Nat → Nat} {n : Nat} {level : Int} : ∀ (i : Nat) (ts : List (Nat × Nat × Nat)), Toks c n level i ts → ∀ t ∈ ts, (t.2.1 = 0 ∧ t.2.2 = 0) ∨ (3 ≤ t.2.1 ∧ t.2.1 ≤ 258 ∧ 1 ≤ t.2.2 ∧ t.2.2 ≤ 32768 ∧ t.1 = 0)
  | _, [], _, t, ht => by cases ht
  | i, u :: ts, h, t, ht => by
    rcases List.mem_cons.1 ht with e | e
    · subst e
      rw [h.2.1]
      rcases tok_cases c n i level with e | ⟨l, d, e, h1, h2, h3, h4, _⟩
      · rw [e]; exact .inl ⟨rfl, rfl⟩
      · rw [e]; exact .inr ⟨h1, h2, h3, h4, rfl⟩
    · exact toks_each _ ts h.2.2 t e
theorem str_pre (s : ByteArray) : strOf (preB (bAt s) s.size) = s := by
  have hl : s.data.toList.length = s.size := by simp
  have key : (preB (bAt s) s.size).map UInt8.ofNat = s.data.toList := by
    apply List.ext_getElem?
    intro i
    unfold preB
    rw [List.map_map, List.getElem?_map]
    by_cases hi : i < s.size
    · rw [List.getElem?_range hi, List.getElem?_eq_getElem (by omega)]
      unfold bAt
      simp only [Option.map_some, Function.comp]
      rw [List.getD_eq_getElem?_getD, List.getElem?_eq_getElem (by omega)]
      simp
    · rw [List.getElem?_eq_none (by simpa using hi), List.getElem?_eq_none (by omega)]
      rfl
  unfold strOf
  rw [key]
theorem back_text (s : ByteArray) (level : Int) (ts : List (Nat × Nat × Nat)) (h : Toks (bAt s) s.size level 0 ts) (limit : Int) (hl : (s.size : Int) ≤ limit) : strOf (exF 5 6 limit [] (ts.map castT)).1 = s ∧ (exF 5 6 limit [] (ts.map castT)).2 = 0 := by
  have h1 := toks_back (bAt s) s.size level 5 6 limit hl ts 0 h
  rw [show preB (bAt s) 0 = [] from rfl] at h1
  rw [h1]
  exact ⟨str_pre s, rfl⟩

set_option maxRecDepth 20000 in
set_option maxHeartbeats 4000000 in
theorem mback_walk (W : World) (s : ByteArray) (level : Int) :
    Calls Try.prog 5 #[.string s, .int .i64 level] W fun e w' => e = .returned (.bool true) ∧ Below W.heap.size W w' := by
  by_cases hs : 800 < s.size
  · have hz : (800 : Int) < (s.size : Nat) := by omega
    clear hs
    go_enter Try.func5, Try.ntmps5
    go_wp2_with fail
    refine (mawake_any _).mono ?_
    rintro e w1 ⟨rfl, b1⟩
    have B1 := hide b1
    clear b1
    go_wp2
    go_ret
    exact ⟨rfl, B1.out⟩
  · have hz : ¬ (800 : Int) < (s.size : Nat) := by omega
    have HT := hide (tokens_any s level W (by omega))
    have HS := hide hs
    clear hs
    go_enter Try.func5, Try.ntmps5
    go_wp2_with fail
    refine HT.out.mono ?_
    rintro e w1 ⟨a1, c1, ts, rfl, ht, ha1, _, b1⟩
    have HLN := hide (show ts.length ≤ s.size by have h := Toks.length _ _ ht; omega)
    have HEA := hide (toks_each _ _ ht)
    have HBK := hide (back_text s level ts ht (s.size : Nat) (Int.le_refl _))
    have HA1 := hide ha1
    have B1 := hide b1
    have HE := hide (expand_any (ts.map castT) a1 c1 (s.size : Nat) w1 ha1 (by rw [List.length_map]; have := HLN.out; have := HS.out; omega) (by omega) (by have := HS.out; omega))
    unfold ExPost at HE
    rw [HBK.out.1, HBK.out.2, List.length_map] at HE
    obtain ⟨m, hm⟩ : ∃ m, ts.length = m := ⟨_, rfl⟩
    have HM := hide hm
    rw [hm] at HE HLN ⊢
    have hm9 : m ≤ 800 := by have := HLN.out; have := HS.out; omega
    clear ht ha1 b1 hm
    go_wp2
    go_loop [6] (fun iv => ∃ j : Nat, j ≤ m ∧ iv = .int .i64 (j : Nat)) (fun iv => m - (intOf iv).toNat)
    case atStart => exact ⟨0, Nat.zero_le _, rfl⟩
    case round =>
      obtain ⟨j, hj, rfl⟩ := hrel
      by_cases hlt : j < m
      · obtain ⟨⟨b, l, d⟩, hr⟩ : ∃ r, ts[j]? = some r := ⟨_, List.getElem?_eq_getElem (by rw [HM.out]; exact hlt)⟩
        obtain ⟨g, off, rfl, hg, _c1, _c2, _c3⟩ := HA1.out j (b, (l : Int), (d : Int)) (by rw [List.getElem?_map, hr]; rfl)
        dsimp only at _c1 _c2 _c3
        have zj : (j : Int) < m := by omega
        have hea := HEA.out _ (List.mem_of_getElem? hr)
        dsimp only at hea
        clear hr
        rcases hea with ⟨rfl, rfl⟩ | ⟨l1, l2, d1, d2, rfl⟩
        · go_wp2
          go_round
          case rel => exact ⟨j + 1, hlt, by go_num⟩
          case measure => exact meas_oneW j m hlt
        · have q0 : ((l : Int) == 0) = false := by simp; omega
          have q1 : decide ((l : Int) < 3) = false := decide_eq_false (by omega)
          have q2 : decide ((258 : Int) < l) = false := decide_eq_false (by omega)
          have q3 : decide ((d : Int) < 1) = false := decide_eq_false (by omega)
          have q4 : decide ((32768 : Int) < d) = false := decide_eq_false (by omega)
          clear l1 l2 d1 d2
          go_wp2
          go_round
          case rel => exact ⟨j + 1, hlt, by go_num⟩
          case measure => exact meas_oneW j m hlt
      · have hje : j = m := by omega
        subst hje
        go_wp2_with fail
        refine HE.out.mono ?_
        rintro e w2 ⟨rfl, b2⟩
        have B2 := hide (B1.out.trans (b2.mono B1.out.size))
        clear b2
        go_wp2_with fail
        refine (mawake_any _).mono ?_
        rintro e w3 ⟨rfl, b3⟩
        have B3 := hide (B2.out.trans (b3.mono B2.out.size))
        have zl : (j : Int) ≤ (s.size : Nat) := by have := HLN.out; omega
        clear b3
        go_wp2
        go_ret
        exact ⟨rfl, B3.out⟩

theorem matchBack_walk (W : World) (s : ByteArray) (_hs : s.size ≤ maxLen) (level : Int) (_wl : (Lit.int .i64 level).wf = true) :
    Calls Try.prog 5 #[.string s, .int .i64 level] W fun e w' => e = .returned (.bool true) ∧ Below W.heap.size W w' := mback_walk W s level

end Go.Proofs.Ytifcpaeofmkokaa
