/- MatchLong, the walk: a text of one piece, again and again, comes to that piece's bytes, two more at most, and matches. -/
import Derived.Test.YtifcpaeofmkokaaMBackL
namespace Go.Proofs.Ytifcpaeofmkokaa
open Go.RowKit Go.Lib

/-- A piece, so many times. -/
def repB (s : ByteArray) : Nat → ByteArray
  | 0 => ByteArray.empty
  | k + 1 => repB s k ++ s
theorem repB_size (s : ByteArray) : ∀ k, (repB s k).size = k * s.size
  | 0 => by rw [Nat.zero_mul]; rfl
  | k + 1 => by show (repB s k ++ s).size = _; rw [ByteArray.size_append, repB_size s k, Nat.succ_mul]
theorem bAt_append (a b : ByteArray) (j : Nat) : bAt (a ++ b) j = if j < a.size then bAt a j else bAt b (j - a.size) := by
  have hd : (a ++ b).data.toList = a.data.toList ++ b.data.toList := by simp
  have hl : a.data.toList.length = a.size := by simp
  unfold bAt
  rw [hd, List.getD_eq_getElem?_getD]
  by_cases h : j < a.size
  · rw [if_pos h, List.getElem?_append_left (by omega), List.getD_eq_getElem?_getD]
  · rw [if_neg h, List.getElem?_append_right (by omega), hl, List.getD_eq_getElem?_getD]
theorem repB_get (s : ByteArray) (hp : 0 < s.size) : ∀ k j, j < k * s.size → bAt (repB s k) j = bAt s (j % s.size)
  | 0, j, h => by omega
  | k + 1, j, h => by
    show bAt (repB s k ++ s) j = _
    rw [bAt_append, repB_size]
    by_cases hj : j < k * s.size
    · rw [if_pos hj]; exact repB_get s hp k j hj
    · rw [if_neg hj]
      rw [Nat.succ_mul] at h
      have e : j % s.size = j - k * s.size := by
        have e2 : j = (j - k * s.size) + k * s.size := by omega
        rw [e2, Nat.add_mul_mod_self_right, Nat.mod_eq_of_lt (by omega)]
        omega
      rw [e]
theorem repB_period (s : ByteArray) (hp : 0 < s.size) (k i : Nat) (h1 : s.size ≤ i) (h2 : i < (repB s k).size) : bAt (repB s k) (i - s.size) = bAt (repB s k) i := by
  rw [repB_size] at h2
  rw [repB_get s hp k _ (by omega), repB_get s hp k i h2]
  congr 1
  have e : i = (i - s.size) + s.size := by omega
  rw [e, Nat.add_mod_right, Nat.add_sub_cancel]
theorem litN_take (ts : List (Nat × Nat × Nat)) (j : Nat) (t : Nat × Nat × Nat) (h : ts[j]? = some t) : litN (ts.take (j + 1)) = litN (ts.take j) + if t.2.1 = 0 then 1 else 0 := by
  unfold litN
  rw [List.take_add_one, h, List.countP_append]
  simp only [Option.toList_some, List.countP_singleton, beq_iff_eq]
theorem litN_le (ts : List (Nat × Nat × Nat)) (j : Nat) : litN (ts.take j) ≤ j := by
  unfold litN
  exact Nat.le_trans List.countP_le_length (by rw [List.length_take]; omega)

set_option maxRecDepth 20000 in
set_option maxHeartbeats 4000000 in
theorem mlong_big (W : World) (s : ByteArray) (u v : Nat) (h : s.size < 1 ∨ 20 < s.size) :
    Calls Try.prog 6 #[.string s, .int .u8 (u : Int), .int .u8 (v : Int)] W fun e w' => e = .returned (.bool true) ∧ Below W.heap.size W w' := by
  obtain ⟨n, hn⟩ : ∃ n, s.size = n := ⟨_, rfl⟩
  have zn : ((s.size : Nat) : Int) = (n : Int) := by omega
  rcases h with h | h
  · have hz : (n : Int) < 1 := by omega
    clear h hn
    go_enter Try.func6, Try.ntmps6
    go_wp2_with fail
    refine (mawake_any _).mono ?_
    rintro e w1 ⟨rfl, b1⟩
    have B1 := hide b1
    clear b1
    go_wp2
    go_ret
    exact ⟨rfl, B1.out⟩
  · have hz : decide ((n : Int) < 1) = false := decide_eq_false (by omega)
    have hz2 : (20 : Int) < n := by omega
    clear h hn
    go_enter Try.func6, Try.ntmps6
    go_wp2_with fail
    refine (mawake_any _).mono ?_
    rintro e w1 ⟨rfl, b1⟩
    have B1 := hide b1
    clear b1
    go_wp2
    go_ret
    exact ⟨rfl, B1.out⟩

set_option maxRecDepth 20000 in
set_option maxHeartbeats 4000000 in
theorem mlong_small (W : World) (s : ByteArray) (u v k : Nat) (hu : u < 256) (hv : v < 256) (hk : v % 3 = k) (h1 : 1 ≤ s.size) (h2 : s.size ≤ 20) :
    Calls Try.prog 6 #[.string s, .int .u8 (u : Int), .int .u8 (v : Int)] W fun e w' => e = .returned (.bool true) ∧ Below W.heap.size W w' := by
  obtain ⟨p, hp⟩ : ∃ p, s.size = p := ⟨_, rfl⟩
  have HP := hide hp
  have zn : ((s.size : Nat) : Int) = (p : Int) := by omega
  have d1 : decide ((p : Int) < 1) = false := decide_eq_false (by omega)
  have d2 : decide ((20 : Int) < p) = false := decide_eq_false (by omega)
  have zv : (v : Int) % 3 = (k : Int) := by omega
  have zv9 : (v : Int) ≤ 255 := by omega
  have zu9 : (u : Int) ≤ 255 := by omega
  have hk2 : k ≤ 2 := by omega
  have hu9 : u ≤ 255 := by omega
  have HSZ := hide (repB_size s)
  have HPB := hide (show 1 ≤ p ∧ p ≤ 20 by omega)
  rw [hp] at HSZ
  clear hu hv hk h1 h2 hp
  go_enter Try.func6, Try.ntmps6
  go_wp2
  go_loop [7, 8] (fun tv iv => ∃ i : Nat, i ≤ u ∧ iv = .int .i64 (i : Nat) ∧ tv = .string (repB s i)) (fun _ iv => u - (intOf iv).toNat)
  case atStart => exact ⟨0, Nat.zero_le _, rfl, rfl⟩
  case round =>
    obtain ⟨i, hi, rfl, rfl⟩ := hrel
    by_cases hlt : i < u
    · have zi : (i : Int) < u := by omega
      have hsz := HSZ.out i
      have hmul : i * p ≤ 255 * 20 := Nat.mul_le_mul (by omega) HPB.out.2
      have HN := hide (show repB s i ++ s = repB s (i + 1) from rfl)
      generalize repB s i = t at *
      have hts : t.size ≤ 5100 := by omega
      have q1 : (9223372036854775807 < t.size + s.size) = False := eq_false (by rw [HP.out]; have := HPB.out.2; omega)
      clear hsz hmul
      go_wp2
      go_round
      case rel => exact ⟨i + 1, hlt, by go_num, by rw [← HN.out]⟩
      case measure => exact meas_oneW i u hlt
    · have hie : i = u := by omega
      subst hie
      have hsz := HSZ.out i
      have hmul : i * p ≤ 255 * 20 := Nat.mul_le_mul (by omega) HPB.out.2
      have HPER := hide (fun j h1 h2 => repB_period s (by rw [HP.out]; exact HPB.out.1) i j h1 h2)
      rw [HP.out] at HPER
      generalize repB s i = t at *
      have hts : t.size ≤ 5100 := by omega
      have HT := hide (tokens_any t (1 + (k : Int)) W (by omega))
      have HTS := hide hts
      clear hsz hmul hlt hi
      go_wp2_with fail
      refine HT.out.mono ?_
      rintro e w1 ⟨a1, c1, ts, rfl, ht, ha1, _, b1⟩
      have HLN := hide (show ts.length ≤ t.size by have h := Toks.length _ _ ht; omega)
      have HBK := hide (back_text t _ ts ht (t.size : Nat) (Int.le_refl _))
      have HLIT := hide (show litN ts ≤ p + 2 by
        have h := lits_few (bAt t) t.size p (1 + (k : Int)) HPB.out.1 (by have := HPB.out.2; omega) HPER.out (by omega) (by omega) ts 0 ht
        omega)
      have HA1 := hide ha1
      have B1 := hide b1
      have HE := hide (expand_any (ts.map castT) a1 c1 (t.size : Nat) w1 ha1 (by rw [List.length_map]; have := HLN.out; omega) (by omega) (by omega))
      unfold ExPost at HE
      rw [HBK.out.1, HBK.out.2, List.length_map] at HE
      obtain ⟨m, hm⟩ : ∃ m, ts.length = m := ⟨_, rfl⟩
      have HM := hide hm
      rw [hm] at HE HLN ⊢
      have hm9 : m ≤ 5100 := by have := HLN.out; omega
      clear ht ha1 b1 hm
      go_wp2_with fail
      refine HE.out.mono ?_
      rintro e w2 ⟨rfl, b2⟩
      have HA2 := hide (HA1.out.below b2 (Nat.le_refl _))
      have B2 := hide (B1.out.trans (b2.mono B1.out.size))
      clear b2
      go_wp2
      go_loop [12, 13] (fun cv jv => ∃ j q : Nat, j ≤ m ∧ jv = .int .i64 (j : Nat) ∧ cv = .int .i64 (q : Nat) ∧ Hid (q = litN (ts.take j))) (fun _ jv => m - (intOf jv).toNat)
      case atStart => exact ⟨0, 0, Nat.zero_le _, rfl, rfl, hide rfl⟩
      case round =>
        obtain ⟨j, q, hj, rfl, rfl, HQ⟩ := hrel
        have hq9 : q ≤ j := by rw [HQ.out]; exact litN_le ts j
        by_cases hjm : j < m
        · obtain ⟨⟨b, l, d⟩, hr⟩ : ∃ r, ts[j]? = some r := ⟨_, List.getElem?_eq_getElem (by rw [HM.out]; exact hjm)⟩
          obtain ⟨g, off, rfl, hg, _c1, _c2, _c3⟩ := HA2.out j (b, (l : Int), (d : Int)) (by rw [List.getElem?_map, hr]; rfl)
          dsimp only at _c1 _c2 _c3
          have HLT := hide (litN_take ts j _ hr)
          dsimp only at HLT
          have zj : (j : Int) < m := by omega
          clear hr
          by_cases l0 : l = 0
          · subst l0
            have HQ2 := hide (show q + 1 = litN (ts.take (j + 1)) by rw [HLT.out, if_pos rfl, ← HQ.out])
            go_wp2
            go_round
            case rel => exact ⟨j + 1, q + 1, hjm, by go_num, by go_num, HQ2⟩
            case measure => exact meas_oneW j m hjm
          · have HQ2 := hide (show q = litN (ts.take (j + 1)) by rw [HLT.out, if_neg l0, ← HQ.out]; rfl)
            have bl : ((l : Int) == 0) = false := by simp; exact l0
            clear l0
            go_wp2
            go_round
            case rel => exact ⟨j + 1, q, hjm, by go_num, rfl, HQ2⟩
            case measure => exact meas_oneW j m hjm
        · have hje : j = m := by omega
          subst hje
          have hp20 : p ≤ 20 := HPB.out.2
          have zq : (q : Int) ≤ (p : Int) + 2 := by
            have h := HLIT.out
            have h2 := HQ.out
            rw [List.take_of_length_le (by rw [HM.out]; exact Nat.le_refl _)] at h2
            omega
          go_wp2_with fail
          refine (mawake_any _).mono ?_
          rintro e w3 ⟨rfl, b3⟩
          have B3 := hide (B2.out.trans (b3.mono B2.out.size))
          clear b3
          go_wp2
          go_ret
          exact ⟨rfl, B3.out⟩

theorem matchLong_walk (W : World) (s : ByteArray) (_hs : s.size ≤ maxLen) (u : Int) (wu : (Lit.int .u8 u).wf = true) (v : Int) (wv : (Lit.int .u8 v).wf = true) :
    Calls Try.prog 6 #[.string s, .int .u8 u, .int .u8 v] W fun e w' => e = .returned (.bool true) ∧ Below W.heap.size W w' := by
  have hb := bounds_u8 wu
  have hc := bounds_u8 wv
  obtain ⟨u, rfl⟩ := Int.eq_ofNat_of_zero_le hb.1
  obtain ⟨v, rfl⟩ := Int.eq_ofNat_of_zero_le hc.1
  by_cases h : s.size < 1 ∨ 20 < s.size
  · exact mlong_big W s u v h
  · exact mlong_small W s u v _ (by omega) (by omega) rfl (by omega) (by omega)

end Go.Proofs.Ytifcpaeofmkokaa
