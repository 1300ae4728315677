/- Contract of the document's 'Tokens' of layer 8. -/
import Derived.Test.YtifcpaeofmkokaaMRow
namespace Go.Proofs.Ytifcpaeofmkokaa
open Go.RowKit Go.Lib

theorem tok_lit (c : Nat → Nat) (n i : Nat) (level : Int) (h : (bestM c n i (chainL level)).1 = 0 ∨ lazyB c n i level = true) : tokM c n i level = (c i, 0, 0) := by unfold tokM; rw [if_pos h]
theorem tok_mat (c : Nat → Nat) (n i : Nat) (level : Int) (h : (bestM c n i (chainL level)).1 ≠ 0) (h2 : lazyB c n i level = false) : tokM c n i level = (0, (bestM c n i (chainL level)).1, (bestM c n i (chainL level)).2) := by
  unfold tokM
  rw [if_neg (by rw [h2]; intro e; exact Or.elim e (fun e => h e) (fun e => by cases e))]
theorem lazy_no (c : Nat → Nat) (n i : Nat) (level : Int) (h : 258 ≤ (bestM c n i (chainL level)).1 ∨ level < 4) : lazyB c n i level = false := by
  unfold lazyB
  rcases h with h | h
  · rw [decide_eq_false (show ¬ (bestM c n i (chainL level)).1 < 258 by omega)]; simp
  · rw [decide_eq_false (show ¬ 4 ≤ level by omega)]; simp
theorem lazy_is (c : Nat → Nat) (n i : Nat) (level : Int) (h : 0 < (bestM c n i (chainL level)).1) (h2 : (bestM c n i (chainL level)).1 < 258) (h3 : 4 ≤ level) : lazyB c n i level = decide ((bestM c n i (chainL level)).1 < (bestM c n (i + 1) (chainL level)).1) := by
  unfold lazyB
  rw [decide_eq_true h, decide_eq_true h2, decide_eq_true h3]
  simp

theorem meas_addN (i K n : Nat) (h : 1 ≤ K) (h2 : i + K ≤ n) : n - (intOf (.int .i64 ((i : Int) + (K : Int)))).toNat < n - (intOf (.int .i64 (i : Int))).toNat := by
  show n - ((i : Int) + (K : Int)).toNat < n - ((i : Nat) : Int).toNat
  omega

set_option maxRecDepth 20000 in
set_option maxHeartbeats 8000000 in
theorem qtokens_cap (s : ByteArray) (level : Int) (W : World) (hs : s.size ≤ 1000000) :
    Calls Try.prog 12 #[.string s, .int .i64 level] W fun e w' => TokCap W s level e w' := by
  have HT0 := hide (show TokW W W s level 0 [] (.slice none 0 0) from ⟨World.ownsRow_nil _ _ _ _, Below.refl _ _, fun rs h => h, Nat.le_refl _⟩)
  obtain ⟨n, hn⟩ : ∃ n, s.size = n := ⟨_, rfl⟩
  have HN := hide hn
  have zn : ((s.size : Nat) : Int) = (n : Int) := by omega
  have HS := hide hs
  rw [hn] at hs
  have HCH := hide (qchain_any level)
  have HCL := hide (chain_le level)
  obtain ⟨i1, ki, kz0, kz1, kz2⟩ := info_parts Try.infoTok
  clear hn
  go_enter Try.func12, Try.ntmps12
  go_wp2
  go_loopw [5, 6] (fun v iv wr => ∃ i : Nat, i ≤ n ∧ iv = .int .i64 (i : Nat) ∧ ∃ out, Hid (TokW wr W s level i out v)) (fun _ iv _ => n - (intOf iv).toNat)
  case atStart => exact ⟨0, Nat.zero_le _, rfl, [], HT0⟩
  case round =>
    clear HT0
    obtain ⟨i, hi, rfl, out, HT⟩ := hrel
    by_cases hlt : i < n
    · have zi : (i : Int) < n := by omega
      have hol := HT.out.len
      have X1 := hide (show out.length + 1 ≤ maxLen by unfold maxLen; omega)
      have X2 := hide (show (out.length + 1) * 24 ≤ 140737488355328 by omega)
      have HIS := hide (show i < s.size by rw [HN.out]; exact hlt)
      have ix := str_index s i HIS.out
      have HB1 := hide (fun w' => qbest_any s i (chainL level) w' (by rw [HN.out]; exact hi) HS.out HCL.out)
      have HB2 := hide (fun w' => qbest_any s (i + 1) (chainL level) w' (by rw [HN.out]; omega) HS.out HCL.out)
      have HGD := hide (best_good (bAt s) s.size i (chainL level))
      have HG2 := hide (best_good (bAt s) s.size (i + 1) (chainL level))
      have HLIT := hide (tok_lit (bAt s) s.size i level)
      have HMAT := hide (tok_mat (bAt s) s.size i level)
      have HLNO := hide (lazy_no (bAt s) s.size i level)
      have HLIS := hide (lazy_is (bAt s) s.size i level)
      obtain ⟨⟨r1, r2⟩, hr⟩ : ∃ r, bestM (bAt s) s.size i (chainL level) = r := ⟨_, rfl⟩
      obtain ⟨⟨q1, q2⟩, hq⟩ : ∃ r, bestM (bAt s) s.size (i + 1) (chainL level) = r := ⟨_, rfl⟩
      rw [hr] at HGD HLIT HMAT HLNO
      rw [hr, hq] at HLIS
      rw [hq] at HG2
      simp only [hr] at HB1
      simp only [hq] at HB2
      dsimp only at HLIT HMAT HLNO HLIS
      have hr9 : r1 ≤ 258 ∧ r2 ≤ 32768 ∧ (r1 ≠ 0 → i + r1 ≤ n) := by
        rcases HGD.out with e | e
        · injection e with e1 e2; omega
        · have := e.2.1; have := e.2.2.2.1; have h3 := e.2.2.2.2.2.1; rw [HN.out] at h3; dsimp only at *; omega
      have hq9 : q1 ≤ 258 := by
        rcases HG2.out with e | e
        · injection e with e1 e2; omega
        · have := e.2.1; dsimp only at *; omega
      have hr1 := hr9.1
      have hr2 := hr9.2.1
      have HRN := hide hr9.2.2
      have hbt := bAt_lt s i
      generalize bAt s i = bi at *
      clear hr hq hr9 hol HGD HG2
      generalize chainL level = ch at *
      go_wp2_with fail
      refine (HCH.out _).mono ?_
      rintro e w1 ⟨rfl, rfl⟩
      go_wp2_with fail
      refine (HB1.out _).mono ?_
      rintro e w2 ⟨rfl, b2⟩
      have HT2 := hide (HT.out.below b2)
      clear b2
      by_cases r0 : r1 = 0
      · subst r0
        have HTK := hide (HLIT.out (.inl rfl))
        clear HLIT HMAT HLNO HLIS HB1 HB2
        go_wp2_with (first
          | (at_builtin; refine wpList_append_fresh _ rfl _ _ 24 rfl W.heap.size 32 i1 (.agg #[.int .i64 0, .int .i64 0, .int .u8 0]) 3 24 Try.underlying24 ki kz0 kz1 kz2 rfl (by decide) u5 _ _ rfl (HT2.out.own.alloc _) ⟨w2.heap.size, 0, none⟩ 1 1 [.int .i64 0, .int .i64 0, .int .u8 (bi : Int)] rfl rfl (cell_three_new _ _ _ _ _) (three_one _ _ _) X1.out X2.out (size_alloc_le HT2.out.bel.size) ?_; intro v3 w3 o3 g3 _f3; have HT3 := hide (HT2.out.app HIS.out (bi, 0, 0) HTK.out 1 rfl _ o3 g3); clear o3 g3 _f3))
        go_roundw
        case rel => exact ⟨i + 1, hlt, by go_num, _, HT3⟩
        case measure => exact meas_oneW i n hlt
      · have zr0 : (0 : Int) < r1 := by omega
        by_cases r258 : r1 < 258
        · have zr258 : (r1 : Int) < 258 := by omega
          by_cases l4 : 4 ≤ level
          · have hlz := HLIS.out (by omega) r258 l4
            have e1 : ((i + 1 : Nat) : Int) = (i : Int) + 1 := by omega
            rw [e1] at HB2
            go_wp2_with fail
            refine (HCH.out _).mono ?_
            rintro e w4 ⟨rfl, rfl⟩
            go_wp2_with fail
            refine (HB2.out _).mono ?_
            rintro e w5 ⟨rfl, b5⟩
            have HT5 := hide (HT2.out.below b5)
            clear b5
            by_cases hlq : r1 < q1
            · have HTK := hide (HLIT.out (.inr (by rw [hlz]; exact decide_eq_true hlq)))
              have zlq : (r1 : Int) < q1 := by omega
              clear HLIT HMAT HLNO HLIS HB1 HB2 hlz
              go_wp2_with (first
                | (at_builtin; refine wpList_append_fresh _ rfl _ _ 24 rfl W.heap.size 32 i1 (.agg #[.int .i64 0, .int .i64 0, .int .u8 0]) 3 24 Try.underlying24 ki kz0 kz1 kz2 rfl (by decide) u5 _ _ rfl (HT5.out.own.alloc _) ⟨w5.heap.size, 0, none⟩ 1 1 [.int .i64 0, .int .i64 0, .int .u8 (bi : Int)] rfl rfl (cell_three_new _ _ _ _ _) (three_one _ _ _) X1.out X2.out (size_alloc_le HT5.out.bel.size) ?_; intro v3 w3 o3 g3 _f3; have HT3 := hide (HT5.out.app HIS.out (bi, 0, 0) HTK.out 1 rfl _ o3 g3); clear o3 g3 _f3))
              go_roundw
              case rel => exact ⟨i + 1, hlt, by go_num, _, HT3⟩
              case measure => exact meas_oneW i n hlt
            · have HTK := hide (HMAT.out r0 (by rw [hlz]; exact decide_eq_false hlq))
              have zlq : ¬ (r1 : Int) < q1 := by omega
              clear HLIT HMAT HLNO HLIS HB1 HB2 hlz
              have hin := HRN.out r0
              have HTS := hide (show takes (0, r1, r2) = r1 by unfold takes; rw [if_neg r0])
              have br0 : ((r1 : Int) == 0) = false := by simp; omega
              have HR1 := hide (show 1 ≤ r1 by omega)
              clear r0
              go_wp2_with (first
                | (at_builtin; refine wpList_append_fresh _ rfl _ _ 24 rfl W.heap.size 32 i1 (.agg #[.int .i64 0, .int .i64 0, .int .u8 0]) 3 24 Try.underlying24 ki kz0 kz1 kz2 rfl (by decide) u5 _ _ rfl (HT5.out.own.alloc _) ⟨w5.heap.size, 0, none⟩ 1 1 [.int .i64 (r1 : Int), .int .i64 (r2 : Int), .int .u8 0] rfl rfl (cell_three_new _ _ _ _ _) (three_one _ _ _) X1.out X2.out (size_alloc_le HT5.out.bel.size) ?_; intro v3 w3 o3 g3 _f3; have HT3 := hide (HT5.out.app HIS.out (0, r1, r2) HTK.out r1 HTS.out _ o3 g3); clear o3 g3 _f3))
              go_roundw
              case rel => exact ⟨i + r1, hin, by go_num, _, HT3⟩
              case measure => exact meas_addN i r1 n HR1.out hin
          · have dl4 : decide ((4 : Int) ≤ level) = false := decide_eq_false l4
            have HTK := hide (HMAT.out r0 (HLNO.out (.inr (by omega))))
            clear HLIT HMAT HLNO HLIS HB1 HB2
            have hin := HRN.out r0
            have HTS := hide (show takes (0, r1, r2) = r1 by unfold takes; rw [if_neg r0])
            have br0 : ((r1 : Int) == 0) = false := by simp; omega
            have HR1 := hide (show 1 ≤ r1 by omega)
            clear r0
            go_wp2_with (first
              | (at_builtin; refine wpList_append_fresh _ rfl _ _ 24 rfl W.heap.size 32 i1 (.agg #[.int .i64 0, .int .i64 0, .int .u8 0]) 3 24 Try.underlying24 ki kz0 kz1 kz2 rfl (by decide) u5 _ _ rfl (HT2.out.own.alloc _) ⟨w2.heap.size, 0, none⟩ 1 1 [.int .i64 (r1 : Int), .int .i64 (r2 : Int), .int .u8 0] rfl rfl (cell_three_new _ _ _ _ _) (three_one _ _ _) X1.out X2.out (size_alloc_le HT2.out.bel.size) ?_; intro v3 w3 o3 g3 _f3; have HT3 := hide (HT2.out.app HIS.out (0, r1, r2) HTK.out r1 HTS.out _ o3 g3); clear o3 g3 _f3))
            go_roundw
            case rel => exact ⟨i + r1, hin, by go_num, _, HT3⟩
            case measure => exact meas_addN i r1 n HR1.out hin
        · have zr258 : decide ((r1 : Int) < 258) = false := decide_eq_false (by omega)
          have dr258 : decide (r1 < 258) = false := decide_eq_false r258
          have HTK := hide (HMAT.out r0 (HLNO.out (.inl (by omega))))
          clear HLIT HMAT HLNO HLIS HB1 HB2
          have hin := HRN.out r0
          have HTS := hide (show takes (0, r1, r2) = r1 by unfold takes; rw [if_neg r0])
          have br0 : ((r1 : Int) == 0) = false := by simp; omega
          have HR1 := hide (show 1 ≤ r1 by omega)
          clear r0
          go_wp2_with (first
            | (at_builtin; refine wpList_append_fresh _ rfl _ _ 24 rfl W.heap.size 32 i1 (.agg #[.int .i64 0, .int .i64 0, .int .u8 0]) 3 24 Try.underlying24 ki kz0 kz1 kz2 rfl (by decide) u5 _ _ rfl (HT2.out.own.alloc _) ⟨w2.heap.size, 0, none⟩ 1 1 [.int .i64 (r1 : Int), .int .i64 (r2 : Int), .int .u8 0] rfl rfl (cell_three_new _ _ _ _ _) (three_one _ _ _) X1.out X2.out (size_alloc_le HT2.out.bel.size) ?_; intro v3 w3 o3 g3 _f3; have HT3 := hide (HT2.out.app HIS.out (0, r1, r2) HTK.out r1 HTS.out _ o3 g3); clear o3 g3 _f3))
          go_roundw
          case rel => exact ⟨i + r1, hin, by go_num, _, HT3⟩
          case measure => exact meas_addN i r1 n HR1.out hin
    · have hie : i = n := by omega
      subst hie
      have HD := hide (show TokCap W s level (.returned u5) wr by have h := HT.out; rw [← HN.out] at h; exact h.done)
      go_wp2
      go_ret
      exact HD.out

theorem qtokens_any (s : ByteArray) (level : Int) (W : World) (hs : s.size ≤ 1000000) :
    Calls Try.prog 12 #[.string s, .int .i64 level] W fun e w' => TokPost W s level e w' := by
  refine (qtokens_cap s level W hs).mono ?_
  intro e w' h
  exact h.post

end Go.Proofs.Ytifcpaeofmkokaa
