/- RunsJoin, the walk: runs of two lists, one behind the other, are unfolded to both. -/
import Derived.Test.YtdaflfkknlhllaaRBackL
import Derived.Test.YtdaflfkknlhllaaAppArg
namespace Go.Proofs.Ytdaflfkknlhllaa
open Go.RowKit Go.Lib

theorem intCs_len (l : List Int) : (intCs l).length = l.length := by simp [intCs]
theorem intCs_one (l : List Int) : ∀ u ∈ intCs l, u.oneCell' = true := by
  intro u hu
  obtain ⟨n, _, rfl⟩ := List.mem_map.1 hu
  rfl
theorem arg_none {w : World} {l : List Int} {a : Option Addr} (h : ArgZ w a l) (e : a = none) : l.length = 0 := by
  subst e
  rw [empty_arg h]
  rfl
theorem arg_news {w : World} {l : List Int} {a : Option Addr} (h : ArgZ w a l) (ad : Addr) (e : a = some ad) : ∀ j u, (intCs l)[j]? = some u → w.cell? (ad.add j) = some u := by
  intro j u hu
  unfold intCs at hu
  rw [List.getElem?_map] at hu
  cases hx : l[j]? with
  | none => rw [hx] at hu; cases hu
  | some x =>
    rw [hx] at hu
    injection hu with hu
    obtain ⟨b, off, e1, _, h3⟩ := h j x hx
    rw [e] at e1
    injection e1 with e1
    rw [e1, add_noneW, ← hu]
    exact h3
theorem argR_none {w : World} {l : List (Int × Int)} {a : Option Addr} (h : ArgR w a l) (e : a = none) : l.length = 0 := by
  subst e
  cases l with
  | nil => rfl
  | cons x l =>
    obtain ⟨_, _, e, _⟩ := h 0 x.1 x.2 rfl
    cases e
theorem runCs_split (l : List (Int × Int)) (j : Nat) (u : Value) (h : (runCs l)[j]? = some u) : ∃ i s e, l[i]? = some (s, e) ∧ ((j = i * 2 ∧ u = .int .i64 s) ∨ (j = i * 2 + 1 ∧ u = .int .i64 e)) := by
  have hj := (List.getElem?_eq_some_iff.1 h).1
  rw [runCs_length] at hj
  have hi : j / 2 < l.length := by omega
  obtain ⟨⟨s, e⟩, hr⟩ : ∃ r, l[j / 2]? = some r := ⟨_, List.getElem?_eq_getElem hi⟩
  have hg := runCs_get l (j / 2) s e hr
  refine ⟨j / 2, s, e, hr, ?_⟩
  by_cases h2 : j % 2 = 0
  · left
    have ej : j = j / 2 * 2 := by omega
    refine ⟨ej, ?_⟩
    rw [← ej, h] at hg
    exact Option.some.inj hg.1
  · right
    have ej : j = j / 2 * 2 + 1 := by omega
    refine ⟨ej, ?_⟩
    rw [← ej, h] at hg
    exact Option.some.inj hg.2
theorem argR_news {w : World} {l : List (Int × Int)} {a : Option Addr} (h : ArgR w a l) (ad : Addr) (e : a = some ad) : ∀ j u, (runCs l)[j]? = some u → w.cell? (ad.add j) = some u := by
  intro j u hu
  obtain ⟨i, s, x, hr, hc⟩ := runCs_split l j u hu
  obtain ⟨b, off, e1, _, h3, h4⟩ := h i s x hr
  rw [e] at e1
  injection e1 with e1
  rw [e1, add_noneW]
  rcases hc with ⟨rfl, rfl⟩ | ⟨rfl, rfl⟩
  · exact h3
  · rw [← Nat.add_assoc]; exact h4
theorem own_empty (w : World) (e : TypeId) (size : Nat) : (w.alloc (.cells #[] e)).ownsRow w.heap.size e size (.slice (some ⟨w.heap.size, 0, none⟩) 0 0) 0 [] :=
  World.ownsRow_lit (e := e) (size := size) w #[] 0 (Nat.le_refl _) (by unfold maxLen; omega) (by simp)
theorem join_un {a b : List Int} {ra rb : List (Int × Int)} (ha : FoldRes a ra) (hb : FoldRes b rb) (hv : ∀ x ∈ a ++ b, 0 ≤ x ∧ x ≤ 15) : unO (ra ++ rb) ((a ++ b).length : Int) = a ++ b ∧ unB (ra ++ rb) ((a ++ b).length : Int) = true := by
  have hva : ∀ x ∈ a, 0 ≤ x ∧ x ≤ 15 := fun x hx => hv x (List.mem_append_left _ hx)
  have hvb : ∀ x ∈ b, 0 ≤ x ∧ x ≤ 15 := fun x hx => hv x (List.mem_append_right _ hx)
  have h1 := back_two a b ra rb (ha.good hva) (hb.good hvb) hva hvb
  unfold unO unB
  rw [h1]
  exact ⟨rfl, rfl⟩

set_option maxRecDepth 20000 in
set_option maxHeartbeats 4000000 in
theorem join_big (n m : Nat) (a b : Option Addr) (ca cb : Nat) (W : World) (hn : 300 < n ∨ (n ≤ 300 ∧ 300 < m)) :
    Calls Try.prog 7 #[.slice a n ca, .slice b m cb] W fun e w' => e = .returned (.bool true) ∧ Below W.heap.size W w' := by
  rcases hn with h | ⟨h, h2⟩
  · have hz : (300 : Int) < n := by omega
    clear h
    go_enter Try.func7, Try.ntmps7
    go_wp2_with fail
    refine (rawake_any _).mono ?_
    rintro e w1 ⟨rfl, b1⟩
    have B1 := hide b1
    clear b1
    go_wp2
    go_ret
    exact ⟨rfl, B1.out⟩
  · have hz : decide ((300 : Int) < n) = false := decide_eq_false (by omega)
    have hz2 : (300 : Int) < m := by omega
    clear h h2
    go_enter Try.func7, Try.ntmps7
    go_wp2_with fail
    refine (rawake_any _).mono ?_
    rintro e w1 ⟨rfl, b1⟩
    have B1 := hide b1
    clear b1
    go_wp2
    go_ret
    exact ⟨rfl, B1.out⟩

set_option maxRecDepth 20000 in
set_option maxHeartbeats 4000000 in
theorem join_small (x y : List Int) (a b : Option Addr) (ca cb : Nat) (W : World) (ha : ArgZ W a x) (hb : ArgZ W b y) (hx : x.length ≤ 300) (hy : y.length ≤ 300) (hca : x.length ≤ ca) (hcb : y.length ≤ cb) :
    Calls Try.prog 7 #[.slice a x.length ca, .slice b y.length cb] W fun e w' => e = .returned (.bool true) ∧ Below W.heap.size W w' := by
  have HFA := hide (fun w' (h : ArgZ w' a x) => fold7_any x a ca w' h (by omega) hca)
  have HFB := hide (fun w' (h : ArgZ w' b y) => fold7_any y b cb w' h (by omega) hcb)
  clear hca hcb
  have HA := hide ha
  have HB := hide hb
  have B0 := hide ((Below.refl W.heap.size W).alloc (Nat.le_refl _) (.cells #[] 3))
  have HE0 := hide (own_empty W 3 1)
  have HXL := hide hx
  have HYL := hide hy
  obtain ⟨n, hn⟩ : ∃ n, x.length = n := ⟨_, rfl⟩
  obtain ⟨m, hm⟩ : ∃ m, y.length = m := ⟨_, rfl⟩
  have HN := hide hn
  have HM := hide hm
  rw [hn] at hx HFA ⊢
  rw [hm] at hy HFB ⊢
  have hz : decide ((300 : Int) < n) = false := decide_eq_false (by omega)
  have hz2 : decide ((300 : Int) < m) = false := decide_eq_false (by omega)
  have HA0 := hide (HA.out.belowB B0.out (Nat.le_refl _))
  have HB0 := hide (HB.out.belowB B0.out (Nat.le_refl _))
  obtain ⟨i1, ki, kz0, kz1, kz2⟩ := info_parts Try.infoInt
  clear ha hb hn hm
  go_enter Try.func7, Try.ntmps7
  have X1 := hide (show 0 + n ≤ maxLen by unfold maxLen; omega)
  have X2 := hide (show (0 + n) * 8 ≤ 140737488355328 by omega)
  have X3 := hide (show 0 + n + m ≤ maxLen by unfold maxLen; omega)
  have X4 := hide (show (0 + n + m) * 8 ≤ 140737488355328 by omega)
  have BS := hide (show W.heap.size ≤ (W.alloc (.cells #[] 3)).heap.size from B0.out.size)
  go_wp2_with (first
    | (at_builtin; refine wpList_append_arg rfl (Operand.tmp 18) (Operand.tmp 19) 22 rfl W.heap.size 3 i1 (.int .i64 0) 1 8 Try.underlying22 ki kz0 kz1 kz2 rfl (by decide) (.slice (some ⟨W.heap.size, 0, none⟩) 0 0) 0 [] rfl HE0.out a n ca (intCs x) rfl (by rw [intCs_len, HN.out, Nat.mul_one]) (fun e => by rw [← HN.out]; exact arg_none HA0.out e) (arg_news HA0.out) (intCs_one x) X1.out X2.out BS.out ?_; intro v1 w1 o1 g1; have HB1 := hide (Below.grownB B0.out g1 HE0.out BS.out); have HO1 := hide o1; have HBY := hide (HB.out.belowB HB1.out (Nat.le_refl _)); clear o1 g1)
    | (at_builtin; refine wpList_append_arg rfl (Operand.tmp 20) (Operand.tmp 21) 22 rfl W.heap.size 3 i1 (.int .i64 0) 1 8 Try.underlying22 ki kz0 kz1 kz2 rfl (by decide) v1 (0 + n) ([] ++ intCs x) rfl HO1.out b m cb (intCs y) rfl (by rw [intCs_len, HM.out, Nat.mul_one]) (fun e => by rw [← HM.out]; exact arg_none HBY.out e) (arg_news HBY.out) (intCs_one y) X3.out X4.out HB1.out.size ?_; intro v2 w2 o2 g2; have HB2 := hide (Below.grownB HB1.out g2 HO1.out HB1.out.size); have HO2 := hide o2; clear o2 g2; rw [List.nil_append, intCs_append, Nat.zero_add] at HO2; obtain ⟨aa, cc, ee, hz9, _⟩ := own_argI HO2.out (by rw [List.length_append, HN.out, HM.out]); subst ee; have HALL := hide hz9; clear hz9))
  have HA2 := hide (HA.out.belowB HB2.out (Nat.le_refl _))
  have HBY2 := hide (HB.out.belowB HB2.out (Nat.le_refl _))
  clear HE0 HA0 HB0 X1 X2 X3 X4 BS HO1 HB1 HBY
  obtain ⟨k, hk⟩ : ∃ k, n + m = k := ⟨_, rfl⟩
  have HK := hide (show (x ++ y).length = k by rw [List.length_append, HN.out, HM.out]; exact hk)
  have hk9 : k ≤ 600 := by omega
  have HKN := hide hk
  simp only [hk] at HO2 ⊢
  clear hk
  have HAL := hide (show x ++ y = x ++ y from rfl)
  go_loop [6] (fun iv => ∃ j : Nat, j ≤ k ∧ iv = .int .i64 (j : Nat) ∧ Hid (∀ z ∈ (x ++ y).take j, 0 ≤ z ∧ z ≤ 15)) (fun iv => k - (intOf iv).toNat)
  case atStart => exact ⟨0, Nat.zero_le _, rfl, hide (fun x hx => by simp at hx)⟩
  case round =>
    obtain ⟨j, hj, rfl, HE⟩ := hrel
    by_cases hlt : j < k
    · obtain ⟨z, hzz⟩ := getZ? (x ++ y) j (by rw [HK.out]; exact hlt)
      obtain ⟨g, off, rfl, hg, _c⟩ := HALL.out j z hzz
      have zj : (j : Int) < k := by omega
      have HTK := hide (show (x ++ y).take (j + 1) = (x ++ y).take j ++ [z] by rw [List.take_add_one, hzz]; rfl)
      clear hzz
      by_cases q1 : z < 0
      · go_wp2_with fail
        refine (rawake_any _).mono ?_
        rintro e w3 ⟨rfl, b3⟩
        have B3 := hide (HB2.out.trans (b3.mono HB2.out.size))
        clear b3
        go_wp2
        go_ret
        exact ⟨rfl, B3.out⟩
      · have q1d : decide (z < 0) = false := decide_eq_false q1
        by_cases q2 : 15 < z
        · go_wp2_with fail
          refine (rawake_any _).mono ?_
          rintro e w3 ⟨rfl, b3⟩
          have B3 := hide (HB2.out.trans (b3.mono HB2.out.size))
          clear b3
          go_wp2
          go_ret
          exact ⟨rfl, B3.out⟩
        · have q2d : decide (15 < z) = false := decide_eq_false q2
          have HE2 := hide (show ∀ t ∈ (x ++ y).take (j + 1), 0 ≤ t ∧ t ≤ 15 from fun t ht => by
            rw [HTK.out] at ht
            rcases List.mem_append.1 ht with e | e
            · exact HE.out t e
            · rw [List.mem_singleton.1 e]; omega)
          clear q1 q2
          go_wp2
          go_round
          case rel => exact ⟨j + 1, hlt, by go_num, HE2⟩
          case measure => exact meas_oneW j k hlt
    · have hje : j = k := by omega
      subst hje
      have HV := hide (show ∀ t ∈ x ++ y, 0 ≤ t ∧ t ≤ 15 by have h := HE.out; rw [List.take_of_length_le (by rw [HK.out]; exact Nat.le_refl _)] at h; exact h)
      clear HE hlt hj
      have HER := hide (own_empty w2 39 2)
      have BR := hide ((Below.refl w2.heap.size w2).alloc (Nat.le_refl _) (.cells #[] 39))
      have HAR := hide (HA2.out.belowB BR.out (Nat.le_refl _))
      obtain ⟨r1, kj, lz0, lz1, lz2⟩ := info_parts Try.infoRun
      go_wp2_with fail
      refine (HFA.out _ HAR.out).mono ?_
      rintro e w3 ⟨a3, c3, ra, rfl, hra, ha3, _, b3⟩
      have HRA := hide hra
      have HLA := hide (show ra.length ≤ n by have h := hra.length; rw [HN.out] at h; exact h)
      have HX3 := hide ha3
      have B3 := hide (BR.out.trans (b3.mono BR.out.size))
      have HE3 := hide (own_below HER.out b3 (Nat.le_refl _))
      have HS3 := hide (show w2.heap.size ≤ w3.heap.size from B3.out.size)
      clear hra ha3 b3
      have hla := HLA.out
      have X1 := hide (show 0 + ra.length ≤ maxLen by unfold maxLen; omega)
      have X2 := hide (show (0 + ra.length) * 16 ≤ 140737488355328 by omega)
      clear hla
      go_wp2_with (first
        | (at_builtin; refine wpList_append_arg rfl (Operand.tmp 43) (Operand.tmp 45) 25 rfl w2.heap.size 39 r1 (.agg #[.int .i64 0, .int .i64 0]) 2 16 Try.underlying25 kj lz0 lz1 lz2 rfl (by decide) (.slice (some ⟨w2.heap.size, 0, none⟩) 0 0) 0 [] rfl HE3.out a3 ra.length c3 (runCs ra) rfl (by rw [runCs_length]) (fun e => argR_none HX3.out e) (argR_news HX3.out) (runCs_one ra) X1.out X2.out HS3.out ?_; intro v4 w4 o4 g4; have HB4 := hide (Below.grownB B3.out g4 HE3.out HS3.out); have HO4 := hide o4; clear o4 g4))
      have HB4w := hide (HB2.out.trans (HB4.out.mono HB2.out.size))
      have HBY4 := hide (HBY2.out.belowB HB4.out (Nat.le_refl _))
      refine (HFB.out _ HBY4.out).mono ?_
      rintro e w5 ⟨a5, c5, rb, rfl, hrb, ha5, _, b5⟩
      have HRB := hide hrb
      have HLB := hide (show rb.length ≤ m by have h := hrb.length; rw [HM.out] at h; exact h)
      have HX5 := hide ha5
      have HO5 := hide (own_below HO4.out b5 (Nat.le_refl _))
      have HB5 := hide (HB4.out.trans (b5.mono HB4.out.size))
      clear hrb ha5 b5
      have hla := HLA.out
      have hlb := HLB.out
      have X3 := hide (show 0 + ra.length + rb.length ≤ maxLen by unfold maxLen; omega)
      have X4 := hide (show (0 + ra.length + rb.length) * 16 ≤ 140737488355328 by omega)
      have HRL := hide (show (ra ++ rb).length ≤ 2000 by rw [List.length_append]; omega)
      have HJ := hide (join_un HRA.out HRB.out HV.out)
      rw [HK.out] at HJ
      clear hla hlb
      go_wp2_with (first
        | (at_builtin; refine wpList_append_arg rfl (Operand.tmp 46) (Operand.tmp 48) 25 rfl w2.heap.size 39 r1 (.agg #[.int .i64 0, .int .i64 0]) 2 16 Try.underlying25 kj lz0 lz1 lz2 rfl (by decide) v4 (0 + ra.length) ([] ++ runCs ra) rfl HO5.out a5 rb.length c5 (runCs rb) rfl (by rw [runCs_length]) (fun e => argR_none HX5.out e) (argR_news HX5.out) (runCs_one rb) X3.out X4.out HB5.out.size ?_; intro v6 w6 o6 g6; have HB6 := hide (Below.grownB HB5.out g6 HO5.out HB5.out.size); have HO6 := hide o6; clear o6 g6; rw [List.nil_append, ← runCs_append, Nat.zero_add, ← List.length_append] at HO6; obtain ⟨a6, c6, e6, hz6, _⟩ := own_argR HO6.out rfl; subst e6; have HX6 := hide hz6; clear hz6))
      have HB6w := hide (HB2.out.trans (HB6.out.mono HB2.out.size))
      have HALL6 := hide (HALL.out.belowB HB6.out (Nat.le_refl _))
      have HU := hide (unfold7_any (ra ++ rb) a6 c6 (j : Int) w6 HX6.out HRL.out (by omega) (by omega))
      unfold UnPost at HU
      rw [HJ.out.1, HJ.out.2, HK.out, List.length_append] at HU
      refine HU.out.mono ?_
      rintro e w7 ⟨a7, c7, rfl, ha7, _, b7⟩
      have HX7 := hide ha7
      have HALL7 := hide (HALL6.out.belowB b7 (Nat.le_refl _))
      have B7 := hide (HB6w.out.trans (b7.mono HB6w.out.size))
      clear ha7 b7
      go_wp2_with fail
      refine (rawake_any _).mono ?_
      rintro e w8 ⟨rfl, b8⟩
      have HX8 := hide (HX7.out.belowB b8 (Nat.le_refl _))
      have HALL8 := hide (HALL7.out.belowB b8 (Nat.le_refl _))
      have B8 := hide (B7.out.trans (b8.mono B7.out.size))
      clear b8
      have HSM := hide (same7_any (x ++ y) j a7 aa c7 cc w8 HK.out HX8.out HALL8.out (by omega))
      go_wp2_with fail
      refine HSM.out.mono ?_
      rintro e w9 ⟨rfl, b9⟩
      have B9 := hide (B8.out.trans (b9.mono B8.out.size))
      clear b9
      go_wp2
      go_ret
      exact ⟨rfl, B9.out⟩

theorem runsJoin_walk {H : Type} {enc : TypeId × Value → H} {d d2 : DataW H} {p p2 : List MemPlace} {base : Nat} (W : World) (v : Value) (hv : Value.okWide Try.prog W .any base 22 v) (h : DataW.Trod enc Try.prog W 0 (fun _ => true) true 22 v d p) (v2 : Value) (hv2 : Value.okWide Try.prog W .any base 22 v2) (h2 : DataW.Trod enc Try.prog W 0 (fun _ => true) true 22 v2 d2 p2) :
    Calls Try.prog 7 #[v, v2] W fun e w' => e = .returned (.bool true) ∧ Below W.heap.size W w' := by
  obtain ⟨a, ca, x, rfl, ha, _, _⟩ := open_argZ hv h
  obtain ⟨b, cb, y, rfl, hb, _, _⟩ := open_argZ hv2 h2
  by_cases hx : 300 < x.length
  · exact join_big _ _ a b ca cb W (.inl hx)
  · by_cases hy : 300 < y.length
    · exact join_big _ _ a b ca cb W (.inr ⟨by omega, hy⟩)
    · exact join_small x y a b ca cb W ha hb (by omega) (by omega) (open_capZ h) (open_capZ h2)

end Go.Proofs.Ytdaflfkknlhllaa
