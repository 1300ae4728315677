/- InflateBack, the walk: a stream of blocks that is laid token by token is opened to what its tokens come to. -/
import Derived.Test.YtaalbaiglkadlaaIBackM
import Derived.Test.YtaalbaiglkadlaaBOpen
import Derived.Test.YtaalbaiglkadlaaMA
import Derived.Test.YtaalbaiglkadlaaQB
import Derived.Lib.MinMax
namespace Go.Proofs.Ytaalbaiglkadlaa
open Go.RowKit Go.Lib Go.Deep

set_option maxRecDepth 20000 in
set_option maxHeartbeats 4000000 in
theorem back_big (C : ISpec) (n m : Nat) (a b : Option Addr) (cap kcap : Nat) (W : World) (h : 200 < n) :
    Calls Try.prog 4 #[.slice a n cap, .slice b m kcap] W fun e w' => e = .returned (.bool true) ∧ Below W.heap.size W w' := by
  have hz : (200 : Int) < n := by omega
  have HA := hide (awake11_any C)
  clear h
  go_enter Try.func4, Try.ntmps4
  go_wp2_with fail
  refine (HA.out _).mono ?_
  rintro e w1 ⟨rfl, b1⟩
  have B1 := hide b1
  clear b1
  go_wp2
  go_ret
  exact ⟨rfl, B1.out⟩

set_option maxRecDepth 20000 in
set_option maxHeartbeats 16000000 in
theorem back_of (C : ISpec) (l : List (Nat × Int × Int)) (K : List Nat) (n m : Nat) (a b : Option Addr) (cap kcap : Nat) (W : World) (hn : l.length = n) (hm : K.length = m) (ha : ArgT W a l) (hk : ArgY W b K) (hl : n ≤ 200) (hm9 : m ≤ 9223372036854775807) (hcap : n ≤ cap) (hu : ∀ t ∈ l, t.1 < 256) :
    Calls Try.prog 4 #[.slice a n cap, .slice b m kcap] W fun e w' => e = .returned (.bool true) ∧ Below W.heap.size W w' := by
  have HC := hide C
  have HAW := hide (awake11_any C)
  have HN := hide hn
  have HM := hide hm
  have HA := hide ha
  have HK := hide hk
  have HU := hide hu
  have HCAP := hide hcap
  have HEX := hide (qexpand_any l a cap 60000 W ha (by omega) (by decide) (by decide))
  unfold ExPost at HEX
  rw [hn] at HEX
  have HL := hide hl
  have hz : ¬ (200 : Int) < (n : Int) := by omega
  clear hn hm ha hk hu hcap
  go_enter Try.func4, Try.ntmps4
  go_wp2
  go_loop [5] (fun c => ∃ j : Nat, j ≤ n ∧ c = .int .i64 (j : Nat) ∧ Hid (∀ t ∈ l.take j, farOk t = true)) (fun c => n - (intOf c).toNat)
  case atStart => exact ⟨0, Nat.zero_le _, rfl, hide (fun t ht => by simp at ht)⟩
  case round =>
    obtain ⟨j, hj, rfl, HG⟩ := hrel
    by_cases hlt : j < n
    · obtain ⟨⟨x, ln, d⟩, ht⟩ : ∃ r, l[j]? = some r := ⟨_, List.getElem?_eq_getElem (by rw [HN.out]; exact hlt)⟩
      obtain ⟨g, off, rfl, _, _c1, _d1, _⟩ := HA.out j _ ht
      dsimp only at _c1 _d1
      have zj : (j : Int) < n := by omega
      have HTK := hide (take_snocT l j _ ht)
      have HOK := hide (fun (h : farOk (x, ln, d) = true) => show ∀ t ∈ l.take (j + 1), farOk t = true by
        rw [HTK.out]
        intro t hm
        rcases List.mem_append.1 hm with e | e
        · exact HG.out t e
        · rw [List.mem_singleton.1 e]; exact h)
      have HIF := hide (farOk_iff (x, ln, d))
      clear ht HTK
      by_cases h1 : 0 < ln
      · have q1 : decide (0 < ln) = true := decide_eq_true h1
        by_cases h2 : ln < 3
        · have q2 : decide (ln < 3) = true := decide_eq_true h2
          go_wp2_with fail
          refine (HAW.out _).mono ?_
          rintro e w1 ⟨rfl, b1⟩
          have B1 := hide b1
          clear b1
          go_wp2
          go_ret
          exact ⟨rfl, B1.out⟩
        have q2 : decide (ln < 3) = false := decide_eq_false h2
        by_cases h3 : 258 < ln
        · have q3 : decide (258 < ln) = true := decide_eq_true h3
          go_wp2_with fail
          refine (HAW.out _).mono ?_
          rintro e w1 ⟨rfl, b1⟩
          have B1 := hide b1
          clear b1
          go_wp2
          go_ret
          exact ⟨rfl, B1.out⟩
        have q3 : decide (258 < ln) = false := decide_eq_false h3
        by_cases h4 : 32768 < d
        · have q4 : decide (32768 < d) = true := decide_eq_true h4
          go_wp2_with fail
          refine (HAW.out _).mono ?_
          rintro e w1 ⟨rfl, b1⟩
          have B1 := hide b1
          clear b1
          go_wp2
          go_ret
          exact ⟨rfl, B1.out⟩
        have q4 : decide (32768 < d) = false := decide_eq_false h4
        have HGO := hide (HOK.out (HIF.out.2 (fun _ => by dsimp only; omega)))
        clear HOK HIF
        go_wp2
        go_round
        case rel => exact ⟨j + 1, hlt, by go_num, HGO⟩
        case measure => exact meas_oneW j n hlt
      · have q1 : decide (0 < ln) = false := decide_eq_false h1
        have HGO := hide (HOK.out (HIF.out.2 (fun h => absurd h h1)))
        clear HOK HIF
        go_wp2
        go_round
        case rel => exact ⟨j + 1, hlt, by go_num, HGO⟩
        case measure => exact meas_oneW j n hlt
    · obtain rfl : j = n := by omega
      have zj : ¬ (j : Int) < (j : Int) := by omega
      have HALL := hide (show ∀ t ∈ l, farOk t = true by have h := HG.out; rw [List.take_of_length_le (by rw [HN.out]; exact Nat.le_refl _)] at h; exact h)
      clear HG hlt hj
      obtain ⟨⟨o, er⟩, hx⟩ : ∃ r, exF 5 6 60000 [] l = r := ⟨_, rfl⟩
      rw [hx] at HEX
      have HX := hide hx
      dsimp only at HEX
      clear hx
      go_wp2_with fail
      refine HEX.out.mono ?_
      rintro e w1 ⟨rfl, b1⟩
      have B1 := hide b1
      clear b1 HEX
      by_cases h0 : er = 0
      · subst h0
        have HR := hide (show ∀ t ∈ l, RightT t from fun t ht => ⟨HU.out t ht, fun h => by
          have h1 := (farOk_iff t).1 (HALL.out t ht) h
          have h2 := exF_far l [] o HX.out t ht h
          omega⟩)
        have hfit := exF_fits l [] o HX.out (by decide)
        obtain ⟨M, hM⟩ : ∃ M, o.length = M := ⟨_, rfl⟩
        rw [hM] at hfit
        have HXM := hide (show exF 5 6 (M : Int) [] l = (o, 0) from (exF_limit l [] o HX.out (by rw [hM]; exact Int.le_refl _)).2)
        have zo : (((strOf o).size : Nat) : Int) = (M : Int) := by rw [strOf_len, hM]
        have HLB := hide (LaidB.start HXM.out)
        have HST := hide (show BackSt W (w1.alloc (.cells #[.slice none 0 0, .int .i64 0] 35)) w1.heap.size (.slice none 0 0) [] from ⟨new_wq w1, B1.out.alloc B1.out.size _, B1.out.size, fun k hk => by cases hk⟩)
        obtain ⟨y, hy⟩ : ∃ y, strOf o = y := ⟨_, rfl⟩
        rw [hy] at zo
        have HY := hide hy
        have HMO := hide hM
        rw [hy]
        obtain ⟨p, hp⟩ : ∃ p, w1.heap.size = p := ⟨_, rfl⟩
        have HP := hide hp
        clear hy hM HX HALL
        go_wp2
        try (generalize hw2 : w1.alloc (.cells #[.slice none 0 0, .int .i64 0] 35) = w2 at *; clear hw2)
        rw [hp] at HST
        try simp only [hp]
        clear hp
        go_loopw [9, 10] (fun av iv wr => ∃ k i bs v, av = .int .i64 (k : Nat) ∧ iv = .int .i64 (i : Nat) ∧ k ≤ j ∧ i ≤ 20 ∧ Hid (LaidB (M : Int) o l k i bs) ∧ Hid (BackSt W wr p v bs)) (fun _ iv _ => 20 - (intOf iv).toNat)
        case atStart => exact ⟨0, 0, [], .slice none 0 0, rfl, rfl, Nat.zero_le _, Nat.zero_le _, HLB, HST⟩
        case round =>
          clear HLB HST
          obtain ⟨k, i, bs, v, rfl, rfl, hkj, hi20, HLB, HST⟩ := hrel
          have HKJ := hide hkj
          have HBL := hide (show bs.length ≤ 220000 by have := HLB.out.len; have := HL.out; omega)
          by_cases hgo : i < m ∧ i < 20 ∧ k < j
          · obtain ⟨g1, g2, g3⟩ := hgo
            obtain ⟨x, hx⟩ : ∃ r, K[i]? = some r := ⟨_, List.getElem?_eq_getElem (by rw [HM.out]; exact g1)⟩
            obtain ⟨hx256, g, off, rfl, hg, hgc⟩ := HK.out i x hx
            have _c1 := (HST.out.bel.cell (p := ⟨g, off + i, none⟩) hg).trans hgc
            have HKC := hide (fun w' (b : Below W.heap.size W w') => (b.cell (p := ⟨g, off + i, none⟩) hg).trans hgc)
            have q1 : decide ((i : Int) < (m : Int)) = true := decide_eq_true (by omega)
            have q2 : decide ((i : Int) < 20) = true := decide_eq_true (by omega)
            have q3 : decide ((k : Int) < (j : Int)) = true := decide_eq_true (by omega)
            have q1n : decide (i < m) = true := decide_eq_true g1
            have q2n : decide (i < 20) = true := decide_eq_true g2
            have q3n : decide (k < j) = true := decide_eq_true g3
            have zim : (i : Int) < (m : Int) := by omega
            have HG2 := hide g2
            obtain ⟨x4, hx4⟩ : ∃ z, x / 4 = z := ⟨_, rfl⟩
            obtain ⟨x2, hx2⟩ : ∃ z, x % 2 = z := ⟨_, rfl⟩
            have zx4 : (x : Int) / 4 = (x4 : Int) := by omega
            have zt4 : Int.tdiv (x : Int) 4 = (x4 : Int) := by rw [← hx4]; rfl
            have zx2 : (x : Int) % 2 = (x2 : Int) := by omega
            have zx255 : (x : Int) ≤ 255 := by omega
            have hx2b : x2 ≤ 1 := by omega
            have zt2 : Int.tmod (x : Int) 2 = (x2 : Int) := by rw [← hx2]; rfl
            have ew3 : IntKind.i64.wrap (x2 : Int) = (x2 : Int) := by rw [IntKind.wrap_i64]; omega
            have ew4 : IntKind.i64.wrap (1 + (x2 : Int)) = 1 + (x2 : Int) := by rw [IntKind.wrap_i64]; omega
            have hx4b : x4 ≤ 255 := by omega
            obtain ⟨r, hr⟩ : ∃ r : Nat, min ((j : Int) - (k : Int)) (x4 : Int) = (r : Int) := ⟨min (j - k) x4, by omega⟩
            have hrk : k + r ≤ j := by omega
            have HRK := hide hrk
            have hsl : ∀ w : World, (Instr.slice 27 (.slice a j cap) (some (.int .i64 (k : Nat))) (some (.int .i64 ((k : Int) + (r : Int)))) none).run Try.prog w = .ok (.slice (leftA a cap k) r (cap - k)) w := by
              intro w
              have h := slice_mid a j cap k (k + r) ((k : Int) + (r : Int)) (by omega) (by omega) (by have := HCAP.out; omega) w
              rw [show k + r - k = r by omega] at h
              exact h
            have HSD := hide (HST.out.drewN 1)
            have HKT := hide ((HSD.out.kt HA.out).left cap k (fun h => by have := HCAP.out; rw [HN.out] at h; omega))
            have HWR := hide (qwrite_any ((l.drop k).take r) (leftA a cap k) (cap - k) (1 + (x2 : Int)) false p v bs (wr.drewN 1) HSD.out.wq (by have := HBL.out; omega) (HKT.out.take r) (fun t ht => HR.out t (List.mem_of_mem_drop (List.mem_of_mem_take ht))) (by rw [List.length_take, List.length_drop, HN.out]; have := HL.out; omega))
            rw [show ((l.drop k).take r).length = r by rw [List.length_take, List.length_drop, HN.out]; omega] at HWR
            have hkr9 : (k : Int) + (r : Int) ≤ 300 := by have := HL.out; omega
            have hkj9 : (k : Int) ≤ (j : Int) := by omega
            have ew1 : IntKind.i64.wrap ((k : Int) + (r : Int)) = (k : Int) + (r : Int) := by rw [IntKind.wrap_i64]; omega
            have ew2 : wrap64 ((k : Int) + (r : Int)) = (k : Int) + (r : Int) := by unfold wrap64; omega
            clear hx hgc hx4 hx2 hx256 hrk hkj hi20 g1 g2 g3
            go_wp2_with fail
            go_region_held3 (fun w' => w'.cell? ⟨g, off + i, none⟩ = some (.int .u8 (x : Int))) (go_keep) (first
              | (go_at_call 12; refine HWR.out.mono ?_; rintro e w5 ⟨rfl, ob, v5, hb5, hl5, hr5, hs5⟩; have HB5 := hide hb5; have HS5 := hide (HSD.out.step hs5 hr5); have _k1 := HKC.out _ HS5.out.bel; clear hb5 hl5 hr5 hs5))
            have HLN := hide (HLB.out.next HB5.out HR.out (by rw [HN.out]; exact HL.out) (by rw [HN.out]; exact HRK.out))
            clear HWR HKT HSD HST HLB _c1 _k1 hsl
            go_wp2
            go_roundw
            case rel => exact ⟨k + r, i + 1, _, v5, by go_num, by go_num, HRK.out, HG2.out, HLN, HS5⟩
            case measure => exact meas_oneW i 20 HG2.out
          · have hstop : ¬ i < m ∨ (i < m ∧ ¬ i < 20) ∨ (i < m ∧ i < 20 ∧ ¬ k < j) := by omega
            clear hgo
            obtain ⟨x2, hx2⟩ : ∃ z, m % 2 = z := ⟨_, rfl⟩
            have zx2 : (m : Int) % 2 = (x2 : Int) := by omega
            have hx2b : x2 ≤ 1 := by omega
            have hsl := slice_from a j cap k hkj
            have HKT := hide ((HST.out.kt HA.out).left cap k (fun h => by have := HCAP.out; rw [HN.out] at h; omega))
            have HWR := hide (qwrite_any (l.drop k) (leftA a cap k) (cap - k) (1 + (x2 : Int)) true p v bs wr HST.out.wq (by have := HBL.out; omega) HKT.out (fun t ht => HR.out t (List.mem_of_mem_drop ht)) (by rw [List.length_drop, HN.out]; have := HL.out; omega))
            rw [List.length_drop, HN.out] at HWR
            have hkj9 : (k : Int) ≤ (j : Int) := by omega
            clear hx2
            have HI20 := hide hi20
            rcases hstop with h1 | ⟨h1, h2⟩ | ⟨h1, h2, h3⟩
            case' inl => have q1 : decide ((i : Int) < (m : Int)) = false := decide_eq_false (by omega); have q1n : decide (i < m) = false := decide_eq_false h1; clear h1
            case' inr.inl => have q1 : decide ((i : Int) < (m : Int)) = true := decide_eq_true (by omega); have q2 : decide ((i : Int) < 20) = false := decide_eq_false (by omega); have q1n : decide (i < m) = true := decide_eq_true h1; have q2n : decide (i < 20) = false := decide_eq_false h2; clear h1 h2
            case' inr.inr => have q1 : decide ((i : Int) < (m : Int)) = true := decide_eq_true (by omega); have q2 : decide ((i : Int) < 20) = true := decide_eq_true (by omega); have q3 : decide ((k : Int) < (j : Int)) = false := decide_eq_false (by omega); have q1n : decide (i < m) = true := decide_eq_true h1; have q2n : decide (i < 20) = true := decide_eq_true h2; have q3n : decide (k < j) = false := decide_eq_false h3; clear h1 h2 h3
            all_goals (
              clear hi20
              go_wp2_with fail
              refine HWR.out.mono ?_
              rintro e w5 ⟨rfl, ob, v5, hb5, hl5, hr5, hs5⟩
              have HS5 := hide (HST.out.step hs5 hr5)
              have HB5 := hide hb5
              have HO5 := hide hl5
              clear hb5 hl5 hr5 hs5 HWR hsl
              go_wp2_with fail
              refine (qwbytes_any _ _ _ _ HS5.out.wq).mono ?_
              rintro e w6 ⟨⟨t, rfl, ht⟩, rfl⟩
              have HT := hide ht
              have HD := hide (HLB.out.done HB5.out HR.out (by rw [HN.out]; exact HL.out) HI20.out ht)
              have htl : t.length ≤ 60000 := by
                have h1 := ht.len
                have h2 := HO5.out
                have h3 := HBL.out
                rw [List.length_append] at h1
                omega
              obtain ⟨q, hq⟩ : ∃ q, t.length = q := ⟨_, rfl⟩
              rw [hq] at HD htl
              rw [HY.out] at HD
              obtain ⟨tb, htb⟩ : ∃ tb : ByteArray, (⟨t.toArray⟩ : ByteArray) = tb := ⟨_, rfl⟩
              have htm : tb.size = q := by rw [← htb, ← hq]; exact mk_size t
              have HTB := hide htb
              rw [htb] at HD ⊢
              have HSZ := hide (show tb.size ≤ 100000 by omega)
              have zq : ((tb.size : Nat) : Int) = (q : Int) := by omega
              clear ht hq htb htm
              go_wp2_with fail
              refine (HC.out.opens tb (M : Int) _ HSZ.out (by omega) (by omega)).mono ?_
              rintro e w7 ⟨rfl, _, b7⟩
              rw [HD.out.1, HD.out.2.1, HD.out.2.2]
              have HS7 := hide (HS5.out.below b7)
              clear b7
              go_wp2_with fail
              refine (HAW.out _).mono ?_
              rintro e w8 ⟨rfl, b8⟩
              have HS8 := hide (HS7.out.below b8)
              clear b8
              go_wp2_with fail
              refine (qwbytes_any _ _ _ _ HS8.out.wq).mono ?_
              rintro e w9 ⟨⟨t2, rfl, ht2⟩, rfl⟩
              obtain rfl := HT.out.uniq ht2
              rw [HTB.out]
              clear ht2
              go_wp2
              go_ret
              exact ⟨rfl, HS8.out.bel⟩)
      · have be : ((er : Int) == 0) = false := by simp; exact h0
        have bg : ((er : Int) != 0) = true := by simp; exact h0
        generalize strOf o = y
        go_wp2_with fail
        refine (HAW.out _).mono ?_
        rintro e w2 ⟨rfl, b2⟩
        have B2 := hide (B1.out.trans (b2.mono B1.out.size))
        clear b2
        go_wp2
        go_ret
        exact ⟨rfl, B2.out⟩

set_option maxRecDepth 20000 in
theorem back_law (C : ISpec) (w : World) (v0 : Value) {b0 : Nat} {H : Type} {enc : TypeId × Value → H} {d0 : DataW H} {p0 : List MemPlace}
    (o0 : Value.okWide Try.prog w .any b0 27 v0) (k0 : DataW.Trod enc Try.prog w 0 (fun _ => true) true 27 v0 d0 p0)
    (v1 : Value) {b1 : Nat} {d1 : DataW H} {p1 : List MemPlace} (o1 : Value.okWide Try.prog w .any b1 28 v1) (k1 : DataW.Trod enc Try.prog w 0 (fun _ => true) true 28 v1 d1 p1) :
    Calls Try.prog 4 #[v0, v1] w fun e w' => e = .returned (.bool true) ∧ Below w.heap.size w w' := by
  obtain ⟨a, cap, l, rfl, ha, hl, hn, hb⟩ := open_argT9 o0 k0
  obtain ⟨b, kcap, K, rfl, hk, hm⟩ := open_argY o1 k1
  by_cases h : l.length ≤ 200
  · exact back_of C l K _ _ a b cap kcap w rfl rfl ha hk h hm (open_capT k0) hb
  · exact back_big C _ _ a b cap kcap w (by omega)

end Go.Proofs.Ytaalbaiglkadlaa
