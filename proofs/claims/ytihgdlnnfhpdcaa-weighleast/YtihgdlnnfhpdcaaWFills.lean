/- Whatever weights and a limit are: two symbols or more that stand make a code that is just full: 'WeighFills' answers true. No condition. -/
import Derived.Test.YtihgdlnnfhpdcaaWScales
namespace Go.Proofs.Ytihgdlnnfhpdcaa
open Go.RowKit Go.Lib

/-- Kraft's sum of those that stand, by number. -/
def krF (f : Nat → Nat) : List Nat → Nat → Nat
  | [], _ => 0
  | w :: ws, i => (if w = 0 then 0 else 2 ^ (15 - f i)) + krF f ws (i + 1)

theorem krF_stand (f : Nat → Nat) (ws : List Nat) : ∀ i, kraft 15 ((stand ws i).map f) = krF f ws i := by
  induction ws with
  | nil => intro i; rfl
  | cons w ws ih =>
    intro i
    unfold stand krF
    split
    · rw [ih, Nat.zero_add]
    · rw [List.map_cons]
      show 2 ^ (15 - f i) + kraft 15 _ = _
      rw [ih]

theorem krF_snoc (f : Nat → Nat) (l : List Nat) (w : Nat) : ∀ i, krF f (l ++ [w]) i = krF f l i + if w = 0 then 0 else 2 ^ (15 - f (i + l.length)) := by
  induction l with
  | nil => intro i; simp [krF]
  | cons x l ih =>
    intro i
    rw [List.cons_append]
    unfold krF
    rw [ih, List.length_cons, show i + 1 + l.length = i + (l.length + 1) by omega, Nat.add_assoc]

theorem krF_le (f : Nat → Nat) (l : List Nat) : ∀ i, krF f l i ≤ l.length * 32768 := by
  induction l with
  | nil => intro i; simp [krF]
  | cons x l ih =>
    intro i
    have h := ih (i + 1)
    have h2 : 2 ^ (15 - f i) ≤ 2 ^ 15 := Nat.pow_le_pow_right (by decide) (by omega)
    unfold krF
    rw [List.length_cons, Nat.add_mul]
    split <;> omega

theorem half_zero (j : Nat) (ws : List Nat) (i : Nat) : (halfJ j ws).getD i 0 = 0 ↔ ws.getD i 0 = 0 := by
  induction j with
  | zero => exact Iff.rfl
  | succ j ih =>
    rw [← ih]
    show (halves (halfJ j ws)).getD i 0 = 0 ↔ _
    unfold halves
    rw [List.getD_eq_getElem?_getD, List.getD_eq_getElem?_getD, List.getElem?_map]
    cases (halfJ j ws)[i]? with
    | none => simp
    | some x =>
      show (x + 1) / 2 = 0 ↔ x = 0
      omega

/-- What is known of one that stands, or does not. -/
structure FillOut (ws : List Nat) (k : Nat) (vs : List Nat) : Prop where
  len : vs.length = ws.length
  zero : ∀ i, vs.getD i 0 = 0 ↔ ws.getD i 0 = 0
  cnt : cnt vs = cnt ws
  le : ∀ i, lenF vs i ≤ k

theorem LimTo.fill {ws out : List Nat} {k : Nat} (h : LimTo ws k out) : ∃ vs, out = lens vs ∧ FillOut ws k vs := by
  obtain ⟨j, rfl, h2, _⟩ := h
  exact ⟨halfJ j ws, rfl, halfJ_len j ws, half_zero j ws, halfJ_cnt j ws, (shortL_iff _ _).1 h2⟩

theorem lenF_zero (vs : List Nat) (i : Nat) (h : vs.getD i 0 = 0) : lenF vs i = 0 := if_pos h
theorem lenF_pos (vs : List Nat) (i : Nat) (hi : i < vs.length) (h : vs.getD i 0 ≠ 0) : 1 ≤ lenF vs i := by
  have hs : i ∈ stand vs 0 := (stand0 vs i).2 ⟨hi, h⟩
  by_cases h1 : cnt vs = 1
  · unfold lenF
    rw [if_neg h, if_pos h1]
    exact Nat.le_refl _
  · have : 0 < cnt vs := List.length_pos_of_mem hs
    exact lens_pos vs (by omega) i hs

theorem fill_sum (vs : List Nat) (k : Nat) (hk : k ≤ 15) (h : ∀ i, lenF vs i ≤ k) : (2 ≤ cnt vs → krF (lenF vs) vs 0 = 32768) ∧ (cnt vs = 1 → krF (lenF vs) vs 0 = 16384) := by
  rw [← krF_stand]
  constructor
  · intro h2
    exact lens_full vs h2 15 fun s _ => Nat.le_trans (h s) hk
  · intro h1
    obtain ⟨s, hs⟩ := List.length_eq_one_iff.1 h1
    have hm : s ∈ stand vs 0 := by rw [hs]; exact List.mem_singleton.2 rfl
    have e : lenF vs s = 1 := by
      unfold lenF
      rw [if_neg ((stand0 vs s).1 hm).2, if_pos h1]
    rw [hs]
    show 2 ^ (15 - lenF vs s) + 0 = 16384
    rw [e]

theorem take_snocV (l : List Nat) (j : Nat) (h : j < l.length) : l.take (j + 1) = l.take j ++ [l.getD j 0] := by
  rw [List.take_add_one, getD_some l j h]
  rfl

theorem cnt_wrap (nn : Nat) (h : nn ≤ 300) : wrap64 ((nn : Int) + 1) = ((nn + 1 : Nat) : Int) := by unfold wrap64; omega
theorem sum_wrap (kk o : Nat) (h : kk ≤ 300 * 32768) : wrap64 ((kk : Int) + wrap64 ((2 : Int) ^ (15 - o))) = ((kk + 2 ^ (15 - o) : Nat) : Int) := by
  have h1 : (2 : Nat) ^ (15 - o) ≤ 2 ^ 15 := Nat.pow_le_pow_right (by decide) (by omega)
  have e : (2 : Int) ^ (15 - o) = ((2 ^ (15 - o) : Nat) : Int) := by rw [Int.natCast_pow]; rfl
  rw [e]
  generalize (2 : Nat) ^ (15 - o) = P at *
  unfold wrap64
  omega

set_option maxRecDepth 20000 in
set_option maxHeartbeats 4000000 in
theorem fills_walk (l : List Int) (m : Int) (a : Option Addr) (cap : Nat) (W : World) (harg : ArgZ W a l) (hnil : a = none → cap = 0) :
    Calls Try.prog 4 #[.slice a l.length cap, .int .i64 m] W fun e w' => e = .returned (.bool true) ∧ Below W.heap.size W w' := by
  have HA := hide harg
  have HN := hide hnil
  clear harg hnil
  by_cases h1 : 300 < l.length
  · have z1 : (300 : Int) < l.length := by omega
    go_enter Try.func4, Try.ntmps4
    go_wp2_with fail
    refine (wawake_any _).mono ?_
    rintro e w1 ⟨rfl, b1⟩
    have B1 := hide b1
    clear b1
    go_wp2
    go_ret
    exact ⟨rfl, B1.out⟩
  · have z1 : ¬ (300 : Int) < l.length := by omega
    have hl300 : l.length ≤ 300 := by omega
    go_enter Try.func4, Try.ntmps4
    go_wp2_with fail
    refine (lengths_any l m a cap W HA.out HN.out).mono ?_
    rintro e w1 ⟨r, rfl, hr, b1⟩
    rcases hr with ⟨hb, rfl⟩ | ⟨hg, v1, out, rfl, hl1, o1⟩
    · have B1 := hide b1
      clear b1 hb
      go_wp2_with fail
      refine (wawake_any _).mono ?_
      rintro e w2 ⟨rfl, b2⟩
      have B2 := hide (B1.out.trans (b2.mono B1.out.size))
      clear b2
      go_wp2
      go_ret
      exact ⟨rfl, B2.out⟩
    · obtain ⟨k, rfl⟩ := Int.eq_ofNat_of_zero_le (show 0 ≤ m by have := hg.lo; omega)
      have hk15 : k ≤ 15 := by have := hg.hi; omega
      obtain ⟨vs, rfl, hf⟩ := hl1.fill
      have hvl : vs.length = l.length := by rw [hf.len, List.length_map]
      rw [Int.toNat_natCast] at hf
      obtain ⟨a1, c1, rfl⟩ : ∃ a1 c1, v1 = .slice a1 l.length c1 := by
        rcases len_form o1 with ⟨e1, e2⟩ | ⟨g, cc, e1⟩
        · exact ⟨none, 0, by rw [e1, e2]⟩
        · exact ⟨_, _, e1⟩
      have HF := hide hf
      have HVL := hide hvl
      have HK := hide hk15
      have HE := hide hg.each
      have HO := hide o1
      have B1 := hide b1
      clear hg hl1 hf hvl o1 b1 hk15
      go_wp2
      go_loopw [7, 8, 9] (fun n s i wr => ∃ j : Nat, j ≤ l.length ∧ i = .int .i64 j ∧ n = .int .i64 (cntL (vs.take j) : Nat) ∧ s = .int .i64 (krF (lenF vs) (vs.take j) 0 : Nat) ∧ Hid (wr.ownsRow W.heap.size 3 1 (.slice a1 l.length c1) l.length (natCs (lens vs))) ∧ Hid (Below W.heap.size W wr)) (fun _ _ i _ => l.length - (intOf i).toNat)
      case atStart => exact ⟨0, Nat.zero_le _, rfl, rfl, rfl, HO, B1⟩
      case round =>
        obtain ⟨j, hj, rfl, rfl, rfl, HO1, HB⟩ := hrel
        by_cases hlt : j < l.length
        · obtain ⟨b, off, rfl, hb, hc⟩ := HA.out j _ (getZ l j hlt)
          have _c := (HB.out.cell (p := ⟨b, off + j, none⟩) hb).trans hc
          have hx := HE.out _ (mem_of_get (getZ l j hlt))
          obtain ⟨g1, cc1, e1⟩ := own_slice HO1.out (by omega)
          injection e1 with e2 e3 e4
          subst e2
          subst e4
          clear e3
          have hll : (lens vs).length = l.length := by rw [lens_length, HVL.out]
          have hlo : (lens vs)[j]? = some (lenF vs j) := by
            unfold lens
            rw [List.getElem?_map, List.getElem?_range (by rw [HVL.out]; exact hlt)]
            rfl
          obtain ⟨_c2, _⟩ := own_nat (by rw [hll]; exact HO1.out) hlo
          have zj : (j : Int) < l.length := by omega
          have hle := HF.out.le j
          have hz := HF.out.zero j
          have hw0 : (l.map Int.toNat).getD j 0 = (l.getD j 0).toNat := by
            rw [List.getD_eq_getElem?_getD, List.getElem?_map, getZ l j hlt]
            rfl
          rw [hw0] at hz
          have hvj : j < vs.length := by rw [HVL.out]; exact hlt
          have HCN := hide (show cntL (vs.take (j + 1)) = cntL (vs.take j) + if vs.getD j 0 = 0 then 0 else 1 by rw [take_snocV vs j hvj, cntL_snoc])
          have HKR := hide (show krF (lenF vs) (vs.take (j + 1)) 0 = krF (lenF vs) (vs.take j) 0 + if vs.getD j 0 = 0 then 0 else 2 ^ (15 - lenF vs j) by rw [take_snocV vs j hvj, krF_snoc, List.length_take, Nat.zero_add, show min j vs.length = j by omega])
          have hc1 := cntL_le (vs.take j)
          have hk1 := krF_le (lenF vs) (vs.take j) 0
          rw [List.length_take] at hc1 hk1
          have hk2 : krF (lenF vs) (vs.take j) 0 ≤ 300 * 32768 := Nat.le_trans hk1 (Nat.mul_le_mul_right _ (by omega))
          by_cases hzero : vs.getD j 0 = 0
          · have hx0 : l.getD j 0 = 0 := by have := hz.1 hzero; omega
            have ho0 := lenF_zero vs j hzero
            rw [hx0] at _c
            rw [ho0] at _c2
            rw [if_pos hzero] at HCN HKR
            clear hx hz hw0 hzero hx0 ho0 hc hb hlo hll hle hvj hc1 hk1 hk2
            generalize cntL (vs.take j) = nn at *
            generalize krF (lenF vs) (vs.take j) 0 = kk at *
            have zk : ¬ ((k : Nat) : Int) < 0 := by omega
            go_wp2
            go_quiet (fail)
            go_wp2
            go_roundw
            case rel => exact ⟨j + 1, hlt, by go_num, by rw [HCN.out]; rfl, by rw [HKR.out]; rfl, HO1, hide (below_drewN HB.out _)⟩
            case measure => exact meas_oneW j l.length hlt
          · have hx1 : 0 < l.getD j 0 := by
              refine Classical.byContradiction fun hn => hzero (hz.2 ?_)
              omega
            have ho1 := lenF_pos vs j hvj hzero
            rw [if_neg hzero] at HCN HKR
            have HK2 := HK.out
            obtain ⟨o, hoo⟩ : ∃ o, lenF vs j = o := ⟨_, rfl⟩
            rw [hoo] at _c2 hle ho1 HKR
            generalize l.getD j 0 = x at *
            clear hx hz hw0 hzero hc hb hlo hll hvj hk1 hoo
            have hnn : cntL (vs.take j) ≤ 300 := by omega
            clear hc1
            generalize cntL (vs.take j) = nn at *
            generalize krF (lenF vs) (vs.take j) 0 = kk at *
            have zo : (0 : Int) < o := by omega
            have zk : ¬ ((k : Nat) : Int) < o := by omega
            have dk : decide (((k : Nat) : Int) < o) = false := by simp; omega
            have dk2 : decide (k < o) = false := by simp; omega
            have d0 : decide ((0 : Int) < (o : Int)) = true := by simp; omega
            have d02 : decide (0 < o) = true := by simp; omega
            have dx : decide (0 < x) = true := by simp; omega
            have dl : decide (l.length ≤ j) = false := by simp; omega
            have HW1 := hide (cnt_wrap nn hnn)
            have HW2 := hide (sum_wrap kk o hk2)
            clear hnn hk2
            go_wp2
            go_quiet (fail)
            go_wp2
            go_roundw
            case rel => exact ⟨j + 1, hlt, by go_num, by rw [HCN.out, HW1.out], by rw [HKR.out, HW2.out], HO1, hide (below_drewN HB.out _)⟩
            case measure => exact meas_oneW j l.length hlt
        · have hje : j = l.length := by omega
          subst hje
          have hv1 : vs.take l.length = vs := by rw [← HVL.out]; exact List.take_of_length_le (Nat.le_refl _)
          rw [hv1]
          have hcc : cnt vs = cntL vs := cntL_cnt vs 0
          have hfs := fill_sum vs k HK.out HF.out.le
          rw [hcc] at hfs
          have hcl := cntL_le vs
          rw [HVL.out] at hcl
          have HFS := hide hfs
          clear hfs hv1 hcc hlt hj
          generalize cntL vs = nn at *
          generalize krF (lenF vs) vs 0 = kk at *
          have hc3 : nn = 0 ∨ nn = 1 ∨ 2 ≤ nn := by omega
          rcases hc3 with rfl | rfl | h2
          · go_wp2_with fail
            refine (wawake_any _).mono ?_
            rintro e w2 ⟨rfl, b2⟩
            have B2 := hide (HB.out.trans (b2.mono HB.out.size))
            clear b2
            go_wp2
            go_ret
            exact ⟨rfl, B2.out⟩
          · have hkk := HFS.out.2 rfl
            subst hkk
            go_wp2_with fail
            refine (wawake_any _).mono ?_
            rintro e w2 ⟨rfl, b2⟩
            have B2 := hide (HB.out.trans (b2.mono HB.out.size))
            clear b2
            go_wp2
            go_ret
            exact ⟨rfl, B2.out⟩
          · have hkk := HFS.out.1 h2
            subst hkk
            have z2 : ¬ ((nn : Nat) : Int) < 2 := by omega
            have z3 : (((nn : Nat) : Int) == 1) = false := beq_eq_false_iff_ne.2 (by omega)
            go_wp2_with fail
            refine (wawake_any _).mono ?_
            rintro e w2 ⟨rfl, b2⟩
            have B2 := hide (HB.out.trans (b2.mono HB.out.size))
            clear b2
            go_wp2
            go_ret
            exact ⟨rfl, B2.out⟩

theorem fills_law (w : World) (v0 : Value) {b0 : Nat} {H : Type} {enc : TypeId × Value → H} {d0 : DataW H} {p0 : List MemPlace}
    (o0 : Value.okWide Try.prog w .any b0 22 v0) (k0 : DataW.Trod enc Try.prog w 0 (fun _ => true) true 22 v0 d0 p0) (a1 : Int) (_w1 : (Lit.int .i64 a1).wf = true) :
    Calls Try.prog 4 #[v0, .int .i64 a1] w fun e w' => e = .returned (.bool true) ∧ Below w.heap.size w w' := by
  obtain ⟨pa, ca, a, rfl, ha, hn, _⟩ := open_argZ o0 k0
  exact fills_walk a a1 pa ca w ha hn

end Go.Proofs.Ytihgdlnnfhpdcaa
