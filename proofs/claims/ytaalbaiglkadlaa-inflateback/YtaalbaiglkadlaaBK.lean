import Derived.Test.YtaalbaiglkadlaaBR
import Derived.Test.YtaalbaiglkadlaaBHead
import Derived.Deep.DeepCutAuto
import Derived.Deep.CutBlock
/- A block's bits, plainly. -/
namespace Go.Proofs.Ytaalbaiglkadlaa
open Go.RowKit Go.Lib

/-- A token's bits. -/
def tokBits (la lb : List Nat) (t : Nat × Int × Int) : List Bool :=
  if t.2.1 ≤ 0 then highBits (codeN la t.1 : Int) (la.getD t.1 0)
  else highBits (codeN la (257 + lnT t.2.1) : Int) (la.getD (257 + lnT t.2.1) 0) ++ (lowBits (t.2.1 - (lenBase (lnT t.2.1) : Int)) (lenBits (lnT t.2.1)) ++ (highBits (codeN lb (dsT t.2.2) : Int) (lb.getD (dsT t.2.2) 0) ++ lowBits (t.2.2 - (distBase (dsT t.2.2) : Int)) (distBits (dsT t.2.2))))
def toksBits (la lb : List Nat) (l : List (Nat × Int × Int)) : List Bool := l.flatMap (tokBits la lb)
def bodyBits (la lb : List Nat) (l : List (Nat × Int × Int)) : List Bool := toksBits la lb l ++ highBits (codeN la 256 : Int) (la.getD 256 0)
/-- A block of tokens. -/
def BlockRel (l : List (Nat × Int × Int)) (kind : Int) (last : Bool) (ob : List Bool) : Prop :=
  (kind = 2 ∧ ∃ hb, HeadRel (ownLit l) (ownDist l) hb ∧ ob = [last] ++ (lowBits 2 2 ++ (hb ++ bodyBits (ownLit l) (ownDist l) l))) ∨
  (kind ≠ 2 ∧ ob = [last] ++ (lowBits 1 2 ++ bodyBits plainL plainD l))
theorem BlockRel.uniq {l : List (Nat × Int × Int)} {kind : Int} {last : Bool} {a b : List Bool} (h : BlockRel l kind last a) (k : BlockRel l kind last b) : a = b := by
  rcases h with ⟨h1, hb, h2, rfl⟩ | ⟨h1, rfl⟩
  · rcases k with ⟨_, kb, k2, rfl⟩ | ⟨k1, _⟩
    · rw [h2.uniq k2]
    · exact absurd h1 k1
  · rcases k with ⟨k1, _⟩ | ⟨_, rfl⟩
    · exact absurd k1 h1
    · rfl
/-- What last says does not tell the number of bits. -/
theorem BlockRel.len {l : List (Nat × Int × Int)} {kind : Int} {p q : Bool} {a b : List Bool} (h : BlockRel l kind p a) (k : BlockRel l kind q b) : a.length = b.length := by
  rcases h with ⟨h1, hb, h2, rfl⟩ | ⟨h1, rfl⟩
  · rcases k with ⟨_, kb, k2, rfl⟩ | ⟨k1, _⟩
    · rw [h2.uniq k2]; simp only [List.length_append, List.length_singleton]
    · exact absurd h1 k1
  · rcases k with ⟨k1, _⟩ | ⟨_, rfl⟩
    · exact absurd k1 h1
    · simp only [List.length_append, List.length_singleton]

theorem toks_snoc (la lb : List Nat) (l : List (Nat × Int × Int)) (t : Nat × Int × Int) : toksBits la lb (l ++ [t]) = toksBits la lb l ++ tokBits la lb t := by simp [toksBits]

/-- Lengths that serve for these tokens. -/
structure CodesOk (la lb : List Nat) (l : List (Nat × Int × Int)) : Prop where
  ma : MakesC la
  mb : MakesC lb
  la1 : 256 < la.length
  la2 : la.length ≤ 300
  lb1 : 1 ≤ lb.length
  lb2 : lb.length ≤ 300
  fit : ∀ t ∈ l, symT t < la.length ∧ (0 < t.2.1 → farT t < lb.length)

theorem makes_plainL : MakesC plainL := ⟨by decide +kernel, .inl (by decide +kernel)⟩
theorem makes_plainD : MakesC plainD := ⟨by decide +kernel, .inl (by decide +kernel)⟩
theorem plainL_length : plainL.length = 288 := by simp [plainL]
theorem plainD_length : plainD.length = 32 := by simp [plainD]
theorem plain_ok (l : List (Nat × Int × Int)) (hr : ∀ t ∈ l, RightT t) : CodesOk plainL plainD l := by
  refine ⟨makes_plainL, makes_plainD, by rw [plainL_length]; omega, by rw [plainL_length]; omega, by rw [plainD_length]; omega, by rw [plainD_length]; omega, fun t ht => ?_⟩
  rw [plainL_length, plainD_length]
  have := symT_lt (hr t ht)
  have := farT_lt t
  exact ⟨by omega, fun _ => by omega⟩
theorem lens_getD (ws : List Nat) (i : Nat) (h : i < ws.length) : (lens ws).getD i 0 = lenF ws i := by
  unfold lens
  rw [List.getD_eq_getElem?_getD, List.getElem?_map, List.getElem?_range h]
  rfl
theorem cut_has (l : List Nat) (least i : Nat) (h : l.getD i 0 ≠ 0) : i < (cutL l least).length := by
  refine Classical.byContradiction fun hn => h ?_
  rw [← cutL_get l least i, List.getD_eq_getElem?_getD, List.getElem?_eq_none (by omega)]
  rfl
theorem small_short (ws : List Nat) (h : ws.sum < 2584) : shortL ws 15 := (shortL_iff ws 15).2 (fun s => lens_fib ws h s)
theorem lit_stands (l : List (Nat × Int × Int)) (hl : l.length ≤ 2000) (s : Nat) (hs : s < 286) : (lens (litWs l)).getD s 0 ≠ 0 ↔ 0 < wL l s := by
  have hsum := litWs_sum l
  have hd : (litWs l).getD s 0 = wL l s := by rw [List.getD_eq_getElem?_getD, litWs_get l s hs]; rfl
  have he := lenF_each (litWs l) (small_short _ (by omega)) s (by rw [litWs_length]; exact hs)
  rw [hd] at he
  rw [lens_getD _ _ (by rw [litWs_length]; exact hs)]
  constructor
  · intro h
    refine Classical.byContradiction fun h2 => h (he.1 (by omega))
  · intro h
    have := (he.2 (by omega)).1
    omega
theorem dist_stands (l : List (Nat × Int × Int)) (hl : l.length ≤ 2000) (s : Nat) (hs : s < 30) : (lens (distWs l)).getD s 0 ≠ 0 ↔ 0 < wD l s := by
  have hsum := distWs_sum l
  have hd : (distWs l).getD s 0 = wD l s := by rw [List.getD_eq_getElem?_getD, distWs_get l s hs]; rfl
  have he := lenF_each (distWs l) (small_short _ (by omega)) s (by rw [distWs_length]; exact hs)
  rw [hd] at he
  rw [lens_getD _ _ (by rw [distWs_length]; exact hs)]
  constructor
  · intro h
    refine Classical.byContradiction fun h2 => h (he.1 (by omega))
  · intro h
    have := (he.2 (by omega)).1
    omega
theorem ownLit_len (l : List (Nat × Int × Int)) : 257 ≤ (ownLit l).length ∧ (ownLit l).length ≤ 286 := by
  unfold ownLit
  rw [cutL_length, lens_length, litWs_length]
  exact ⟨cutN_least _ _ _ (by omega), cutN_le _ _ _⟩
theorem ownDist_len (l : List (Nat × Int × Int)) : 1 ≤ (ownDist l).length ∧ (ownDist l).length ≤ 30 := by
  unfold ownDist
  rw [cutL_length, lens_length, distWs_length]
  exact ⟨cutN_least _ _ _ (by omega), cutN_le _ _ _⟩
theorem own_ok (l : List (Nat × Int × Int)) (hr : ∀ t ∈ l, RightT t) (hl : l.length ≤ 2000) : CodesOk (ownLit l) (ownDist l) l := by
  have hs1 := litWs_sum l
  have hs2 := distWs_sum l
  have h1 := ownLit_len l
  have h2 := ownDist_len l
  refine ⟨(makes_lens _ (small_short _ (by omega))).cut 257, (makes_lens _ (small_short _ (by omega))).cut 1, by omega, by omega, h2.1, by omega, fun t ht => ⟨?_, fun hm => ?_⟩⟩
  · refine cut_has _ _ _ ((lit_stands l hl _ (symT_lt (hr t ht))).2 ?_)
    unfold wL
    have : 0 < l.countP (fun x => symT x == symT t) := List.countP_pos_iff.2 ⟨t, ht, by simp⟩
    omega
  · refine cut_has _ _ _ ((dist_stands l hl _ (farT_lt t)).2 ?_)
    unfold wD
    exact List.countP_pos_iff.2 ⟨t, ht, by unfold isM; simp [hm]⟩

theorem getD_le {l : List Nat} {m : Nat} (h : ∀ x ∈ l, x ≤ m) (k : Nat) : l.getD k 0 ≤ m := by
  rw [List.getD_eq_getElem?_getD]
  cases hq : l[k]? with
  | none => exact Nat.zero_le _
  | some z => exact h z (List.mem_of_getElem? hq)
theorem tokBits_le {la lb : List Nat} (ha : ∀ x ∈ la, x ≤ 15) (hb : ∀ x ∈ lb, x ≤ 15) (t : Nat × Int × Int) : (tokBits la lb t).length ≤ 48 := by
  unfold tokBits highBits
  have h1 := (len_small (lnT t.2.1) (lnT_le _)).2.2
  have h2 := (dist_small (dsT t.2.2) (dsT_le _)).2.2
  have h3 := getD_le ha t.1
  have h4 := getD_le ha (257 + lnT t.2.1)
  have h5 := getD_le hb (dsT t.2.2)
  split
  · rw [List.length_reverse, lowBits_length]; omega
  · simp only [List.length_append, List.length_reverse, lowBits_length]; omega
theorem toksBits_le {la lb : List Nat} (ha : ∀ x ∈ la, x ≤ 15) (hb : ∀ x ∈ lb, x ≤ 15) : ∀ l : List (Nat × Int × Int), (toksBits la lb l).length ≤ 48 * l.length
  | [] => Nat.le_refl _
  | t :: l => by
    have ih := toksBits_le ha hb l
    have h1 := tokBits_le ha hb t
    show (tokBits la lb t ++ toksBits la lb l).length ≤ _
    rw [List.length_append, List.length_cons]
    omega
theorem headRel_le {x y : List Nat} {hb : List Bool} (h : HeadRel x y hb) (hl : (x ++ y).length ≤ 400) : hb.length ≤ 10000 := by
  obtain ⟨rs, hl', h1, h2, rfl⟩ := h
  have hr := h1.length
  rw [List.length_map] at hr
  have hm := (halfJ_short15 h2 (by omega)).2.2
  have h3 := runsBits_le hl' (fun z hz => by have := hm z hz; omega) rs
  have h4 := ordBits_le hl' (ordN hl' 19) (ordN_le hl' 19)
  unfold headBits
  simp only [List.length_append, lowBits_length]
  omega

end Go.Proofs.Ytaalbaiglkadlaa

/- Contract of the document's 'Write' of layer 9. -/
namespace Go.Proofs.Ytaalbaiglkadlaa
open Go.RowKit Go.Lib

/-- What a block's writing comes to. -/
def WritePost (W : World) (l : List (Nat × Int × Int)) (kind : Int) (last : Bool) (p : Nat) (v : Value) (bs : List Bool) (e : Ending) (w' : World) : Prop := e = .returned (.tuple #[]) ∧ ∃ ob v', BlockRel l kind last ob ∧ ob.length ≤ 200000 ∧ Wq w' p v' (bs ++ ob) ∧ Step p v v' W w'

/-- The lengths are there, and the block's beginning is written. -/
structure Begun (W w : World) (l : List (Nat × Int × Int)) (kind : Int) (last : Bool) (p : Nat) (v v3 : Value) (bs ob : List Bool) (la lb : List Nat) (a8 b9 : Option Addr) : Prop where
  ka : KN p v3 w a8 la
  kb : KN p v3 w b9 lb
  wq : Wq w p v3 (bs ++ ob)
  st : Step p v v3 W w
  ok : CodesOk la lb l
  rel : BlockRel l kind last (ob ++ bodyBits la lb l)
  few : ob.length ≤ 20000

def lastI (b : Bool) : Int := if b = true then 1 else 0
theorem lastI_odd (b : Bool) : decide (lastI b % 2 = 1) = b := by cases b <;> rfl

set_option maxRecDepth 20000 in
set_option maxHeartbeats 8000000 in
theorem qwrite_any (l : List (Nat × Int × Int)) (a : Option Addr) (cap : Nat) (kind : Int) (last : Bool) (p : Nat) (v : Value) (bs : List Bool) (W : World) (h : Wq W p v bs) (hbl : bs.length ≤ 500000) (kt : KT p v W a l) (hr : ∀ t ∈ l, RightT t) (hl : l.length ≤ 2000) :
    Calls Try.prog 12 #[.pointer (some ⟨p, 0, none⟩), .slice a l.length cap, .int .i64 kind, .bool last] W fun e w' => WritePost W l kind last p v bs e w' := by
  have H := hide h
  have HKT := hide kt
  have HR := hide hr
  have HLL := hide hl
  have HPL := hide (qplain_any W)
  obtain ⟨n, hn⟩ : ∃ n, l.length = n := ⟨_, rfl⟩
  have HN := hide hn
  rw [hn] at hl ⊢
  clear h kt hr hn
  go_enter Try.func12, Try.ntmps12
  go_wp2_with fail
  refine HPL.out.mono ?_
  rintro e w1 ⟨a1, c1, b1, d1, rfl, hA, hB, _, _, hb, hn1, hn2⟩
  obtain ⟨ho1, ho2⟩ := H.out.old
  have HOLD := hide (And.intro ho1 ho2)
  have K1 := hide (show KN p v w1 a1 plainL from ⟨hA, fun b off e => free_new ho1 ho2 (hn1 b off e) (by obtain ⟨b', off', h1, h2, _⟩ := hA 0 8 (by decide); rw [e] at h1; injection h1 with h1; injection h1 with h1; subst h1; exact h2)⟩)
  have K2 := hide (show KN p v w1 b1 plainD from ⟨hB, fun b off e => free_new ho1 ho2 (hn2 b off e) (by obtain ⟨b', off', h1, h2, _⟩ := hB 0 5 (by decide); rw [e] at h1; injection h1 with h1; injection h1 with h1; subst h1; exact h2)⟩)
  have HW1 := hide (H.out.below hb)
  have HS1 := hide (Step.ofBelow (p := p) (v := v) hb)
  clear hA hB hb hn1 hn2 ho1 ho2 HPL
  simp only [plainL_length, plainD_length]
  go_upto_if 28 with fail
  go_cut [10] (fun bv wx => bv = .int .i64 (lastI last) ∧ wx = w1)
  case first =>
    cases last with
    | true =>
      go_wp2
      go_meet
      exact ⟨rfl, rfl⟩
    | false =>
      go_wp2
      go_meet
      exact ⟨rfl, rfl⟩
  case rest =>
    obtain ⟨rfl, rfl⟩ := hcut
    have HBT := hide (qwbit_any p v bs (lastI last) wc HW1.out (by omega))
    rw [lastI_odd] at HBT
    generalize lastI last = bv at HBT ⊢
    go_wp2_with fail
    refine HBT.out.mono ?_
    rintro e w2 ⟨rfl, v2, hr2, hs2⟩
    have HR2 := hide hr2
    have HS2 := hide (HS1.out.trans hs2)
    have K1b := hide (K1.out.step hs2)
    have K2b := hide (K2.out.step hs2)
    clear hr2 hs2 HBT K1 K2 HW1 HS1
    go_upto_if 33 with fail
    go_cut [8, 9] (fun lv dv wx => ∃ v3 ob la lb a8 c8 b9 d9, lv = .slice a8 (la : List Nat).length c8 ∧ dv = .slice b9 (lb : List Nat).length d9 ∧ Hid (Begun W wx l kind last p v v3 bs ob la lb a8 b9))
    case first =>
      by_cases hk : kind = 2
      · have kb : (kind == 2) = true := by simp [hk]
        have HK := hide hk
        clear hk
        have HP := hide (qwput_any p v2 _ 2 2 w2 (by omega) HR2.out (by rw [List.length_append]; show _ + 1 ≤ _; omega))
        go_wp2_with fail
        refine HP.out.mono ?_
        rintro e w3 ⟨rfl, v3, hr3, hs3⟩
        have HR3 := hide hr3
        have HS3 := hide (HS2.out.trans hs3)
        have HOW := hide (qown_any l a cap w3 (HKT.out.step HS3.out).arg HR.out HLL.out)
        rw [HN.out] at HOW
        clear hr3 hs3 HP HR2 HS2
        go_wp2_with fail
        refine HOW.out.mono ?_
        rintro e w4 ⟨a4, c4, b4, d4, rfl, hA, hB, _, _, hb, hn1, hn2⟩
        have hlo := ownLit_len l
        have hdo := ownDist_len l
        have HWQ := hide (HR3.out.below hb)
        have HHD := hide (qhead_any (ownLit l) (ownDist l) a4 b4 c4 d4 p v3 _ w4 HWQ.out (by rw [List.length_append, List.length_append, lowBits_length]; show _ + 1 + 2 ≤ _; omega) hA hB hlo.1 hlo.2 hdo.1 hdo.2)
        obtain ⟨ho1, ho2⟩ := HR3.out.old
        have KA := hide (show KN p v3 w4 a4 (ownLit l) from ⟨hA, fun b off e => free_new ho1 ho2 (hn1 b off e) (by obtain ⟨b', off', h1, h2, _⟩ := hA 0 _ (getD_some _ 0 (by omega)); rw [e] at h1; injection h1 with h1; injection h1 with h1; subst h1; exact h2)⟩)
        have KB := hide (show KN p v3 w4 b4 (ownDist l) from ⟨hB, fun b off e => free_new ho1 ho2 (hn2 b off e) (by obtain ⟨b', off', h1, h2, _⟩ := hB 0 _ (getD_some _ 0 (by omega)); rw [e] at h1; injection h1 with h1; injection h1 with h1; subst h1; exact h2)⟩)
        have HS4 := hide (HS3.out.trans (Step.ofBelow hb))
        have HLX := hide (show (ownLit l ++ ownDist l).length ≤ 400 by rw [List.length_append]; omega)
        have HOK := hide (own_ok l HR.out HLL.out)
        clear hA hB hb hn1 hn2 ho1 ho2 HOW HR3 HS3
        go_wp2_with fail
        refine HHD.out.mono ?_
        rintro e w5 ⟨rfl, hbits, v5, hrel, hr5, hs5⟩
        have HREL := hide hrel
        have HR5 := hide hr5
        have HS5 := hide (HS4.out.trans hs5)
        have KA5 := hide (KA.out.step hs5)
        have KB5 := hide (KB.out.step hs5)
        clear hrel hr5 hs5 HHD HS4 KA KB HWQ
        go_wp2
        go_meet
        refine ⟨v5, [last] ++ (lowBits 2 2 ++ hbits), ownLit l, ownDist l, a4, c4, b4, d4, rfl, rfl, KA5.out, KB5.out, ?_, HS5.out, HOK.out, ?_, ?_⟩
        · have hf := HR5.out
          simp only [List.append_assoc] at hf ⊢
          exact hf
        · refine .inl ⟨HK.out, hbits, HREL.out, ?_⟩
          simp only [List.append_assoc]
        · have := headRel_le HREL.out HLX.out
          simp only [List.length_append, lowBits_length, List.length_singleton]
          omega
      · have kb : (kind == 2) = false := by simp [hk]
        have HP := hide (qwput_any p v2 _ 1 2 w2 (by omega) HR2.out (by rw [List.length_append]; show _ + 1 ≤ _; omega))
        have HK := hide hk
        clear hk
        go_wp2_with fail
        refine HP.out.mono ?_
        rintro e w3 ⟨rfl, v3, hr3, hs3⟩
        have HR3 := hide hr3
        have HS3 := hide (HS2.out.trans hs3)
        have KA := hide (K1b.out.step hs3)
        have KB := hide (K2b.out.step hs3)
        clear hr3 hs3 HP HR2 HS2
        go_wp2
        go_meet
        refine ⟨v3, [last] ++ lowBits 1 2, plainL, plainD, a1, c1, b1, d1, by rw [plainL_length], by rw [plainD_length], KA.out, KB.out, ?_, HS3.out, plain_ok l HR.out, ?_, ?_⟩
        · have hf := HR3.out
          simp only [List.append_assoc] at hf ⊢
          exact hf
        · refine .inr ⟨HK.out, ?_⟩
          simp only [List.append_assoc]
        · simp only [List.length_append, lowBits_length, List.length_singleton]
          omega
    case rest =>
      clear K1b K2b HR2 HS2
      obtain ⟨v3, ob, la, lb, a8, c8, b9, d9, rfl, rfl, HBG⟩ := hcut
      have hla1 := HBG.out.ok.la1
      have hla2 := HBG.out.ok.la2
      have hlb1 := HBG.out.ok.lb1
      have hlb2 := HBG.out.ok.lb2
      have hfew := HBG.out.few
      have HQ1 := hide (qcodes_any _ a8 c8 wc HBG.out.ka.arg.toZ (by rw [List.length_map]; omega))
      rw [List.length_map] at HQ1
      obtain ⟨na, hna⟩ : ∃ na, la.length = na := ⟨_, rfl⟩
      obtain ⟨nb, hnb⟩ : ∃ nb, lb.length = nb := ⟨_, rfl⟩
      have HNA := hide hna
      have HNB := hide hnb
      rw [hna] at HQ1 hla1 hla2 ⊢
      rw [hnb] at hlb1 hlb2 ⊢
      clear hna hnb
      go_wp2_with fail
      refine HQ1.out.mono ?_
      rintro e w5 ⟨r5, rfl, hres, b5⟩
      obtain ⟨g5, k5, rfl, ho5⟩ := codes_res hres HBG.out.ok.ma
      rw [HNA.out] at ho5 ⊢
      have HO5 := hide ho5
      have B5 := hide b5
      have HQ2 := hide (qcodes_any _ b9 d9 w5 (HBG.out.kb.step (Step.ofBelow b5)).arg.toZ (by rw [List.length_map, HNB.out]; omega))
      rw [List.length_map, HNB.out] at HQ2
      clear hres b5 ho5 HQ1
      go_wp2_with fail
      refine HQ2.out.mono ?_
      rintro e w6 ⟨r6, rfl, hres, b6⟩
      obtain ⟨g6, k6, rfl, ho6⟩ := codes_res hres HBG.out.ok.mb
      rw [HNB.out] at ho6 ⊢
      have HO6 := hide ho6
      have HO5b := hide (own_below HO5.out b6 (Nat.le_refl _))
      have HS6 := hide (show Step p v3 v3 wc w6 from (Step.ofBelow B5.out).trans (Step.ofBelow b6))
      have HWQ := hide ((HBG.out.wq.below B5.out).below b6)
      have HKA := hide (HBG.out.ka.step HS6.out)
      have HKB := hide (HBG.out.kb.step HS6.out)
      have HST := hide (HBG.out.st.trans HS6.out)
      have HKT6 := hide (HKT.out.step HST.out)
      have HOK := hide HBG.out.ok
      have HREL := hide HBG.out.rel
      obtain ⟨ho1, ho2⟩ := HBG.out.wq.old
      have hz5 := B5.out.size
      have hz6 := b6.size
      clear hres ho6 HQ2
      obtain ⟨q5, kq5, e5⟩ := own_slice HO5b.out (by omega)
      injection e5 with e5 _ e5c
      subst e5 e5c
      obtain ⟨q6, kq6, e6⟩ := own_slice HO6.out (by omega)
      injection e6 with e6 _ e6c
      subst e6 e6c
      have F5 := hide (free_new (w := w6) (b := q5) ho1 ho2 (HO5b.out.lt q5 rfl).1 (HO5b.out.lt q5 rfl).2)
      have F6 := hide (free_new (w := w6) (b := q6) ho1 ho2 (Nat.le_trans hz5 (HO6.out.lt q6 rfl).1) (HO6.out.lt q6 rfl).2)
      have C5 := hide (show ∀ k, k < na → w6.cell? ⟨q5, k, none⟩ = some (.int .i64 ((codeN la k : Nat) : Int)) from fun k hk => (own_nat (l := codesL la) (by rw [codesL_length, HNA.out]; exact HO5b.out) (codesL_get la k (by rw [HNA.out]; exact hk))).1)
      have C6 := hide (show ∀ k, k < nb → w6.cell? ⟨q6, k, none⟩ = some (.int .i64 ((codeN lb k : Nat) : Int)) from fun k hk => (own_nat (l := codesL lb) (by rw [codesL_length, HNB.out]; exact HO6.out) (codesL_get lb k (by rw [HNB.out]; exact hk))).1)
      obtain ⟨b8, o8, rfl, _, _⟩ := HKA.out.arg 0 _ (getD_some la 0 (by rw [HNA.out]; omega))
      obtain ⟨b7, o7, rfl, _, _⟩ := HKB.out.arg 0 _ (getD_some lb 0 (by rw [HNB.out]; omega))
      have F8 := hide (HKA.out.free b8 o8 rfl)
      have F7 := hide (HKB.out.free b7 o7 rfl)
      have C8 := hide (show ∀ k, k < na → w6.cell? ⟨b8, o8 + k, none⟩ = some (.int .i64 ((la.getD k 0 : Nat) : Int)) from fun k hk => by
        obtain ⟨b', o', e1, _, h3⟩ := HKA.out.arg k _ (getD_some la k (by rw [HNA.out]; exact hk))
        injection e1 with e1
        injection e1 with e1 e2
        subst e1 e2
        exact h3)
      have C7 := hide (show ∀ k, k < nb → w6.cell? ⟨b7, o7 + k, none⟩ = some (.int .i64 ((lb.getD k 0 : Nat) : Int)) from fun k hk => by
        obtain ⟨b', o', e1, _, h3⟩ := HKB.out.arg k _ (getD_some lb k (by rw [HNB.out]; exact hk))
        injection e1 with e1
        injection e1 with e1 e2
        subst e1 e2
        exact h3)
      have G8 := hide (fun k => getD_le HOK.out.ma.each k)
      have G7 := hide (fun k => getD_le HOK.out.mb.each k)
      have HTL := hide (toksBits_le HOK.out.ma.each HOK.out.mb.each)
      obtain ⟨bs1, hbs1⟩ : ∃ bs1, bs ++ ob = bs1 := ⟨_, rfl⟩
      have hbl1 : bs1.length ≤ 520000 := by rw [← hbs1, List.length_append]; omega
      have HBS := hide hbs1
      rw [hbs1] at HWQ
      clear hbs1 b6 ho1 ho2 hz5 hz6 HO5 HO5b HO6 HBG HKA HKB HS6 B5
      go_wp2_with fail
      go_loopw [15] (fun c wr => ∃ (i : Nat) (vi : Value), i ≤ n ∧ c = .int .i64 (i : Nat) ∧ Hid (Wq wr p vi (bs1 ++ toksBits la lb (l.take i))) ∧ Hid (Step p v3 vi w6 wr)) (fun c _ => n - (intOf c).toNat)
      case atStart => exact ⟨0, v3, Nat.zero_le _, rfl, hide (by show Wq w6 p v3 (bs1 ++ []); rw [List.append_nil]; exact HWQ.out), hide (Step.refl _ _ _)⟩
      case round =>
        clear HWQ
        obtain ⟨i, vi, hi, rfl, HR7, HS7⟩ := hrel
        have hbt := HTL.out (l.take i)
        have hti : (l.take i).length ≤ i := by rw [List.length_take]; omega
        have hbt2 : (bs1 ++ toksBits la lb (l.take i)).length ≤ 620000 := by rw [List.length_append]; omega
        clear hbt hti
        by_cases hlt : i < n
        · obtain ⟨⟨b, ln, d⟩, ht⟩ : ∃ r, l[i]? = some r := ⟨_, List.getElem?_eq_getElem (by rw [HN.out]; exact hlt)⟩
          obtain ⟨x, offx, rfl, hx, hcx, hdx, hex⟩ := HKT6.out.arg i _ ht
          have FT := hide (HKT6.out.free (List.ne_nil_of_mem (List.mem_of_getElem? ht)) x offx rfl)
          have TC := hide hcx
          have TD := hide hdx
          have TE := hide hex
          dsimp only at TC TD TE
          have _c1 := (FT.out.cell HS7.out (offx + i * 3)).trans TC.out
          have _d1 := (FT.out.cell HS7.out (offx + i * 3 + 1)).trans TD.out
          have _e1 := (FT.out.cell HS7.out (offx + i * 3 + 2)).trans TE.out
          have hrt := HR.out _ (List.mem_of_getElem? ht)
          have hfit := HOK.out.fit _ (List.mem_of_getElem? ht)
          have HTK := hide (take_snocT l i _ ht)
          have HSN := hide (toks_snoc la lb (l.take i) (b, ln, d))
          rw [← HTK.out] at HSN
          have zi : (i : Int) < (n : Int) := by omega
          rw [HNA.out, HNB.out] at hfit
          clear hx hcx hdx hex ht HTK
          by_cases hm : ln ≤ 0
          · have hs : symT (b, ln, d) = b := by unfold symT; rw [if_pos hm]
            have hb8 : b < 256 := hrt.1
            have hbn : b < na := by have := hfit.1; rw [hs] at this; exact this
            have HTB := hide (show tokBits la lb (b, ln, d) = highBits (codeN la b : Int) (la.getD b 0) by unfold tokBits; rw [if_pos hm])
            have _p1 := (F5.out.cell HS7.out b).trans (C5.out b hbn)
            have _p2 := (F8.out.cell HS7.out (o8 + b)).trans (C8.out b hbn)
            have hg8 := G8.out b
            have HCA := hide (C5.out b hbn)
            have HCB := hide (C8.out b hbn)
            generalize codeN la b = cv at _p1 HTB HCA
            generalize la.getD b 0 = lv at _p2 hg8 HTB HCB
            have HT := hide (fun w' (h : Wq w' p vi (bs1 ++ toksBits la lb (l.take i))) => qwturn_any p vi _ (cv : Int) lv w' (by omega) h (by omega))
            have HWD := hide (HR7.out.drewN 1)
            have zb : (b : Int) < (na : Int) := by omega
            have zb2 : (b : Int) ≤ 255 := by omega
            clear hs hfit hrt
            go_wp2_with fail
            go_region_held3 (fun w' => w'.cell? ⟨x, offx + i * 3 + 2, none⟩ = some (.int .u8 (b : Int)) ∧ w'.cell? ⟨q5, b, none⟩ = some (.int .i64 (cv : Int)) ∧ w'.cell? ⟨b8, o8 + b, none⟩ = some (.int .i64 (lv : Int))) (go_keep) (first
              | (go_at_call 31; refine (HT.out _ HWD.out).mono ?_; rintro e w9 ⟨rfl, v9, hr9, s9⟩; have hs9 : Step p vi v9 wr w9 := ⟨s9.os, s9.tape, s9.output, s9.size, s9.block, s9.own⟩; have hs10 : Step p v3 v9 w6 w9 := HS7.out.trans hs9; have k0 := (FT.out.cell hs10 (offx + i * 3 + 2)).trans TE.out; have k1 := (F5.out.cell hs10 b).trans HCA.out; have k2 := (F8.out.cell hs10 (o8 + b)).trans HCB.out; have HR9 := hide hr9; have HS9 := hide hs10; clear hr9 s9 hs9 hs10))
            have HRF := hide HR9.out
            rw [List.append_assoc, ← HTB.out, ← HSN.out] at HRF
            clear k0 k1 k2 _c1 _d1 _e1 _p1 _p2 HT HWD HR9
            go_wp2
            go_roundw
            case rel => exact ⟨i + 1, v9, hlt, by go_num, HRF, HS9⟩
            case measure => exact meas_oneW i n hlt
          · have hm2 : 0 < ln := by omega
            obtain ⟨hr1, hr2⟩ := hrt.2 hm2
            have hs : symT (b, ln, d) = 257 + lnT ln := by unfold symT; rw [if_neg (by dsimp only; omega)]
            have hKn : 257 + lnT ln < na := by have := hfit.1; rw [hs] at this; exact this
            have hkn : dsT d < nb := hfit.2 hm2
            have HTB := hide (show tokBits la lb (b, ln, d) = highBits (codeN la (257 + lnT ln) : Int) (la.getD (257 + lnT ln) 0) ++ (lowBits (ln - (lenBase (lnT ln) : Int)) (lenBits (lnT ln)) ++ (highBits (codeN lb (dsT d) : Int) (lb.getD (dsT d) 0) ++ lowBits (d - (distBase (dsT d) : Int)) (distBits (dsT d)))) by unfold tokBits; rw [if_neg (by dsimp only; omega)])
            have HC1 := hide (qlen_any ln)
            have HC2 := hide (qdist_any d)
            rw [ln_val ln hr1] at HC1
            rw [ds_val d hr2] at HC2
            have hx5 := (len_small (lnT ln) (lnT_le _)).2.2
            have hx13 := (dist_small (dsT d) (dsT_le _)).2.2
            have HCA := hide (C5.out _ hKn)
            have HCB := hide (C8.out _ hKn)
            have HCC := hide (C6.out _ hkn)
            have HCD := hide (C7.out _ hkn)
            have hg8 := G8.out (257 + lnT ln)
            have hg7 := G7.out (dsT d)
            generalize codeN la (257 + lnT ln) = cv at HTB HCA
            generalize la.getD (257 + lnT ln) 0 = lv at hg8 HTB HCB
            generalize codeN lb (dsT d) = cv2 at HTB HCC
            generalize lb.getD (dsT d) 0 = lv2 at hg7 HTB HCD
            generalize lenBits (lnT ln) = x1 at HTB HC1 hx5
            generalize ln - (lenBase (lnT ln) : Int) = x2 at HTB HC1
            generalize distBits (dsT d) = x3 at HTB HC2 hx13
            generalize d - (distBase (dsT d) : Int) = x4 at HTB HC2
            generalize 257 + lnT ln = K at hKn HC1 HCA HCB
            generalize dsT d = kd at hkn HC2 HCC HCD
            have zK : (K : Int) < (na : Int) := by omega
            have zk : (kd : Int) < (nb : Int) := by omega
            have HT := hide (fun w' (h : Wq w' p vi (bs1 ++ toksBits la lb (l.take i))) => qwturn_any p vi _ (cv : Int) lv w' (by omega) h (by omega))
            have HWD := hide (HR7.out.drewN 1)
            have _p1 := (F5.out.cell HS7.out K).trans HCA.out
            have _p2 := (F8.out.cell HS7.out (o8 + K)).trans HCB.out
            clear hs hfit hrt hr1 hr2
            go_wp2_with fail
            refine (HC1.out _).mono ?_
            rintro e w8 ⟨rfl, rfl⟩
            go_wp2_with fail
            refine (HC2.out _).mono ?_
            rintro e w8 ⟨rfl, rfl⟩
            clear _c1 _d1 _e1
            go_wp2_with fail
            go_region_held3 (fun w' => w'.cell? ⟨q5, K, none⟩ = some (.int .i64 (cv : Int)) ∧ w'.cell? ⟨b8, o8 + K, none⟩ = some (.int .i64 (lv : Int))) (go_keep) (first
              | (go_at_call 31; refine (HT.out _ HWD.out).mono ?_; rintro e w9 ⟨rfl, v9, hr9, s9⟩; have hs9 : Step p vi v9 wr w9 := ⟨s9.os, s9.tape, s9.output, s9.size, s9.block, s9.own⟩; have hs10 : Step p v3 v9 w6 w9 := HS7.out.trans hs9; have k1 := (F5.out.cell hs10 K).trans HCA.out; have k2 := (F8.out.cell hs10 (o8 + K)).trans HCB.out; have HR9 := hide hr9; have HS9 := hide hs10; clear hr9 s9 hs9 hs10))
            clear k1 k2 _p1 _p2 HT HWD
            have HP1 := hide (qwput_any p v9 _ x2 x1 w9 (by omega) HR9.out (by unfold highBits; rw [List.length_append, List.length_reverse, lowBits_length]; omega))
            go_wp2_with fail
            refine HP1.out.mono ?_
            rintro e w10 ⟨rfl, v10, hr10, hs10⟩
            have HS10 := hide (HS9.out.trans hs10)
            obtain ⟨bs2, hbs2⟩ : ∃ bs2, bs1 ++ toksBits la lb (l.take i) ++ highBits (cv : Int) lv ++ lowBits x2 x1 = bs2 := ⟨_, rfl⟩
            have hbl2 : bs2.length ≤ 620050 := by rw [← hbs2]; unfold highBits; rw [List.length_append, List.length_append, List.length_reverse, lowBits_length, lowBits_length]; omega
            have HB2 := hide hbs2
            rw [hbs2] at hr10
            have HR10 := hide hr10
            have HT2 := hide (fun w' (h : Wq w' p v10 bs2) => qwturn_any p v10 bs2 (cv2 : Int) lv2 w' (by omega) h (by omega))
            have HWE := hide (HR10.out.drewN 1)
            have _p1 := (F6.out.cell HS10.out kd).trans HCC.out
            have _p2 := (F7.out.cell HS10.out (o7 + kd)).trans HCD.out
            clear hr10 hs10 HP1 HR9 HS9 hbs2
            go_wp2_with fail
            go_region_held3 (fun w' => w'.cell? ⟨q6, kd, none⟩ = some (.int .i64 (cv2 : Int)) ∧ w'.cell? ⟨b7, o7 + kd, none⟩ = some (.int .i64 (lv2 : Int))) (go_keep) (first
              | (go_at_call 31; refine (HT2.out _ HWE.out).mono ?_; rintro e w11 ⟨rfl, v11, hr11, s11⟩; have hs11 : Step p v10 v11 w10 w11 := ⟨s11.os, s11.tape, s11.output, s11.size, s11.block, s11.own⟩; have hs12 : Step p v3 v11 w6 w11 := HS10.out.trans hs11; have k1 := (F6.out.cell hs12 kd).trans HCC.out; have k2 := (F7.out.cell hs12 (o7 + kd)).trans HCD.out; have HR11 := hide hr11; have HS11 := hide hs12; clear hr11 s11 hs11 hs12))
            clear k1 k2 _p1 _p2 HT2 HWE
            have HP2 := hide (qwput_any p v11 _ x4 x3 w11 (by omega) HR11.out (by unfold highBits; rw [List.length_append, List.length_reverse, lowBits_length]; omega))
            go_wp2_with fail
            refine HP2.out.mono ?_
            rintro e w12 ⟨rfl, v12, hr12, hs12⟩
            have HS12 := hide (HS11.out.trans hs12)
            have HRF := hide hr12
            rw [← HB2.out] at HRF
            simp only [List.append_assoc] at HRF
            rw [← HTB.out, ← HSN.out] at HRF
            clear hr12 hs12 HP2 HR11 HS11
            go_wp2
            go_roundw
            case rel => exact ⟨i + 1, v12, hlt, by go_num, HRF, HS12⟩
            case measure => exact meas_oneW i n hlt
        · have hi2 : i = n := by omega
          subst hi2
          have zi : ¬ (i : Int) < (i : Int) := by omega
          have _c1 := (F5.out.cell HS7.out 256).trans (C5.out 256 hla1)
          have _c2 := (F8.out.cell HS7.out (o8 + 256)).trans (C8.out 256 hla1)
          have hg8 := G8.out 256
          have HCA := hide (C5.out 256 hla1)
          have HCB := hide (C8.out 256 hla1)
          have HBO := hide (show bodyBits la lb l = toksBits la lb l ++ highBits (codeN la 256 : Int) (la.getD 256 0) from rfl)
          rw [show (256 : Nat) = 256 from rfl] at hg8
          generalize codeN la 256 = cv at _c1 HBO HCA
          generalize la.getD 256 0 = lv at _c2 hg8 HBO HCB
          have HT := hide (fun w' (h : Wq w' p vi (bs1 ++ toksBits la lb (l.take i))) => qwturn_any p vi _ (cv : Int) lv w' (by omega) h (by omega))
          have HWD := hide (HR7.out.drewN 1)
          have zl : (256 : Int) < (na : Int) := by omega
          go_wp2_with fail
          go_region_held3 (fun w' => w'.cell? ⟨q5, 256, none⟩ = some (.int .i64 (cv : Int)) ∧ w'.cell? ⟨b8, o8 + 256, none⟩ = some (.int .i64 (lv : Int))) (go_keep) (first
            | (go_at_call 31; refine (HT.out _ HWD.out).mono ?_; rintro e w9 ⟨rfl, v9, hr9, s9⟩; have hs9 : Step p vi v9 wr w9 := ⟨s9.os, s9.tape, s9.output, s9.size, s9.block, s9.own⟩; have hs10 : Step p v3 v9 w6 w9 := HS7.out.trans hs9; have k1 := (F5.out.cell hs10 256).trans HCA.out; have k2 := (F8.out.cell hs10 (o8 + 256)).trans HCB.out; have HR9 := hide hr9; have HS9 := hide hs10; clear hr9 s9 hs9 hs10))
          clear k1 k2 _c1 _c2 HT HWD
          go_wp2
          go_end0
          have hf := HR9.out
          rw [← HN.out, List.take_length, List.append_assoc, ← HBO.out, ← HBS.out, List.append_assoc] at hf
          refine ⟨rfl, ob ++ bodyBits la lb l, v9, HREL.out, ?_, hf, HST.out.trans HS9.out⟩
          have := HTL.out l
          have := HLL.out
          rw [HBO.out, List.length_append, List.length_append]
          unfold highBits
          rw [List.length_reverse, lowBits_length]
          omega

end Go.Proofs.Ytaalbaiglkadlaa
