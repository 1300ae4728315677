import Derived.Test.YtaalbaiglkadlaaGreatIA
import Derived.Test.YtaalbaiglkadlaaGreatBitsA
import Derived.Test.YtaalbaiglkadlaaGreatMA
/- Opening bytes: what was packed, with anything behind it; without its end; by other limits; of the bytes that are used alone. -/
namespace Go.Proofs.YtaalbaiglkadlaaGreat

/-- A text's bits. -/
def srcB (s : ByteArray) (q : Nat) : Nat := (bitI s q).toNat
/-- What a text is opened to. -/
def openR (s : ByteArray) (limit : Int) : Except Int (List Nat × Nat) := openP limit 1000000 [] (srcB s) (8 * s.size) 0
def openO (s : ByteArray) (limit : Int) : List Nat := match openR s limit with
  | .ok (o, _) => o
  | .error _ => []
def openN (s : ByteArray) (limit : Int) : Nat := match openR s limit with
  | .ok (_, j) => (j + 7) / 8
  | .error _ => 0
def openE (s : ByteArray) (limit : Int) : Int := match openR s limit with
  | .ok _ => 0
  | .error e => e
theorem open_ok {s : ByteArray} {limit : Int} {o : List Nat} {j : Nat} (h : openR s limit = .ok (o, j)) : openO s limit = o ∧ openN s limit = (j + 7) / 8 ∧ openE s limit = 0 := by
  unfold openO openN openE
  rw [h]
  exact ⟨rfl, rfl, rfl⟩
theorem open_err {s : ByteArray} {limit : Int} {e : Int} (h : openR s limit = .error e) : openO s limit = [] ∧ openN s limit = 0 ∧ openE s limit = e := by
  unfold openO openN openE
  rw [h]
  exact ⟨rfl, rfl, rfl⟩

theorem mk_size (t : List UInt8) : (⟨t.toArray⟩ : ByteArray).size = t.length := by show t.toArray.size = _; simp
theorem src_mk (t : List UInt8) (q : Nat) : srcB ⟨t.toArray⟩ q = (t.getD (q / 8) 0).toNat / 2 ^ (q % 8) % 2 := by
  unfold srcB bitI
  exact Int.toNat_natCast _
theorem src_bit {bits : List Bool} {t : List UInt8} (h : Packs bits t) (q : Nat) : (t.getD (q / 8) 0).toNat / 2 ^ (q % 8) % 2 = (bits.getD q false).toNat := by
  rw [← h.bit q, Nat.testBit_eq_decide_div_mod_eq]
  generalize (t.getD (q / 8) 0).toNat / 2 ^ (q % 8) = z
  by_cases hz : z % 2 = 1
  · rw [hz]; rfl
  · have : z % 2 = 0 := by omega
    rw [this]; rfl
theorem getD_front (t z : List UInt8) (k : Nat) (h : k < t.length) : (t ++ z).getD k 0 = t.getD k 0 := by
  rw [List.getD_eq_getElem?_getD, List.getElem?_append_left h, ← List.getD_eq_getElem?_getD]
theorem lies_packs {bits : List Bool} {t : List UInt8} (h : Packs bits t) (z : List UInt8) : Lies (srcB ⟨(t ++ z).toArray⟩) (8 * (⟨(t ++ z).toArray⟩ : ByteArray).size) 0 bits := by
  have hl := h.len
  refine ⟨?_, fun j hj => ?_⟩
  · rw [mk_size, List.length_append]
    omega
  · rw [Nat.zero_add, src_mk, getD_front t z _ (by omega)]
    exact src_bit h j
theorem nats_str (s : ByteArray) : strOf (natsB s) = s := by
  apply ByteArray.ext
  apply Array.toList_inj.1
  show ((natsB s).map UInt8.ofNat) = _
  unfold natsB
  rw [List.map_map]
  refine (List.map_congr_left fun x _ => ?_).trans (List.map_id _)
  show UInt8.ofNat x.toNat = x
  simp

/-- What was packed is opened, whatever is behind it. -/
theorem packed_open {s : ByteArray} {level : Int} {t : List UInt8} {er : Int} (h : PackRel s level t er) (h0 : 0 ≤ level) (h9 : level ≤ 9) (hs : s.size ≤ 65535) {limit : Int} (hlim : (s.size : Int) ≤ limit) (z : List UInt8) : ∃ j, openR ⟨(t ++ z).toArray⟩ limit = .ok (natsB s, j) ∧ (j + 7) / 8 = t.length := by
  obtain ⟨_, bits, hp, ho⟩ := pack_bits h h0 h9 hs
  exact ⟨bits.length, ho limit hlim _ _ (lies_packs hp z), hp.len.symm⟩
/-- Without its end it is too short. -/
theorem packed_short {s : ByteArray} {level : Int} {t : List UInt8} {er : Int} (h : PackRel s level t er) (h0 : 0 ≤ level) (h9 : level ≤ 9) (hs : s.size ≤ 65535) {limit : Int} (hlim : (s.size : Int) ≤ limit) (k : Nat) (hk : k < t.length) : openR ⟨(t.take k).toArray⟩ limit = .error 2 := by
  obtain ⟨_, bits, hp, ho⟩ := pack_bits h h0 h9 hs
  have h1 := ho limit hlim _ _ (lies_packs hp [])
  have hl := hp.len
  refine (Good.open limit 1000000 []).short _ _ _ _ _ h1 _ _ (fun q hq => ?_) (Nat.zero_le _) ?_
  · rw [mk_size, List.length_take] at hq
    rw [src_mk, src_mk, List.append_nil]
    have : (t.take k).getD (q / 8) 0 = t.getD (q / 8) 0 := by
      rw [List.getD_eq_getElem?_getD, List.getElem?_take, if_pos (by omega), ← List.getD_eq_getElem?_getD]
    rw [this]
  · rw [mk_size, List.length_take]
    omega
/-- What a lesser limit tells. -/
theorem open_two {s : ByteArray} {a b : Int} (h0 : 0 ≤ a) (hab : a ≤ b) : (∃ o j, openR s b = .ok (o, j) ∧ (((o.length : Int) ≤ a ∧ openR s a = .ok (o, j)) ∨ (a < (o.length : Int) ∧ openR s a = .error 6))) ∨ (∃ e e', openR s b = .error e ∧ openR s a = .error e') :=
  open_lim hab (srcB s) (8 * s.size) 1000000 [] 0 (by show (0 : Int) ≤ a; omega)
/-- By a lesser limit it is beyond. -/
theorem packed_beyond {s : ByteArray} {level : Int} {t : List UInt8} {er : Int} (h : PackRel s level t er) (h0 : 0 ≤ level) (h9 : level ≤ 9) (hs : s.size ≤ 65535) (h1 : 1 ≤ s.size) : openR ⟨t.toArray⟩ ((s.size : Int) - 1) = .error 6 := by
  obtain ⟨j, hj, _⟩ := packed_open h h0 h9 hs (Int.le_refl _) []
  rw [List.append_nil] at hj
  rcases open_two (s := ⟨t.toArray⟩) (a := (s.size : Int) - 1) (b := (s.size : Int)) (by omega) (by omega) with ⟨o, m, g1, g2⟩ | ⟨e, e', g1, _⟩
  · rw [hj] at g1
    obtain ⟨ga, _⟩ := Prod.mk.inj (Except.ok.inj g1)
    rcases g2 with ⟨g3, _⟩ | ⟨_, g4⟩
    · rw [← ga, natsB_length] at g3
      omega
    · exact g4
  · rw [hj] at g1
    cases g1
/-- Any limit that is no less than what there is tells the same. -/
theorem open_limits {s : ByteArray} {L M : Int} {o : List Nat} {j : Nat} (h : openR s L = .ok (o, j)) (hL : 0 ≤ L) (hM : (o.length : Int) ≤ M) : openR s M = .ok (o, j) := by
  by_cases hLM : M ≤ L
  · rcases open_two (s := s) (a := M) (b := L) (by omega) hLM with ⟨o2, m, g1, g2⟩ | ⟨e, e', g1, _⟩
    · rw [h] at g1
      obtain ⟨ga, gb⟩ := Prod.mk.inj (Except.ok.inj g1)
      rw [← ga, ← gb] at g2
      rcases g2 with ⟨_, g4⟩ | ⟨g3, _⟩
      · exact g4
      · omega
    · rw [h] at g1
      cases g1
  · rcases open_two (s := s) (a := L) (b := M) hL (by omega) with ⟨o2, m, g1, g2⟩ | ⟨e, e', _, g2⟩
    · rcases g2 with ⟨_, g4⟩ | ⟨_, g4⟩
      · rw [h] at g4
        obtain ⟨ga, gb⟩ := Prod.mk.inj (Except.ok.inj g4)
        rw [g1, ← ga, ← gb]
      · rw [h] at g4
        cases g4
    · rw [h] at g2
      cases g2
theorem blockP_more {limit : Int} {out : List Nat} {B : Nat → Nat} {T i : Nat} {lo : Nat × List Nat} {j : Nat} (h : blockP limit out B T i = .ok (lo, j)) : i + 1 ≤ j := by
  unfold blockP at h
  obtain ⟨last, m, h1, h2⟩ := bindP_inv h
  have h3 := (rdP_inv h1).2.2
  have hg : Good (bindP (rdP 2) fun kind => if kind = 0 then bindP (rawP limit out) fun o => pureP (last, o) else if kind = 3 then failP 3 else
      bindP (codesP kind) fun ab => bindP (chkP (goodB ab.1 && goodB ab.2) 4) fun _ => bindP (pourP (ab.1.map Int.toNat) (ab.2.map Int.toNat) limit 1000000 out) fun o => pureP (last, o)) :=
    Good.bind (Good.rd 2) fun _ => Good.ite (Good.bind (Good.raw _ _) fun _ => Good.pure _) (Good.ite (Good.fail _)
      (Good.bind (Good.codes _) fun _ => Good.bind (Good.chk _ _) fun _ => Good.bind (Good.pour _ _ _ _ _) fun _ => Good.pure _))
  have := hg.lo _ _ _ _ _ h2
  omega
theorem openP_more {limit : Int} {B : Nat → Nat} {T : Nat} {f : Nat} {out : List Nat} {i : Nat} {o : List Nat} {j : Nat} (h : openP limit (f + 1) out B T i = .ok (o, j)) : i + 1 ≤ j := by
  unfold openP at h
  obtain ⟨lo, m, h1, h2⟩ := bindP_inv h
  have h3 := blockP_more h1
  have hg : Good (if lo.1 = 1 then pureP lo.2 else openP limit f lo.2) := Good.ite (Good.pure _) (Good.open _ _ _)
  have := hg.lo _ _ _ _ _ h2
  omega
/-- What is opened is opened of the bytes that are used alone; one byte less is too short. -/
theorem open_uses {s : ByteArray} {L : Int} {o : List Nat} {j : Nat} (h : openR s L = .ok (o, j)) : 1 ≤ (j + 7) / 8 ∧ (j + 7) / 8 ≤ s.size ∧ openR (s.extract 0 ((j + 7) / 8)) L = .ok (o, j) ∧ openR (s.extract 0 ((j + 7) / 8 - 1)) L = .error 2 := by
  have hg := Good.open L 1000000 []
  have hj : 0 + 1 ≤ j := openP_more (f := 999999) h
  have hT := hg.hi _ _ _ _ _ h (Nat.zero_le _)
  have hsz : s.data.toList.length = s.size := by rw [Array.length_toList]; rfl
  have hex : ∀ n, n ≤ s.size → (s.extract 0 n).size = n ∧ ∀ q, q < 8 * n → srcB (s.extract 0 n) q = srcB s q := by
    intro n hn
    have e : (s.extract 0 n).data.toList = s.data.toList.take n := by
      rw [ByteArray.data_extract, Array.toList_extract, List.extract_eq_take_drop, List.drop_zero, Nat.sub_zero]
    refine ⟨?_, fun q hq => ?_⟩
    · show (s.extract 0 n).data.size = n
      rw [← Array.length_toList, e, List.length_take, hsz]
      omega
    · unfold srcB bitI
      rw [e, List.getD_eq_getElem?_getD, List.getElem?_take, if_pos (by omega), ← List.getD_eq_getElem?_getD]
  refine ⟨by omega, by omega, ?_, ?_⟩
  · have hx := hex ((j + 7) / 8) (by omega)
    refine hg.same _ _ _ _ _ h _ _ (fun q hq => hx.2 q (by omega)) ?_
    rw [hx.1]
    omega
  · have hx := hex ((j + 7) / 8 - 1) (by omega)
    refine hg.short _ _ _ _ _ h _ _ (fun q hq => ?_) (Nat.zero_le _) ?_
    · rw [hx.1] at hq
      exact hx.2 q hq
    · rw [hx.1]
      omega

end Go.Proofs.YtaalbaiglkadlaaGreat

/- A text of one byte, so many times, is packed into few bytes. Nothing of the program is named here. -/
namespace Go.Proofs.YtaalbaiglkadlaaGreat

section
variable {c : Nat → Nat} {n b : Nat}
theorem const_mlen (hc : ∀ i, i < n → c i = b) (k at_ : Nat) (hk : k < at_) (h : at_ + 3 ≤ n) : mlen c n k at_ = min 258 (n - at_) := by
  refine mlen_eq c n k at_ _ (by omega) (fun t h1 h2 => (more1_iff c n k at_ t).2 ⟨by omega, by omega, ?_⟩) ?_
  · rw [hc _ (by omega), hc _ (by omega)]
  · cases hm : more1 c n k at_ (min 258 (n - at_)) with
    | false => rfl
    | true =>
      have := (more1_iff c n k at_ _).1 hm
      omega
theorem bestR_stays (at_ : Nat) (r : Nat × Nat) (hr : min 258 (n - at_) ≤ r.1) : ∀ j most, bestR c n at_ j most r = r
  | 0, _ => rfl
  | j + 1, most => by
    unfold bestR
    split
    · rfl
    · split
      · rename_i hs
        have hm := mlen_spec c n j at_ hs
        have e : bett c n j at_ r = r := by
          unfold bett
          rw [if_neg (by omega)]
        rw [e]
        exact bestR_stays at_ r hr j _
      · exact bestR_stays at_ r hr j _
theorem const_best (hc : ∀ i, i < n → c i = b) (at_ most : Nat) (h1 : 1 ≤ at_) (h : at_ + 3 ≤ n) (hm : 1 ≤ most) : bestM c n at_ most = (min 258 (n - at_), 1) := by
  obtain ⟨j, rfl⟩ : ∃ j, at_ = j + 1 := ⟨at_ - 1, by omega⟩
  have hs : same3 c n j (j + 1) = true := (same3_iff c n j (j + 1)).2 ⟨h, by rw [hc _ (by omega), hc _ (by omega)], by rw [hc _ (by omega), hc _ (by omega)], by rw [hc _ (by omega), hc _ (by omega)]⟩
  have hl := const_mlen hc j (j + 1) (by omega) h
  unfold bestM
  rw [bestR, if_neg (by omega), if_pos hs]
  have e : bett c n j (j + 1) (0, 0) = (min 258 (n - (j + 1)), 1) := by
    unfold bett
    rw [hl, if_pos (show 0 < min 258 (n - (j + 1)) by omega), show j + 1 - j = 1 by omega]
  rw [e]
  exact bestR_stays (j + 1) _ (Nat.le_refl _) j _
theorem const_lit {level : Int} (i : Nat) (h : i = 0 ∨ n < i + 3) : tokM c n i level = (c i, 0, 0) := by
  have hb : (bestM c n i (chainL level)).1 = 0 := by
    rcases best_good c n i (chainL level) with e | e
    · rw [e]
    · omega
  unfold tokM
  rw [if_pos (.inl hb)]
theorem const_mat (hc : ∀ i, i < n → c i = b) {level : Int} (hl : 1 ≤ level) (i : Nat) (h1 : 1 ≤ i) (h : i + 3 ≤ n) : tokM c n i level = (0, min 258 (n - i), 1) := by
  have hch : 1 ≤ chainL level := by
    unfold chainL
    rw [if_neg (by omega)]
    exact Nat.two_pow_pos _
  have hb := const_best hc i (chainL level) h1 h hch
  have hz : lazyB c n i level = false := by
    unfold lazyB
    rw [hb]
    by_cases h258 : min 258 (n - i) < 258
    · have hn : ¬ min 258 (n - i) < (bestM c n (i + 1) (chainL level)).1 := by
        rcases best_good c n (i + 1) (chainL level) with e | e
        · rw [e]; show ¬ min 258 (n - i) < 0; omega
        · omega
      show (_ && _ && _ && decide (min 258 (n - i) < (bestM c n (i + 1) (chainL level)).1)) = false
      rw [decide_eq_false hn, Bool.and_false]
    · show (_ && decide (min 258 (n - i) < 258) && _ && _) = false
      rw [decide_eq_false h258, Bool.and_false, Bool.false_and, Bool.false_and]
  unfold tokM
  rw [hb, hz, if_neg (by simp only [Bool.false_eq_true, or_false]; omega)]
end

theorem plainL_le : ∀ s, s < 288 → 7 ≤ plainL.getD s 0 ∧ plainL.getD s 0 ≤ 9 := by decide +kernel
theorem plainL_high : ∀ s, s < 30 → plainL.getD (257 + s) 0 ≤ 8 := by decide +kernel
theorem plainD_five : ∀ s, s < 32 → plainD.getD s 0 = 5 := by decide +kernel
theorem lenBits_le : ∀ s, s < 29 → lenBits s ≤ 5 := by decide
theorem lit_bits (b : Nat) (h : b < 256) : 1 ≤ (tokBits plainL plainD (castT (b, 0, 0))).length ∧ (tokBits plainL plainD (castT (b, 0, 0))).length ≤ 9 := by
  have e : tokBits plainL plainD (castT (b, 0, 0)) = highBits (codeN plainL b : Int) (plainL.getD b 0) := by
    unfold tokBits
    rw [if_pos (show ((castT (b, 0, 0)).2.1 : Int) ≤ 0 from Int.le_refl _)]
    rfl
  have := plainL_le b (by omega)
  rw [e, highBits_length]
  omega
theorem mat_bits (m : Nat) (h : 3 ≤ m) : 1 ≤ (tokBits plainL plainD (castT (0, m, 1))).length ∧ (tokBits plainL plainD (castT (0, m, 1))).length ≤ 18 := by
  have hln := lnT_le (m : Int)
  have e : (tokBits plainL plainD (castT (0, m, 1))).length = plainL.getD (257 + lnT (m : Int)) 0 + (lenBits (lnT (m : Int)) + (plainD.getD (dsT 1) 0 + distBits (dsT 1))) := by
    unfold tokBits
    rw [if_neg (show ¬ ((castT (0, m, 1)).2.1 : Int) ≤ 0 by show ¬ (m : Int) ≤ 0; omega)]
    simp only [List.length_append, highBits_length, lowBits_length]
    rfl
  have h1 := plainL_high (lnT (m : Int)) (by omega)
  have h1b := plainL_le (257 + lnT (m : Int)) (by omega)
  have h2 := lenBits_le (lnT (m : Int)) (by omega)
  have h3 : plainD.getD (dsT 1) 0 = 5 := plainD_five _ (by have := dsT_le 1; omega)
  have h4 : distBits (dsT 1) = 0 := by decide
  rw [e]
  omega
/-- The tokens' bits, by the plain codes. -/
theorem const_bits (c : Nat → Nat) (n b : Nat) (hb : b < 256) (hc : ∀ i, i < n → c i = b) (level : Int) (hl : 1 ≤ level) : ∀ (ts : List (Nat × Nat × Nat)) (i : Nat), 1 ≤ i → Toks c n level i ts → ts.length ≤ (toksBits plainL plainD (ts.map castT)).length ∧ (toksBits plainL plainD (ts.map castT)).length ≤ 18 * ((n - i) / 258) + 9 * min 2 (n - i)
  | [], _, _, _ => ⟨Nat.le_refl _, Nat.zero_le _⟩
  | t :: ts, i, h1, h => by
    obtain ⟨hi, ht, h2⟩ := h
    have e : toksBits plainL plainD ((t :: ts).map castT) = tokBits plainL plainD (castT t) ++ toksBits plainL plainD (ts.map castT) := by
      unfold toksBits
      rw [List.map_cons, List.flatMap_cons]
    have htp := takes_pos t
    have ih := const_bits c n b hb hc level hl ts (i + takes t) (by omega) h2
    rw [e, List.length_append, List.length_cons]
    by_cases hm : i + 3 ≤ n
    · rw [const_mat hc hl i h1 hm] at ht
      have hb2 := mat_bits (min 258 (n - i)) (by omega)
      rw [← ht] at hb2
      have htk : takes t = min 258 (n - i) := by rw [ht]; unfold takes; rw [if_neg (show ¬ min 258 (n - i) = 0 by omega)]
      rw [htk] at ih
      refine ⟨by omega, ?_⟩
      by_cases hbig : 258 ≤ n - i
      · have e1 : n - (i + min 258 (n - i)) = n - i - 258 := by omega
        rw [e1] at ih
        have e2 : (n - i) / 258 = (n - i - 258) / 258 + 1 := by omega
        omega
      · have e1 : n - (i + min 258 (n - i)) = 0 := by omega
        rw [e1] at ih
        omega
    · rw [const_lit i (.inr (by omega))] at ht
      have hci := hc i hi
      rw [hci] at ht
      have hb2 := lit_bits b hb
      rw [← ht] at hb2
      have htk : takes t = 1 := by rw [ht]; rfl
      rw [htk] at ih
      omega
theorem const_all (c : Nat → Nat) (n b : Nat) (hb : b < 256) (hc : ∀ i, i < n → c i = b) (level : Int) (hl : 1 ≤ level) (ts : List (Nat × Nat × Nat)) (h : Toks c n level 0 ts) : ts.length ≤ (toksBits plainL plainD (ts.map castT)).length ∧ (toksBits plainL plainD (ts.map castT)).length ≤ 18 * (n / 258) + 27 := by
  cases ts with
  | nil => exact ⟨Nat.le_refl _, Nat.zero_le _⟩
  | cons t ts =>
    obtain ⟨hi, ht, h2⟩ := h
    have e : toksBits plainL plainD ((t :: ts).map castT) = tokBits plainL plainD (castT t) ++ toksBits plainL plainD (ts.map castT) := by
      unfold toksBits
      rw [List.map_cons, List.flatMap_cons]
    rw [const_lit 0 (.inl rfl), hc 0 hi] at ht
    have hb2 := lit_bits b hb
    rw [← ht] at hb2
    have htk : takes t = 1 := by rw [ht]; rfl
    rw [htk] at h2
    have ih := const_bits c n b hb hc level hl ts 1 (Nat.le_refl _) h2
    rw [e, List.length_append, List.length_cons]
    have : (n - 1) / 258 ≤ n / 258 := Nat.div_le_div_right (by omega)
    omega

/-- A block has as many bits as are told of its kind. -/
theorem step_size {s : ByteArray} {bs x : List Bool} {i : Nat} {part : List (Nat × Int × Int)} {c : Int} {last : Bool} (h : StepRel s bs i part c last x) (hc : ChooseRel part (covL part : Int) (bs.length : Int) c) (hi : i + covL part ≤ s.size) (hs : s.size ≤ 65535) : ∃ z, SizeRel part (covL part : Int) c (bs.length : Int) z ∧ (x.length : Int) = (bs.length : Int) + z := by
  rcases h with ⟨h1, rfl⟩ | ⟨h1, ob, h2, rfl⟩
  · refine ⟨_, .inl ⟨h1, rfl⟩, ?_⟩
    rw [storeAll_length, subB_size s i _ hi]
    unfold rawSize
    rw [if_neg (by omega)]
    omega
  · obtain ⟨f, r, d, hf, hr, hd, hch⟩ := hc
    have hcr := choose_range ⟨f, r, d, hf, hr, hd, hch⟩
    have h12 : c = 1 ∨ c = 2 := by omega
    rcases h12 with e | e
    · rcases hf with ⟨e0, _⟩ | ⟨_, ob2, g2, g3, rfl⟩
      · exact absurd e0 (by decide)
      · rw [e] at h2
        have := g2.len h2
        exact ⟨_, .inr ⟨h1, ob2, by rw [e]; exact g2, g3, rfl⟩, by rw [List.length_append]; omega⟩
    · rcases hd with ⟨e0, _⟩ | ⟨_, ob2, g2, g3, rfl⟩
      · exact absurd e0 (by decide)
      · rw [e] at h2
        have := g2.len h2
        exact ⟨_, .inr ⟨h1, ob2, by rw [e]; exact g2, g3, rfl⟩, by rw [List.length_append]; omega⟩
/-- A text of one byte is packed into few. -/
theorem pack_runs {s : ByteArray} {level : Int} {t : List UInt8} {er : Int} (h : PackRel s level t er) (h1 : 1 ≤ level) (h9 : level ≤ 9) (hs : s.size < 3000) (b : Nat) (hb : b < 256) (hc : ∀ i, i < s.size → bAt s i = b) : t.length ≤ 12 + s.size / 100 := by
  rcases h with ⟨h2, _⟩ | ⟨h2, _⟩ | ⟨_, _, _, ts, bits, k, h4, h5, h6⟩
  · omega
  · omega
  · have hall := const_all (bAt s) s.size b hb hc level h1 ts h4
    have hcov := toks_cov s level ts 0 h4
    have hq : s.size / 258 ≤ 11 := by omega
    cases k with
    | zero => exact h5.elim
    | succ k =>
      obtain ⟨c, b1, g1, g2, g3⟩ := h5
      have e512 : (ts.map castT).take 512 = ts.map castT := List.take_of_length_le (by rw [List.length_map]; omega)
      rw [e512] at g1 g2
      rcases g3 with ⟨_, rfl⟩ | ⟨g4, _⟩
      · obtain ⟨z, hz, hlen⟩ := step_size g2 g1 (by omega) (by omega)
        have hmin := (choose_least (by omega) (by omega) g1 hz).2.2
        obtain ⟨f, r, d, hf, _, _, _⟩ := g1
        have hzf := hmin 1 f (by omega) (by omega) hf
        have hfl : f ≤ 18 * ((s.size / 258 : Nat) : Int) + 37 := by
          rcases hf with ⟨e0, _⟩ | ⟨_, ob, hbk, _, rfl⟩
          · exact absurd e0 (by decide)
          · rcases hbk with ⟨e0, _⟩ | ⟨_, rfl⟩
            · exact absurd e0 (by decide)
            · have e256 : plainL.getD 256 0 = 7 := by decide +kernel
              unfold bodyBits
              simp only [List.length_append, List.length_singleton, lowBits_length, highBits_length, e256]
              omega
        have hp := h6.len
        rw [List.length_nil] at hlen
        omega
      · rw [List.length_map] at g4
        omega

end Go.Proofs.YtaalbaiglkadlaaGreat
