import Derived.Test.YtaalbaiglkadlaaBK
import Derived.Test.YtaalbaiglkadlaaMA
/- Contracts of the document's layer 9: Store, Size, Choose. -/
namespace Go.Proofs.Ytaalbaiglkadlaa
open Go.RowKit Go.Lib

/-- The bits of a writer that held bs, behind a stored block. -/
def storeAll (bs : List Bool) (s : ByteArray) (last : Bool) : List Bool :=
  alignBits (alignBits (bs ++ [last] ++ lowBits 0 2) ++ lowBits (s.size : Int) 16 ++ lowBits (65535 - (s.size : Int)) 16) ++ bytesBits s.data.toList

theorem storeAll_length (bs : List Bool) (s : ByteArray) (last : Bool) : (storeAll bs s last).length = (bs.length + 3 + 7) / 8 * 8 + 32 + 8 * s.size := by
  unfold storeAll
  have : s.data.size = s.size := rfl
  simp only [List.length_append, alignBits_length, lowBits_length, bytesBits_length, Array.length_toList, List.length_singleton]
  omega

set_option maxHeartbeats 4000000 in
theorem qstore_any (p : Nat) (v : Value) (bs : List Bool) (s : ByteArray) (last : Bool) (W : World) (h : Wq W p v bs) (hbl : bs.length ≤ 1000000) (hs : s.size ≤ 65535) :
    Calls Try.prog 38 #[.pointer (some ⟨p, 0, none⟩), .string s, .bool last] W fun e w' => e = .returned (.tuple #[]) ∧ ∃ v', Wq w' p v' (storeAll bs s last) ∧ Step p v v' W w' := by
  have H := hide h
  clear h
  obtain ⟨n, hn⟩ : ∃ n, s.size = n := ⟨_, rfl⟩
  have zn : ((s.size : Nat) : Int) = (n : Int) := by omega
  have HN := hide hn
  rw [hn] at hs
  clear hn
  go_enter Try.func38, Try.ntmps38
  go_upto_if 7 with fail
  go_cut [6] (fun bv wx => bv = .int .i64 (lastI last) ∧ wx = W)
  case first =>
    cases last with
    | true =>
      go_wp2
      go_meet
      exact ⟨rfl, rfl⟩
    | false =>
      go_wp2
      go_meet
      exact ⟨rfl, rfl⟩
  case rest =>
    obtain ⟨rfl, rfl⟩ := hcut
    have H1 := hide (qwbit_any p v bs (lastI last) wc H.out (by omega))
    rw [lastI_odd] at H1
    generalize lastI last = bv at H1 ⊢
    go_wp2_with fail
    refine H1.out.mono ?_
    rintro e w1 ⟨rfl, v1, hr1, hs1⟩
    have HR1 := hide hr1
    have HS1 := hide hs1
    have H2 := hide (qwput_any p v1 _ 0 2 w1 (by omega) hr1 (by rw [List.length_append, List.length_singleton]; omega))
    clear hr1 hs1 H1
    go_wp2_with fail
    refine H2.out.mono ?_
    rintro e w2 ⟨rfl, v2, hr2, hs2⟩
    have HS2 := hide (HS1.out.trans hs2)
    have H3 := hide (qwalign_any p v2 _ w2 hr2 (by rw [List.length_append, List.length_append, List.length_singleton, lowBits_length]; omega))
    clear hr2 hs2 H2 HR1 HS1
    go_wp2_with fail
    refine H3.out.mono ?_
    rintro e w3 ⟨rfl, v3, hr3, hs3⟩
    have HS3 := hide (HS2.out.trans hs3)
    have hl3 : (alignBits (bs ++ [last] ++ lowBits 0 2)).length ≤ 1000100 := by rw [alignBits_length, List.length_append, List.length_append, List.length_singleton, lowBits_length]; omega
    have H4 := hide (qwput_any p v3 _ (n : Int) 16 w3 (by omega) hr3 (by omega))
    clear hr3 hs3 H3 HS2
    go_wp2_with fail
    refine H4.out.mono ?_
    rintro e w4 ⟨rfl, v4, hr4, hs4⟩
    have HS4 := hide (HS3.out.trans hs4)
    have H5 := hide (qwput_any p v4 _ (65535 - (n : Int)) 16 w4 (by omega) hr4 (by rw [List.length_append, lowBits_length]; omega))
    clear hr4 hs4 H4 HS3
    go_wp2_with fail
    refine H5.out.mono ?_
    rintro e w5 ⟨rfl, v5, hr5, hs5⟩
    have HS5 := hide (HS4.out.trans hs5)
    have H6 := hide (qwtext_any p v5 _ s w5 hr5 (by rw [List.length_append, List.length_append, lowBits_length, lowBits_length]; omega) (by rw [HN.out]; omega))
    clear hr5 hs5 H5 HS4
    go_wp2_with fail
    refine H6.out.mono ?_
    rintro e w6 ⟨rfl, v6, hr6, hs6⟩
    have HR6 := hide hr6
    have HS6 := hide (HS5.out.trans hs6)
    clear hr6 hs6 H6 HS5
    go_wp2
    go_end0
    refine ⟨rfl, v6, ?_, HS6.out⟩
    unfold storeAll
    rw [HN.out]
    exact HR6.out

/-- How many bits a stored block has. -/
def rawSize (raw k : Int) : Int := if raw < 0 ∨ 65535 < raw then -1 else 3 + (8 - (k + 3) % 8) % 8 + 32 + 8 * raw
def SizeRel (l : List (Nat × Int × Int)) (raw kind k z : Int) : Prop := (kind = 0 ∧ z = rawSize raw k) ∨ (kind ≠ 0 ∧ ∃ ob, BlockRel l kind false ob ∧ ob.length ≤ 200000 ∧ z = (ob.length : Int))
theorem SizeRel.uniq {l : List (Nat × Int × Int)} {raw kind k z z' : Int} (h : SizeRel l raw kind k z) (g : SizeRel l raw kind k z') : z = z' := by
  rcases h with ⟨h1, rfl⟩ | ⟨h1, ob, h2, _, rfl⟩
  · rcases g with ⟨_, rfl⟩ | ⟨g1, _⟩
    · rfl
    · exact absurd h1 g1
  · rcases g with ⟨g1, _⟩ | ⟨_, ob', g2, _, rfl⟩
    · exact absurd g1 h1
    · rw [h2.uniq g2]
theorem SizeRel.range {l : List (Nat × Int × Int)} {raw kind k z : Int} (h : SizeRel l raw kind k z) : -1 ≤ z ∧ z ≤ 1000000 := by
  rcases h with ⟨_, rfl⟩ | ⟨_, ob, _, h3, rfl⟩
  · unfold rawSize
    split <;> omega
  · omega

theorem new_wq (w : World) : Wq (w.alloc (.cells #[.slice none 0 0, .int .i64 0] 35)) w.heap.size (.slice none 0 0) [] :=
  ⟨[], ⟨by show (w.heap.push _)[w.heap.size]? = _; simp, World.ownsRow_nil _ _ _ _, fun e => by cases e⟩, Packs.nil⟩
theorem Wq.size {w : World} {p : Nat} {v : Value} {bs : List Bool} (h : Wq w p v bs) : w.cell? ⟨p, 1, none⟩ = some (.int .i64 (bs.length : Nat)) := by
  obtain ⟨out, h1, _⟩ := h
  exact h1.c1

set_option maxHeartbeats 4000000 in
theorem qsize_any (l : List (Nat × Int × Int)) (a : Option Addr) (cap : Nat) (raw kind k : Int) (W : World) (harg : ArgT W a l) (hr : ∀ t ∈ l, RightT t) (hl : l.length ≤ 2000) (hk1 : 0 ≤ k) (hk2 : k ≤ 1099511627776) :
    Calls Try.prog 60 #[.slice a l.length cap, .int .i64 raw, .int .i64 kind, .int .i64 k] W fun e w' => ∃ z, e = .returned (.int .i64 z) ∧ SizeRel l raw kind k z ∧ Below W.heap.size W w' := by
  by_cases h0 : kind = 0
  · subst h0
    by_cases h1 : raw < 0
    · have hz : rawSize raw k = -1 := by unfold rawSize; rw [if_pos (.inl h1)]
      clear harg hr
      go_enter Try.func60, Try.ntmps60
      go_wp2
      go_ret
      exact ⟨-1, rfl, .inl ⟨rfl, hz.symm⟩, Below.refl _ _⟩
    · have h1d : decide (raw < 0) = false := decide_eq_false h1
      by_cases h2 : 65535 < raw
      · have hz : rawSize raw k = -1 := by unfold rawSize; rw [if_pos (.inr h2)]
        clear harg hr
        go_enter Try.func60, Try.ntmps60
        go_wp2
        go_ret
        exact ⟨-1, rfl, .inl ⟨rfl, hz.symm⟩, Below.refl _ _⟩
      · have HZ := hide (show rawSize raw k = 3 + (8 - (k + 3) % 8) % 8 + 32 + 8 * raw by unfold rawSize; rw [if_neg (by omega)])
        have h2d : decide (65535 < raw) = false := decide_eq_false h2
        clear harg hr
        go_enter Try.func60, Try.ntmps60
        go_wp2
        go_ret
        refine ⟨_, rfl, .inl ⟨rfl, ?_⟩, Below.refl _ _⟩
        rw [HZ.out]
        omega
  · have HR := hide hr
    have HLL := hide hl
    have HK := hide h0
    have h0b : (kind == 0) = false := by simp [h0]
    have HW0 := hide (new_wq W)
    have HB0 := hide ((Below.refl _ W).alloc (Nat.le_refl _) (.cells #[.slice none 0 0, .int .i64 0] 35))
    have HA1 := hide (harg.below HB0.out (Nat.le_refl _))
    have HKT := hide (KT.fresh (p := W.heap.size) (v := .slice none 0 0) harg HB0.out (Nat.le_refl _) (fun k hk => by cases hk))
    have HWR := hide (qwrite_any l a cap kind false W.heap.size (.slice none 0 0) [] _ HW0.out (by decide) HKT.out hr hl)
    clear harg hr hl h0 HA1 HKT HW0
    go_enter Try.func60, Try.ntmps60
    go_wp2_with fail
    refine HWR.out.mono ?_
    rintro e w1 ⟨rfl, ob, v1, hrel, hlen, hr1, hs1⟩
    rw [List.nil_append] at hr1
    have _c := hr1.size
    have HREL := hide hrel
    have HLN := hide hlen
    have HBB := hide (show Below W.heap.size W w1 from HB0.out.trans ⟨hs1.os, hs1.tape, hs1.output, hs1.size, fun g hg => hs1.block g (Nat.lt_of_lt_of_le hg HB0.out.size) (by omega) (fun e => by cases e)⟩)
    clear hrel hr1 hs1 HWR
    go_wp2
    go_ret
    exact ⟨_, rfl, .inr ⟨HK.out, ob, HREL.out, HLN.out, rfl⟩, HBB.out⟩

/-- Which kind is chosen. -/
def chooseI (f r d : Int) : Int := if d < (if 0 ≤ r ∧ r ≤ f then r else f) then 2 else if 0 ≤ r ∧ r ≤ f then 0 else 1
theorem choose_raw2 {f r d : Int} (h : 0 ≤ r ∧ r ≤ f) (h3 : d < r) : 2 = chooseI f r d := by unfold chooseI; simp only [if_pos h]; rw [if_pos h3]
theorem choose_raw0 {f r d : Int} (h : 0 ≤ r ∧ r ≤ f) (h3 : ¬ d < r) : 0 = chooseI f r d := by unfold chooseI; simp only [if_pos h]; rw [if_neg h3]
theorem choose_fix2 {f r d : Int} (h : ¬ (0 ≤ r ∧ r ≤ f)) (h3 : d < f) : 2 = chooseI f r d := by unfold chooseI; simp only [if_neg h]; rw [if_pos h3]
theorem choose_fix1 {f r d : Int} (h : ¬ (0 ≤ r ∧ r ≤ f)) (h3 : ¬ d < f) : 1 = chooseI f r d := by unfold chooseI; simp only [if_neg h]; rw [if_neg h3]
def ChooseRel (l : List (Nat × Int × Int)) (raw k c : Int) : Prop := ∃ f r d, SizeRel l raw 1 k f ∧ SizeRel l raw 0 k r ∧ SizeRel l raw 2 k d ∧ c = chooseI f r d
theorem ChooseRel.uniq {l : List (Nat × Int × Int)} {raw k c c' : Int} (h : ChooseRel l raw k c) (g : ChooseRel l raw k c') : c = c' := by
  obtain ⟨f, r, d, h1, h2, h3, rfl⟩ := h
  obtain ⟨f', r', d', g1, g2, g3, rfl⟩ := g
  rw [h1.uniq g1, h2.uniq g2, h3.uniq g3]

set_option maxHeartbeats 4000000 in
theorem qchoose_any (l : List (Nat × Int × Int)) (a : Option Addr) (cap : Nat) (raw k : Int) (W : World) (harg : ArgT W a l) (hr : ∀ t ∈ l, RightT t) (hl : l.length ≤ 2000) (hk1 : 0 ≤ k) (hk2 : k ≤ 1099511627776) :
    Calls Try.prog 37 #[.slice a l.length cap, .int .i64 raw, .int .i64 k] W fun e w' => ∃ c, e = .returned (.int .i64 c) ∧ ChooseRel l raw k c ∧ Below W.heap.size W w' := by
  have HSZ := hide (fun w kind (h : ArgT w a l) => qsize_any l a cap raw kind k w h hr hl hk1 hk2)
  have HA := hide harg
  clear harg hr hl hk1 hk2
  go_enter Try.func37, Try.ntmps37
  go_wp2_with fail
  refine (HSZ.out _ 1 HA.out).mono ?_
  rintro e w1 ⟨f, rfl, hf, b1⟩
  have hfr := hf.range
  have HF := hide hf
  have B1 := hide b1
  have HA1 := hide (HA.out.below b1 (Nat.le_refl _))
  clear hf b1
  go_wp2_with fail
  refine (HSZ.out _ 0 HA1.out).mono ?_
  rintro e w2 ⟨r, rfl, hr, b2⟩
  have hrr := hr.range
  have HRR := hide hr
  have B2 := hide (B1.out.trans (b2.mono B1.out.size))
  have HA2 := hide (HA1.out.below b2 (Nat.le_refl _))
  clear hr b2
  by_cases h1 : 0 ≤ r
  · by_cases h2 : r ≤ f
    · go_wp2_with fail
      refine (HSZ.out _ 2 HA2.out).mono ?_
      rintro e w3 ⟨d, rfl, hd, b3⟩
      have hdr := hd.range
      have HD := hide hd
      have B3 := hide (B2.out.trans (b3.mono B2.out.size))
      clear hd b3
      by_cases h3 : d < r
      · have HX := hide (choose_raw2 ⟨h1, h2⟩ h3)
        go_wp2
        go_ret
        exact ⟨2, rfl, ⟨f, r, d, HF.out, HRR.out, HD.out, HX.out⟩, B3.out⟩
      · have HX := hide (choose_raw0 ⟨h1, h2⟩ h3)
        go_wp2
        go_ret
        exact ⟨0, rfl, ⟨f, r, d, HF.out, HRR.out, HD.out, HX.out⟩, B3.out⟩
    · go_wp2_with fail
      refine (HSZ.out _ 2 HA2.out).mono ?_
      rintro e w3 ⟨d, rfl, hd, b3⟩
      have hdr := hd.range
      have HD := hide hd
      have B3 := hide (B2.out.trans (b3.mono B2.out.size))
      clear hd b3
      have hn : ¬ (0 ≤ r ∧ r ≤ f) := fun g => by have := g.2; omega
      have HN := hide hn
      clear hn
      by_cases h3 : d < f
      · have HX := hide (choose_fix2 HN.out h3)
        go_wp2
        go_ret
        exact ⟨2, rfl, ⟨f, r, d, HF.out, HRR.out, HD.out, HX.out⟩, B3.out⟩
      · have HX := hide (choose_fix1 HN.out h3)
        go_wp2
        go_ret
        exact ⟨1, rfl, ⟨f, r, d, HF.out, HRR.out, HD.out, HX.out⟩, B3.out⟩
  · have h1d : decide (0 ≤ r) = false := decide_eq_false h1
    go_wp2_with fail
    refine (HSZ.out _ 2 HA2.out).mono ?_
    rintro e w3 ⟨d, rfl, hd, b3⟩
    have hdr := hd.range
    have HD := hide hd
    have B3 := hide (B2.out.trans (b3.mono B2.out.size))
    clear hd b3
    have HN := hide (show ¬ (0 ≤ r ∧ r ≤ f) from fun g => by have := g.1; omega)
    by_cases h3 : d < f
    · have HX := hide (choose_fix2 HN.out h3)
      go_wp2
      go_ret
      exact ⟨2, rfl, ⟨f, r, d, HF.out, HRR.out, HD.out, HX.out⟩, B3.out⟩
    · have HX := hide (choose_fix1 HN.out h3)
      go_wp2
      go_ret
      exact ⟨1, rfl, ⟨f, r, d, HF.out, HRR.out, HD.out, HX.out⟩, B3.out⟩

end Go.Proofs.Ytaalbaiglkadlaa

/- What the program's layer 9 must be, in one structure; and the statements' small helpers: right, same. -/
namespace Go.Proofs.Ytaalbaiglkadlaa
open Go.RowKit Go.Lib

/-- Matches that may be. -/
def matchOk (t : Nat × Int × Int) : Bool := !(decide (0 < t.2.1) && (decide (t.2.1 < 3) || decide (258 < t.2.1) || decide (t.2.2 < 1) || decide (32768 < t.2.2)))
def rightB (l : List (Nat × Int × Int)) : Bool := l.all matchOk && decide (l.length ≤ 200)
theorem matchOk_iff (t : Nat × Int × Int) : matchOk t = true ↔ (0 < t.2.1 → (3 ≤ t.2.1 ∧ t.2.1 ≤ 258) ∧ (1 ≤ t.2.2 ∧ t.2.2 ≤ 32768)) := by
  unfold matchOk
  simp only [Bool.not_eq_true', Bool.and_eq_false_iff, Bool.or_eq_false_iff, decide_eq_false_iff_not]
  omega
theorem right_all {l : List (Nat × Int × Int)} (h : rightB l = true) (hb : ∀ t ∈ l, t.1 < 256) : (∀ t ∈ l, RightT t) ∧ l.length ≤ 200 := by
  unfold rightB at h
  rw [Bool.and_eq_true, decide_eq_true_eq, List.all_eq_true] at h
  exact ⟨fun t ht => ⟨hb t ht, (matchOk_iff t).1 (h.1 t ht)⟩, h.2⟩

end Go.Proofs.Ytaalbaiglkadlaa

/- The document's examples of layer 9 hold: 'awake' answers true. -/
namespace Go.Proofs.Ytaalbaiglkadlaa
open Go.RowKit Go.Lib

theorem takenI_nat (k : Nat) (h : k ≤ 30) : takenI (k : Int) = (k : Int) := by
  unfold takenI
  rw [if_neg (by omega), if_neg (by omega)]
theorem Packs.of {bs : List Bool} {out : List UInt8} (k : Nat) (h : bs ++ List.replicate k false = bytesBits out) (hl : out.length = (bs.length + 7) / 8) : Packs bs out := by
  refine ⟨hl, fun i => ?_⟩
  rw [← bytesBits_getD, ← h]
  simp only [List.getD_eq_getElem?_getD, List.getElem?_append]
  by_cases hi : i < bs.length
  · rw [if_pos hi]
  · rw [if_neg hi, List.getElem?_replicate]
    have e : bs[i]? = none := List.getElem?_eq_none (by omega)
    rw [e]
    split <;> rfl
def ex9 : List (Nat × Int × Int) := [(97, 0, 0)]
theorem ex9_right : ∀ t ∈ ex9, RightT t := by
  intro t ht
  rw [List.mem_singleton.1 ht]
  exact ⟨by decide, fun h => absurd h (by decide)⟩
theorem ex9_bits : [true] ++ (lowBits 1 2 ++ bodyBits plainL plainD ex9) ++ List.replicate 6 false = bytesBits [75, 4, 0] := by decide +kernel
theorem ex9_len : ([true] ++ (lowBits 1 2 ++ bodyBits plainL plainD ex9)).length = 18 := by decide +kernel
theorem ex9_block {ob : List Bool} (h : BlockRel ex9 1 true ob) : Packs ob [75, 4, 0] := by
  rcases h with ⟨h1, _⟩ | ⟨_, rfl⟩
  · exact absurd h1 (by decide)
  · exact Packs.of 6 ex9_bits (by rw [ex9_len]; rfl)
def exS9 : ByteArray := ⟨#[97, 98]⟩
theorem ex9_store : storeAll [] exS9 true = bytesBits [1, 2, 0, 253, 255, 97, 98] := by decide +kernel
theorem ex9_packs : Packs (storeAll [] exS9 true) [1, 2, 0, 253, 255, 97, 98] := Packs.of 0 (by rw [List.replicate_zero, List.append_nil]; exact ex9_store) (by rw [ex9_store, bytesBits_length]; rfl)
/-- A header is no less than 26 bits. -/
theorem headRel_ge {x y : List Nat} {hb : List Bool} (h : HeadRel x y hb) : 26 ≤ hb.length := by
  obtain ⟨rs, hl, _, _, rfl⟩ := h
  have h4 := ordN_four hl 19 (by omega)
  have h9 := ordN_le hl 19
  have key : ∀ k, k ≤ 19 → (ordBits hl k).length = 3 * k := by
    intro k
    induction k with
    | zero => intro _; rfl
    | succ k ih =>
      intro hk
      rw [ordBits_succ hl k (by omega), List.length_append, ih (by omega), lowBits_length]
      omega
  have hk := key _ h9
  unfold headBits
  simp only [List.length_append, lowBits_length]
  omega
theorem ex9_choose {c : Int} (h : ChooseRel ex9 1 0 c) : c = 1 := by
  obtain ⟨f, r, d, h1, h2, h3, rfl⟩ := h
  have hf : f = 18 := by
    rcases h1 with ⟨e, _⟩ | ⟨_, ob, hb, _, rfl⟩
    · exact absurd e (by decide)
    · rcases hb with ⟨e, _⟩ | ⟨_, rfl⟩
      · exact absurd e (by decide)
      · have := ex9_len
        simp only [List.length_append, List.length_singleton] at this ⊢
        omega
  have hr : r = 48 := by
    rcases h2 with ⟨_, rfl⟩ | ⟨e, _⟩
    · decide
    · exact absurd rfl e
  have hd : 29 ≤ d := by
    rcases h3 with ⟨e, _⟩ | ⟨_, ob, hb, _, rfl⟩
    · exact absurd e (by decide)
    · rcases hb with ⟨_, hb, hh, rfl⟩ | ⟨e, _⟩
      · have := headRel_ge hh
        simp only [List.length_append, List.length_singleton, lowBits_length]
        omega
      · exact absurd rfl e
  subst hf hr
  exact (choose_fix1 (by omega) (by omega)).symm
theorem ex9_size {l : List (Nat × Int × Int)} {raw z : Int} (h : SizeRel l raw 0 0 z) : z = rawSize raw 0 := by
  rcases h with ⟨_, rfl⟩ | ⟨e, _⟩
  · rfl
  · exact absurd rfl e
theorem lit_tok (w : World) (b : Nat) (x y : Int) : ArgT (w.alloc (.cells #[.int .i64 x, .int .i64 y, .int .u8 (b : Int)] 30)) (some ⟨w.heap.size, 0, none⟩) [(b, x, y)] := by
  intro i t hi
  have h0 : i = 0 := by
    have := (List.getElem?_eq_some_iff.1 hi).1
    simp at this
    exact this
  subst h0
  simp at hi
  subst hi
  have hh : (w.alloc (.cells #[.int .i64 x, .int .i64 y, .int .u8 (b : Int)] 30)).heap[w.heap.size]? = some (.cells #[.int .i64 x, .int .i64 y, .int .u8 (b : Int)] 30 (0, 0)) := by show (w.heap.push _)[w.heap.size]? = _; simp
  refine ⟨w.heap.size, 0, rfl, by show _ < (w.heap.push _).size; simp, ?_, ?_, ?_⟩
  · rw [cell_of_row _ _ _ _ _ (0, 0) hh]; rfl
  · rw [cell_of_row _ _ _ _ _ (0, 0) hh]; rfl
  · rw [cell_of_row _ _ _ _ _ (0, 0) hh]; rfl
/-- A writer that is new turns nothing old. -/
theorem Step.new {W w w' : World} {p : Nat} {v v' : Value} (s : Step p v v' w w') (b : Below W.heap.size W w) (hp : W.heap.size ≤ p) (hv : ∀ k, v.ownBlock = some k → W.heap.size ≤ k) : Below W.heap.size W w' :=
  b.trans ⟨s.os, s.tape, s.output, s.size, fun k hk => s.block k (Nat.lt_of_lt_of_le hk b.size) (by omega) (fun e => by have := hv k e.symm; omega)⟩

end Go.Proofs.Ytaalbaiglkadlaa

/- The kind that is chosen has no more bits than any other one; a text's tokens are right ones. -/
namespace Go.Proofs.Ytaalbaiglkadlaa
open Go.RowKit Go.Lib

theorem choose_least {l : List (Nat × Int × Int)} {raw k c z : Int} (h0 : 0 ≤ raw) (h1 : raw ≤ 65535) (h : ChooseRel l raw k c) (hz : SizeRel l raw c k z) :
    0 ≤ z ∧ z ≤ 8 * raw + 3 + 7 + 32 ∧ ∀ kind m, 0 ≤ kind → kind ≤ 2 → SizeRel l raw kind k m → z ≤ m := by
  obtain ⟨f, r, d, hf, hr, hd, rfl⟩ := h
  have er : r = 3 + (8 - (k + 3) % 8) % 8 + 32 + 8 * raw := by
    rcases hr with ⟨_, rfl⟩ | ⟨e, _⟩
    · unfold rawSize; rw [if_neg (by omega)]
    · exact absurd rfl e
  have gf : 0 ≤ f := by
    rcases hf with ⟨e, _⟩ | ⟨_, ob, _, _, rfl⟩
    · exact absurd e (by decide)
    · omega
  have gd : 0 ≤ d := by
    rcases hd with ⟨e, _⟩ | ⟨_, ob, _, _, rfl⟩
    · exact absurd e (by decide)
    · omega
  have hall : ∀ kind m, 0 ≤ kind → kind ≤ 2 → SizeRel l raw kind k m → (kind = 0 ∧ m = r) ∨ (kind = 1 ∧ m = f) ∨ (kind = 2 ∧ m = d) := by
    intro kind m g1 g2 g3
    have : kind = 0 ∨ kind = 1 ∨ kind = 2 := by omega
    rcases this with rfl | rfl | rfl
    · exact .inl ⟨rfl, g3.uniq hr⟩
    · exact .inr (.inl ⟨rfl, g3.uniq hf⟩)
    · exact .inr (.inr ⟨rfl, g3.uniq hd⟩)
  have key : (chooseI f r d = 2 ∧ d ≤ r ∧ d ≤ f) ∨ (chooseI f r d = 0 ∧ r ≤ d ∧ r ≤ f) ∨ (chooseI f r d = 1 ∧ f ≤ d ∧ f ≤ r) := by
    by_cases g : 0 ≤ r ∧ r ≤ f
    · by_cases g2 : d < r
      · exact .inl ⟨(choose_raw2 g g2).symm, by omega, by omega⟩
      · exact .inr (.inl ⟨(choose_raw0 g g2).symm, by omega, g.2⟩)
    · by_cases g2 : d < f
      · exact .inl ⟨(choose_fix2 g g2).symm, by omega, by omega⟩
      · exact .inr (.inr ⟨(choose_fix1 g g2).symm, by omega, by omega⟩)
  have hzz : (chooseI f r d = 0 ∧ z = r) ∨ (chooseI f r d = 1 ∧ z = f) ∨ (chooseI f r d = 2 ∧ z = d) := hall _ z (by omega) (by omega) hz
  refine ⟨by omega, by omega, fun kind m g1 g2 g3 => ?_⟩
  have := hall kind m g1 g2 g3
  omega
theorem choose_range {l : List (Nat × Int × Int)} {raw k c : Int} (h : ChooseRel l raw k c) : 0 ≤ c ∧ c ≤ 2 := by
  obtain ⟨f, r, d, _, _, _, rfl⟩ := h
  unfold chooseI
  split
  · omega
  · split <;> omega
theorem toks_right (s : ByteArray) (level : Int) : ∀ (ts : List (Nat × Nat × Nat)) (i : Nat), Toks (bAt s) s.size level i ts → ∀ t ∈ ts.map castT, RightT t
  | [], _, _, t, ht => by cases ht
  | x :: ts, i, h, t, ht => by
    obtain ⟨h1, h2, h3⟩ := h
    rcases List.mem_cons.1 ht with e | e
    · rw [e, h2]
      unfold tokM
      split
      · exact ⟨(s.data.toList.getD i 0).toNat_lt, fun g => absurd g (by show ¬ (0 : Int) < ((0 : Nat) : Int); omega)⟩
      · next hn =>
        have hg := best_good (bAt s) s.size i (chainL level)
        refine ⟨by show 0 < 256; omega, fun _ => ?_⟩
        rcases hg with e0 | hg
        · exact absurd (.inl (by rw [e0])) hn
        · show (3 ≤ (((bestM (bAt s) s.size i (chainL level)).1 : Nat) : Int) ∧ (((bestM (bAt s) s.size i (chainL level)).1 : Nat) : Int) ≤ 258) ∧ (1 ≤ (((bestM (bAt s) s.size i (chainL level)).2 : Nat) : Int) ∧ (((bestM (bAt s) s.size i (chainL level)).2 : Nat) : Int) ≤ 32768)
          obtain ⟨a1, a2, a3, a4, _⟩ := hg
          omega
    · exact toks_right s level ts _ h3 t e

end Go.Proofs.Ytaalbaiglkadlaa
