import Derived.WalkKit
import Derived.Test.YtaalbaiglkadlaaGreatIRow
import Derived.BigQuiet
import Derived.Test.YtaalbaiglkadlaaGreatQB
import Derived.Laws.BytesString
import Derived.Test.YtaalbaiglkadlaaGreatBitsA
/- Bytes and matches, plainly: the match at a place, the tokens of a text, what tokens come to. Nothing of the program is named here. A text is its bytes c and its length n. -/
namespace Go.Proofs.YtaalbaiglkadlaaGreat

/-- The same three bytes stand at both places. -/
def same3 (c : Nat → Nat) (n k at_ : Nat) : Bool := decide (at_ + 3 ≤ n) && (c k == c at_) && (c (k + 1) == c (at_ + 1)) && (c (k + 2) == c (at_ + 2))
/-- One byte more is the same. -/
def more1 (c : Nat → Nat) (n k at_ l : Nat) : Bool := decide (at_ + l < n) && decide (l < 258) && (c (k + l) == c (at_ + l))
def mrun (c : Nat → Nat) (n k at_ : Nat) : Nat → Nat → Nat
  | 0, l => l
  | f + 1, l => if more1 c n k at_ l = true then mrun c n k at_ f (l + 1) else l
/-- How many bytes are the same, from two places with the same three on. -/
def mlen (c : Nat → Nat) (n k at_ : Nat) : Nat := mrun c n k at_ 258 3
/-- The better one of what was found and a place. -/
def bett (c : Nat → Nat) (n k at_ : Nat) (r : Nat × Nat) : Nat × Nat := if r.1 < mlen c n k at_ then (mlen c n k at_, at_ - k) else r
/-- The places below j, the nearest first, so many of them. -/
def bestR (c : Nat → Nat) (n at_ : Nat) : Nat → Nat → Nat × Nat → Nat × Nat
  | 0, _, r => r
  | j + 1, most, r => if 32768 < at_ - j ∨ most = 0 then r else if same3 c n j at_ = true then bestR c n at_ j (most - 1) (bett c n j at_ r) else bestR c n at_ j most r
/-- The match at a place: its length, how far back; 0: none. -/
def bestM (c : Nat → Nat) (n at_ most : Nat) : Nat × Nat := bestR c n at_ at_ most (0, 0)
/-- How many places are looked at. -/
def chainL (level : Int) : Nat := if level < 1 then 0 else 2 ^ ((min level 9) - 1).toNat

/-! ### The match -/
theorem more1_iff (c : Nat → Nat) (n k at_ l : Nat) : more1 c n k at_ l = true ↔ at_ + l < n ∧ l < 258 ∧ c (k + l) = c (at_ + l) := by
  unfold more1
  simp only [Bool.and_eq_true, decide_eq_true_eq, beq_iff_eq, and_assoc]
theorem same3_iff (c : Nat → Nat) (n k at_ : Nat) : same3 c n k at_ = true ↔ at_ + 3 ≤ n ∧ c k = c at_ ∧ c (k + 1) = c (at_ + 1) ∧ c (k + 2) = c (at_ + 2) := by
  unfold same3
  simp only [Bool.and_eq_true, decide_eq_true_eq, beq_iff_eq, and_assoc]

theorem mrun_spec (c : Nat → Nat) (n k at_ : Nat) : ∀ f l, l ≤ mrun c n k at_ f l ∧ ∀ t, l ≤ t → t < mrun c n k at_ f l → more1 c n k at_ t = true
  | 0, l => ⟨Nat.le_refl _, fun t h1 h2 => by unfold mrun at h2; omega⟩
  | f + 1, l => by
    unfold mrun
    by_cases h : more1 c n k at_ l = true
    · rw [if_pos h]
      obtain ⟨h1, h2⟩ := mrun_spec c n k at_ f (l + 1)
      refine ⟨by omega, fun t h3 h4 => ?_⟩
      by_cases e : t = l
      · rw [e]; exact h
      · exact h2 t (by omega) h4
    · rw [if_neg h]
      exact ⟨Nat.le_refl _, fun t h1 h2 => by omega⟩
/-- The run is told by where it ends. -/
theorem mrun_eq (c : Nat → Nat) (n k at_ : Nat) : ∀ f l m, l ≤ m → m ≤ l + f → (∀ t, l ≤ t → t < m → more1 c n k at_ t = true) → (more1 c n k at_ m = false ∨ m = l + f) → mrun c n k at_ f l = m
  | 0, l, m, h1, h2, _, _ => by unfold mrun; omega
  | f + 1, l, m, h1, h2, h3, h4 => by
    unfold mrun
    by_cases e : l = m
    · subst e
      rcases h4 with h4 | h4
      · rw [if_neg (by rw [h4]; decide)]
      · omega
    · rw [if_pos (h3 l (Nat.le_refl _) (by omega))]
      exact mrun_eq c n k at_ f (l + 1) m (by omega) (by omega) (fun t g1 g2 => h3 t (by omega) g2) (Or.elim h4 (fun e => .inl e) (fun e => .inr (by omega)))
theorem mlen_eq (c : Nat → Nat) (n k at_ m : Nat) (h1 : 3 ≤ m) (h3 : ∀ t, 3 ≤ t → t < m → more1 c n k at_ t = true) (h4 : more1 c n k at_ m = false) : mlen c n k at_ = m := by
  have hm : m ≤ 258 := by
    refine Classical.byContradiction fun h => ?_
    have := ((more1_iff c n k at_ 258).1 (h3 258 (by omega) (by omega))).2.1
    omega
  exact mrun_eq c n k at_ 258 3 m h1 (by omega) h3 (.inl h4)
/-- What a match is: bytes that are the same. -/
theorem mlen_spec (c : Nat → Nat) (n k at_ : Nat) (h : same3 c n k at_ = true) : 3 ≤ mlen c n k at_ ∧ mlen c n k at_ ≤ 258 ∧ at_ + mlen c n k at_ ≤ n ∧ ∀ t, t < mlen c n k at_ → c (k + t) = c (at_ + t) := by
  obtain ⟨g1, g2, g3, g4⟩ := (same3_iff c n k at_).1 h
  obtain ⟨h1, h2⟩ := mrun_spec c n k at_ 258 3
  have hM : mrun c n k at_ 258 3 = mlen c n k at_ := rfl
  rw [hM] at h1 h2
  refine ⟨h1, ?_, ?_, ?_⟩
  · refine Classical.byContradiction fun hc => ?_
    have := ((more1_iff c n k at_ 258).1 (h2 258 (by omega) (by omega))).2.1
    omega
  · by_cases e : mlen c n k at_ = 3
    · rw [e]; exact g1
    · have := ((more1_iff c n k at_ _).1 (h2 (mlen c n k at_ - 1) (by omega) (by omega))).1
      omega
  · intro t ht
    by_cases e0 : t = 0
    · rw [e0]; exact g2
    · by_cases e1 : t = 1
      · rw [e1]; exact g3
      · by_cases e2 : t = 2
        · rw [e2]; exact g4
        · exact ((more1_iff c n k at_ t).1 (h2 t (by omega) ht)).2.2

/-- A match that may be, or none. -/
def GoodM (c : Nat → Nat) (n at_ : Nat) (r : Nat × Nat) : Prop := r = (0, 0) ∨ (3 ≤ r.1 ∧ r.1 ≤ 258 ∧ 1 ≤ r.2 ∧ r.2 ≤ 32768 ∧ r.2 ≤ at_ ∧ at_ + r.1 ≤ n ∧ ∀ t, t < r.1 → c (at_ - r.2 + t) = c (at_ + t))
theorem bett_good (c : Nat → Nat) (n k at_ : Nat) (r : Nat × Nat) (h : GoodM c n at_ r) (hs : same3 c n k at_ = true) (hk : k < at_) (hf : at_ - k ≤ 32768) : GoodM c n at_ (bett c n k at_ r) ∧ 3 ≤ (bett c n k at_ r).1 := by
  obtain ⟨g1, g2, g3, g4⟩ := mlen_spec c n k at_ hs
  unfold bett
  by_cases hl : r.1 < mlen c n k at_
  · rw [if_pos hl]
    refine ⟨.inr ⟨g1, g2, by show 1 ≤ at_ - k; omega, hf, by show at_ - k ≤ at_; omega, g3, ?_⟩, g1⟩
    intro t ht
    show c (at_ - (at_ - k) + t) = _
    rw [show at_ - (at_ - k) = k by omega]
    exact g4 t ht
  · rw [if_neg hl]
    exact ⟨h, by omega⟩
theorem bestR_good (c : Nat → Nat) (n at_ : Nat) : ∀ j most r, j ≤ at_ → GoodM c n at_ r → GoodM c n at_ (bestR c n at_ j most r)
  | 0, _, _, _, h => h
  | j + 1, most, r, hj, h => by
    unfold bestR
    by_cases h1 : 32768 < at_ - j ∨ most = 0
    · rw [if_pos h1]; exact h
    · rw [if_neg h1]
      by_cases h2 : same3 c n j at_ = true
      · rw [if_pos h2]
        exact bestR_good c n at_ j _ _ (by omega) (bett_good c n j at_ r h h2 (by omega) (by omega)).1
      · rw [if_neg h2]
        exact bestR_good c n at_ j _ _ (by omega) h
theorem best_good (c : Nat → Nat) (n at_ most : Nat) : GoodM c n at_ (bestM c n at_ most) := bestR_good c n at_ at_ most (0, 0) (Nat.le_refl _) (.inl rfl)
theorem bestR_keeps (c : Nat → Nat) (n at_ : Nat) : ∀ j most r, j ≤ at_ → 3 ≤ r.1 → GoodM c n at_ r → 3 ≤ (bestR c n at_ j most r).1
  | 0, _, _, _, h, _ => h
  | j + 1, most, r, hj, h, hg => by
    unfold bestR
    by_cases h1 : 32768 < at_ - j ∨ most = 0
    · rw [if_pos h1]; exact h
    · rw [if_neg h1]
      by_cases h2 : same3 c n j at_ = true
      · rw [if_pos h2]
        obtain ⟨g1, g2⟩ := bett_good c n j at_ r hg h2 (by omega) (by omega)
        exact bestR_keeps c n at_ j _ _ (by omega) g2 g1
      · rw [if_neg h2]
        exact bestR_keeps c n at_ j _ _ (by omega) h hg
/-- If a place with the same three bytes is near enough, there is a match. -/
theorem bestR_finds (c : Nat → Nat) (n at_ k : Nat) (hs : same3 c n k at_ = true) (hf : at_ - k ≤ 32768) : ∀ j most, j ≤ at_ → k < j → 1 ≤ most → 3 ≤ (bestR c n at_ j most (0, 0)).1
  | 0, _, _, hk, _ => by omega
  | j + 1, most, hj, hk, hm => by
    unfold bestR
    rw [if_neg (by omega)]
    by_cases h2 : same3 c n j at_ = true
    · rw [if_pos h2]
      obtain ⟨g1, g2⟩ := bett_good c n j at_ (0, 0) (.inl rfl) h2 (by omega) (by omega)
      exact bestR_keeps c n at_ j _ _ (by omega) g2 g1
    · rw [if_neg h2]
      have : k ≠ j := fun e => h2 (by rw [← e]; exact hs)
      exact bestR_finds c n at_ k hs hf j most (by omega) (by omega) hm
theorem best_finds (c : Nat → Nat) (n at_ k most : Nat) (hs : same3 c n k at_ = true) (hk : k < at_) (hf : at_ - k ≤ 32768) (hm : 1 ≤ most) : 3 ≤ (bestM c n at_ most).1 := bestR_finds c n at_ k hs hf at_ most (Nat.le_refl _) hk hm
/-- If there is none, there is no match. -/
theorem bestR_none (c : Nat → Nat) (n at_ : Nat) (hs : ∀ k, k < at_ → same3 c n k at_ = false) : ∀ j most r, j ≤ at_ → bestR c n at_ j most r = r
  | 0, _, _, _ => rfl
  | j + 1, most, r, hj => by
    unfold bestR
    split
    · rfl
    · rw [if_neg (by rw [hs j (by omega)]; decide)]
      exact bestR_none c n at_ hs j most r (by omega)
theorem bestR_zero (c : Nat → Nat) (n at_ : Nat) (j : Nat) (r : Nat × Nat) : bestR c n at_ j 0 r = r := by
  cases j with
  | zero => rfl
  | succ j => unfold bestR; rw [if_pos (.inr rfl)]

/-! ### Tokens -/
/-- The token at a place: the byte alone, or a match; and how many bytes it takes. A token is its byte, its length, how far back. -/
def lazyB (c : Nat → Nat) (n at_ : Nat) (level : Int) : Bool := decide (0 < (bestM c n at_ (chainL level)).1) && decide ((bestM c n at_ (chainL level)).1 < 258) && decide (4 ≤ level) && decide ((bestM c n at_ (chainL level)).1 < (bestM c n (at_ + 1) (chainL level)).1)
def tokM (c : Nat → Nat) (n at_ : Nat) (level : Int) : Nat × Nat × Nat := if (bestM c n at_ (chainL level)).1 = 0 ∨ lazyB c n at_ level = true then (c at_, 0, 0) else (0, (bestM c n at_ (chainL level)).1, (bestM c n at_ (chainL level)).2)
def takes (t : Nat × Nat × Nat) : Nat := if t.2.1 = 0 then 1 else t.2.1
/-- From a place on the text is these tokens. -/
def Toks (c : Nat → Nat) (n : Nat) (level : Int) : Nat → List (Nat × Nat × Nat) → Prop
  | i, [] => i = n
  | i, t :: ts => i < n ∧ t = tokM c n i level ∧ Toks c n level (i + takes t) ts

theorem Toks.uniq {c : Nat → Nat} {n : Nat} {level : Int} : ∀ (i : Nat) (a b : List (Nat × Nat × Nat)), Toks c n level i a → Toks c n level i b → a = b
  | _, [], [], _, _ => rfl
  | i, [], t :: ts, h, h2 => by
    have h : i = n := h
    have := h2.1
    omega
  | i, t :: ts, [], h, h2 => by
    have h2 : i = n := h2
    have := h.1
    omega
  | i, t :: ts, u :: us, h, h2 => by
    have e : t = u := by rw [h.2.1, h2.2.1]
    subst e
    rw [Toks.uniq _ ts us h.2.2 h2.2.2]

/-- What a token at a place is. -/
theorem tok_cases (c : Nat → Nat) (n i : Nat) (level : Int) : (tokM c n i level = (c i, 0, 0)) ∨ (∃ l d, tokM c n i level = (0, l, d) ∧ 3 ≤ l ∧ l ≤ 258 ∧ 1 ≤ d ∧ d ≤ 32768 ∧ d ≤ i ∧ i + l ≤ n ∧ ∀ t, t < l → c (i - d + t) = c (i + t)) := by
  unfold tokM
  by_cases h : (bestM c n i (chainL level)).1 = 0 ∨ lazyB c n i level = true
  · rw [if_pos h]; exact .inl rfl
  · rw [if_neg h]
    rcases best_good c n i (chainL level) with e | ⟨g1, g2, g3, g4, g5, g6, g7⟩
    · rw [e] at h; exact absurd (.inl rfl) h
    · exact .inr ⟨_, _, rfl, g1, g2, g3, g4, g5, g6, g7⟩
theorem takes_pos (t : Nat × Nat × Nat) : 1 ≤ takes t := by unfold takes; split <;> omega
theorem tok_takes (c : Nat → Nat) (n i : Nat) (level : Int) (hi : i < n) : i + takes (tokM c n i level) ≤ n := by
  rcases tok_cases c n i level with e | ⟨l, d, e, h1, _, _, _, _, h2, _⟩
  · rw [e]; show i + 1 ≤ n; omega
  · rw [e]
    unfold takes
    rw [if_neg (show ¬ l = 0 by omega)]
    exact h2
theorem Toks.length {c : Nat → Nat} {n : Nat} {level : Int} : ∀ (i : Nat) (ts : List (Nat × Nat × Nat)), Toks c n level i ts → ts.length + i ≤ n
  | i, [], h => by have h : i = n := h; simp; omega
  | i, t :: ts, h => by
    have h1 := Toks.length _ ts h.2.2
    have h2 := takes_pos t
    rw [List.length_cons]
    omega

/-! ### What tokens come to -/
/-- Bytes from d back, so many, into themselves. -/
def copyN (d : Nat) : Nat → List Nat → List Nat
  | 0, out => out
  | k + 1, out => copyN d k (out ++ [out.getD (out.length - d) 0])
theorem copyN_length (d : Nat) : ∀ k out, (copyN d k out).length = out.length + k
  | 0, _ => rfl
  | k + 1, out => by unfold copyN; rw [copyN_length d k, List.length_append]; show out.length + 1 + k = _; omega
/-- The text, or the error's number: 5 (too far), 6 (too many). The numbers are given. -/
def exF (eFar eLim : Nat) (limit : Int) (out : List Nat) : List (Nat × Int × Int) → List Nat × Nat
  | [] => (out, 0)
  | t :: ts =>
    if t.2.1 ≤ 0 then (if limit ≤ (out.length : Int) then ([], eLim) else exF eFar eLim limit (out ++ [t.1]) ts)
    else if t.2.2 < 1 ∨ (out.length : Int) < t.2.2 then ([], eFar)
    else if limit - (out.length : Int) < t.2.1 then ([], eLim)
    else exF eFar eLim limit (copyN t.2.2.toNat t.2.1.toNat out) ts
def castT (t : Nat × Nat × Nat) : Nat × Int × Int := (t.1, (t.2.1 : Int), (t.2.2 : Int))

/-- The first i bytes of a text. -/
def preB (c : Nat → Nat) (i : Nat) : List Nat := (List.range i).map c
theorem preB_length (c : Nat → Nat) (i : Nat) : (preB c i).length = i := by simp [preB]
theorem preB_succ (c : Nat → Nat) (i : Nat) : preB c (i + 1) = preB c i ++ [c i] := by simp [preB, List.range_succ]
theorem preB_get (c : Nat → Nat) (i j : Nat) (h : j < i) : (preB c i).getD j 0 = c j := by
  unfold preB
  rw [List.getD_eq_getElem?_getD, List.getElem?_map, List.getElem?_range h]
  rfl
/-- A match copies what stands there. -/
theorem copy_pre (c : Nat → Nat) (i d : Nat) (hd : 1 ≤ d) (hdi : d ≤ i) : ∀ k, (∀ t, t < k → c (i - d + t) = c (i + t)) → ∀ j, j ≤ k → copyN d j (preB c (i + (k - j))) = preB c (i + k)
  | k, h, 0, _ => by rw [Nat.sub_zero]; rfl
  | k, h, j + 1, hj => by
    show copyN d j (preB c (i + (k - (j + 1))) ++ [_]) = _
    rw [preB_length, preB_get c _ _ (by omega), show i + (k - (j + 1)) - d = i - d + (k - (j + 1)) by omega, h (k - (j + 1)) (by omega), ← preB_succ, show i + (k - (j + 1)) + 1 = i + (k - j) by omega]
    exact copy_pre c i d hd hdi k h j (by omega)
/-- Tokens of a text are that text again. -/
theorem toks_back (c : Nat → Nat) (n : Nat) (level : Int) (eFar eLim : Nat) (limit : Int) (hl : (n : Int) ≤ limit) : ∀ (ts : List (Nat × Nat × Nat)) (i : Nat), Toks c n level i ts → exF eFar eLim limit (preB c i) (ts.map castT) = (preB c n, 0)
  | [], i, h => by
    have h : i = n := h
    rw [h]
    rfl
  | t :: ts, i, h => by
    obtain ⟨hi, ht, h2⟩ := h
    have hk := tok_takes c n i level hi
    rw [← ht] at hk
    have ih := toks_back c n level eFar eLim limit hl ts _ h2
    rw [List.map_cons]
    unfold exF
    rcases tok_cases c n i level with e | ⟨l, d, e, h3, h4, h5, h6, h7, h8, h9⟩
    · rw [← ht] at e
      rw [e] at ih ⊢
      have e1 : takes (c i, 0, 0) = 1 := rfl
      rw [e1, preB_succ] at ih
      rw [if_pos (show ((castT (c i, 0, 0)).2.1 : Int) ≤ 0 from Int.le_refl _), if_neg (by rw [preB_length]; omega)]
      exact ih
    · rw [← ht] at e
      rw [e] at ih ⊢
      have e1 : takes (0, l, d) = l := by unfold takes; rw [if_neg (show ¬ l = 0 by omega)]
      rw [e1] at ih
      have hc := copy_pre c i d h5 h7 l h9 l (Nat.le_refl _)
      rw [Nat.sub_self, Nat.add_zero] at hc
      rw [if_neg (show ¬ ((castT (0, l, d)).2.1 : Int) ≤ 0 by show ¬ (l : Int) ≤ 0; omega), if_neg (by rw [preB_length]; show ¬ ((d : Int) < 1 ∨ (i : Int) < (d : Int)); omega), if_neg (by rw [preB_length]; show ¬ limit - (i : Int) < (l : Int); omega)]
      show exF eFar eLim limit (copyN ((d : Int)).toNat ((l : Int)).toNat (preB c i)) _ = _
      rw [Int.toNat_natCast, Int.toNat_natCast, hc]
      exact ih

/-! ### How many bytes go alone -/
def litN (ts : List (Nat × Nat × Nat)) : Nat := ts.countP fun t => t.2.1 == 0
/-- A text of one piece of p bytes, again and again: what goes alone lies in the first piece, or in the last two bytes. -/
theorem lits_few (c : Nat → Nat) (n p : Nat) (level : Int) (hp : 1 ≤ p) (hp2 : p ≤ 32768) (hc : ∀ i, p ≤ i → i < n → c (i - p) = c i) (h1 : 1 ≤ level) (h3 : level < 4) : ∀ (ts : List (Nat × Nat × Nat)) (i : Nat), Toks c n level i ts → litN ts ≤ (p - i) + min 2 (n - i)
  | [], i, _ => Nat.zero_le _
  | t :: ts, i, h => by
    obtain ⟨hi, ht, h2⟩ := h
    have ih := lits_few c n p level hp hp2 hc h1 h3 ts _ h2
    have hch : 1 ≤ chainL level := by
      unfold chainL
      rw [if_neg (by omega)]
      exact Nat.two_pow_pos _
    have htp := takes_pos t
    unfold litN at ih ⊢
    rw [List.countP_cons]
    by_cases hm : p ≤ i ∧ i + 3 ≤ n
    · have hs : same3 c n (i - p) i = true := (same3_iff c n (i - p) i).2 ⟨hm.2, hc i hm.1 hi, by rw [show i - p + 1 = i + 1 - p by omega]; exact hc (i + 1) (by omega) (by omega), by rw [show i - p + 2 = i + 2 - p by omega]; exact hc (i + 2) (by omega) (by omega)⟩
      have hb := best_finds c n i (i - p) (chainL level) hs (by omega) (by omega) hch
      have hz : lazyB c n i level = false := by
        unfold lazyB
        rw [decide_eq_false (show ¬ 4 ≤ level by omega)]
        simp
      have hne : (t.2.1 == 0) = false := by
        rw [ht]
        unfold tokM
        rw [if_neg (by rw [hz]; intro h; exact Or.elim h (fun e => by omega) (fun e => by cases e))]
        simp
        omega
      rw [hne]
      simp
      omega
    · split
      · rename_i ht0
        have e0 : t.2.1 = 0 := by simpa using ht0
        have e1 : takes t = 1 := by unfold takes; rw [if_pos e0]
        rw [e1] at ih
        omega
      · omega

end Go.Proofs.YtaalbaiglkadlaaGreat

/- Bytes and matches, plainly: the first tokens, errors, texts whose bytes all go alone. Nothing of the program is named here. -/
namespace Go.Proofs.YtaalbaiglkadlaaGreat

theorem copyN_pre (d : Nat) : ∀ k out, ∃ r, copyN d k out = out ++ r
  | 0, out => ⟨[], by rw [List.append_nil]; rfl⟩
  | k + 1, out => by
    obtain ⟨r, hr⟩ := copyN_pre d k (out ++ [out.getD (out.length - d) 0])
    exact ⟨[out.getD (out.length - d) 0] ++ r, by unfold copyN; rw [hr, List.append_assoc]⟩
/-- What tokens come to begins with what stood. -/
theorem exF_pre (eFar eLim : Nat) (hF : eFar ≠ 0) (hL : eLim ≠ 0) (limit : Int) : ∀ (ts : List (Nat × Int × Int)) (out s : List Nat), exF eFar eLim limit out ts = (s, 0) → ∃ r, s = out ++ r
  | [], out, s, h => by
    unfold exF at h
    injection h with h _
    exact ⟨[], by rw [List.append_nil, h]⟩
  | t :: ts, out, s, h => by
    unfold exF at h
    split at h
    · split at h
      · injection h with _ h2; exact absurd h2 hL
      · obtain ⟨r, hr⟩ := exF_pre eFar eLim hF hL limit ts _ s h
        exact ⟨[t.1] ++ r, by rw [hr, List.append_assoc]⟩
    · split at h
      · injection h with _ h2; exact absurd h2 hF
      · split at h
        · injection h with _ h2; exact absurd h2 hL
        · obtain ⟨r, hr⟩ := exF_pre eFar eLim hF hL limit ts _ s h
          obtain ⟨q, hq⟩ := copyN_pre t.2.2.toNat t.2.1.toNat out
          exact ⟨q ++ r, by rw [hr, hq, List.append_assoc]⟩
/-- The first tokens come to the beginning. -/
theorem ex_begins (eFar eLim : Nat) (hF : eFar ≠ 0) (hL : eLim ≠ 0) (limit : Int) : ∀ (a b : List (Nat × Int × Int)) (out s : List Nat), exF eFar eLim limit out (a ++ b) = (s, 0) → ∃ t r, exF eFar eLim limit out a = (t, 0) ∧ s = t ++ r
  | [], b, out, s, h => by
    rw [List.nil_append] at h
    obtain ⟨r, hr⟩ := exF_pre eFar eLim hF hL limit b out s h
    exact ⟨out, r, rfl, hr⟩
  | t :: a, b, out, s, h => by
    rw [List.cons_append] at h
    unfold exF at h ⊢
    split at h
    · rename_i c1
      rw [if_pos c1]
      split at h
      · injection h with _ h2; exact absurd h2 hL
      · rename_i c2
        rw [if_neg c2]
        exact ex_begins eFar eLim hF hL limit a b _ s h
    · rename_i c1
      rw [if_neg c1]
      split at h
      · injection h with _ h2; exact absurd h2 hF
      · rename_i c2
        rw [if_neg c2]
        split at h
        · injection h with _ h2; exact absurd h2 hL
        · rename_i c3
          rw [if_neg c3]
          exact ex_begins eFar eLim hF hL limit a b _ s h
/-- An error has no text. -/
theorem ex_err (eFar eLim : Nat) (limit : Int) : ∀ (ts : List (Nat × Int × Int)) (out : List Nat), (exF eFar eLim limit out ts).2 ≠ 0 → (exF eFar eLim limit out ts).1 = []
  | [], out, h => absurd rfl h
  | t :: ts, out, h => by
    unfold exF at h ⊢
    split at h
    · rename_i c1
      rw [if_pos c1]
      split at h
      · rename_i c2; rw [if_pos c2]
      · rename_i c2; rw [if_neg c2]; exact ex_err eFar eLim limit ts _ h
    · rename_i c1
      rw [if_neg c1]
      split at h
      · rename_i c2; rw [if_pos c2]
      · rename_i c2
        rw [if_neg c2]
        split at h
        · rename_i c3; rw [if_pos c3]
        · rename_i c3; rw [if_neg c3]; exact ex_err eFar eLim limit ts _ h

/-- Bytes that all go alone. -/
theorem toks_plain (c : Nat → Nat) (n : Nat) (level : Int) (hb : ∀ i, i < n → bestM c n i (chainL level) = (0, 0)) : ∀ (ts : List (Nat × Nat × Nat)) (i : Nat), Toks c n level i ts → ts.length + i = n ∧ ∀ j, j < ts.length → ts[j]? = some (c (i + j), 0, 0)
  | [], i, h => by
    have h : i = n := h
    exact ⟨by simp; exact h, fun j hj => by simp at hj⟩
  | t :: ts, i, h => by
    obtain ⟨hi, ht, h2⟩ := h
    have e : t = (c i, 0, 0) := by rw [ht]; unfold tokM; rw [if_pos (.inl (by rw [hb i hi]))]
    subst e
    have e1 : takes (c i, 0, 0) = 1 := rfl
    rw [e1] at h2
    obtain ⟨g1, g2⟩ := toks_plain c n level hb ts _ h2
    refine ⟨by rw [List.length_cons]; omega, fun j hj => ?_⟩
    cases j with
    | zero => rfl
    | succ j =>
      rw [List.getElem?_cons_succ, g2 j (by rw [List.length_cons] at hj; omega), show i + 1 + j = i + (j + 1) by omega]
theorem best_level0 (c : Nat → Nat) (n i : Nat) (level : Int) (h : level < 1) : bestM c n i (chainL level) = (0, 0) := by
  unfold bestM chainL
  rw [if_pos h]
  exact bestR_zero c n i i (0, 0)
theorem best_alone (c : Nat → Nat) (n i most : Nat) (hs : ∀ k, k < i → same3 c n k i = false) : bestM c n i most = (0, 0) := bestR_none c n i hs i most (0, 0) (Nat.le_refl _)

end Go.Proofs.YtaalbaiglkadlaaGreat

/- Contracts of the document's 'chain' and 'best' of layer 8. -/
namespace Go.Proofs.YtaalbaiglkadlaaGreat
open Go.RowKit Go.Lib

theorem bAt_lt (s : ByteArray) (i : Nat) : bAt s i < 256 := (s.data.toList.getD i 0).toNat_lt
theorem ext_eq (s : ByteArray) (k i : Nat) (hk : k + 3 ≤ s.size) (hi : i + 3 ≤ s.size) : (s.extract k (k + 3) = s.extract i (i + 3)) ↔ same3 (bAt s) s.size k i = true := by
  have three : ∀ a, a + 3 ≤ s.size → (s.extract a (a + 3)).data.toList = [s.data.toList.getD a 0, s.data.toList.getD (a + 1) 0, s.data.toList.getD (a + 2) 0] := by
    intro a ha
    rw [ByteArray.data_extract, Array.toList_extract, List.extract_eq_take_drop, show a + 3 - a = 3 by omega]
    have hl : s.data.toList.length = s.size := by simp
    generalize s.data.toList = l at *
    rw [List.drop_eq_getElem_cons (by omega), List.drop_eq_getElem_cons (show a + 1 < l.length by omega), List.drop_eq_getElem_cons (show a + 1 + 1 < l.length by omega)]
    simp only [List.take_succ_cons, List.take_zero, List.getD_eq_getElem?_getD]
    rw [List.getElem?_eq_getElem (show a < l.length by omega), List.getElem?_eq_getElem (show a + 1 < l.length by omega), List.getElem?_eq_getElem (show a + 2 < l.length by omega)]
    rfl
  rw [same3_iff]
  have h1 := three k hk
  have h2 := three i hi
  constructor
  · intro e
    rw [e, h2] at h1
    injection h1 with e1 h1
    injection h1 with e2 h1
    injection h1 with e3 _
    refine ⟨hi, ?_, ?_, ?_⟩
    · unfold bAt; rw [e1]
    · unfold bAt; rw [e2]
    · unfold bAt; rw [e3]
  · rintro ⟨_, e1, e2, e3⟩
    have key : (s.extract k (k + 3)).data.toList = (s.extract i (i + 3)).data.toList := by
      rw [h1, h2]
      unfold bAt at e1 e2 e3
      rw [UInt8.toNat_inj.1 e1, UInt8.toNat_inj.1 e2, UInt8.toNat_inj.1 e3]
    exact ByteArray.ext (Array.ext' key)

theorem bytes_ne {a b : ByteArray} (h : ¬ a = b) : (a.toList == b.toList) = false := by
  refine beq_eq_false_iff_ne.2 fun e => h ?_
  rw [ByteArray.toList_eq, ByteArray.toList_eq] at e
  exact ByteArray.ext (Array.ext' e)
theorem chain_le (level : Int) : chainL level ≤ 256 := by
  unfold chainL
  split
  · omega
  · have : (2 : Nat) ^ (min level 9 - 1).toNat ≤ 2 ^ 8 := Nat.pow_le_pow_right (by decide) (by omega)
    omega

end Go.Proofs.YtaalbaiglkadlaaGreat

/- Rows of tokens: slices that came in, rows that a call owns. Nothing of the program is named here, but its types. -/
namespace Go.Proofs.YtaalbaiglkadlaaGreat
open Go.RowKit Go.Lib Go.Deep

theorem Tryz.infoTok : (Tryz.prog.info? 58).map (fun i => (i.zero, i.size, i.bytes)) = some (some (.agg #[.int .i64 0, .int .i64 0, .int .u8 0]), 3, 24) := by kernel_rfl

/-- A token's cells: its length, how far back, its byte. -/
def tokCs (l : List (Nat × Int × Int)) : List Value := l.flatMap fun p => [Value.int .i64 p.2.1, Value.int .i64 p.2.2, Value.int .u8 (p.1 : Nat)]
theorem tokCs_cons (p : Nat × Int × Int) (l : List (Nat × Int × Int)) : tokCs (p :: l) = Value.int .i64 p.2.1 :: Value.int .i64 p.2.2 :: Value.int .u8 (p.1 : Nat) :: tokCs l := rfl
theorem tokCs_length (l : List (Nat × Int × Int)) : (tokCs l).length = l.length * 3 := by
  induction l with
  | nil => rfl
  | cons p l ih => rw [tokCs_cons, List.length_cons, List.length_cons, List.length_cons, ih, List.length_cons]; omega
theorem tokCs_append (a b : List (Nat × Int × Int)) : tokCs (a ++ b) = tokCs a ++ tokCs b := by simp [tokCs]
theorem tokCs_get (l : List (Nat × Int × Int)) : ∀ (i : Nat) (t : Nat × Int × Int), l[i]? = some t → (tokCs l)[i * 3]? = some (.int .i64 t.2.1) ∧ (tokCs l)[i * 3 + 1]? = some (.int .i64 t.2.2) ∧ (tokCs l)[i * 3 + 2]? = some (.int .u8 (t.1 : Nat)) := by
  induction l with
  | nil => intro i t h; simp at h
  | cons p l ih =>
    intro i t h
    rw [tokCs_cons]
    cases i with
    | zero =>
      simp at h
      subst h
      exact ⟨rfl, rfl, rfl⟩
    | succ i =>
      rw [List.getElem?_cons_succ] at h
      rw [show (i + 1) * 3 = i * 3 + 1 + 1 + 1 by omega]
      simp only [List.getElem?_cons_succ, show i * 3 + 1 + 1 + 1 + 1 = (i * 3 + 1) + 1 + 1 + 1 by omega, show i * 3 + 1 + 1 + 1 + 2 = (i * 3 + 2) + 1 + 1 + 1 by omega]
      exact ih i t h
theorem three_one (x y : Int) (z : Int) : ∀ u ∈ [Value.int .i64 x, Value.int .i64 y, Value.int .u8 z], u.oneCell' = true := by
  intro u hu
  simp only [List.mem_cons, List.not_mem_nil, or_false] at hu
  rcases hu with rfl | rfl | rfl <;> rfl
theorem cell_three_new (w : World) (x y z : Value) (t : TypeId) : ∀ j u, [x, y, z][j]? = some u → (w.alloc (.cells #[x, y, z] t)).cell? ((⟨w.heap.size, 0, none⟩ : Addr).add j) = some u := by
  intro j u hj
  have hadd : (⟨w.heap.size, 0, none⟩ : Addr).add j = ⟨w.heap.size, j, none⟩ := by unfold Addr.add; split <;> simp_all
  have hh : (w.alloc (.cells #[x, y, z] t)).heap[w.heap.size]? = some (.cells #[x, y, z] t (0, 0)) := by show (w.heap.push _)[w.heap.size]? = _; simp
  rw [hadd, cell_of_row _ _ j _ _ (0, 0) hh]
  simpa using hj

/-- A slice holds these tokens. -/
def ArgT (w : World) (a : Option Addr) (l : List (Nat × Int × Int)) : Prop := ∀ (i : Nat) (t : Nat × Int × Int), l[i]? = some t → ∃ b off, a = some ⟨b, off, none⟩ ∧ b < w.heap.size ∧ w.cell? ⟨b, off + i * 3, none⟩ = some (.int .i64 t.2.1) ∧ w.cell? ⟨b, off + i * 3 + 1, none⟩ = some (.int .i64 t.2.2) ∧ w.cell? ⟨b, off + i * 3 + 2, none⟩ = some (.int .u8 (t.1 : Nat))
theorem ArgT.below {w w' : World} {a : Option Addr} {l : List (Nat × Int × Int)} (h : ArgT w a l) {B : Nat} (b : Below B w w') (hB : w.heap.size ≤ B) : ArgT w' a l := by
  intro i t hx
  obtain ⟨b0, off, h1, h2, h3, h4, h5⟩ := h i t hx
  have hlt := Nat.lt_of_lt_of_le h2 hB
  refine ⟨b0, off, h1, Nat.lt_of_lt_of_le h2 b.size, ?_, ?_, ?_⟩
  · rw [b.cell (p := ⟨b0, off + i * 3, none⟩) hlt]; exact h3
  · rw [b.cell (p := ⟨b0, off + i * 3 + 1, none⟩) hlt]; exact h4
  · rw [b.cell (p := ⟨b0, off + i * 3 + 2, none⟩) hlt]; exact h5
theorem own_argT {w : World} {B n : Nat} {v : Value} {l : List (Nat × Int × Int)} (h : w.ownsRow B 58 3 v n (tokCs l)) (hl : l.length = n) : ∃ a c, v = .slice a n c ∧ ArgT w a l ∧ (a = none → n = 0 ∧ c = 0) := by
  rcases len_form h with ⟨e1, e2⟩ | ⟨g, c, e1⟩
  · subst e2
    refine ⟨none, 0, e1, fun i t hx => ?_, fun _ => ⟨rfl, rfl⟩⟩
    rw [List.length_eq_zero_iff.1 hl] at hx
    simp at hx
  · subst e1
    refine ⟨_, c, rfl, fun i t hx => ?_, fun e => by cases e⟩
    have hi : i < l.length := (List.getElem?_eq_some_iff.1 hx).1
    have hg := tokCs_get l i t hx
    refine ⟨g, 0, rfl, (h.lt g rfl).2, ?_, ?_, ?_⟩
    · rw [Nat.zero_add, h.cellAt (i * 3) (by omega)]; exact hg.1
    · rw [Nat.zero_add, h.cellAt (i * 3 + 1) (by omega)]; exact hg.2.1
    · rw [Nat.zero_add, h.cellAt (i * 3 + 2) (by omega)]; exact hg.2.2

/-- What Tokens gives. -/
def TokPost (W : World) (s : ByteArray) (level : Int) (e : Ending) (w' : World) : Prop := ∃ a c ts, e = .returned (.slice a (ts : List (Nat × Nat × Nat)).length c) ∧ Toks (bAt s) s.size level 0 ts ∧ ArgT w' a (ts.map castT) ∧ (a = none → c = 0) ∧ Below W.heap.size W w'

/-- The same, and there is room for as many. -/
def TokCap (W : World) (s : ByteArray) (level : Int) (e : Ending) (w' : World) : Prop := ∃ a c ts, e = .returned (.slice a (ts : List (Nat × Nat × Nat)).length c) ∧ Toks (bAt s) s.size level 0 ts ∧ ArgT w' a (ts.map castT) ∧ (a = none → c = 0) ∧ Below W.heap.size W w' ∧ ts.length ≤ c
theorem TokCap.post {W : World} {s : ByteArray} {level : Int} {e : Ending} {w' : World} (h : TokCap W s level e w') : TokPost W s level e w' := by
  obtain ⟨a, c, ts, h1, h2, h3, h4, h5, _⟩ := h
  exact ⟨a, c, ts, h1, h2, h3, h4, h5⟩

/-- The tokens under way. -/
structure TokW (w W : World) (s : ByteArray) (level : Int) (i : Nat) (out : List (Nat × Nat × Nat)) (v : Value) : Prop where
  own : w.ownsRow W.heap.size 58 3 v out.length (tokCs (out.map castT))
  bel : Below W.heap.size W w
  tok : ∀ rs, Toks (bAt s) s.size level i rs → Toks (bAt s) s.size level 0 (out ++ rs)
  len : out.length ≤ i
theorem TokW.below {w w' W : World} {s : ByteArray} {level : Int} {i : Nat} {out : List (Nat × Nat × Nat)} {v : Value} (h : TokW w W s level i out v) (b : Below w.heap.size w w') : TokW w' W s level i out v :=
  ⟨own_below h.own b (Nat.le_refl _), h.bel.trans (b.mono h.bel.size), h.tok, h.len⟩
theorem TokW.app {w w' W : World} {s : ByteArray} {level : Int} {i : Nat} {out : List (Nat × Nat × Nat)} {v v' : Value} (h : TokW w W s level i out v) (hi : i < s.size) (t : Nat × Nat × Nat) (ht : tokM (bAt s) s.size i level = t) (k : Nat) (hk : takes t = k) (o : Obj)
    (ho : w'.ownsRow W.heap.size 58 3 v' (out.length + 1) (tokCs (out.map castT) ++ [.int .i64 (t.2.1 : Int), .int .i64 (t.2.2 : Int), .int .u8 (t.1 : Int)])) (hg : (w.alloc o).grownBy w' v.ownBlock) : TokW w' W s level (i + k) (out ++ [t]) v' := by
  refine ⟨?_, Below.grownB (h.bel.alloc h.bel.size _) hg (h.own.alloc o) (size_alloc_le h.bel.size), ?_, ?_⟩
  · rw [List.length_append, List.map_append, tokCs_append]
    exact ho
  · intro rs hr
    rw [List.append_assoc]
    refine h.tok _ ⟨hi, ht.symm, ?_⟩
    rw [hk]
    exact hr
  · rw [List.length_append]
    have := h.len
    have := takes_pos t
    show out.length + 1 ≤ i + k
    omega
theorem TokW.done {w W : World} {s : ByteArray} {level : Int} {out : List (Nat × Nat × Nat)} {v : Value} (h : TokW w W s level s.size out v) : TokCap W s level (.returned v) w := by
  obtain ⟨a, c, e, h1, h2⟩ := own_argT h.own (by rw [List.length_map])
  have h3 := h.tok [] rfl
  rw [List.append_nil] at h3
  refine ⟨a, c, out, by rw [e], h3, h1, fun e => (h2 e).2, h.bel, ?_⟩
  rcases len_form h.own with ⟨e1, e2⟩ | ⟨g, c2, e1⟩
  · omega
  · have h4 := h.own
    rw [e1] at h4
    have h5 := own_cap h4
    rw [e1] at e
    injection e with _ _ e
    omega

end Go.Proofs.YtaalbaiglkadlaaGreat

/- Contract of the document's 'Tokens' of layer 8. -/
namespace Go.Proofs.YtaalbaiglkadlaaGreat
open Go.RowKit Go.Lib

theorem tok_lit (c : Nat → Nat) (n i : Nat) (level : Int) (h : (bestM c n i (chainL level)).1 = 0 ∨ lazyB c n i level = true) : tokM c n i level = (c i, 0, 0) := by unfold tokM; rw [if_pos h]
theorem tok_mat (c : Nat → Nat) (n i : Nat) (level : Int) (h : (bestM c n i (chainL level)).1 ≠ 0) (h2 : lazyB c n i level = false) : tokM c n i level = (0, (bestM c n i (chainL level)).1, (bestM c n i (chainL level)).2) := by
  unfold tokM
  rw [if_neg (by rw [h2]; intro e; exact Or.elim e (fun e => h e) (fun e => by cases e))]
theorem lazy_no (c : Nat → Nat) (n i : Nat) (level : Int) (h : 258 ≤ (bestM c n i (chainL level)).1 ∨ level < 4) : lazyB c n i level = false := by
  unfold lazyB
  rcases h with h | h
  · rw [decide_eq_false (show ¬ (bestM c n i (chainL level)).1 < 258 by omega)]; simp
  · rw [decide_eq_false (show ¬ 4 ≤ level by omega)]; simp
theorem lazy_is (c : Nat → Nat) (n i : Nat) (level : Int) (h : 0 < (bestM c n i (chainL level)).1) (h2 : (bestM c n i (chainL level)).1 < 258) (h3 : 4 ≤ level) : lazyB c n i level = decide ((bestM c n i (chainL level)).1 < (bestM c n (i + 1) (chainL level)).1) := by
  unfold lazyB
  rw [decide_eq_true h, decide_eq_true h2, decide_eq_true h3]
  simp

theorem meas_addN (i K n : Nat) (h : 1 ≤ K) (h2 : i + K ≤ n) : n - (intOf (.int .i64 ((i : Int) + (K : Int)))).toNat < n - (intOf (.int .i64 (i : Int))).toNat := by
  show n - ((i : Int) + (K : Int)).toNat < n - ((i : Nat) : Int).toNat
  omega

end Go.Proofs.YtaalbaiglkadlaaGreat

/- Rows of bytes as texts; what Expand gives. Nothing of the program is named here, but its types. -/
namespace Go.Proofs.YtaalbaiglkadlaaGreat
open Go.RowKit Go.Lib Go.Deep

def u8Cs (l : List Nat) : List Value := l.map fun (x : Nat) => Value.int .u8 (x : Int)
theorem u8Cs_len (l : List Nat) : (u8Cs l).length = l.length := by simp [u8Cs]
theorem u8Cs_append (a b : List Nat) : u8Cs a ++ u8Cs b = u8Cs (a ++ b) := by simp [u8Cs]
/-- Bytes as a text. -/
def strOf (l : List Nat) : ByteArray := ⟨(l.map UInt8.ofNat).toArray⟩
theorem strOf_nil : strOf [] = ByteArray.empty := rfl
theorem u8_back (x : Nat) (h : x < 256) : ((UInt8.ofNat x).toNat : Int) = (x : Int) := by
  rw [UInt8.toNat_ofNat']
  omega
theorem pushesM (l : List Nat) : ∀ s : ByteArray, (l.map fun (b : Nat) => (b : Int)).foldl (fun r n => r.push (UInt8.ofNat n.toNat)) s = ⟨(s.data.toList ++ l.map UInt8.ofNat).toArray⟩ := by
  induction l with
  | nil => intro s; simp
  | cons x l ih =>
    intro s
    rw [List.map_cons, List.foldl_cons, ih]
    simp [ByteArray.push]
/-- A row of bytes as a string. -/
theorem str_own {w : World} {B : Nat} {v : Value} {out : List Nat} (h : w.ownsRow B 5 1 v out.length (u8Cs out)) :
    (convert 30 9 v).run Tryz.prog w = .ok (.string (strOf out)) w := by
  rcases len_form h with ⟨e1, e2⟩ | ⟨g, c, e1⟩
  · subst e1
    rw [List.length_eq_zero_iff.1 e2]
    kernel_rfl
  · subst e1
    have hl : (loadCells ⟨g, 0, none⟩ out.length).run Tryz.prog w = .ok ((out.map fun (b : Nat) => (b : Int)).map (Value.int .u8)).toArray w := by
      have h2 := run_loadCells_list (P := Tryz.prog) (w := w) ⟨g, 0, none⟩ (u8Cs out) (by
        intro j u hu
        have hj := (List.getElem?_eq_some_iff.1 hu).1
        rw [u8Cs_len] at hj
        rw [add_noneW, Nat.zero_add, h.cellAt j (by omega)]
        exact hu)
      rw [u8Cs_len] at h2
      rw [h2]
      simp [u8Cs, List.map_map]
    rw [run_convert_bytes_string _ _ _ _ _ _ _ Tryz.underlying30 Tryz.underlying5 Tryz.underlying9, run_bytesToString _ _ _ _ (out.map fun (b : Nat) => (b : Int)) hl, pushesM]
    simp [strOf]

/-- What Expand gives: the text, or the error. -/
def ExPost (W : World) (l : List (Nat × Int × Int)) (limit : Int) (e : Ending) (w' : World) : Prop := e = .returned (.tuple #[.string (strOf (exF 5 6 limit [] l).1), .int .i64 ((exF 5 6 limit [] l).2 : Nat)]) ∧ Below W.heap.size W w'

/-- The bytes under way. -/
structure ExW (w W : World) (l : List (Nat × Int × Int)) (limit : Int) (i : Nat) (out : List Nat) (v : Value) : Prop where
  own : w.ownsRow W.heap.size 5 1 v out.length (u8Cs out)
  bel : Below W.heap.size W w
  ex : exF 5 6 limit [] l = exF 5 6 limit out (l.drop i)
  room : out = [] ∨ (out.length : Int) ≤ limit

theorem ExW.alloc {w W : World} {l : List (Nat × Int × Int)} {limit : Int} {i : Nat} {out : List Nat} {v : Value} (h : ExW w W l limit i out v) (o : Obj) : ExW (w.alloc o) W l limit i out v :=
  ⟨h.own.alloc o, h.bel.alloc h.bel.size o, h.ex, h.room⟩
theorem ExW.step {w W : World} {l : List (Nat × Int × Int)} {limit : Int} {i : Nat} {out : List Nat} {v : Value} (h : ExW w W l limit i out v) (t : Nat × Int × Int) (ht : l[i]? = some t) :
    exF 5 6 limit [] l = (if t.2.1 ≤ 0 then (if limit ≤ (out.length : Int) then ([], 6) else exF 5 6 limit (out ++ [t.1]) (l.drop (i + 1)))
      else if t.2.2 < 1 ∨ (out.length : Int) < t.2.2 then ([], 5)
      else if limit - (out.length : Int) < t.2.1 then ([], 6)
      else exF 5 6 limit (copyN t.2.2.toNat t.2.1.toNat out) (l.drop (i + 1))) := by
  obtain ⟨hi, e⟩ := List.getElem?_eq_some_iff.1 ht
  rw [h.ex, List.drop_eq_getElem_cons hi, e]
  rfl
theorem ExW.next {w' W : World} {l : List (Nat × Int × Int)} {limit : Int} {i : Nat} {out2 : List Nat} {v2 : Value} (he : exF 5 6 limit [] l = exF 5 6 limit out2 (l.drop (i + 1))) (ho : w'.ownsRow W.heap.size 5 1 v2 out2.length (u8Cs out2)) (hb : Below W.heap.size W w') (hr : (out2.length : Int) ≤ limit) : ExW w' W l limit (i + 1) out2 v2 :=
  ⟨ho, hb, he, .inr hr⟩
theorem wrap_lessM (n : Int) (L : Nat) (h1 : -9223372036854775808 ≤ n) (h2 : n ≤ 9223372036854775807) (h : L = 0 ∨ (L : Int) ≤ n) : IntKind.i64.wrap (n - (L : Int)) = n - (L : Int) ∧ wrap64 (n - (L : Int)) = n - (L : Int) := by
  constructor
  · rw [IntKind.wrap_i64]; omega
  · unfold wrap64; omega
theorem one_u8 (x : Int) : ∀ u ∈ [Value.int .u8 x], u.oneCell' = true := by
  intro u hu
  rw [List.mem_singleton.1 hu]
  rfl

end Go.Proofs.YtaalbaiglkadlaaGreat

/- Contract of the document's 'Expand' of layer 8. -/
namespace Go.Proofs.YtaalbaiglkadlaaGreat
open Go.RowKit Go.Lib

/-- A match under way: the bytes, and the token's own block. -/
structure CopyW (w W : World) (PB : Nat) (b : Nat) (len dist : Int) (d j : Nat) (cur fin : List Nat) (v : Value) : Prop where
  own : w.ownsRow W.heap.size 5 1 v cur.length (u8Cs cur)
  bel : Below W.heap.size W w
  box : w.heap[PB]? = some (.cells #[.int .i64 len, .int .i64 dist, .int .u8 (b : Int)] 58 (0, 0))
  ne : v.ownBlock ≠ some PB
  copy : copyN d j cur = fin
theorem CopyW.app {w w' W : World} {PB b : Nat} {len dist : Int} {d j : Nat} {cur fin : List Nat} {v v' : Value} (h : CopyW w W PB b len dist d (j + 1) cur fin v) (x : Nat) (hx : cur.getD (cur.length - d) 0 = x) (o : Obj)
    (ho : w'.ownsRow W.heap.size 5 1 v' (cur.length + 1) (u8Cs cur ++ [.int .u8 (x : Int)])) (hg : (w.alloc o).grownBy w' v.ownBlock) (hf : v'.ownBlock = v.ownBlock ∨ ∀ k, v'.ownBlock = some k → (w.alloc o).heap.size ≤ k) : CopyW w' W PB b len dist d j (cur ++ [x]) fin v' := by
  have hP : PB < w.heap.size := (Array.getElem?_eq_some_iff.1 h.box).1
  have hsz : (w.alloc o).heap.size = w.heap.size + 1 := by show (w.heap.push _).size = _; simp
  refine ⟨?_, Below.grownB (h.bel.alloc h.bel.size _) hg (h.own.alloc o) (size_alloc_le h.bel.size), ?_, ?_, ?_⟩
  · rw [List.length_append, ← u8Cs_append]
    exact ho
  · rw [hg.block PB (by omega) (fun e => h.ne e.symm), heap_alloc_old _ _ _ hP]
    exact h.box
  · intro e
    rcases hf with e2 | e2
    · exact h.ne (by rw [← e2]; exact e)
    · have := e2 _ e; omega
  · rw [← hx]
    exact h.copy
theorem own_u8 {w : World} {B g cap n : Nat} {l : List Nat} {j x : Nat} (h : w.ownsRow B 5 1 (.slice (some ⟨g, 0, none⟩) n cap) n (u8Cs l)) (hn : l.length = n) (hj : l[j]? = some x) : w.cell? ⟨g, j, none⟩ = some (.int .u8 (x : Int)) := by
  have hl : j < l.length := (List.getElem?_eq_some_iff.1 hj).1
  rw [h.cellAt j (by omega)]
  unfold u8Cs
  rw [List.getElem?_map, hj]
  rfl

end Go.Proofs.YtaalbaiglkadlaaGreat
