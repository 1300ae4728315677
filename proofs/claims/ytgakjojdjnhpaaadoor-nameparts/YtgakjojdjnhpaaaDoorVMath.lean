/- Names, plainly: what may be a comment, a name, an archive's file. Nothing of the program is named here. -/
import Derived.Lib.ValidLaws
import Derived.Test.YtgakjojdjnhpaaaDoorWorld
namespace Go.Proofs.YtgakjojdjnhpaaaDoor
open Go.Lib

/-- A byte that steers. -/
def badB (b : UInt8) : Bool := decide (b.toNat < 32) || decide (b.toNat = 127)
def textN (l : List UInt8) (most : Nat) : Bool := l.all (fun b => !badB b) && (decide (l.length ≤ most) && validD l)
def okPart (p : List UInt8) : Bool := !(decide (p = []) || (decide (p = [46]) || decide (p = [46, 46])))
/-- What is left, behind the part under way. -/
def partsN : List UInt8 → List UInt8 → Bool
  | p, [] => okPart p
  | p, b :: r => if b.toNat = 47 then okPart p && partsN [] r else if b.toNat = 92 ∨ b.toNat = 58 then false else partsN (p ++ [b]) r
def rightN (l : List UInt8) : Bool := decide (l ≠ []) && (textN l 64 && partsN [] l)
def noteN (l : List UInt8) : Bool := textN l 200
def asciiN (l : List UInt8) : Bool := l.all (fun b => decide (b.toNat < 128))
def zipL : List UInt8 := [46, 122, 105, 112]
def fileN (l : List UInt8) : Bool := l.all (fun b => decide (b.toNat ≠ 47)) && (decide (5 ≤ l.length) && (decide (l.length ≤ 40) && (decide (l.drop (l.length - 4) = zipL) && rightN l)))

theorem checkN_le {n b1 b2 b3 sz lo hi k : Nat} (h : checkN n b1 b2 b3 sz lo hi = some k) : 2 ≤ k ∧ k ≤ n ∧ k ≤ 4 := by
  unfold checkN at h
  repeat' split at h
  all_goals first | (injection h with h; omega) | cases h
theorem checkN_more {n m b1 b2 b3 c1 c2 c3 sz lo hi k : Nat} (h : checkN n b1 b2 b3 sz lo hi = some k) (hm : n ≤ m) (h1 : c1 = b1) (h2 : 3 ≤ k → c2 = b2) (h3 : 4 ≤ k → c3 = b3) : checkN m c1 c2 c3 sz lo hi = some k := by
  subst h1
  unfold checkN at h ⊢
  by_cases s2 : sz = 2
  · rw [if_pos s2] at h ⊢
    split at h
    · cases h
    · rw [if_neg (by omega)]; exact h
  · rw [if_neg s2] at h ⊢
    by_cases s3 : sz = 3
    · rw [if_pos s3] at h ⊢
      split at h
      · cases h
      · injection h with h
        have e2 := h2 (by omega)
        subst e2
        rw [if_neg (by omega)]; rw [h]
    · rw [if_neg s3] at h ⊢
      by_cases s4 : sz = 4
      · rw [if_pos s4] at h ⊢
        split at h
        · cases h
        · injection h with h
          have e2 := h2 (by omega)
          have e3 := h3 (by omega)
          subst e2
          subst e3
          rw [if_neg (by omega)]; rw [h]
      · rw [if_neg s4] at h; cases h
theorem getD_app (l r : List UInt8) (i : Nat) (h : i < l.length) : (l ++ r).getD i 0 = l.getD i 0 := by
  rw [List.getD_eq_getElem?_getD, List.getElem?_append_left h, ← List.getD_eq_getElem?_getD]
/-- Right texts, one behind the other. -/
theorem valid_append : ∀ (k : Nat) (l r : List UInt8), l.length ≤ k → validD l = true → validD (l ++ r) = validD r
  | 0, l, r, hk, _ => by
    have : l = [] := List.eq_nil_of_length_eq_zero (by omega)
    subst this
    rfl
  | k + 1, l, r, hk, h => by
    cases l with
    | nil => rfl
    | cons b t =>
      by_cases hb : b.toNat < 128
      · rw [validD_cons b t hb] at h
        rw [List.cons_append, validD_cons b _ hb]
        exact valid_append k t r (by rw [List.length_cons] at hk; omega) h
      · have h0 : 128 ≤ ((b :: t).getD 0 0).toNat := by show 128 ≤ b.toNat; omega
        rw [validD_lead (b :: t) (by simp) h0] at h
        cases hc : checkN (b :: t).length ((b :: t).getD 1 0).toNat ((b :: t).getD 2 0).toNat ((b :: t).getD 3 0).toNat (firstT ((b :: t).getD 0 0).toNat % 8) (accLo (firstT ((b :: t).getD 0 0).toNat / 16)) (accHi (firstT ((b :: t).getD 0 0).toNat / 16)) with
        | none => rw [hc] at h; cases h
        | some j =>
          rw [hc] at h
          have hj := checkN_le hc
          have e0 : (b :: t ++ r).getD 0 0 = (b :: t).getD 0 0 := rfl
          have hn := checkN_more (m := (b :: t ++ r).length) (c1 := ((b :: t ++ r).getD 1 0).toNat) (c2 := ((b :: t ++ r).getD 2 0).toNat) (c3 := ((b :: t ++ r).getD 3 0).toNat) hc (by rw [List.length_append]; omega) (by rw [getD_app _ _ 1 (by omega)]) (fun _ => by rw [getD_app _ _ 2 (by omega)]) (fun _ => by rw [getD_app _ _ 3 (by omega)])
          rw [validD_lead (b :: t ++ r) (by simp) (by rw [e0]; exact h0), e0, hn]
          show validD ((b :: t ++ r).drop j) = _
          rw [List.drop_append_of_le_length hj.2.1]
          exact valid_append k _ r (by rw [List.length_drop]; omega) h
theorem valid_asc (l : List UInt8) (h : ∀ b ∈ l, b.toNat < 128) : validD l = true := by
  rw [validD_ascii l.length l (fun b hb => h b (List.mem_of_mem_take hb)), List.drop_length]
  rfl

theorem text_bad {l : List UInt8} {b : UInt8} (hm : b ∈ l) (hb : badB b = true) (most : Nat) : textN l most = false := by
  unfold textN
  have : l.all (fun b => !badB b) = false := by
    rw [List.all_eq_false]
    exact ⟨b, hm, by rw [hb]; decide⟩
  rw [this, Bool.false_and]
theorem text_good {l : List UInt8} (h : ∀ b ∈ l, badB b = false) (most : Nat) : textN l most = (decide (l.length ≤ most) && validD l) := by
  unfold textN
  have : l.all (fun b => !badB b) = true := by
    rw [List.all_eq_true]
    intro b hb
    rw [h b hb]
    rfl
  rw [this, Bool.true_and]
theorem text_iff (l : List UInt8) (most : Nat) : textN l most = true ↔ (∀ b ∈ l, badB b = false) ∧ l.length ≤ most ∧ validD l = true := by
  unfold textN
  rw [Bool.and_eq_true, Bool.and_eq_true, List.all_eq_true, decide_eq_true_eq]
  constructor
  · rintro ⟨h1, h2, h3⟩
    exact ⟨fun b hb => by have := h1 b hb; simpa using this, h2, h3⟩
  · rintro ⟨h1, h2, h3⟩
    exact ⟨fun b hb => by rw [h1 b hb]; rfl, h2, h3⟩
theorem parts_append : ∀ (l r p : List UInt8), partsN p (l ++ [47] ++ r) = (partsN p l && partsN [] r)
  | [], r, p => by
    show (if (47 : UInt8).toNat = 47 then okPart p && partsN [] r else _) = _
    rw [if_pos (by decide)]
    rfl
  | b :: l, r, p => by
    rw [List.cons_append, List.cons_append]
    show (if b.toNat = 47 then okPart p && partsN [] (l ++ [47] ++ r) else if b.toNat = 92 ∨ b.toNat = 58 then false else partsN (p ++ [b]) (l ++ [47] ++ r)) = ((if b.toNat = 47 then okPart p && partsN [] l else if b.toNat = 92 ∨ b.toNat = 58 then false else partsN (p ++ [b]) l) && partsN [] r)
    split
    · rw [parts_append l r [], Bool.and_assoc]
    · split
      · rw [Bool.false_and]
      · exact parts_append l r (p ++ [b])
/-- Without a slash there is one part. -/
theorem parts_one : ∀ (l p : List UInt8), (∀ b ∈ l, b.toNat ≠ 47) → (∀ b ∈ l, b.toNat ≠ 92 ∧ b.toNat ≠ 58) → partsN p l = okPart (p ++ l)
  | [], p, _, _ => by rw [List.append_nil]; rfl
  | b :: l, p, h, g => by
    show (if b.toNat = 47 then _ else if b.toNat = 92 ∨ b.toNat = 58 then false else partsN (p ++ [b]) l) = _
    have h1 := h b List.mem_cons_self
    have g1 := g b List.mem_cons_self
    rw [if_neg h1, if_neg (by omega), parts_one l (p ++ [b]) (fun x hx => h x (List.mem_cons_of_mem _ hx)) (fun x hx => g x (List.mem_cons_of_mem _ hx)), List.append_assoc]
    rfl
theorem parts_bytes : ∀ (l p : List UInt8), partsN p l = true → ∀ b ∈ l, b.toNat ≠ 92 ∧ b.toNat ≠ 58
  | [], _, _, b, hb => by cases hb
  | x :: l, p, h, b, hb => by
    have h : (if x.toNat = 47 then okPart p && partsN [] l else if x.toNat = 92 ∨ x.toNat = 58 then false else partsN (p ++ [x]) l) = true := h
    split at h
    · rw [Bool.and_eq_true] at h
      rcases List.mem_cons.1 hb with rfl | hb
      · omega
      · exact parts_bytes l [] h.2 b hb
    · split at h
      · cases h
      · rcases List.mem_cons.1 hb with rfl | hb
        · omega
        · exact parts_bytes l _ h b hb
theorem right_iff (l : List UInt8) : rightN l = true ↔ l ≠ [] ∧ textN l 64 = true ∧ partsN [] l = true := by
  unfold rightN
  rw [Bool.and_eq_true, Bool.and_eq_true, decide_eq_true_eq]
/-- Two names with a slash between. -/
theorem right_two {a b : List UInt8} (ha : rightN a = true) (hb : rightN b = true) : rightN (a ++ [47] ++ b) = decide (a.length + b.length < 64) := by
  obtain ⟨a1, a2, a3⟩ := (right_iff a).1 ha
  obtain ⟨b1, b2, b3⟩ := (right_iff b).1 hb
  obtain ⟨c1, c2, c3⟩ := (text_iff a 64).1 a2
  obtain ⟨d1, d2, d3⟩ := (text_iff b 64).1 b2
  have hp : partsN [] (a ++ [47] ++ b) = true := by rw [parts_append, a3, b3]; rfl
  have hv : validD (a ++ [47] ++ b) = true := by
    rw [List.append_assoc, valid_append a.length a _ (Nat.le_refl _) c3]
    show validD (47 :: b) = true
    rw [validD_cons 47 b (by decide)]
    exact d3
  have hbad : ∀ x ∈ a ++ [47] ++ b, badB x = false := by
    intro x hx
    rcases List.mem_append.1 hx with hx | hx
    · rcases List.mem_append.1 hx with hx | hx
      · exact c1 x hx
      · rw [List.mem_singleton.1 hx]; decide
    · exact d1 x hx
  have hl : (a ++ [47] ++ b).length = a.length + b.length + 1 := by simp only [List.length_append, List.length_singleton]; omega
  unfold rightN
  rw [text_good hbad, hp, hv, hl, decide_eq_true (show a ++ [47] ++ b ≠ [] by simp), Bool.true_and, Bool.and_true, Bool.and_true]
  exact decide_eq_decide.2 (by omega)
theorem note_of {a : List UInt8} (ha : rightN a = true) : noteN a = true := by
  obtain ⟨_, a2, _⟩ := (right_iff a).1 ha
  obtain ⟨c1, c2, c3⟩ := (text_iff a 64).1 a2
  exact (text_iff a 200).2 ⟨c1, by omega, c3⟩
theorem right_of_file {a : List UInt8} (ha : fileN a = true) : rightN a = true := by
  unfold fileN at ha
  simp only [Bool.and_eq_true] at ha
  exact ha.2.2.2.2
/-- A file of a name without a slash. -/
theorem file_zip {s : List UInt8} (hs : rightN s = true) (hn : ∀ b ∈ s, b.toNat ≠ 47) : fileN (s ++ zipL) = decide (s.length ≤ 36) := by
  obtain ⟨a1, a2, a3⟩ := (right_iff s).1 hs
  obtain ⟨c1, c2, c3⟩ := (text_iff s 64).1 a2
  have g := parts_bytes s [] a3
  have hne : 1 ≤ s.length := by cases s with | nil => exact absurd rfl a1 | cons _ _ => simp
  have hz : ∀ b ∈ zipL, b.toNat ≠ 47 ∧ b.toNat ≠ 92 ∧ b.toNat ≠ 58 ∧ badB b = false ∧ b.toNat < 128 := by decide
  have hzl : zipL.length = 4 := rfl
  have hl : (s ++ zipL).length = s.length + 4 := by rw [List.length_append, hzl]
  have k1 : (s ++ zipL).all (fun b => decide (b.toNat ≠ 47)) = true := by
    rw [List.all_eq_true]
    intro b hb
    rcases List.mem_append.1 hb with hb | hb
    · exact decide_eq_true (hn b hb)
    · exact decide_eq_true (hz b hb).1
  have k2 : (s ++ zipL).drop ((s ++ zipL).length - 4) = zipL := by rw [hl, show s.length + 4 - 4 = s.length by omega, List.drop_left]
  have hv : validD (s ++ zipL) = true := by rw [valid_append s.length s _ (Nat.le_refl _) c3]; exact valid_asc _ (fun b hb => (hz b hb).2.2.2.2)
  have hbad : ∀ x ∈ s ++ zipL, badB x = false := by
    intro x hx
    rcases List.mem_append.1 hx with hx | hx
    · exact c1 x hx
    · exact (hz x hx).2.2.2.1
  have hp : partsN [] (s ++ zipL) = true := by
    rw [parts_one _ [] (fun b hb => by rcases List.mem_append.1 hb with hb | hb; exact hn b hb; exact (hz b hb).1) (fun b hb => by rcases List.mem_append.1 hb with hb | hb; exact g b hb; exact ⟨(hz b hb).2.1, (hz b hb).2.2.1⟩), List.nil_append]
    have e : ∀ q : List UInt8, q.length ≤ 2 → ¬ s ++ zipL = q := fun q hq e => by rw [e] at hl; omega
    unfold okPart
    rw [decide_eq_false (e [] (by decide)), decide_eq_false (e [46] (by decide)), decide_eq_false (e [46, 46] (by decide))]
    rfl
  unfold fileN rightN
  rw [k1, k2, text_good hbad, hp, hv, hl, decide_eq_true (show s ++ zipL ≠ [] by cases s <;> simp [zipL]), decide_eq_true (show 5 ≤ s.length + 4 by omega)]
  simp only [Bool.true_and, Bool.and_true, decide_true]
  by_cases h : s.length ≤ 36
  · rw [decide_eq_true h, decide_eq_true (show s.length + 4 ≤ 40 by omega), decide_eq_true (show s.length + 4 ≤ 64 by omega)]; rfl
  · rw [decide_eq_false h, decide_eq_false (show ¬ s.length + 4 ≤ 40 by omega), Bool.false_and]
def ziL : List UInt8 := [46, 122, 105]
theorem file_zi (s : List UInt8) : fileN (s ++ ziL) = false := by
  have hl : (s ++ ziL).length = s.length + 3 := by rw [List.length_append]; rfl
  have k : (s ++ ziL).drop ((s ++ ziL).length - 4) ≠ zipL := by
    intro e
    have e2 := congrArg List.getLast? e
    rw [List.getLast?_drop] at e2
    split at e2
    · cases e2
    · rw [List.getLast?_append] at e2
      have e3 : some (105 : UInt8) = some 112 := e2
      exact absurd e3 (by decide)
  unfold fileN
  rw [decide_eq_false k, Bool.false_and, Bool.and_false, Bool.and_false, Bool.and_false]
/-- What is told of a name's bytes. -/
theorem name_bytes : ∀ (l p : List UInt8), partsN p l = true → ∀ i b, l[i]? = some b → b.toNat = 47 → (i = 0 → p ≠ []) ∧ i + 1 < l.length ∧ ∀ c, l[i + 1]? = some c → c.toNat ≠ 47
  | [], _, _, i, b, hi, _ => by simp at hi
  | x :: l, p, h, i, b, hi, hb => by
    have h : (if x.toNat = 47 then okPart p && partsN [] l else if x.toNat = 92 ∨ x.toNat = 58 then false else partsN (p ++ [x]) l) = true := h
    cases i with
    | zero =>
      rw [List.getElem?_cons_zero] at hi
      injection hi with hi
      subst hi
      rw [if_pos hb, Bool.and_eq_true] at h
      refine ⟨fun _ e => by rw [e] at h; exact absurd h.1 (by decide), ?_, fun c hc => ?_⟩
      · cases l with
        | nil => exact absurd h.2 (by decide)
        | cons _ _ => simp
      · rw [List.getElem?_cons_succ] at hc
        intro h47
        exact (name_bytes l [] h.2 0 c hc h47).1 rfl rfl
    | succ i =>
      rw [List.getElem?_cons_succ] at hi
      have key : ∀ q, partsN q l = true → (i = 0 → q ≠ []) ∧ i + 1 < l.length ∧ ∀ c, l[i + 1]? = some c → c.toNat ≠ 47 := fun q hq => name_bytes l q hq i b hi hb
      split at h
      · rw [Bool.and_eq_true] at h
        obtain ⟨_, k2, k3⟩ := key [] h.2
        exact ⟨fun e => by omega, by rw [List.length_cons]; omega, fun c hc => k3 c (by rw [List.getElem?_cons_succ] at hc; exact hc)⟩
      · split at h
        · cases h
        · obtain ⟨_, k2, k3⟩ := key _ h
          exact ⟨fun e => by omega, by rw [List.length_cons]; omega, fun c hc => k3 c (by rw [List.getElem?_cons_succ] at hc; exact hc)⟩

end Go.Proofs.YtgakjojdjnhpaaaDoor
