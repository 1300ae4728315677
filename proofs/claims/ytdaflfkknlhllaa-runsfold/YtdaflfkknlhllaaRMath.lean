/- Code lengths as runs, plainly: what they are folded to, what they are unfolded to, and that the one undoes the other. Nothing of the program is named here. -/
import Derived.WalkKit
namespace Go.Proofs.Ytdaflfkknlhllaa

/-- How many stand at the head that are x. -/
def headN (x : Int) : List Int → Nat
  | [] => 0
  | y :: r => if y = x then headN x r + 1 else 0
/-- The next run, behind p, of n that are x; and how many it takes. -/
def stepF (p : Option Int) (x : Int) (n : Nat) : (Int × Int) × Nat :=
  if x = 0 ∧ 11 ≤ n then ((18, ((min n 138 : Nat) : Int) - 11), min n 138)
  else if x = 0 ∧ 3 ≤ n then ((17, (n : Int) - 3), n)
  else if p = some x ∧ 3 ≤ n then ((16, ((min n 6 : Nat) : Int) - 3), min n 6)
  else ((x, 0), 1)
/-- Behind p, the lengths l are these runs. -/
def Folds : Option Int → List Int → List (Int × Int) → Prop
  | _, l, [] => l = []
  | p, l, r :: rs => ∃ x t, l = x :: t ∧ r = (stepF p x (headN x l)).1 ∧ Folds (some x) (l.drop (stepF p x (headN x l)).2) rs
/-- Lengths that may be. -/
def lenB (l : List Int) : Bool := l.all fun x => decide (0 ≤ x) && decide (x ≤ 15)
/-- What lengths are folded to. -/
def FoldRes (l : List Int) (rs : List (Int × Int)) : Prop := (lenB l = true ∧ Folds none l rs) ∨ (lenB l = false ∧ rs = [])

theorem lenB_iff (l : List Int) : lenB l = true ↔ ∀ x ∈ l, 0 ≤ x ∧ x ≤ 15 := by
  unfold lenB
  simp only [List.all_eq_true, Bool.and_eq_true, decide_eq_true_eq]

theorem Folds.uniq : ∀ (rs rs' : List (Int × Int)) (p : Option Int) (l : List Int), Folds p l rs → Folds p l rs' → rs = rs'
  | [], [], _, _, _, _ => rfl
  | [], r :: rs, p, l, h, h2 => by
    obtain ⟨x, t, e, _⟩ := h2
    have h : l = [] := h
    rw [h] at e
    cases e
  | r :: rs, [], p, l, h, h2 => by
    obtain ⟨x, t, e, _⟩ := h
    have h2 : l = [] := h2
    rw [h2] at e
    cases e
  | r :: rs, r' :: rs', p, l, h, h2 => by
    obtain ⟨x, t, e, e1, f1⟩ := h
    obtain ⟨x', t', e', e1', f1'⟩ := h2
    rw [e] at e'
    injection e' with ex _
    subst ex
    rw [e1, e1', Folds.uniq rs rs' _ _ f1 f1']
theorem FoldRes.uniq {l : List Int} {rs rs' : List (Int × Int)} (h : FoldRes l rs) (h2 : FoldRes l rs') : rs = rs' := by
  rcases h with ⟨a, b⟩ | ⟨a, b⟩
  · rcases h2 with ⟨c, d⟩ | ⟨c, d⟩
    · exact Folds.uniq _ _ _ _ b d
    · rw [a] at c; cases c
  · rcases h2 with ⟨c, d⟩ | ⟨c, d⟩
    · rw [a] at c; cases c
    · rw [b, d]

/-! ### The head -/
theorem head_le (x : Int) : ∀ l, headN x l ≤ l.length
  | [] => Nat.le_refl _
  | y :: r => by
    unfold headN
    have := head_le x r
    split
    · rw [List.length_cons]; omega
    · omega
theorem head_pos (x : Int) (r : List Int) : 1 ≤ headN x (x :: r) := by
  unfold headN
  rw [if_pos rfl]
  omega
theorem head_take (x : Int) : ∀ (l : List Int) (k : Nat), k ≤ headN x l → l = List.replicate k x ++ l.drop k
  | l, 0, _ => by simp
  | [], k + 1, h => by unfold headN at h; omega
  | y :: r, k + 1, h => by
    unfold headN at h
    by_cases e : y = x
    · rw [if_pos e] at h
      have ih := head_take x r k (by omega)
      rw [List.replicate_succ, List.cons_append, List.drop_succ_cons, ← ih, e]
    · rw [if_neg e] at h
      omega
theorem head_get (x : Int) : ∀ (l : List Int) (k : Nat), k < headN x l → l[k]? = some x
  | [], k, h => by unfold headN at h; omega
  | y :: r, k, h => by
    unfold headN at h
    by_cases e : y = x
    · rw [if_pos e] at h
      cases k with
      | zero => rw [e]; rfl
      | succ k => rw [List.getElem?_cons_succ]; exact head_get x r k (by omega)
    · rw [if_neg e] at h; omega
theorem head_stop (x : Int) : ∀ (l : List Int), headN x l < l.length → l[headN x l]? ≠ some x
  | [], h => by simp at h
  | y :: r, h => by
    unfold headN at h ⊢
    by_cases e : y = x
    · rw [if_pos e] at h ⊢
      rw [List.getElem?_cons_succ]
      exact head_stop x r (by rw [List.length_cons] at h; omega)
    · rw [if_neg e]
      intro h2
      injection h2 with h2
      exact e h2
/-- The head is told by where it ends. -/
theorem head_eq (x : Int) (l : List Int) (k : Nat) (hk : k ≤ l.length) (h1 : ∀ i, i < k → l[i]? = some x) (h2 : k = l.length ∨ l[k]? ≠ some x) : headN x l = k := by
  have h3 := head_le x l
  refine Classical.byContradiction fun hne => ?_
  by_cases h : headN x l < k
  · exact head_stop x l (by omega) (h1 _ h)
  · have h4 := head_get x l k (by omega)
    rcases h2 with h5 | h5
    · omega
    · exact h5 h4
theorem head_rep (x : Int) : ∀ m, headN x (List.replicate m x) = m
  | 0 => rfl
  | m + 1 => by
    rw [List.replicate_succ]
    unfold headN
    rw [if_pos rfl, head_rep x m]

/-- A run takes one at least, and no more than there are. -/
theorem step_takes (p : Option Int) (x : Int) (n : Nat) (hn : 1 ≤ n) : 1 ≤ (stepF p x n).2 ∧ (stepF p x n).2 ≤ n := by
  unfold stepF
  split
  · simp only; omega
  · split
    · simp only; omega
    · split
      · simp only; omega
      · simp only; omega

theorem Folds.length : ∀ (rs : List (Int × Int)) (p : Option Int) (l : List Int), Folds p l rs → rs.length ≤ l.length
  | [], _, _, _ => Nat.zero_le _
  | r :: rs, p, l, h => by
    obtain ⟨x, t, e, e1, f⟩ := h
    have h1 := Folds.length rs _ _ f
    have h2 := head_pos x t
    rw [← e] at h2
    have h3 := step_takes p x _ h2
    have h4 := head_le x l
    rw [List.length_drop] at h1
    rw [List.length_cons]
    omega
theorem FoldRes.length {l : List Int} {rs : List (Int × Int)} (h : FoldRes l rs) : rs.length ≤ l.length := by
  rcases h with ⟨_, b⟩ | ⟨_, b⟩
  · exact Folds.length _ _ _ b
  · rw [b]; exact Nat.zero_le _

/-! ### Unfolding -/
def xBits (s : Int) : Nat := if s = 16 then 2 else if s = 17 then 3 else if s = 18 then 7 else 0
def timesR (r : Int × Int) : Int := if r.1 = 16 then 3 + r.2 else if r.1 = 17 then 3 + r.2 else if r.1 = 18 then 11 + r.2 else 1
def valR (out : List Int) (s : Int) : Int := if s = 16 then out.getLastD 0 else if s = 17 then 0 else if s = 18 then 0 else s
/-- A run that may be, of at most so many. -/
def runB (n : Int) (out : List Int) (r : Int × Int) : Bool := !(decide (r.1 = 16) && out.isEmpty) && decide (0 ≤ r.1) && decide (r.1 ≤ 18) && decide (0 ≤ r.2) && decide (r.2 < ((2 ^ xBits r.1 : Nat) : Int)) && decide (timesR r ≤ n - (out.length : Int))
/-- What runs are unfolded to, behind those that stand. -/
def unF (n : Int) (out : List Int) : List (Int × Int) → Option (List Int)
  | [] => if (out.length : Int) = n then some out else none
  | r :: rs => if runB n out r = true then unF n (out ++ List.replicate (timesR r).toNat (valR out r.1)) rs else none
def unO (rs : List (Int × Int)) (n : Int) : List Int := (unF n [] rs).getD []
def unB (rs : List (Int × Int)) (n : Int) : Bool := (unF n [] rs).isSome

theorem runB_iff (n : Int) (out : List Int) (r : Int × Int) : runB n out r = true ↔ (¬ (r.1 = 16 ∧ out = []) ∧ 0 ≤ r.1 ∧ r.1 ≤ 18 ∧ 0 ≤ r.2 ∧ r.2 < ((2 ^ xBits r.1 : Nat) : Int) ∧ timesR r ≤ n - (out.length : Int)) := by
  unfold runB
  simp only [Bool.and_eq_true, Bool.not_eq_true', decide_eq_true_eq, and_assoc]
  have e : ((decide (r.1 = 16) && out.isEmpty) = false) ↔ ¬ (r.1 = 16 ∧ out = []) := by
    cases out with
    | nil => simp
    | cons a b => simp
  rw [e]

theorem unF_length (n : Int) : ∀ (rs : List (Int × Int)) (out o : List Int), unF n out rs = some o → (o.length : Int) = n
  | [], out, o, h => by
    unfold unF at h
    split at h
    · rename_i h2; injection h with h; rw [← h]; exact h2
    · cases h
  | r :: rs, out, o, h => by
    unfold unF at h
    split at h
    · exact unF_length n rs _ o h
    · cases h

theorem xb16 : xBits 16 = 2 := by decide
theorem xb17 : xBits 17 = 3 := by decide
theorem xb18 : xBits 18 = 7 := by decide
theorem tm16 (e : Int) : timesR (16, e) = 3 + e := by simp [timesR]
theorem tm17 (e : Int) : timesR (17, e) = 3 + e := by simp [timesR]
theorem tm18 (e : Int) : timesR (18, e) = 11 + e := by simp [timesR]
theorem vl16 (out : List Int) : valR out 16 = out.getLastD 0 := by simp [valR]
theorem vl17 (out : List Int) : valR out 17 = 0 := by simp [valR]
theorem vl18 (out : List Int) : valR out 18 = 0 := by simp [valR]
theorem plain_run (x : Int) (h : x ≠ 16) (h2 : x ≠ 17) (h3 : x ≠ 18) : xBits x = 0 ∧ (∀ e, timesR (x, e) = 1) ∧ (∀ out, valR out x = x) := by
  refine ⟨?_, ?_, ?_⟩
  · unfold xBits; rw [if_neg h, if_neg h2, if_neg h3]
  · intro e; unfold timesR; rw [if_neg h, if_neg h2, if_neg h3]
  · intro out; unfold valR; rw [if_neg h, if_neg h2, if_neg h3]

/-- A run of a fold is unfolded to what it took. -/
theorem run_back (n : Int) (p : Option Int) (x : Int) (h : Nat) (out : List Int) (hx0 : 0 ≤ x) (hx : x ≤ 15) (hh : 1 ≤ h) (hp : ∀ y, p = some y → ∃ o, out = o ++ [y]) (hn : (out.length : Int) + (h : Int) ≤ n) :
    runB n out (stepF p x h).1 = true ∧ (timesR (stepF p x h).1).toNat = (stepF p x h).2 ∧ valR out (stepF p x h).1.1 = x := by
  unfold stepF
  by_cases c1 : x = 0 ∧ 11 ≤ h
  · rw [if_pos c1]
    dsimp only
    refine ⟨?_, ?_, ?_⟩
    · rw [runB_iff, tm18]
      dsimp only
      rw [xb18]
      omega
    · rw [tm18]
      omega
    · rw [vl18]
      omega
  · rw [if_neg c1]
    by_cases c2 : x = 0 ∧ 3 ≤ h
    · rw [if_pos c2]
      dsimp only
      refine ⟨?_, ?_, ?_⟩
      · rw [runB_iff, tm17]
        dsimp only
        rw [xb17]
        omega
      · rw [tm17]
        omega
      · rw [vl17]
        omega
    · rw [if_neg c2]
      by_cases c3 : p = some x ∧ 3 ≤ h
      · rw [if_pos c3]
        dsimp only
        obtain ⟨o, ho⟩ := hp x c3.1
        refine ⟨?_, ?_, ?_⟩
        · rw [runB_iff, tm16]
          dsimp only
          rw [xb16]
          refine ⟨?_, by omega⟩
          rintro ⟨_, e⟩
          rw [ho] at e
          simp at e
        · rw [tm16]
          omega
        · rw [vl16, ho]
          simp
      · rw [if_neg c3]
        dsimp only
        obtain ⟨b1, b2, b3⟩ := plain_run x (by omega) (by omega) (by omega)
        refine ⟨?_, ?_, ?_⟩
        · rw [runB_iff, b2]
          dsimp only
          rw [b1]
          omega
        · rw [b2]
          rfl
        · exact b3 out

/-- What is folded is unfolded. -/
theorem un_fold (n : Int) : ∀ (rs : List (Int × Int)) (p : Option Int) (l out : List Int) (rest : List (Int × Int)), Folds p l rs → (∀ x ∈ l, 0 ≤ x ∧ x ≤ 15) → (∀ y, p = some y → ∃ o, out = o ++ [y]) → (out.length : Int) + (l.length : Int) ≤ n → unF n out (rs ++ rest) = unF n (out ++ l) rest
  | [], p, l, out, rest, h, _, _, _ => by
    have h : l = [] := h
    rw [h, List.nil_append, List.append_nil]
  | r :: rs, p, l, out, rest, h, hv, hp, hn => by
    obtain ⟨x, t, e, e1, f⟩ := h
    have hx := hv x (by rw [e]; exact List.mem_cons_self)
    have h1 := head_pos x t
    rw [← e] at h1
    have h2 := head_le x l
    have h3 := step_takes p x _ h1
    obtain ⟨g1, g2, g3⟩ := run_back n p x (headN x l) out hx.1 hx.2 h1 hp (by omega)
    have h4 := head_take x l (stepF p x (headN x l)).2 h3.2
    rw [← e1] at g1 g2 g3
    generalize (stepF p x (headN x l)).2 = k at *
    rw [List.cons_append]
    show (if runB n out r = true then unF n (out ++ List.replicate (timesR r).toNat (valR out r.1)) (rs ++ rest) else none) = _
    rw [if_pos g1, g2, g3]
    have ih := un_fold n rs (some x) (l.drop k) (out ++ List.replicate k x) rest f (fun y hy => hv y (List.mem_of_mem_drop hy)) (fun y hy => by
      injection hy with hy
      subst hy
      obtain ⟨j, hj⟩ : ∃ j, k = j + 1 := ⟨k - 1, by omega⟩
      exact ⟨out ++ List.replicate j x, by rw [hj, List.append_assoc, List.replicate_succ']⟩) (by rw [List.length_append, List.length_replicate, List.length_drop]; omega)
    rw [ih, List.append_assoc, ← h4]

theorem back_all (l : List Int) (rs : List (Int × Int)) (h : Folds none l rs) (hv : ∀ x ∈ l, 0 ≤ x ∧ x ≤ 15) : unF (l.length : Int) [] rs = some l := by
  have h1 := un_fold (l.length : Int) rs none l [] [] h hv (fun y hy => by cases hy) (by simp)
  rw [List.append_nil, List.nil_append] at h1
  rw [h1]
  show (if _ then some l else none) = _
  rw [if_pos rfl]
theorem back_two (a b : List Int) (ra rb : List (Int × Int)) (ha : Folds none a ra) (hb : Folds none b rb) (hva : ∀ x ∈ a, 0 ≤ x ∧ x ≤ 15) (hvb : ∀ x ∈ b, 0 ≤ x ∧ x ≤ 15) : unF ((a ++ b).length : Int) [] (ra ++ rb) = some (a ++ b) := by
  have h1 := un_fold ((a ++ b).length : Int) ra none a [] rb ha hva (fun y hy => by cases hy) (by rw [List.length_append]; simp; omega)
  have h2 := un_fold ((a ++ b).length : Int) rb none b a [] hb hvb (fun y hy => by cases hy) (by rw [List.length_append]; omega)
  rw [List.append_nil] at h2
  rw [List.nil_append] at h1
  rw [h1, h2]
  show (if _ then some (a ++ b) else none) = _
  rw [if_pos rfl]

/-! ### How many runs -/
theorem few_other (v : Int) (hv : v ≠ 0) : ∀ (rs : List (Int × Int)) (m : Nat), Folds (some v) (List.replicate m v) rs → rs.length ≤ m / 6 + 2
  | [], m, _ => Nat.zero_le _
  | r :: rs, m, h => by
    have hl := Folds.length _ _ _ h
    rw [List.length_replicate] at hl
    obtain ⟨x, t, e, e1, f⟩ := h
    obtain ⟨k, rfl⟩ : ∃ k, m = k + 1 := by
      cases m with
      | zero => cases e
      | succ k => exact ⟨k, rfl⟩
    rw [List.replicate_succ] at e
    injection e with ex _
    subst ex
    rw [head_rep] at f
    unfold stepF at f
    rw [if_neg (fun h => hv h.1), if_neg (fun h => hv h.1)] at f
    by_cases c : 3 ≤ k + 1
    · rw [if_pos (And.intro rfl c)] at f
      dsimp only at f
      rw [List.drop_replicate] at f
      have ih := few_other v hv rs _ f
      have ih2 := Folds.length _ _ _ f
      rw [List.length_replicate] at ih2
      rw [List.length_cons]
      omega
    · rw [List.length_cons] at hl ⊢
      omega
theorem few_none (v : Int) (hv : v ≠ 0) (rs : List (Int × Int)) (m : Nat) (h : Folds none (List.replicate m v) rs) : rs.length ≤ m / 6 + 3 := by
  cases rs with
  | nil => exact Nat.zero_le _
  | cons r rs =>
    obtain ⟨x, t, e, e1, f⟩ := h
    obtain ⟨k, rfl⟩ : ∃ k, m = k + 1 := by
      cases m with
      | zero => cases e
      | succ k => exact ⟨k, rfl⟩
    rw [List.replicate_succ] at e
    injection e with ex _
    subst ex
    rw [head_rep] at f
    unfold stepF at f
    rw [if_neg (fun h => hv h.1), if_neg (fun h => hv h.1), if_neg (fun h => by cases h.1)] at f
    dsimp only at f
    rw [List.drop_replicate] at f
    have ih := few_other v hv rs _ f
    rw [List.length_cons]
    omega
theorem few_nought : ∀ (rs : List (Int × Int)) (p : Option Int) (m : Nat), Folds p (List.replicate m 0) rs → rs.length ≤ m / 138 + 2
  | [], _, _, _ => Nat.zero_le _
  | r :: rs, p, m, h => by
    have hl := Folds.length _ _ _ h
    rw [List.length_replicate] at hl
    obtain ⟨x, t, e, e1, f⟩ := h
    obtain ⟨k, rfl⟩ : ∃ k, m = k + 1 := by
      cases m with
      | zero => cases e
      | succ k => exact ⟨k, rfl⟩
    rw [List.replicate_succ] at e
    injection e with ex _
    subst ex
    rw [head_rep] at f
    unfold stepF at f
    by_cases c : 11 ≤ k + 1
    · rw [if_pos (And.intro rfl c)] at f
      dsimp only at f
      rw [List.drop_replicate] at f
      have ih := few_nought rs _ _ f
      have ih2 := Folds.length _ _ _ f
      rw [List.length_replicate] at ih2
      rw [List.length_cons]
      omega
    · rw [if_neg (fun h => c h.2)] at f
      by_cases c2 : 3 ≤ k + 1
      · rw [if_pos (And.intro rfl c2)] at f
        dsimp only at f
        rw [List.drop_replicate] at f
        have ih2 := Folds.length _ _ _ f
        rw [List.length_replicate] at ih2
        rw [List.length_cons]
        omega
      · rw [List.length_cons] at hl ⊢
        omega

end Go.Proofs.Ytdaflfkknlhllaa
