import Derived.WalkKit
import Derived.Test.YtaalbaiglkadlaaGreatIRow
import Derived.Test.YtaalbaiglkadlaaGreatWC
import Derived.Laws.ResultCell
import Derived.Laws.Tables
import Derived.Deep.WholeRow
import Derived.Deep.MidRow
import Derived.BigQuiet
/- Code lengths as runs, plainly: what they are folded to, what they are unfolded to, and that the one undoes the other. Nothing of the program is named here. -/
namespace Go.Proofs.YtaalbaiglkadlaaGreat

/-- How many stand at the head that are x. -/
def headN (x : Int) : List Int → Nat
  | [] => 0
  | y :: r => if y = x then headN x r + 1 else 0
/-- The next run, behind p, of n that are x; and how many it takes. -/
def stepF (p : Option Int) (x : Int) (n : Nat) : (Int × Int) × Nat :=
  if x = 0 ∧ 11 ≤ n then ((18, ((min n 138 : Nat) : Int) - 11), min n 138)
  else if x = 0 ∧ 3 ≤ n then ((17, (n : Int) - 3), n)
  else if p = some x ∧ 3 ≤ n then ((16, ((min n 6 : Nat) : Int) - 3), min n 6)
  else ((x, 0), 1)
/-- Behind p, the lengths l are these runs. -/
def Folds : Option Int → List Int → List (Int × Int) → Prop
  | _, l, [] => l = []
  | p, l, r :: rs => ∃ x t, l = x :: t ∧ r = (stepF p x (headN x l)).1 ∧ Folds (some x) (l.drop (stepF p x (headN x l)).2) rs
/-- Lengths that may be. -/
def lenB (l : List Int) : Bool := l.all fun x => decide (0 ≤ x) && decide (x ≤ 15)
/-- What lengths are folded to. -/
def FoldRes (l : List Int) (rs : List (Int × Int)) : Prop := (lenB l = true ∧ Folds none l rs) ∨ (lenB l = false ∧ rs = [])

theorem lenB_iff (l : List Int) : lenB l = true ↔ ∀ x ∈ l, 0 ≤ x ∧ x ≤ 15 := by
  unfold lenB
  simp only [List.all_eq_true, Bool.and_eq_true, decide_eq_true_eq]

theorem Folds.uniq : ∀ (rs rs' : List (Int × Int)) (p : Option Int) (l : List Int), Folds p l rs → Folds p l rs' → rs = rs'
  | [], [], _, _, _, _ => rfl
  | [], r :: rs, p, l, h, h2 => by
    obtain ⟨x, t, e, _⟩ := h2
    have h : l = [] := h
    rw [h] at e
    cases e
  | r :: rs, [], p, l, h, h2 => by
    obtain ⟨x, t, e, _⟩ := h
    have h2 : l = [] := h2
    rw [h2] at e
    cases e
  | r :: rs, r' :: rs', p, l, h, h2 => by
    obtain ⟨x, t, e, e1, f1⟩ := h
    obtain ⟨x', t', e', e1', f1'⟩ := h2
    rw [e] at e'
    injection e' with ex _
    subst ex
    rw [e1, e1', Folds.uniq rs rs' _ _ f1 f1']
theorem FoldRes.uniq {l : List Int} {rs rs' : List (Int × Int)} (h : FoldRes l rs) (h2 : FoldRes l rs') : rs = rs' := by
  rcases h with ⟨a, b⟩ | ⟨a, b⟩
  · rcases h2 with ⟨c, d⟩ | ⟨c, d⟩
    · exact Folds.uniq _ _ _ _ b d
    · rw [a] at c; cases c
  · rcases h2 with ⟨c, d⟩ | ⟨c, d⟩
    · rw [a] at c; cases c
    · rw [b, d]

/-! ### The head -/
theorem head_le (x : Int) : ∀ l, headN x l ≤ l.length
  | [] => Nat.le_refl _
  | y :: r => by
    unfold headN
    have := head_le x r
    split
    · rw [List.length_cons]; omega
    · omega
theorem head_pos (x : Int) (r : List Int) : 1 ≤ headN x (x :: r) := by
  unfold headN
  rw [if_pos rfl]
  omega
theorem head_take (x : Int) : ∀ (l : List Int) (k : Nat), k ≤ headN x l → l = List.replicate k x ++ l.drop k
  | l, 0, _ => by simp
  | [], k + 1, h => by unfold headN at h; omega
  | y :: r, k + 1, h => by
    unfold headN at h
    by_cases e : y = x
    · rw [if_pos e] at h
      have ih := head_take x r k (by omega)
      rw [List.replicate_succ, List.cons_append, List.drop_succ_cons, ← ih, e]
    · rw [if_neg e] at h
      omega
theorem head_get (x : Int) : ∀ (l : List Int) (k : Nat), k < headN x l → l[k]? = some x
  | [], k, h => by unfold headN at h; omega
  | y :: r, k, h => by
    unfold headN at h
    by_cases e : y = x
    · rw [if_pos e] at h
      cases k with
      | zero => rw [e]; rfl
      | succ k => rw [List.getElem?_cons_succ]; exact head_get x r k (by omega)
    · rw [if_neg e] at h; omega
theorem head_stop (x : Int) : ∀ (l : List Int), headN x l < l.length → l[headN x l]? ≠ some x
  | [], h => by simp at h
  | y :: r, h => by
    unfold headN at h ⊢
    by_cases e : y = x
    · rw [if_pos e] at h ⊢
      rw [List.getElem?_cons_succ]
      exact head_stop x r (by rw [List.length_cons] at h; omega)
    · rw [if_neg e]
      intro h2
      injection h2 with h2
      exact e h2
/-- The head is told by where it ends. -/
theorem head_eq (x : Int) (l : List Int) (k : Nat) (hk : k ≤ l.length) (h1 : ∀ i, i < k → l[i]? = some x) (h2 : k = l.length ∨ l[k]? ≠ some x) : headN x l = k := by
  have h3 := head_le x l
  refine Classical.byContradiction fun hne => ?_
  by_cases h : headN x l < k
  · exact head_stop x l (by omega) (h1 _ h)
  · have h4 := head_get x l k (by omega)
    rcases h2 with h5 | h5
    · omega
    · exact h5 h4
theorem head_rep (x : Int) : ∀ m, headN x (List.replicate m x) = m
  | 0 => rfl
  | m + 1 => by
    rw [List.replicate_succ]
    unfold headN
    rw [if_pos rfl, head_rep x m]

/-- A run takes one at least, and no more than there are. -/
theorem step_takes (p : Option Int) (x : Int) (n : Nat) (hn : 1 ≤ n) : 1 ≤ (stepF p x n).2 ∧ (stepF p x n).2 ≤ n := by
  unfold stepF
  split
  · simp only; omega
  · split
    · simp only; omega
    · split
      · simp only; omega
      · simp only; omega

theorem Folds.length : ∀ (rs : List (Int × Int)) (p : Option Int) (l : List Int), Folds p l rs → rs.length ≤ l.length
  | [], _, _, _ => Nat.zero_le _
  | r :: rs, p, l, h => by
    obtain ⟨x, t, e, e1, f⟩ := h
    have h1 := Folds.length rs _ _ f
    have h2 := head_pos x t
    rw [← e] at h2
    have h3 := step_takes p x _ h2
    have h4 := head_le x l
    rw [List.length_drop] at h1
    rw [List.length_cons]
    omega
theorem FoldRes.length {l : List Int} {rs : List (Int × Int)} (h : FoldRes l rs) : rs.length ≤ l.length := by
  rcases h with ⟨_, b⟩ | ⟨_, b⟩
  · exact Folds.length _ _ _ b
  · rw [b]; exact Nat.zero_le _

/-! ### Unfolding -/
def xBits (s : Int) : Nat := if s = 16 then 2 else if s = 17 then 3 else if s = 18 then 7 else 0
def timesR (r : Int × Int) : Int := if r.1 = 16 then 3 + r.2 else if r.1 = 17 then 3 + r.2 else if r.1 = 18 then 11 + r.2 else 1
def valR (out : List Int) (s : Int) : Int := if s = 16 then out.getLastD 0 else if s = 17 then 0 else if s = 18 then 0 else s
/-- A run that may be, of at most so many. -/
def runB (n : Int) (out : List Int) (r : Int × Int) : Bool := !(decide (r.1 = 16) && out.isEmpty) && decide (0 ≤ r.1) && decide (r.1 ≤ 18) && decide (0 ≤ r.2) && decide (r.2 < ((2 ^ xBits r.1 : Nat) : Int)) && decide (timesR r ≤ n - (out.length : Int))
/-- What runs are unfolded to, behind those that stand. -/
def unF (n : Int) (out : List Int) : List (Int × Int) → Option (List Int)
  | [] => if (out.length : Int) = n then some out else none
  | r :: rs => if runB n out r = true then unF n (out ++ List.replicate (timesR r).toNat (valR out r.1)) rs else none
def unO (rs : List (Int × Int)) (n : Int) : List Int := (unF n [] rs).getD []
def unB (rs : List (Int × Int)) (n : Int) : Bool := (unF n [] rs).isSome

theorem runB_iff (n : Int) (out : List Int) (r : Int × Int) : runB n out r = true ↔ (¬ (r.1 = 16 ∧ out = []) ∧ 0 ≤ r.1 ∧ r.1 ≤ 18 ∧ 0 ≤ r.2 ∧ r.2 < ((2 ^ xBits r.1 : Nat) : Int) ∧ timesR r ≤ n - (out.length : Int)) := by
  unfold runB
  simp only [Bool.and_eq_true, Bool.not_eq_true', decide_eq_true_eq, and_assoc]
  have e : ((decide (r.1 = 16) && out.isEmpty) = false) ↔ ¬ (r.1 = 16 ∧ out = []) := by
    cases out with
    | nil => simp
    | cons a b => simp
  rw [e]

theorem unF_length (n : Int) : ∀ (rs : List (Int × Int)) (out o : List Int), unF n out rs = some o → (o.length : Int) = n
  | [], out, o, h => by
    unfold unF at h
    split at h
    · rename_i h2; injection h with h; rw [← h]; exact h2
    · cases h
  | r :: rs, out, o, h => by
    unfold unF at h
    split at h
    · exact unF_length n rs _ o h
    · cases h

theorem xb16 : xBits 16 = 2 := by decide
theorem xb17 : xBits 17 = 3 := by decide
theorem xb18 : xBits 18 = 7 := by decide
theorem tm16 (e : Int) : timesR (16, e) = 3 + e := by simp [timesR]
theorem tm17 (e : Int) : timesR (17, e) = 3 + e := by simp [timesR]
theorem tm18 (e : Int) : timesR (18, e) = 11 + e := by simp [timesR]
theorem vl16 (out : List Int) : valR out 16 = out.getLastD 0 := by simp [valR]
theorem vl17 (out : List Int) : valR out 17 = 0 := by simp [valR]
theorem vl18 (out : List Int) : valR out 18 = 0 := by simp [valR]
theorem plain_run (x : Int) (h : x ≠ 16) (h2 : x ≠ 17) (h3 : x ≠ 18) : xBits x = 0 ∧ (∀ e, timesR (x, e) = 1) ∧ (∀ out, valR out x = x) := by
  refine ⟨?_, ?_, ?_⟩
  · unfold xBits; rw [if_neg h, if_neg h2, if_neg h3]
  · intro e; unfold timesR; rw [if_neg h, if_neg h2, if_neg h3]
  · intro out; unfold valR; rw [if_neg h, if_neg h2, if_neg h3]

/-- A run of a fold is unfolded to what it took. -/
theorem run_back (n : Int) (p : Option Int) (x : Int) (h : Nat) (out : List Int) (hx0 : 0 ≤ x) (hx : x ≤ 15) (hh : 1 ≤ h) (hp : ∀ y, p = some y → ∃ o, out = o ++ [y]) (hn : (out.length : Int) + (h : Int) ≤ n) :
    runB n out (stepF p x h).1 = true ∧ (timesR (stepF p x h).1).toNat = (stepF p x h).2 ∧ valR out (stepF p x h).1.1 = x := by
  unfold stepF
  by_cases c1 : x = 0 ∧ 11 ≤ h
  · rw [if_pos c1]
    dsimp only
    refine ⟨?_, ?_, ?_⟩
    · rw [runB_iff, tm18]
      dsimp only
      rw [xb18]
      omega
    · rw [tm18]
      omega
    · rw [vl18]
      omega
  · rw [if_neg c1]
    by_cases c2 : x = 0 ∧ 3 ≤ h
    · rw [if_pos c2]
      dsimp only
      refine ⟨?_, ?_, ?_⟩
      · rw [runB_iff, tm17]
        dsimp only
        rw [xb17]
        omega
      · rw [tm17]
        omega
      · rw [vl17]
        omega
    · rw [if_neg c2]
      by_cases c3 : p = some x ∧ 3 ≤ h
      · rw [if_pos c3]
        dsimp only
        obtain ⟨o, ho⟩ := hp x c3.1
        refine ⟨?_, ?_, ?_⟩
        · rw [runB_iff, tm16]
          dsimp only
          rw [xb16]
          refine ⟨?_, by omega⟩
          rintro ⟨_, e⟩
          rw [ho] at e
          simp at e
        · rw [tm16]
          omega
        · rw [vl16, ho]
          simp
      · rw [if_neg c3]
        dsimp only
        obtain ⟨b1, b2, b3⟩ := plain_run x (by omega) (by omega) (by omega)
        refine ⟨?_, ?_, ?_⟩
        · rw [runB_iff, b2]
          dsimp only
          rw [b1]
          omega
        · rw [b2]
          rfl
        · exact b3 out

/-- What is folded is unfolded. -/
theorem un_fold (n : Int) : ∀ (rs : List (Int × Int)) (p : Option Int) (l out : List Int) (rest : List (Int × Int)), Folds p l rs → (∀ x ∈ l, 0 ≤ x ∧ x ≤ 15) → (∀ y, p = some y → ∃ o, out = o ++ [y]) → (out.length : Int) + (l.length : Int) ≤ n → unF n out (rs ++ rest) = unF n (out ++ l) rest
  | [], p, l, out, rest, h, _, _, _ => by
    have h : l = [] := h
    rw [h, List.nil_append, List.append_nil]
  | r :: rs, p, l, out, rest, h, hv, hp, hn => by
    obtain ⟨x, t, e, e1, f⟩ := h
    have hx := hv x (by rw [e]; exact List.mem_cons_self)
    have h1 := head_pos x t
    rw [← e] at h1
    have h2 := head_le x l
    have h3 := step_takes p x _ h1
    obtain ⟨g1, g2, g3⟩ := run_back n p x (headN x l) out hx.1 hx.2 h1 hp (by omega)
    have h4 := head_take x l (stepF p x (headN x l)).2 h3.2
    rw [← e1] at g1 g2 g3
    generalize (stepF p x (headN x l)).2 = k at *
    rw [List.cons_append]
    show (if runB n out r = true then unF n (out ++ List.replicate (timesR r).toNat (valR out r.1)) (rs ++ rest) else none) = _
    rw [if_pos g1, g2, g3]
    have ih := un_fold n rs (some x) (l.drop k) (out ++ List.replicate k x) rest f (fun y hy => hv y (List.mem_of_mem_drop hy)) (fun y hy => by
      injection hy with hy
      subst hy
      obtain ⟨j, hj⟩ : ∃ j, k = j + 1 := ⟨k - 1, by omega⟩
      exact ⟨out ++ List.replicate j x, by rw [hj, List.append_assoc, List.replicate_succ']⟩) (by rw [List.length_append, List.length_replicate, List.length_drop]; omega)
    rw [ih, List.append_assoc, ← h4]

theorem back_all (l : List Int) (rs : List (Int × Int)) (h : Folds none l rs) (hv : ∀ x ∈ l, 0 ≤ x ∧ x ≤ 15) : unF (l.length : Int) [] rs = some l := by
  have h1 := un_fold (l.length : Int) rs none l [] [] h hv (fun y hy => by cases hy) (by simp)
  rw [List.append_nil, List.nil_append] at h1
  rw [h1]
  show (if _ then some l else none) = _
  rw [if_pos rfl]
theorem back_two (a b : List Int) (ra rb : List (Int × Int)) (ha : Folds none a ra) (hb : Folds none b rb) (hva : ∀ x ∈ a, 0 ≤ x ∧ x ≤ 15) (hvb : ∀ x ∈ b, 0 ≤ x ∧ x ≤ 15) : unF ((a ++ b).length : Int) [] (ra ++ rb) = some (a ++ b) := by
  have h1 := un_fold ((a ++ b).length : Int) ra none a [] rb ha hva (fun y hy => by cases hy) (by rw [List.length_append]; simp; omega)
  have h2 := un_fold ((a ++ b).length : Int) rb none b a [] hb hvb (fun y hy => by cases hy) (by rw [List.length_append]; omega)
  rw [List.append_nil] at h2
  rw [List.nil_append] at h1
  rw [h1, h2]
  show (if _ then some (a ++ b) else none) = _
  rw [if_pos rfl]

/-! ### How many runs -/
theorem few_other (v : Int) (hv : v ≠ 0) : ∀ (rs : List (Int × Int)) (m : Nat), Folds (some v) (List.replicate m v) rs → rs.length ≤ m / 6 + 2
  | [], m, _ => Nat.zero_le _
  | r :: rs, m, h => by
    have hl := Folds.length _ _ _ h
    rw [List.length_replicate] at hl
    obtain ⟨x, t, e, e1, f⟩ := h
    obtain ⟨k, rfl⟩ : ∃ k, m = k + 1 := by
      cases m with
      | zero => cases e
      | succ k => exact ⟨k, rfl⟩
    rw [List.replicate_succ] at e
    injection e with ex _
    subst ex
    rw [head_rep] at f
    unfold stepF at f
    rw [if_neg (fun h => hv h.1), if_neg (fun h => hv h.1)] at f
    by_cases c : 3 ≤ k + 1
    · rw [if_pos (And.intro rfl c)] at f
      dsimp only at f
      rw [List.drop_replicate] at f
      have ih := few_other v hv rs _ f
      have ih2 := Folds.length _ _ _ f
      rw [List.length_replicate] at ih2
      rw [List.length_cons]
      omega
    · rw [List.length_cons] at hl ⊢
      omega
theorem few_none (v : Int) (hv : v ≠ 0) (rs : List (Int × Int)) (m : Nat) (h : Folds none (List.replicate m v) rs) : rs.length ≤ m / 6 + 3 := by
  cases rs with
  | nil => exact Nat.zero_le _
  | cons r rs =>
    obtain ⟨x, t, e, e1, f⟩ := h
    obtain ⟨k, rfl⟩ : ∃ k, m = k + 1 := by
      cases m with
      | zero => cases e
      | succ k => exact ⟨k, rfl⟩
    rw [List.replicate_succ] at e
    injection e with ex _
    subst ex
    rw [head_rep] at f
    unfold stepF at f
    rw [if_neg (fun h => hv h.1), if_neg (fun h => hv h.1), if_neg (fun h => by cases h.1)] at f
    dsimp only at f
    rw [List.drop_replicate] at f
    have ih := few_other v hv rs _ f
    rw [List.length_cons]
    omega
theorem few_nought : ∀ (rs : List (Int × Int)) (p : Option Int) (m : Nat), Folds p (List.replicate m 0) rs → rs.length ≤ m / 138 + 2
  | [], _, _, _ => Nat.zero_le _
  | r :: rs, p, m, h => by
    have hl := Folds.length _ _ _ h
    rw [List.length_replicate] at hl
    obtain ⟨x, t, e, e1, f⟩ := h
    obtain ⟨k, rfl⟩ : ∃ k, m = k + 1 := by
      cases m with
      | zero => cases e
      | succ k => exact ⟨k, rfl⟩
    rw [List.replicate_succ] at e
    injection e with ex _
    subst ex
    rw [head_rep] at f
    unfold stepF at f
    by_cases c : 11 ≤ k + 1
    · rw [if_pos (And.intro rfl c)] at f
      dsimp only at f
      rw [List.drop_replicate] at f
      have ih := few_nought rs _ _ f
      have ih2 := Folds.length _ _ _ f
      rw [List.length_replicate] at ih2
      rw [List.length_cons]
      omega
    · rw [if_neg (fun h => c h.2)] at f
      by_cases c2 : 3 ≤ k + 1
      · rw [if_pos (And.intro rfl c2)] at f
        dsimp only at f
        rw [List.drop_replicate] at f
        have ih2 := Folds.length _ _ _ f
        rw [List.length_replicate] at ih2
        rw [List.length_cons]
        omega
      · rw [List.length_cons] at hl ⊢
        omega

end Go.Proofs.YtaalbaiglkadlaaGreat

/- Rows of runs: slices that came in, rows that a call owns. Nothing of the program is named here, but its types. -/
namespace Go.Proofs.YtaalbaiglkadlaaGreat
open Go.RowKit Go.Lib Go.Deep

theorem Tryz.infoRun : (Tryz.prog.info? 122).map (fun i => (i.zero, i.size, i.bytes)) = some (some (.agg #[.int .i64 0, .int .i64 0]), 2, 16) := by kernel_rfl

def runCs (l : List (Int × Int)) : List Value := l.flatMap fun p => [Value.int .i64 p.1, Value.int .i64 p.2]
theorem runCs_length (l : List (Int × Int)) : (runCs l).length = l.length * 2 := by
  induction l with
  | nil => rfl
  | cons p l ih => simp only [runCs, List.flatMap_cons, List.length_append, List.length_cons] at ih ⊢; simp only [List.length_nil]; omega
theorem runCs_cons (p : Int × Int) (l : List (Int × Int)) : runCs (p :: l) = Value.int .i64 p.1 :: Value.int .i64 p.2 :: runCs l := rfl
theorem runCs_append (a b : List (Int × Int)) : runCs (a ++ b) = runCs a ++ runCs b := by simp [runCs]
theorem runCs_get (l : List (Int × Int)) : ∀ (i : Nat) (s e : Int), l[i]? = some (s, e) → (runCs l)[i * 2]? = some (.int .i64 s) ∧ (runCs l)[i * 2 + 1]? = some (.int .i64 e) := by
  induction l with
  | nil => intro i s e h; simp at h
  | cons p l ih =>
    intro i s e h
    rw [runCs_cons]
    cases i with
    | zero =>
      simp at h
      subst h
      exact ⟨rfl, rfl⟩
    | succ i =>
      rw [List.getElem?_cons_succ] at h
      rw [show (i + 1) * 2 = i * 2 + 1 + 1 by omega, List.getElem?_cons_succ, List.getElem?_cons_succ, List.getElem?_cons_succ, List.getElem?_cons_succ]
      exact ih i s e h
theorem runCs_one (l : List (Int × Int)) : ∀ u ∈ runCs l, u.oneCell' = true := by
  intro u hu
  obtain ⟨p, _, hp⟩ := List.mem_flatMap.1 hu
  simp only [List.mem_cons, List.not_mem_nil, or_false] at hp
  rcases hp with rfl | rfl <;> rfl
/-- A slice holds these runs. -/
def ArgR (w : World) (a : Option Addr) (l : List (Int × Int)) : Prop := ∀ (i : Nat) (s e : Int), l[i]? = some (s, e) → ∃ b off, a = some ⟨b, off, none⟩ ∧ b < w.heap.size ∧ w.cell? ⟨b, off + i * 2, none⟩ = some (.int .i64 s) ∧ w.cell? ⟨b, off + i * 2 + 1, none⟩ = some (.int .i64 e)

theorem ArgR.below {w w' : World} {a : Option Addr} {l : List (Int × Int)} (h : ArgR w a l) {B : Nat} (b : Below B w w') (hB : w.heap.size ≤ B) : ArgR w' a l := by
  intro i s e hx
  obtain ⟨b0, off, h1, h2, h3, h4⟩ := h i s e hx
  refine ⟨b0, off, h1, Nat.lt_of_lt_of_le h2 b.size, ?_, ?_⟩
  · rw [b.cell (p := ⟨b0, off + i * 2, none⟩) (Nat.lt_of_lt_of_le h2 hB)]; exact h3
  · rw [b.cell (p := ⟨b0, off + i * 2 + 1, none⟩) (Nat.lt_of_lt_of_le h2 hB)]; exact h4
theorem ArgZ.belowB {w w' : World} {a : Option Addr} {l : List Int} (h : ArgZ w a l) {B : Nat} (b : Below B w w') (hB : w.heap.size ≤ B) : ArgZ w' a l := h.below (b.mono hB)

theorem own_argR {w : World} {B n : Nat} {v : Value} {l : List (Int × Int)} (h : w.ownsRow B 122 2 v n (runCs l)) (hl : l.length = n) : ∃ a c, v = .slice a n c ∧ ArgR w a l ∧ (a = none → n = 0 ∧ c = 0) := by
  rcases len_form h with ⟨e1, e2⟩ | ⟨g, c, e1⟩
  · subst e2
    refine ⟨none, 0, e1, fun i s e hx => ?_, fun _ => ⟨rfl, rfl⟩⟩
    rw [List.length_eq_zero_iff.1 hl] at hx
    simp at hx
  · subst e1
    refine ⟨_, c, rfl, fun i s e hx => ?_, fun e => by cases e⟩
    have hi : i < l.length := (List.getElem?_eq_some_iff.1 hx).1
    have hg := runCs_get l i s e hx
    refine ⟨g, 0, rfl, (h.lt g rfl).2, ?_, ?_⟩
    · rw [Nat.zero_add, h.cellAt (i * 2) (by omega)]; exact hg.1
    · rw [Nat.zero_add, h.cellAt (i * 2 + 1) (by omega)]; exact hg.2
theorem own_argI {w : World} {B n : Nat} {v : Value} {l : List Int} (h : w.ownsRow B 3 1 v n (intCs l)) (hl : l.length = n) : ∃ a c, v = .slice a n c ∧ ArgZ w a l ∧ (a = none → n = 0 ∧ c = 0) := by
  rcases len_form h with ⟨e1, e2⟩ | ⟨g, c, e1⟩
  · subst e2
    refine ⟨none, 0, e1, fun i x hx => ?_, fun _ => ⟨rfl, rfl⟩⟩
    rw [List.length_eq_zero_iff.1 hl] at hx
    simp at hx
  · subst e1
    refine ⟨_, c, rfl, fun i x hx => ?_, fun e => by cases e⟩
    have hi : i < l.length := (List.getElem?_eq_some_iff.1 hx).1
    subst hl
    exact ⟨g, 0, rfl, (h.lt g rfl).2, by rw [Nat.zero_add]; exact (own_int h hx).1⟩
theorem getZ? (l : List Int) (i : Nat) (h : i < l.length) : ∃ x, l[i]? = some x := ⟨_, List.getElem?_eq_getElem h⟩
theorem intCs_append (a b : List Int) : intCs a ++ intCs b = intCs (a ++ b) := by simp [intCs]

end Go.Proofs.YtaalbaiglkadlaaGreat

/- Contracts of the document's 'Bits', 'Order' and 'same' of layer 7. -/
namespace Go.Proofs.YtaalbaiglkadlaaGreat
open Go.RowKit Go.Lib

/-- The order of the code lengths' own lengths. -/
def orderCs : List Value := [.int .i64 16, .int .i64 17, .int .i64 18, .int .i64 0, .int .i64 8, .int .i64 7, .int .i64 9, .int .i64 6, .int .i64 10, .int .i64 5, .int .i64 11, .int .i64 4, .int .i64 12, .int .i64 3, .int .i64 13, .int .i64 2, .int .i64 14, .int .i64 1, .int .i64 15]

/-- An array that is built of constants. -/
theorem wpList_builtK {P : Program} {ops : Array Oper} {rest : List Oper} {o : Oper} {a : Act} {w : World} {Q : Exit → Act → World → Prop} (hg : o.guard = none) (t : TypeId) (cs : List (Nat × Value)) (ho : o.op = .build t (cs.map fun p => (p.1, Operand.const p.2)).toArray)
    (cells : Array Value) (hc : P.built t cs = some cells)
    (h : wpList P ops Q rest (a.put o.dst (.agg cells)) w) : wpList P ops Q (o :: rest) a w := by
  have hp : ((cs.map fun p => (p.1, Operand.const p.2)).toArray.map fun (i, x) => (i, a.eval x)).toList = cs := by
    simp [Function.comp_def, Act.eval]
  exact wpList_build hg t _ ho (by rw [hp, hc]; rfl) (by rw [hp, hc]; exact h)

theorem Tryz.sizeOrder : (Tryz.prog.info? 119).map (·.size) = some 19 := by kernel_rfl
def orderPs : List (Nat × Value) := [(0, .int .i64 16), (1, .int .i64 17), (2, .int .i64 18), (3, .int .i64 0), (4, .int .i64 8), (5, .int .i64 7), (6, .int .i64 9), (7, .int .i64 6), (8, .int .i64 10), (9, .int .i64 5), (10, .int .i64 11), (11, .int .i64 4), (12, .int .i64 12), (13, .int .i64 3), (14, .int .i64 13), (15, .int .i64 2), (16, .int .i64 14), (17, .int .i64 1), (18, .int .i64 15)]
theorem Tryz.builtOrder : Tryz.prog.built 119 orderPs = some orderCs.toArray := by kernel_rfl
theorem orderCs_one : ∀ u ∈ orderCs, u.oneCell' = true := by
  intro u hu
  unfold orderCs at hu
  simp only [List.mem_cons, List.not_mem_nil, or_false] at hu
  rcases hu with rfl | rfl | rfl | rfl | rfl | rfl | rfl | rfl | rfl | rfl | rfl | rfl | rfl | rfl | rfl | rfl | rfl | rfl | rfl <;> rfl
theorem Tryz.zeroOrder : ∃ Z : List Value, Z.length = 19 ∧ ∀ w : World, (zeroValue 119).run Tryz.prog w = .ok (.agg Z.toArray) w := by
  have h : (Tryz.prog.info? 119).map (·.zero) = some (some (.agg (List.replicate 19 (.int .i64 0)).toArray)) := by kernel_rfl
  refine ⟨List.replicate 19 (.int .i64 0), by simp, fun w => ?_⟩
  cases hq : Tryz.prog.info? 119 with
  | none => rw [hq] at h; cases h
  | some i =>
    rw [hq] at h
    have hz : i.zero = some (.agg (List.replicate 19 (.int .i64 0)).toArray) := by simpa using h
    simp [zeroValue, typeInfo, hq, hz]
theorem order_store (w : World) (Z cs : List Value) (hz : Z.length = 19) (hn : cs.length = 19) (h1 : ∀ v ∈ cs, v.oneCell' = true) :
    (storeCells ⟨w.heap.size, 0, none⟩ cs).run Tryz.prog (w.alloc (.cells Z.toArray 119)) = .ok () (w.alloc (.cells cs.toArray 119)) := by
  have h := run_storeCells_new (P := Tryz.prog) w 119 Z.toArray cs.toArray (by rw [List.size_toArray, hn]; exact Tryz.sizeOrder) (by rw [List.size_toArray, List.size_toArray, hn, hz]) (all_oneCell_toArray h1)
  exact h
theorem order_range (w : World) (cs : List Value) : (w.alloc (.cells cs.toArray 119)).rangeAt w.heap.size 0 cs := by
  intro j v hv
  have hh : (w.alloc (.cells cs.toArray 119)).heap[w.heap.size]? = some (.cells cs.toArray 119 (0, 0)) := by show (w.heap.push _)[w.heap.size]? = _; simp
  rw [Nat.zero_add, cell_of_row _ _ j _ _ (0, 0) hh, List.getElem?_toArray]
  exact hv
theorem order_load {w : World} {P : Nat} {cs : List Value} (h : w.rangeAt P 0 cs) (hn : cs.length = 19) : (loadVar 119 ⟨P, 0, none⟩).run Tryz.prog w = .ok (.agg cs.toArray) w :=
  run_loadVar_mid w P 0 119 cs _ h Tryz.underlying119 rfl (by rw [hn]; exact Tryz.sizeOrder)

end Go.Proofs.YtaalbaiglkadlaaGreat

/- Contract of the document's 'Fold' of layer 7. -/
namespace Go.Proofs.YtaalbaiglkadlaaGreat
open Go.RowKit Go.Lib

/-- What stands ahead of a place. -/
def prevAt (l : List Int) (i : Nat) : Option Int := if i = 0 then none else l[i - 1]?
theorem drop_at (l : List Int) (i : Nat) (x : Int) (h : l[i]? = some x) : ∃ t, l.drop i = x :: t := by
  obtain ⟨hi, e⟩ := List.getElem?_eq_some_iff.1 h
  exact ⟨l.drop (i + 1), by rw [List.drop_eq_getElem_cons hi, e]⟩
/-- The next run. -/
theorem fold_next (l : List Int) (i : Nat) (x : Int) (out : List (Int × Int)) (hx : l[i]? = some x) (hf : ∀ rs, Folds (prevAt l i) (l.drop i) rs → Folds none l (out ++ rs)) (r : Int × Int) (K : Nat)
    (hr : stepF (prevAt l i) x (headN x (l.drop i)) = (r, K)) : 1 ≤ K ∧ i + K ≤ l.length ∧ ∀ rs, Folds (prevAt l (i + K)) (l.drop (i + K)) rs → Folds none l ((out ++ [r]) ++ rs) := by
  obtain ⟨t, ht⟩ := drop_at l i x hx
  have h1 := head_pos x t
  rw [← ht] at h1
  have h2 := head_le x (l.drop i)
  have h3 := step_takes (prevAt l i) x _ h1
  rw [hr] at h3
  rw [List.length_drop] at h2
  have hi := (List.getElem?_eq_some_iff.1 hx).1
  refine ⟨h3.1, by have := h3.2; omega, fun rs h => ?_⟩
  have hp : prevAt l (i + K) = some x := by
    have h4 := head_get x (l.drop i) (K - 1) (by have := h3.1; have := h3.2; omega)
    rw [List.getElem?_drop] at h4
    unfold prevAt
    rw [if_neg (by have := h3.1; omega), show i + K - 1 = i + (K - 1) by have := h3.1; omega]
    exact h4
  rw [hp] at h
  rw [List.append_assoc]
  refine hf _ ⟨x, t, ht, by rw [hr], ?_⟩
  rw [hr, List.drop_drop]
  exact h

/-- The runs under way. -/
structure FoldW (w W : World) (l : List Int) (i : Nat) (out : List (Int × Int)) (v : Value) : Prop where
  own : w.ownsRow W.heap.size 122 2 v out.length (runCs out)
  bel : Below W.heap.size W w
  fold : ∀ rs, Folds (prevAt l i) (l.drop i) rs → Folds none l (out ++ rs)
  len : out.length ≤ i

theorem FoldW.below {w w' W : World} {l : List Int} {i : Nat} {out : List (Int × Int)} {v : Value} (h : FoldW w W l i out v) (b : Below w.heap.size w w') : FoldW w' W l i out v :=
  ⟨own_below h.own b (Nat.le_refl _), h.bel.trans (b.mono h.bel.size), h.fold, h.len⟩
theorem FoldW.drewN {w W : World} {l : List Int} {i : Nat} {out : List (Int × Int)} {v : Value} (h : FoldW w W l i out v) (n : Nat) : FoldW (w.drewN n) W l i out v := h.below (below_drewN (Below.refl _ _) n)
theorem FoldW.app {w w' W : World} {l : List Int} {i : Nat} {out : List (Int × Int)} {v v' : Value} (h : FoldW w W l i out v) (x : Int) (hx : l[i]? = some x) (r : Int × Int) (K : Nat) (hr : stepF (prevAt l i) x (headN x (l.drop i)) = (r, K)) (o : Obj)
    (ho : w'.ownsRow W.heap.size 122 2 v' (out.length + 1) (runCs out ++ [.int .i64 r.1, .int .i64 r.2])) (hg : (w.alloc o).grownBy w' v.ownBlock) : FoldW w' W l (i + K) (out ++ [r]) v' := by
  obtain ⟨h1, h2, h3⟩ := fold_next l i x out hx h.fold r K hr
  refine ⟨?_, Below.grownB (h.bel.alloc h.bel.size _) hg (h.own.alloc o) (size_alloc_le h.bel.size), h3, ?_⟩
  · rw [List.length_append, runCs_append]
    exact ho
  · rw [List.length_append]
    have := h.len
    show out.length + 1 ≤ i + K
    omega

/-- What a fold gives. -/
def FoldPost (W : World) (l : List Int) (e : Ending) (w' : World) : Prop := ∃ a c rs, e = .returned (.slice a (rs : List (Int × Int)).length c) ∧ FoldRes l rs ∧ ArgR w' a rs ∧ (a = none → c = 0) ∧ Below W.heap.size W w'
/-- The same, and what it gives is new. -/
def FoldNew (W : World) (l : List Int) (e : Ending) (w' : World) : Prop := ∃ a c rs, e = .returned (.slice a (rs : List (Int × Int)).length c) ∧ FoldRes l rs ∧ ArgR w' a rs ∧ (a = none → c = 0) ∧ Below W.heap.size W w' ∧ ∀ b off, a = some ⟨b, off, none⟩ → W.heap.size ≤ b
theorem FoldNew.post {W : World} {l : List Int} {e : Ending} {w' : World} (h : FoldNew W l e w') : FoldPost W l e w' := by
  obtain ⟨a, c, rs, h1, h2, h3, h4, h5, _⟩ := h
  exact ⟨a, c, rs, h1, h2, h3, h4, h5⟩

theorem FoldW.done {w W : World} {l : List Int} {out : List (Int × Int)} {v : Value} (h : FoldW w W l l.length out v) (hl : lenB l = true) : FoldNew W l (.returned v) w := by
  obtain ⟨a, c, e, h1, h2⟩ := own_argR h.own rfl
  have h3 := h.fold [] (by show l.drop l.length = []; simp)
  rw [List.append_nil] at h3
  refine ⟨a, c, out, by rw [e], .inl ⟨hl, h3⟩, h1, fun e => (h2 e).2, h.bel, ?_⟩
  intro b off e1
  subst e1
  have h4 := h.own
  rw [e] at h4
  exact (h4.lt b rfl).1

theorem meas_add (i K n : Nat) (h : 1 ≤ K) (h2 : i + K ≤ n) : n - (intOf (.int .i64 ((i : Int) + (K : Int)))).toNat < n - (intOf (.int .i64 (i : Int))).toNat := by
  show n - ((i : Int) + (K : Int)).toNat < n - ((i : Nat) : Int).toNat
  omega

end Go.Proofs.YtaalbaiglkadlaaGreat
