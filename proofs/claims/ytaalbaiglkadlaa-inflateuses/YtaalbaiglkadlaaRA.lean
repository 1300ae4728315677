import Derived.WalkKit
import Derived.Test.YtaalbaiglkadlaaIRow
import Derived.Test.YtaalbaiglkadlaaWC
import Derived.Laws.ResultCell
import Derived.Laws.Tables
import Derived.Deep.WholeRow
import Derived.Deep.MidRow
import Derived.BigQuiet
/- Code lengths as runs, plainly: what they are folded to, what they are unfolded to, and that the one undoes the other. Nothing of the program is named here. -/
namespace Go.Proofs.Ytaalbaiglkadlaa

/-- How many stand at the head that are x. -/
def headN (x : Int) : List Int → Nat
  | [] => 0
  | y :: r => if y = x then headN x r + 1 else 0
/-- The next run, behind p, of n that are x; and how many it takes. -/
def stepF (p : Option Int) (x : Int) (n : Nat) : (Int × Int) × Nat :=
  if x = 0 ∧ 11 ≤ n then ((18, ((min n 138 : Nat) : Int) - 11), min n 138)
  else if x = 0 ∧ 3 ≤ n then ((17, (n : Int) - 3), n)
  else if p = some x ∧ 3 ≤ n then ((16, ((min n 6 : Nat) : Int) - 3), min n 6)
  else ((x, 0), 1)
/-- Behind p, the lengths l are these runs. -/
def Folds : Option Int → List Int → List (Int × Int) → Prop
  | _, l, [] => l = []
  | p, l, r :: rs => ∃ x t, l = x :: t ∧ r = (stepF p x (headN x l)).1 ∧ Folds (some x) (l.drop (stepF p x (headN x l)).2) rs
/-- Lengths that may be. -/
def lenB (l : List Int) : Bool := l.all fun x => decide (0 ≤ x) && decide (x ≤ 15)
/-- What lengths are folded to. -/
def FoldRes (l : List Int) (rs : List (Int × Int)) : Prop := (lenB l = true ∧ Folds none l rs) ∨ (lenB l = false ∧ rs = [])

theorem lenB_iff (l : List Int) : lenB l = true ↔ ∀ x ∈ l, 0 ≤ x ∧ x ≤ 15 := by
  unfold lenB
  simp only [List.all_eq_true, Bool.and_eq_true, decide_eq_true_eq]

theorem Folds.uniq : ∀ (rs rs' : List (Int × Int)) (p : Option Int) (l : List Int), Folds p l rs → Folds p l rs' → rs = rs'
  | [], [], _, _, _, _ => rfl
  | [], r :: rs, p, l, h, h2 => by
    obtain ⟨x, t, e, _⟩ := h2
    have h : l = [] := h
    rw [h] at e
    cases e
  | r :: rs, [], p, l, h, h2 => by
    obtain ⟨x, t, e, _⟩ := h
    have h2 : l = [] := h2
    rw [h2] at e
    cases e
  | r :: rs, r' :: rs', p, l, h, h2 => by
    obtain ⟨x, t, e, e1, f1⟩ := h
    obtain ⟨x', t', e', e1', f1'⟩ := h2
    rw [e] at e'
    injection e' with ex _
    subst ex
    rw [e1, e1', Folds.uniq rs rs' _ _ f1 f1']
theorem FoldRes.uniq {l : List Int} {rs rs' : List (Int × Int)} (h : FoldRes l rs) (h2 : FoldRes l rs') : rs = rs' := by
  rcases h with ⟨a, b⟩ | ⟨a, b⟩
  · rcases h2 with ⟨c, d⟩ | ⟨c, d⟩
    · exact Folds.uniq _ _ _ _ b d
    · rw [a] at c; cases c
  · rcases h2 with ⟨c, d⟩ | ⟨c, d⟩
    · rw [a] at c; cases c
    · rw [b, d]

/-! ### The head -/
theorem head_le (x : Int) : ∀ l, headN x l ≤ l.length
  | [] => Nat.le_refl _
  | y :: r => by
    unfold headN
    have := head_le x r
    split
    · rw [List.length_cons]; omega
    · omega
theorem head_pos (x : Int) (r : List Int) : 1 ≤ headN x (x :: r) := by
  unfold headN
  rw [if_pos rfl]
  omega
theorem head_take (x : Int) : ∀ (l : List Int) (k : Nat), k ≤ headN x l → l = List.replicate k x ++ l.drop k
  | l, 0, _ => by simp
  | [], k + 1, h => by unfold headN at h; omega
  | y :: r, k + 1, h => by
    unfold headN at h
    by_cases e : y = x
    · rw [if_pos e] at h
      have ih := head_take x r k (by omega)
      rw [List.replicate_succ, List.cons_append, List.drop_succ_cons, ← ih, e]
    · rw [if_neg e] at h
      omega
theorem head_get (x : Int) : ∀ (l : List Int) (k : Nat), k < headN x l → l[k]? = some x
  | [], k, h => by unfold headN at h; omega
  | y :: r, k, h => by
    unfold headN at h
    by_cases e : y = x
    · rw [if_pos e] at h
      cases k with
      | zero => rw [e]; rfl
      | succ k => rw [List.getElem?_cons_succ]; exact head_get x r k (by omega)
    · rw [if_neg e] at h; omega
theorem head_stop (x : Int) : ∀ (l : List Int), headN x l < l.length → l[headN x l]? ≠ some x
  | [], h => by simp at h
  | y :: r, h => by
    unfold headN at h ⊢
    by_cases e : y = x
    · rw [if_pos e] at h ⊢
      rw [List.getElem?_cons_succ]
      exact head_stop x r (by rw [List.length_cons] at h; omega)
    · rw [if_neg e]
      intro h2
      injection h2 with h2
      exact e h2
/-- The head is told by where it ends. -/
theorem head_eq (x : Int) (l : List Int) (k : Nat) (hk : k ≤ l.length) (h1 : ∀ i, i < k → l[i]? = some x) (h2 : k = l.length ∨ l[k]? ≠ some x) : headN x l = k := by
  have h3 := head_le x l
  refine Classical.byContradiction fun hne => ?_
  by_cases h : headN x l < k
  · exact head_stop x l (by omega) (h1 _ h)
  · have h4 := head_get x l k (by omega)
    rcases h2 with h5 | h5
    · omega
    · exact h5 h4
theorem head_rep (x : Int) : ∀ m, headN x (List.replicate m x) = m
  | 0 => rfl
  | m + 1 => by
    rw [List.replicate_succ]
    unfold headN
    rw [if_pos rfl, head_rep x m]

/-- A run takes one at least, and no more than there are. -/
theorem step_takes (p : Option Int) (x : Int) (n : Nat) (hn : 1 ≤ n) : 1 ≤ (stepF p x n).2 ∧ (stepF p x n).2 ≤ n := by
  unfold stepF
  split
  · simp only; omega
  · split
    · simp only; omega
    · split
      · simp only; omega
      · simp only; omega

theorem Folds.length : ∀ (rs : List (Int × Int)) (p : Option Int) (l : List Int), Folds p l rs → rs.length ≤ l.length
  | [], _, _, _ => Nat.zero_le _
  | r :: rs, p, l, h => by
    obtain ⟨x, t, e, e1, f⟩ := h
    have h1 := Folds.length rs _ _ f
    have h2 := head_pos x t
    rw [← e] at h2
    have h3 := step_takes p x _ h2
    have h4 := head_le x l
    rw [List.length_drop] at h1
    rw [List.length_cons]
    omega
theorem FoldRes.length {l : List Int} {rs : List (Int × Int)} (h : FoldRes l rs) : rs.length ≤ l.length := by
  rcases h with ⟨_, b⟩ | ⟨_, b⟩
  · exact Folds.length _ _ _ b
  · rw [b]; exact Nat.zero_le _

/-! ### Unfolding -/
def xBits (s : Int) : Nat := if s = 16 then 2 else if s = 17 then 3 else if s = 18 then 7 else 0
def timesR (r : Int × Int) : Int := if r.1 = 16 then 3 + r.2 else if r.1 = 17 then 3 + r.2 else if r.1 = 18 then 11 + r.2 else 1
def valR (out : List Int) (s : Int) : Int := if s = 16 then out.getLastD 0 else if s = 17 then 0 else if s = 18 then 0 else s
/-- A run that may be, of at most so many. -/
def runB (n : Int) (out : List Int) (r : Int × Int) : Bool := !(decide (r.1 = 16) && out.isEmpty) && decide (0 ≤ r.1) && decide (r.1 ≤ 18) && decide (0 ≤ r.2) && decide (r.2 < ((2 ^ xBits r.1 : Nat) : Int)) && decide (timesR r ≤ n - (out.length : Int))
/-- What runs are unfolded to, behind those that stand. -/
def unF (n : Int) (out : List Int) : List (Int × Int) → Option (List Int)
  | [] => if (out.length : Int) = n then some out else none
  | r :: rs => if runB n out r = true then unF n (out ++ List.replicate (timesR r).toNat (valR out r.1)) rs else none
def unO (rs : List (Int × Int)) (n : Int) : List Int := (unF n [] rs).getD []
def unB (rs : List (Int × Int)) (n : Int) : Bool := (unF n [] rs).isSome

theorem runB_iff (n : Int) (out : List Int) (r : Int × Int) : runB n out r = true ↔ (¬ (r.1 = 16 ∧ out = []) ∧ 0 ≤ r.1 ∧ r.1 ≤ 18 ∧ 0 ≤ r.2 ∧ r.2 < ((2 ^ xBits r.1 : Nat) : Int) ∧ timesR r ≤ n - (out.length : Int)) := by
  unfold runB
  simp only [Bool.and_eq_true, Bool.not_eq_true', decide_eq_true_eq, and_assoc]
  have e : ((decide (r.1 = 16) && out.isEmpty) = false) ↔ ¬ (r.1 = 16 ∧ out = []) := by
    cases out with
    | nil => simp
    | cons a b => simp
  rw [e]

theorem unF_length (n : Int) : ∀ (rs : List (Int × Int)) (out o : List Int), unF n out rs = some o → (o.length : Int) = n
  | [], out, o, h => by
    unfold unF at h
    split at h
    · rename_i h2; injection h with h; rw [← h]; exact h2
    · cases h
  | r :: rs, out, o, h => by
    unfold unF at h
    split at h
    · exact unF_length n rs _ o h
    · cases h

theorem xb16 : xBits 16 = 2 := by decide
theorem xb17 : xBits 17 = 3 := by decide
theorem xb18 : xBits 18 = 7 := by decide
theorem tm16 (e : Int) : timesR (16, e) = 3 + e := by simp [timesR]
theorem tm17 (e : Int) : timesR (17, e) = 3 + e := by simp [timesR]
theorem tm18 (e : Int) : timesR (18, e) = 11 + e := by simp [timesR]
theorem vl16 (out : List Int) : valR out 16 = out.getLastD 0 := by simp [valR]
theorem vl17 (out : List Int) : valR out 17 = 0 := by simp [valR]
theorem vl18 (out : List Int) : valR out 18 = 0 := by simp [valR]
theorem plain_run (x : Int) (h : x ≠ 16) (h2 : x ≠ 17) (h3 : x ≠ 18) : xBits x = 0 ∧ (∀ e, timesR (x, e) = 1) ∧ (∀ out, valR out x = x) := by
  refine ⟨?_, ?_, ?_⟩
  · unfold xBits; rw [if_neg h, if_neg h2, if_neg h3]
  · intro e; unfold timesR; rw [if_neg h, if_neg h2, if_neg h3]
  · intro out; unfold valR; rw [if_neg h, if_neg h2, if_neg h3]

/-- A run of a fold is unfolded to what it took. -/
theorem run_back (n : Int) (p : Option Int) (x : Int) (h : Nat) (out : List Int) (hx0 : 0 ≤ x) (hx : x ≤ 15) (hh : 1 ≤ h) (hp : ∀ y, p = some y → ∃ o, out = o ++ [y]) (hn : (out.length : Int) + (h : Int) ≤ n) :
    runB n out (stepF p x h).1 = true ∧ (timesR (stepF p x h).1).toNat = (stepF p x h).2 ∧ valR out (stepF p x h).1.1 = x := by
  unfold stepF
  by_cases c1 : x = 0 ∧ 11 ≤ h
  · rw [if_pos c1]
    dsimp only
    refine ⟨?_, ?_, ?_⟩
    · rw [runB_iff, tm18]
      dsimp only
      rw [xb18]
      omega
    · rw [tm18]
      omega
    · rw [vl18]
      omega
  · rw [if_neg c1]
    by_cases c2 : x = 0 ∧ 3 ≤ h
    · rw [if_pos c2]
      dsimp only
      refine ⟨?_, ?_, ?_⟩
      · rw [runB_iff, tm17]
        dsimp only
        rw [xb17]
        omega
      · rw [tm17]
        omega
      · rw [vl17]
        omega
    · rw [if_neg c2]
      by_cases c3 : p = some x ∧ 3 ≤ h
      · rw [if_pos c3]
        dsimp only
        obtain ⟨o, ho⟩ := hp x c3.1
        refine ⟨?_, ?_, ?_⟩
        · rw [runB_iff, tm16]
          dsimp only
          rw [xb16]
          refine ⟨?_, by omega⟩
          rintro ⟨_, e⟩
          rw [ho] at e
          simp at e
        · rw [tm16]
          omega
        · rw [vl16, ho]
          simp
      · rw [if_neg c3]
        dsimp only
        obtain ⟨b1, b2, b3⟩ := plain_run x (by omega) (by omega) (by omega)
        refine ⟨?_, ?_, ?_⟩
        · rw [runB_iff, b2]
          dsimp only
          rw [b1]
          omega
        · rw [b2]
          rfl
        · exact b3 out

/-- What is folded is unfolded. -/
theorem un_fold (n : Int) : ∀ (rs : List (Int × Int)) (p : Option Int) (l out : List Int) (rest : List (Int × Int)), Folds p l rs → (∀ x ∈ l, 0 ≤ x ∧ x ≤ 15) → (∀ y, p = some y → ∃ o, out = o ++ [y]) → (out.length : Int) + (l.length : Int) ≤ n → unF n out (rs ++ rest) = unF n (out ++ l) rest
  | [], p, l, out, rest, h, _, _, _ => by
    have h : l = [] := h
    rw [h, List.nil_append, List.append_nil]
  | r :: rs, p, l, out, rest, h, hv, hp, hn => by
    obtain ⟨x, t, e, e1, f⟩ := h
    have hx := hv x (by rw [e]; exact List.mem_cons_self)
    have h1 := head_pos x t
    rw [← e] at h1
    have h2 := head_le x l
    have h3 := step_takes p x _ h1
    obtain ⟨g1, g2, g3⟩ := run_back n p x (headN x l) out hx.1 hx.2 h1 hp (by omega)
    have h4 := head_take x l (stepF p x (headN x l)).2 h3.2
    rw [← e1] at g1 g2 g3
    generalize (stepF p x (headN x l)).2 = k at *
    rw [List.cons_append]
    show (if runB n out r = true then unF n (out ++ List.replicate (timesR r).toNat (valR out r.1)) (rs ++ rest) else none) = _
    rw [if_pos g1, g2, g3]
    have ih := un_fold n rs (some x) (l.drop k) (out ++ List.replicate k x) rest f (fun y hy => hv y (List.mem_of_mem_drop hy)) (fun y hy => by
      injection hy with hy
      subst hy
      obtain ⟨j, hj⟩ : ∃ j, k = j + 1 := ⟨k - 1, by omega⟩
      exact ⟨out ++ List.replicate j x, by rw [hj, List.append_assoc, List.replicate_succ']⟩) (by rw [List.length_append, List.length_replicate, List.length_drop]; omega)
    rw [ih, List.append_assoc, ← h4]

theorem back_all (l : List Int) (rs : List (Int × Int)) (h : Folds none l rs) (hv : ∀ x ∈ l, 0 ≤ x ∧ x ≤ 15) : unF (l.length : Int) [] rs = some l := by
  have h1 := un_fold (l.length : Int) rs none l [] [] h hv (fun y hy => by cases hy) (by simp)
  rw [List.append_nil, List.nil_append] at h1
  rw [h1]
  show (if _ then some l else none) = _
  rw [if_pos rfl]
theorem back_two (a b : List Int) (ra rb : List (Int × Int)) (ha : Folds none a ra) (hb : Folds none b rb) (hva : ∀ x ∈ a, 0 ≤ x ∧ x ≤ 15) (hvb : ∀ x ∈ b, 0 ≤ x ∧ x ≤ 15) : unF ((a ++ b).length : Int) [] (ra ++ rb) = some (a ++ b) := by
  have h1 := un_fold ((a ++ b).length : Int) ra none a [] rb ha hva (fun y hy => by cases hy) (by rw [List.length_append]; simp; omega)
  have h2 := un_fold ((a ++ b).length : Int) rb none b a [] hb hvb (fun y hy => by cases hy) (by rw [List.length_append]; omega)
  rw [List.append_nil] at h2
  rw [List.nil_append] at h1
  rw [h1, h2]
  show (if _ then some (a ++ b) else none) = _
  rw [if_pos rfl]

/-! ### How many runs -/
theorem few_other (v : Int) (hv : v ≠ 0) : ∀ (rs : List (Int × Int)) (m : Nat), Folds (some v) (List.replicate m v) rs → rs.length ≤ m / 6 + 2
  | [], m, _ => Nat.zero_le _
  | r :: rs, m, h => by
    have hl := Folds.length _ _ _ h
    rw [List.length_replicate] at hl
    obtain ⟨x, t, e, e1, f⟩ := h
    obtain ⟨k, rfl⟩ : ∃ k, m = k + 1 := by
      cases m with
      | zero => cases e
      | succ k => exact ⟨k, rfl⟩
    rw [List.replicate_succ] at e
    injection e with ex _
    subst ex
    rw [head_rep] at f
    unfold stepF at f
    rw [if_neg (fun h => hv h.1), if_neg (fun h => hv h.1)] at f
    by_cases c : 3 ≤ k + 1
    · rw [if_pos (And.intro rfl c)] at f
      dsimp only at f
      rw [List.drop_replicate] at f
      have ih := few_other v hv rs _ f
      have ih2 := Folds.length _ _ _ f
      rw [List.length_replicate] at ih2
      rw [List.length_cons]
      omega
    · rw [List.length_cons] at hl ⊢
      omega
theorem few_none (v : Int) (hv : v ≠ 0) (rs : List (Int × Int)) (m : Nat) (h : Folds none (List.replicate m v) rs) : rs.length ≤ m / 6 + 3 := by
  cases rs with
  | nil => exact Nat.zero_le _
  | cons r rs =>
    obtain ⟨x, t, e, e1, f⟩ := h
    obtain ⟨k, rfl⟩ : ∃ k, m = k + 1 := by
      cases m with
      | zero => cases e
      | succ k => exact ⟨k, rfl⟩
    rw [List.replicate_succ] at e
    injection e with ex _
    subst ex
    rw [head_rep] at f
    unfold stepF at f
    rw [if_neg (fun h => hv h.1), if_neg (fun h => hv h.1), if_neg (fun h => by cases h.1)] at f
    dsimp only at f
    rw [List.drop_replicate] at f
    have ih := few_other v hv rs _ f
    rw [List.length_cons]
    omega
theorem few_nought : ∀ (rs : List (Int × Int)) (p : Option Int) (m : Nat), Folds p (List.replicate m 0) rs → rs.length ≤ m / 138 + 2
  | [], _, _, _ => Nat.zero_le _
  | r :: rs, p, m, h => by
    have hl := Folds.length _ _ _ h
    rw [List.length_replicate] at hl
    obtain ⟨x, t, e, e1, f⟩ := h
    obtain ⟨k, rfl⟩ : ∃ k, m = k + 1 := by
      cases m with
      | zero => cases e
      | succ k => exact ⟨k, rfl⟩
    rw [List.replicate_succ] at e
    injection e with ex _
    subst ex
    rw [head_rep] at f
    unfold stepF at f
    by_cases c : 11 ≤ k + 1
    · rw [if_pos (And.intro rfl c)] at f
      dsimp only at f
      rw [List.drop_replicate] at f
      have ih := few_nought rs _ _ f
      have ih2 := Folds.length _ _ _ f
      rw [List.length_replicate] at ih2
      rw [List.length_cons]
      omega
    · rw [if_neg (fun h => c h.2)] at f
      by_cases c2 : 3 ≤ k + 1
      · rw [if_pos (And.intro rfl c2)] at f
        dsimp only at f
        rw [List.drop_replicate] at f
        have ih2 := Folds.length _ _ _ f
        rw [List.length_replicate] at ih2
        rw [List.length_cons]
        omega
      · rw [List.length_cons] at hl ⊢
        omega

end Go.Proofs.Ytaalbaiglkadlaa

/- Rows of runs: slices that came in, rows that a call owns. Nothing of the program is named here, but its types. -/
namespace Go.Proofs.Ytaalbaiglkadlaa
open Go.RowKit Go.Lib Go.Deep

theorem Try.infoRun : (Try.prog.info? 99).map (fun i => (i.zero, i.size, i.bytes)) = some (some (.agg #[.int .i64 0, .int .i64 0]), 2, 16) := by kernel_rfl

def runCs (l : List (Int × Int)) : List Value := l.flatMap fun p => [Value.int .i64 p.1, Value.int .i64 p.2]
theorem runCs_length (l : List (Int × Int)) : (runCs l).length = l.length * 2 := by
  induction l with
  | nil => rfl
  | cons p l ih => simp only [runCs, List.flatMap_cons, List.length_append, List.length_cons] at ih ⊢; simp only [List.length_nil]; omega
theorem runCs_cons (p : Int × Int) (l : List (Int × Int)) : runCs (p :: l) = Value.int .i64 p.1 :: Value.int .i64 p.2 :: runCs l := rfl
theorem runCs_append (a b : List (Int × Int)) : runCs (a ++ b) = runCs a ++ runCs b := by simp [runCs]
theorem runCs_get (l : List (Int × Int)) : ∀ (i : Nat) (s e : Int), l[i]? = some (s, e) → (runCs l)[i * 2]? = some (.int .i64 s) ∧ (runCs l)[i * 2 + 1]? = some (.int .i64 e) := by
  induction l with
  | nil => intro i s e h; simp at h
  | cons p l ih =>
    intro i s e h
    rw [runCs_cons]
    cases i with
    | zero =>
      simp at h
      subst h
      exact ⟨rfl, rfl⟩
    | succ i =>
      rw [List.getElem?_cons_succ] at h
      rw [show (i + 1) * 2 = i * 2 + 1 + 1 by omega, List.getElem?_cons_succ, List.getElem?_cons_succ, List.getElem?_cons_succ, List.getElem?_cons_succ]
      exact ih i s e h
theorem runCs_one (l : List (Int × Int)) : ∀ u ∈ runCs l, u.oneCell' = true := by
  intro u hu
  obtain ⟨p, _, hp⟩ := List.mem_flatMap.1 hu
  simp only [List.mem_cons, List.not_mem_nil, or_false] at hp
  rcases hp with rfl | rfl <;> rfl
/-- A slice holds these runs. -/
def ArgR (w : World) (a : Option Addr) (l : List (Int × Int)) : Prop := ∀ (i : Nat) (s e : Int), l[i]? = some (s, e) → ∃ b off, a = some ⟨b, off, none⟩ ∧ b < w.heap.size ∧ w.cell? ⟨b, off + i * 2, none⟩ = some (.int .i64 s) ∧ w.cell? ⟨b, off + i * 2 + 1, none⟩ = some (.int .i64 e)

theorem ArgR.below {w w' : World} {a : Option Addr} {l : List (Int × Int)} (h : ArgR w a l) {B : Nat} (b : Below B w w') (hB : w.heap.size ≤ B) : ArgR w' a l := by
  intro i s e hx
  obtain ⟨b0, off, h1, h2, h3, h4⟩ := h i s e hx
  refine ⟨b0, off, h1, Nat.lt_of_lt_of_le h2 b.size, ?_, ?_⟩
  · rw [b.cell (p := ⟨b0, off + i * 2, none⟩) (Nat.lt_of_lt_of_le h2 hB)]; exact h3
  · rw [b.cell (p := ⟨b0, off + i * 2 + 1, none⟩) (Nat.lt_of_lt_of_le h2 hB)]; exact h4
theorem ArgZ.belowB {w w' : World} {a : Option Addr} {l : List Int} (h : ArgZ w a l) {B : Nat} (b : Below B w w') (hB : w.heap.size ≤ B) : ArgZ w' a l := h.below (b.mono hB)

theorem own_argR {w : World} {B n : Nat} {v : Value} {l : List (Int × Int)} (h : w.ownsRow B 99 2 v n (runCs l)) (hl : l.length = n) : ∃ a c, v = .slice a n c ∧ ArgR w a l ∧ (a = none → n = 0 ∧ c = 0) := by
  rcases len_form h with ⟨e1, e2⟩ | ⟨g, c, e1⟩
  · subst e2
    refine ⟨none, 0, e1, fun i s e hx => ?_, fun _ => ⟨rfl, rfl⟩⟩
    rw [List.length_eq_zero_iff.1 hl] at hx
    simp at hx
  · subst e1
    refine ⟨_, c, rfl, fun i s e hx => ?_, fun e => by cases e⟩
    have hi : i < l.length := (List.getElem?_eq_some_iff.1 hx).1
    have hg := runCs_get l i s e hx
    refine ⟨g, 0, rfl, (h.lt g rfl).2, ?_, ?_⟩
    · rw [Nat.zero_add, h.cellAt (i * 2) (by omega)]; exact hg.1
    · rw [Nat.zero_add, h.cellAt (i * 2 + 1) (by omega)]; exact hg.2
theorem own_argI {w : World} {B n : Nat} {v : Value} {l : List Int} (h : w.ownsRow B 3 1 v n (intCs l)) (hl : l.length = n) : ∃ a c, v = .slice a n c ∧ ArgZ w a l ∧ (a = none → n = 0 ∧ c = 0) := by
  rcases len_form h with ⟨e1, e2⟩ | ⟨g, c, e1⟩
  · subst e2
    refine ⟨none, 0, e1, fun i x hx => ?_, fun _ => ⟨rfl, rfl⟩⟩
    rw [List.length_eq_zero_iff.1 hl] at hx
    simp at hx
  · subst e1
    refine ⟨_, c, rfl, fun i x hx => ?_, fun e => by cases e⟩
    have hi : i < l.length := (List.getElem?_eq_some_iff.1 hx).1
    subst hl
    exact ⟨g, 0, rfl, (h.lt g rfl).2, by rw [Nat.zero_add]; exact (own_int h hx).1⟩
theorem getZ? (l : List Int) (i : Nat) (h : i < l.length) : ∃ x, l[i]? = some x := ⟨_, List.getElem?_eq_getElem h⟩
theorem intCs_append (a b : List Int) : intCs a ++ intCs b = intCs (a ++ b) := by simp [intCs]

end Go.Proofs.Ytaalbaiglkadlaa

/- Contracts of the document's 'Bits', 'Order' and 'same' of layer 7. -/
namespace Go.Proofs.Ytaalbaiglkadlaa
open Go.RowKit Go.Lib

set_option maxHeartbeats 1000000 in
theorem qbits_any (s : Int) (w : World) :
    Calls Try.prog 50 #[.int .i64 s] w fun e w' => e = .returned (.int .i64 (xBits s : Nat)) ∧ w' = w := by
  by_cases h1 : s = 16
  · subst h1
    go_enter Try.func50, Try.ntmps50
    go_wp2
    go_ret
    exact ⟨rfl, rfl⟩
  · by_cases h2 : s = 17
    · subst h2
      go_enter Try.func50, Try.ntmps50
      go_wp2
      go_ret
      exact ⟨rfl, rfl⟩
    · by_cases h3 : s = 18
      · subst h3
        go_enter Try.func50, Try.ntmps50
        go_wp2
        go_ret
        exact ⟨rfl, rfl⟩
      · rw [(plain_run s h1 h2 h3).1]
        have b1 : (s == 16) = false := by simp; exact h1
        have b2 : (s == 17) = false := by simp; exact h2
        have b3 : (s == 18) = false := by simp; exact h3
        clear h1 h2 h3
        go_enter Try.func50, Try.ntmps50
        go_wp2
        go_ret
        exact ⟨rfl, rfl⟩

/-- The order of the code lengths' own lengths. -/
def orderCs : List Value := [.int .i64 16, .int .i64 17, .int .i64 18, .int .i64 0, .int .i64 8, .int .i64 7, .int .i64 9, .int .i64 6, .int .i64 10, .int .i64 5, .int .i64 11, .int .i64 4, .int .i64 12, .int .i64 3, .int .i64 13, .int .i64 2, .int .i64 14, .int .i64 1, .int .i64 15]

/-- An array that is built of constants. -/
theorem wpList_builtK {P : Program} {ops : Array Oper} {rest : List Oper} {o : Oper} {a : Act} {w : World} {Q : Exit → Act → World → Prop} (hg : o.guard = none) (t : TypeId) (cs : List (Nat × Value)) (ho : o.op = .build t (cs.map fun p => (p.1, Operand.const p.2)).toArray)
    (cells : Array Value) (hc : P.built t cs = some cells)
    (h : wpList P ops Q rest (a.put o.dst (.agg cells)) w) : wpList P ops Q (o :: rest) a w := by
  have hp : ((cs.map fun p => (p.1, Operand.const p.2)).toArray.map fun (i, x) => (i, a.eval x)).toList = cs := by
    simp [Function.comp_def, Act.eval]
  exact wpList_build hg t _ ho (by rw [hp, hc]; rfl) (by rw [hp, hc]; exact h)

theorem Try.sizeOrder : (Try.prog.info? 87).map (·.size) = some 19 := by kernel_rfl
def orderPs : List (Nat × Value) := [(0, .int .i64 16), (1, .int .i64 17), (2, .int .i64 18), (3, .int .i64 0), (4, .int .i64 8), (5, .int .i64 7), (6, .int .i64 9), (7, .int .i64 6), (8, .int .i64 10), (9, .int .i64 5), (10, .int .i64 11), (11, .int .i64 4), (12, .int .i64 12), (13, .int .i64 3), (14, .int .i64 13), (15, .int .i64 2), (16, .int .i64 14), (17, .int .i64 1), (18, .int .i64 15)]
theorem Try.builtOrder : Try.prog.built 87 orderPs = some orderCs.toArray := by kernel_rfl
theorem orderCs_one : ∀ u ∈ orderCs, u.oneCell' = true := by
  intro u hu
  unfold orderCs at hu
  simp only [List.mem_cons, List.not_mem_nil, or_false] at hu
  rcases hu with rfl | rfl | rfl | rfl | rfl | rfl | rfl | rfl | rfl | rfl | rfl | rfl | rfl | rfl | rfl | rfl | rfl | rfl | rfl <;> rfl
theorem Try.zeroOrder : ∃ Z : List Value, Z.length = 19 ∧ ∀ w : World, (zeroValue 87).run Try.prog w = .ok (.agg Z.toArray) w := by
  have h : (Try.prog.info? 87).map (·.zero) = some (some (.agg (List.replicate 19 (.int .i64 0)).toArray)) := by kernel_rfl
  refine ⟨List.replicate 19 (.int .i64 0), by simp, fun w => ?_⟩
  cases hq : Try.prog.info? 87 with
  | none => rw [hq] at h; cases h
  | some i =>
    rw [hq] at h
    have hz : i.zero = some (.agg (List.replicate 19 (.int .i64 0)).toArray) := by simpa using h
    simp [zeroValue, typeInfo, hq, hz]
theorem order_store (w : World) (Z cs : List Value) (hz : Z.length = 19) (hn : cs.length = 19) (h1 : ∀ v ∈ cs, v.oneCell' = true) :
    (storeCells ⟨w.heap.size, 0, none⟩ cs).run Try.prog (w.alloc (.cells Z.toArray 87)) = .ok () (w.alloc (.cells cs.toArray 87)) := by
  have h := run_storeCells_new (P := Try.prog) w 87 Z.toArray cs.toArray (by rw [List.size_toArray, hn]; exact Try.sizeOrder) (by rw [List.size_toArray, List.size_toArray, hn, hz]) (all_oneCell_toArray h1)
  exact h
theorem order_range (w : World) (cs : List Value) : (w.alloc (.cells cs.toArray 87)).rangeAt w.heap.size 0 cs := by
  intro j v hv
  have hh : (w.alloc (.cells cs.toArray 87)).heap[w.heap.size]? = some (.cells cs.toArray 87 (0, 0)) := by show (w.heap.push _)[w.heap.size]? = _; simp
  rw [Nat.zero_add, cell_of_row _ _ j _ _ (0, 0) hh, List.getElem?_toArray]
  exact hv
theorem order_load {w : World} {P : Nat} {cs : List Value} (h : w.rangeAt P 0 cs) (hn : cs.length = 19) : (loadVar 87 ⟨P, 0, none⟩).run Try.prog w = .ok (.agg cs.toArray) w :=
  run_loadVar_mid w P 0 87 cs _ h Try.underlying87 rfl (by rw [hn]; exact Try.sizeOrder)

set_option maxRecDepth 20000 in
set_option maxHeartbeats 2000000 in
theorem qorder_any (w : World) :
    Calls Try.prog 48 #[] w fun e w' => e = .returned (.agg orderCs.toArray) ∧ Below w.heap.size w w' := by
  obtain ⟨Z, hZn, hv⟩ := Try.zeroOrder
  have hn : orderCs.length = 19 := rfl
  have hst := order_store w Z orderCs hZn hn orderCs_one
  have HLD := hide (order_load (order_range w orderCs) hn)
  have HBD := hide Try.builtOrder
  have HB := hide ((Below.refl _ w).alloc (Nat.le_refl _) (.cells orderCs.toArray 87))
  generalize orderCs = cs at *
  go_enter Try.func48, Try.ntmps48
  go_wp2_with (first
    | (refine wpList_builtK rfl 87 orderPs rfl cs.toArray HBD.out ?_))
  (try simp only [Exit.inBlock, Exit.then])
  refine bodyPost_ret (v := .agg cs.toArray) ?_ rfl ⟨rfl, HB.out⟩
  simp [results, Try.results48, asAddr, HLD.out]

set_option maxRecDepth 20000 in
set_option maxHeartbeats 2000000 in
theorem qsame7_any (l : List Int) (a : Option Addr) (n cap i : Nat) (W : World) (x : Int) (hn : l.length = n) (harg : ArgZ W a l) (hx : l[i]? = some x) (hl : n ≤ 10000) :
    Calls Try.prog 71 #[.slice a n cap, .int .i64 (i : Nat)] W fun e w' => e = .returned (.int .i64 (headN x (l.drop i) : Nat)) ∧ Below W.heap.size W w' := by
  have hi : i < n := by rw [← hn]; exact (List.getElem?_eq_some_iff.1 hx).1
  obtain ⟨b, off, rfl, hb, hc⟩ := harg i x hx
  have HA := hide (fun (j : Nat) (y : Int) (hy : l[j]? = some y) => (show W.cell? ⟨b, off + j, none⟩ = some (.int .i64 y) by
    obtain ⟨b2, off2, e, _, h⟩ := harg j y hy
    injection e with e
    injection e with e1 e2
    subst e1
    subst e2
    exact h))
  have HN := hide hn
  have HX := hide hx
  have HC := hide hc
  have B0 := hide (Below.refl W.heap.size W)
  obtain ⟨H, hH⟩ : ∃ H, headN x (l.drop i) = H := ⟨_, rfl⟩
  have HH := hide hH
  rw [hH]
  clear hn harg hx hc hH
  go_enter Try.func71, Try.ntmps71
  go_wp2
  go_loopw [5] (fun kv wr => ∃ k : Nat, 1 ≤ k ∧ i + k ≤ n ∧ kv = .int .i64 (k : Nat) ∧ Hid (∀ t, t < k → l[i + t]? = some x) ∧ Hid (Below W.heap.size W wr)) (fun kv _ => n - (intOf kv).toNat)
  case atStart => exact ⟨1, Nat.le_refl _, by omega, rfl, hide (fun t ht => by rw [show t = 0 by omega]; exact HX.out), B0⟩
  case round =>
    obtain ⟨k, hk1, hk, rfl, HE, HB⟩ := hrel
    have _c0 := (HB.out.cell (p := ⟨b, off + i, none⟩) hb).trans HC.out
    by_cases hlt : i + k < n
    · obtain ⟨y, hy⟩ := getZ? l (i + k) (by rw [HN.out]; exact hlt)
      have _c1 := (HB.out.cell (p := ⟨b, off + (i + k), none⟩) hb).trans (HA.out _ _ hy)
      have HY := hide hy
      obtain ⟨s, hs⟩ : ∃ s, i + k = s := ⟨_, rfl⟩
      have es : (i : Int) + (k : Int) = (s : Int) := by omega
      rw [hs] at _c1
      have zs : (s : Int) < n := by omega
      have zi : (i : Int) < n := by omega
      have ds : decide ((s : Int) < n) = true := decide_eq_true zs
      have ew : IntKind.i64.wrap (s : Int) = (s : Int) := by rw [IntKind.wrap_i64]; omega
      have HLT := hide hlt
      have HS := hide hs
      clear hy hs hlt hk
      by_cases e : y = x
      · subst e
        have HE2 := hide (show ∀ t, t < k + 1 → l[i + t]? = some y from fun t ht => by
          by_cases e : t = k
          · rw [e]; exact HY.out
          · exact HE.out t (by omega))
        go_wp2
        go_quiet (fail)
        go_wp2
        go_roundw
        case rel => exact ⟨k + 1, by omega, by have := HLT.out; omega, by go_num, HE2, hide (below_drewN HB.out _)⟩
        case measure => exact meas_oneW k n (by have := HLT.out; omega)
      · have be : (y == x) = false := by simp; exact e
        have HF := hide (show H = k by
          rw [← HH.out]
          refine head_eq x (l.drop i) k (by rw [List.length_drop, HN.out]; have := HLT.out; omega) (fun t ht => by rw [List.getElem?_drop]; exact HE.out t ht) (.inr ?_)
          rw [List.getElem?_drop, HY.out]
          intro h
          injection h with h
          exact e h)
        clear e
        go_wp2
        go_quiet (fail)
        go_wp2
        go_ret
        exact ⟨by rw [HF.out]; rfl, below_drewN HB.out _⟩
    · have ds : decide ((i : Int) + (k : Int) < n) = false := decide_eq_false (by omega)
      have hke : i + k = n := by omega
      have HF := hide (show H = k by
        rw [← HH.out]
        refine head_eq x (l.drop i) k (by rw [List.length_drop, HN.out]; omega) (fun t ht => by rw [List.getElem?_drop]; exact HE.out t ht) (.inl ?_)
        rw [List.length_drop, HN.out]
        omega)
      have es : (i : Int) + (k : Int) = (n : Int) := by omega
      clear hke hlt hk
      go_wp2
      go_quiet (fail)
      go_wp2
      go_ret
      exact ⟨by rw [HF.out]; rfl, below_drewN HB.out _⟩

end Go.Proofs.Ytaalbaiglkadlaa

/- Contract of the document's 'Fold' of layer 7. -/
namespace Go.Proofs.Ytaalbaiglkadlaa
open Go.RowKit Go.Lib

/-- What stands ahead of a place. -/
def prevAt (l : List Int) (i : Nat) : Option Int := if i = 0 then none else l[i - 1]?
theorem drop_at (l : List Int) (i : Nat) (x : Int) (h : l[i]? = some x) : ∃ t, l.drop i = x :: t := by
  obtain ⟨hi, e⟩ := List.getElem?_eq_some_iff.1 h
  exact ⟨l.drop (i + 1), by rw [List.drop_eq_getElem_cons hi, e]⟩
/-- The next run. -/
theorem fold_next (l : List Int) (i : Nat) (x : Int) (out : List (Int × Int)) (hx : l[i]? = some x) (hf : ∀ rs, Folds (prevAt l i) (l.drop i) rs → Folds none l (out ++ rs)) (r : Int × Int) (K : Nat)
    (hr : stepF (prevAt l i) x (headN x (l.drop i)) = (r, K)) : 1 ≤ K ∧ i + K ≤ l.length ∧ ∀ rs, Folds (prevAt l (i + K)) (l.drop (i + K)) rs → Folds none l ((out ++ [r]) ++ rs) := by
  obtain ⟨t, ht⟩ := drop_at l i x hx
  have h1 := head_pos x t
  rw [← ht] at h1
  have h2 := head_le x (l.drop i)
  have h3 := step_takes (prevAt l i) x _ h1
  rw [hr] at h3
  rw [List.length_drop] at h2
  have hi := (List.getElem?_eq_some_iff.1 hx).1
  refine ⟨h3.1, by have := h3.2; omega, fun rs h => ?_⟩
  have hp : prevAt l (i + K) = some x := by
    have h4 := head_get x (l.drop i) (K - 1) (by have := h3.1; have := h3.2; omega)
    rw [List.getElem?_drop] at h4
    unfold prevAt
    rw [if_neg (by have := h3.1; omega), show i + K - 1 = i + (K - 1) by have := h3.1; omega]
    exact h4
  rw [hp] at h
  rw [List.append_assoc]
  refine hf _ ⟨x, t, ht, by rw [hr], ?_⟩
  rw [hr, List.drop_drop]
  exact h

/-- The runs under way. -/
structure FoldW (w W : World) (l : List Int) (i : Nat) (out : List (Int × Int)) (v : Value) : Prop where
  own : w.ownsRow W.heap.size 99 2 v out.length (runCs out)
  bel : Below W.heap.size W w
  fold : ∀ rs, Folds (prevAt l i) (l.drop i) rs → Folds none l (out ++ rs)
  len : out.length ≤ i

theorem FoldW.below {w w' W : World} {l : List Int} {i : Nat} {out : List (Int × Int)} {v : Value} (h : FoldW w W l i out v) (b : Below w.heap.size w w') : FoldW w' W l i out v :=
  ⟨own_below h.own b (Nat.le_refl _), h.bel.trans (b.mono h.bel.size), h.fold, h.len⟩
theorem FoldW.drewN {w W : World} {l : List Int} {i : Nat} {out : List (Int × Int)} {v : Value} (h : FoldW w W l i out v) (n : Nat) : FoldW (w.drewN n) W l i out v := h.below (below_drewN (Below.refl _ _) n)
theorem FoldW.app {w w' W : World} {l : List Int} {i : Nat} {out : List (Int × Int)} {v v' : Value} (h : FoldW w W l i out v) (x : Int) (hx : l[i]? = some x) (r : Int × Int) (K : Nat) (hr : stepF (prevAt l i) x (headN x (l.drop i)) = (r, K)) (o : Obj)
    (ho : w'.ownsRow W.heap.size 99 2 v' (out.length + 1) (runCs out ++ [.int .i64 r.1, .int .i64 r.2])) (hg : (w.alloc o).grownBy w' v.ownBlock) : FoldW w' W l (i + K) (out ++ [r]) v' := by
  obtain ⟨h1, h2, h3⟩ := fold_next l i x out hx h.fold r K hr
  refine ⟨?_, Below.grownB (h.bel.alloc h.bel.size _) hg (h.own.alloc o) (size_alloc_le h.bel.size), h3, ?_⟩
  · rw [List.length_append, runCs_append]
    exact ho
  · rw [List.length_append]
    have := h.len
    show out.length + 1 ≤ i + K
    omega

/-- What a fold gives. -/
def FoldPost (W : World) (l : List Int) (e : Ending) (w' : World) : Prop := ∃ a c rs, e = .returned (.slice a (rs : List (Int × Int)).length c) ∧ FoldRes l rs ∧ ArgR w' a rs ∧ (a = none → c = 0) ∧ Below W.heap.size W w'
/-- The same, and what it gives is new. -/
def FoldNew (W : World) (l : List Int) (e : Ending) (w' : World) : Prop := ∃ a c rs, e = .returned (.slice a (rs : List (Int × Int)).length c) ∧ FoldRes l rs ∧ ArgR w' a rs ∧ (a = none → c = 0) ∧ Below W.heap.size W w' ∧ ∀ b off, a = some ⟨b, off, none⟩ → W.heap.size ≤ b
theorem FoldNew.post {W : World} {l : List Int} {e : Ending} {w' : World} (h : FoldNew W l e w') : FoldPost W l e w' := by
  obtain ⟨a, c, rs, h1, h2, h3, h4, h5, _⟩ := h
  exact ⟨a, c, rs, h1, h2, h3, h4, h5⟩

theorem FoldW.done {w W : World} {l : List Int} {out : List (Int × Int)} {v : Value} (h : FoldW w W l l.length out v) (hl : lenB l = true) : FoldNew W l (.returned v) w := by
  obtain ⟨a, c, e, h1, h2⟩ := own_argR h.own rfl
  have h3 := h.fold [] (by show l.drop l.length = []; simp)
  rw [List.append_nil] at h3
  refine ⟨a, c, out, by rw [e], .inl ⟨hl, h3⟩, h1, fun e => (h2 e).2, h.bel, ?_⟩
  intro b off e1
  subst e1
  have h4 := h.own
  rw [e] at h4
  exact (h4.lt b rfl).1

theorem meas_add (i K n : Nat) (h : 1 ≤ K) (h2 : i + K ≤ n) : n - (intOf (.int .i64 ((i : Int) + (K : Int)))).toNat < n - (intOf (.int .i64 (i : Int))).toNat := by
  show n - ((i : Int) + (K : Int)).toNat < n - ((i : Nat) : Int).toNat
  omega

set_option maxRecDepth 20000 in
set_option maxHeartbeats 8000000 in
theorem qfold_new (l : List Int) (a : Option Addr) (cap : Nat) (W : World) (harg : ArgZ W a l) (hl : l.length ≤ 3000) :
    Calls Try.prog 57 #[.slice a l.length cap] W fun e w' => FoldNew W l e w' := by
  have HA := hide harg
  have HARG := hide harg
  obtain ⟨n, hn⟩ : ∃ n, l.length = n := ⟨_, rfl⟩
  have HN := hide hn
  rw [hn] at hl ⊢
  obtain ⟨i1, ki, kz0, kz1, kz2⟩ := info_parts Try.infoRun
  clear harg hn
  go_enter Try.func57, Try.ntmps57
  go_wp2
  go_loop [3] (fun iv => ∃ j : Nat, j ≤ n ∧ iv = .int .i64 (j : Nat) ∧ Hid (∀ x ∈ l.take j, 0 ≤ x ∧ x ≤ 15)) (fun iv => n - (intOf iv).toNat)
  case atStart => exact ⟨0, Nat.zero_le _, rfl, hide (fun x hx => by simp at hx)⟩
  case round =>
    obtain ⟨j, hj, rfl, HE⟩ := hrel
    by_cases hlt : j < n
    · obtain ⟨x, hx⟩ := getZ? l j (by rw [HN.out]; exact hlt)
      obtain ⟨b, off, rfl, hb, _c⟩ := HA.out j x hx
      have zj : (j : Int) < n := by omega
      have HX := hide hx
      have HTK := hide (show l.take (j + 1) = l.take j ++ [x] by rw [List.take_add_one, hx]; rfl)
      clear hx
      by_cases q1 : x < 0
      · have HB := hide (show FoldNew W l (.returned (.slice none 0 0)) W from ⟨none, 0, [], rfl, .inr ⟨by
            cases h : lenB l with
            | false => rfl
            | true => have := ((lenB_iff l).1 h x (mem_of_get HX.out)).1; omega, rfl⟩, fun i s e h => by simp at h, fun _ => rfl, Below.refl _ _, fun b off e => by cases e⟩)
        go_wp2
        go_ret
        exact HB.out
      · have q1d : decide (x < 0) = false := decide_eq_false q1
        by_cases q2 : 15 < x
        · have HB := hide (show FoldNew W l (.returned (.slice none 0 0)) W from ⟨none, 0, [], rfl, .inr ⟨by
              cases h : lenB l with
              | false => rfl
              | true => have := ((lenB_iff l).1 h x (mem_of_get HX.out)).2; omega, rfl⟩, fun i s e h => by simp at h, fun _ => rfl, Below.refl _ _, fun b off e => by cases e⟩)
          go_wp2
          go_ret
          exact HB.out
        · have q2d : decide (15 < x) = false := decide_eq_false q2
          have HE2 := hide (show ∀ z ∈ l.take (j + 1), 0 ≤ z ∧ z ≤ 15 from fun z hz => by
            rw [HTK.out] at hz
            rcases List.mem_append.1 hz with e | e
            · exact HE.out z e
            · rw [List.mem_singleton.1 e]; omega)
          clear q1 q2
          go_wp2
          go_round
          case rel => exact ⟨j + 1, hlt, by go_num, HE2⟩
          case measure => exact meas_oneW j n hlt
    · have hje : j = n := by omega
      subst hje
      have HV := hide (show ∀ x ∈ l, 0 ≤ x ∧ x ≤ 15 by have h := HE.out; rw [List.take_of_length_le (by rw [HN.out]; exact Nat.le_refl _)] at h; exact h)
      have HLB := hide ((lenB_iff l).2 HV.out)
      have HF0 := hide (show FoldW W W l 0 [] (.slice none 0 0) from ⟨World.ownsRow_nil _ _ _ _, Below.refl _ _, fun rs h => by rw [List.drop_zero] at h; exact h, Nat.le_refl _⟩)
      clear HE hlt hj
      go_wp2
      go_loopw [4, 5] (fun v iv wr => ∃ i : Nat, i ≤ j ∧ iv = .int .i64 (i : Nat) ∧ ∃ out, Hid (FoldW wr W l i out v)) (fun _ iv _ => j - (intOf iv).toNat)
      case atStart => exact ⟨0, Nat.zero_le _, rfl, [], HF0⟩
      case round =>
        clear HF0
        obtain ⟨i, hi, rfl, out, HF⟩ := hrel
        by_cases hij : i < j
        · obtain ⟨x, hx⟩ := getZ? l i (by rw [HN.out]; exact hij)
          have HX := hide hx
          have hol := HF.out.len
          have HSM := hide (fun w' (h : ArgZ w' a l) => qsame7_any l a j cap i w' x HN.out h hx (by omega))
          obtain ⟨b, off, rfl, hb, hc⟩ := HA.out i x hx
          have zi : (i : Int) < j := by omega
          have HXB := hide (HV.out x (mem_of_get hx))
          obtain ⟨H, hH⟩ : ∃ H, headN x (l.drop i) = H := ⟨_, rfl⟩
          have HHD := hide hH
          rw [hH] at HSM
          have hH1 : 1 ≤ H ∧ i + H ≤ j := by
            obtain ⟨t, ht⟩ := drop_at l i x hx
            have h1 := head_pos x t
            have h2 := head_le x (l.drop i)
            rw [List.length_drop, HN.out] at h2
            rw [← ht, hH] at h1
            omega
          have HST := hide (fun (r : Int × Int) (K : Nat) (h : stepF (prevAt l i) x H = (r, K)) => (show stepF (prevAt l i) x (headN x (l.drop i)) = (r, K) by rw [hH]; exact h))
          have X1 := hide (show out.length + 1 ≤ maxLen by unfold maxLen; omega)
          have X2 := hide (show (out.length + 1) * 16 ≤ 140737488355328 by omega)
          have HHB := hide hH1
          have HOL := hide hol
          have HC := hide hc
          have hH9 : H ≤ 3000 := by omega
          clear hx hc hH hH1 hol
          go_wp2_with fail
          refine (HSM.out wr (HA.out.belowB HF.out.bel (Nat.le_refl _))).mono ?_
          rintro e w1 ⟨rfl, b1⟩
          have HF1 := hide (HF.out.below b1)
          have _c := (HF1.out.bel.cell (p := ⟨b, off + i, none⟩) hb).trans HC.out
          have HC2 := hide (fun (k : Nat) (y : Int) (hy : l[k]? = some y) => (show w1.cell? ⟨b, off + k, none⟩ = some (.int .i64 y) by
            obtain ⟨b2, off2, e, _, h⟩ := HA.out k y hy
            injection e with e
            injection e with e1 e2
            subst e1
            subst e2
            exact (HF1.out.bel.cell (p := ⟨b, off + k, none⟩) hb).trans h))
          clear b1 HF HSM
          have zH1 : (1 : Int) ≤ H := by have := HHB.out; omega
          have HFQ := hide (fun n => HF1.out.drewN n)
          by_cases x0 : x = 0
          · subst x0
            by_cases h11 : 11 ≤ H
            · have z11 : (11 : Int) ≤ H := by omega
              by_cases h138 : 138 < H
              · have z138 : (138 : Int) < H := by omega
                have HRUN := hide (HST.out (18, 127) 138 (by unfold stepF; rw [if_pos ⟨rfl, h11⟩, Nat.min_eq_right (by omega)]; rfl))
                clear h11
                go_wp2_with (first
                  | (at_builtin; refine wpList_append_fresh _ rfl _ _ 96 rfl W.heap.size 99 i1 (.agg #[.int .i64 0, .int .i64 0]) 2 16 Try.underlying96 ki kz0 kz1 kz2 rfl (by decide) u4 _ _ rfl (HF1.out.own.alloc _) ⟨w1.heap.size, 0, none⟩ 1 1 [.int .i64 18, .int .i64 127] rfl rfl (cell_two_new _ _ _ _) (two_one _ _) X1.out X2.out (size_alloc_le HF1.out.bel.size) ?_; intro v2 w2 o2 g2 _f2; have HF2 := hide (HF1.out.app 0 HX.out (18, 127) 138 HRUN.out _ o2 g2); clear o2 g2 _f2))
                go_roundw
                case rel => exact ⟨i + 138, by have := HHB.out; omega, by go_num, _, HF2⟩
                case measure => exact meas_add i 138 j (by have := HHB.out; omega) (by have := HHB.out; omega)
              · have z138 : ¬ (138 : Int) < H := by omega
                have HRUN := hide (HST.out (18, (H : Int) - 11) H (by unfold stepF; rw [if_pos ⟨rfl, h11⟩, Nat.min_eq_left (by omega)]))
                clear h11 h138
                go_wp2_with (first
                  | (at_builtin; refine wpList_append_fresh _ rfl _ _ 96 rfl W.heap.size 99 i1 (.agg #[.int .i64 0, .int .i64 0]) 2 16 Try.underlying96 ki kz0 kz1 kz2 rfl (by decide) u4 _ _ rfl (HF1.out.own.alloc _) ⟨w1.heap.size, 0, none⟩ 1 1 [.int .i64 18, .int .i64 ((H : Int) - 11)] rfl rfl (cell_two_new _ _ _ _) (two_one _ _) X1.out X2.out (size_alloc_le HF1.out.bel.size) ?_; intro v2 w2 o2 g2 _f2; have HF2 := hide (HF1.out.app 0 HX.out (18, ((H : Int) - 11)) H HRUN.out _ o2 g2); clear o2 g2 _f2))
                go_roundw
                case rel => exact ⟨i + H, by have := HHB.out; omega, by go_num, _, HF2⟩
                case measure => exact meas_add i H j (by have := HHB.out; omega) (by have := HHB.out; omega)
            · have z11 : decide ((11 : Int) ≤ H) = false := decide_eq_false (by omega)
              by_cases h3 : 3 ≤ H
              · have z3 : (3 : Int) ≤ H := by omega
                have HRUN := hide (HST.out (17, (H : Int) - 3) H (by unfold stepF; rw [if_neg (fun h => h11 h.2), if_pos ⟨rfl, h3⟩]))
                clear h11 h3
                go_wp2_with (first
                  | (at_builtin; refine wpList_append_fresh _ rfl _ _ 96 rfl W.heap.size 99 i1 (.agg #[.int .i64 0, .int .i64 0]) 2 16 Try.underlying96 ki kz0 kz1 kz2 rfl (by decide) u4 _ _ rfl (HF1.out.own.alloc _) ⟨w1.heap.size, 0, none⟩ 1 1 [.int .i64 17, .int .i64 ((H : Int) - 3)] rfl rfl (cell_two_new _ _ _ _) (two_one _ _) X1.out X2.out (size_alloc_le HF1.out.bel.size) ?_; intro v2 w2 o2 g2 _f2; have HF2 := hide (HF1.out.app 0 HX.out (17, ((H : Int) - 3)) H HRUN.out _ o2 g2); clear o2 g2 _f2))
                go_roundw
                case rel => exact ⟨i + H, by have := HHB.out; omega, by go_num, _, HF2⟩
                case measure => exact meas_add i H j (by have := HHB.out; omega) (by have := HHB.out; omega)
              · have z3 : decide ((3 : Int) ≤ H) = false := decide_eq_false (by omega)
                by_cases hi0 : i = 0
                · subst hi0
                  rw [Nat.add_zero] at _c
                  have HRUN := hide (HST.out (0, 0) 1 (by unfold stepF; rw [if_neg (fun h => h11 h.2), if_neg (fun h => h3 h.2), if_neg (fun h => by cases h.1)]))
                  clear h11 h3
                  go_wp2_with fail
                  go_quiet (fail)
                  go_wp2_with (first
                    | (at_builtin; refine wpList_append_fresh _ rfl _ _ 96 rfl W.heap.size 99 i1 (.agg #[.int .i64 0, .int .i64 0]) 2 16 Try.underlying96 ki kz0 kz1 kz2 rfl (by decide) u4 _ _ rfl ((HFQ.out _).own.alloc _) ⟨w1.heap.size, 0, none⟩ 1 1 [.int .i64 0, .int .i64 0] rfl rfl (cell_two_new _ _ _ _) (two_one _ _) X1.out X2.out (size_alloc_le (HFQ.out _).bel.size) ?_; intro v2 w2 o2 g2 _f2; have HF2 := hide ((HFQ.out _).app 0 HX.out (0, 0) 1 HRUN.out _ o2 g2); clear o2 g2 _f2))
                  go_roundw
                  case rel => exact ⟨0 + 1, by have := HHB.out; omega, by go_num, _, HF2⟩
                  case measure => exact meas_add 0 1 j (by have := HHB.out; omega) (by have := HHB.out; omega)
                · have zi0 : (0 : Int) < i := by omega
                  have dzi0 : decide ((0 : Int) < i) = true := decide_eq_true zi0
                  have dzn0 : decide (0 < i) = true := decide_eq_true (by omega)
                  obtain ⟨y, hy⟩ := getZ? l (i - 1) (by rw [HN.out]; omega)
                  have _c3 := HC2.out (i - 1) y hy
                  have HPV := hide (show prevAt l i = some y by unfold prevAt; rw [if_neg hi0]; exact hy)
                  have ei1 : (i : Int) - 1 = ((i - 1 : Nat) : Int) := by omega
                  have ew1 : IntKind.i64.wrap ((i : Int) - 1) = ((i - 1 : Nat) : Int) := by rw [IntKind.wrap_i64]; omega
                  have zp : ((i - 1 : Nat) : Int) < j := by omega
                  generalize i - 1 = q at *
                  clear hy hi0
                  by_cases exy : y = 0
                  · have exy2 := exy
                    rw [exy] at _c3 HPV
                    have HRUN := hide (HST.out (0, 0) 1 (by unfold stepF; rw [if_neg (fun h => h11 h.2), if_neg (fun h => h3 h.2), if_neg (fun h => h3 h.2)]))
                    clear h11 h3 exy exy2
                    go_wp2_with fail
                    go_quiet (fail)
                    go_wp2_with (first
                      | (at_builtin; refine wpList_append_fresh _ rfl _ _ 96 rfl W.heap.size 99 i1 (.agg #[.int .i64 0, .int .i64 0]) 2 16 Try.underlying96 ki kz0 kz1 kz2 rfl (by decide) u4 _ _ rfl ((HFQ.out _).own.alloc _) ⟨w1.heap.size, 0, none⟩ 1 1 [.int .i64 0, .int .i64 0] rfl rfl (cell_two_new _ _ _ _) (two_one _ _) X1.out X2.out (size_alloc_le (HFQ.out _).bel.size) ?_; intro v2 w2 o2 g2 _f2; have HF2 := hide ((HFQ.out _).app 0 HX.out (0, 0) 1 HRUN.out _ o2 g2); clear o2 g2 _f2))
                    go_roundw
                    case rel => exact ⟨i + 1, by have := HHB.out; omega, by go_num, _, HF2⟩
                    case measure => exact meas_add i 1 j (by have := HHB.out; omega) (by have := HHB.out; omega)
                  · have bxy : (y == 0) = false := by simp; exact exy
                    have HRUN := hide (HST.out (0, 0) 1 (by unfold stepF; rw [if_neg (fun h => h11 h.2), if_neg (fun h => h3 h.2), if_neg (fun h => exy (by have h1 := h.1; rw [HPV.out] at h1; injection h1))]))
                    clear h11 h3 exy
                    go_wp2_with fail
                    go_quiet (fail)
                    go_wp2_with (first
                      | (at_builtin; refine wpList_append_fresh _ rfl _ _ 96 rfl W.heap.size 99 i1 (.agg #[.int .i64 0, .int .i64 0]) 2 16 Try.underlying96 ki kz0 kz1 kz2 rfl (by decide) u4 _ _ rfl ((HFQ.out _).own.alloc _) ⟨w1.heap.size, 0, none⟩ 1 1 [.int .i64 0, .int .i64 0] rfl rfl (cell_two_new _ _ _ _) (two_one _ _) X1.out X2.out (size_alloc_le (HFQ.out _).bel.size) ?_; intro v2 w2 o2 g2 _f2; have HF2 := hide ((HFQ.out _).app 0 HX.out (0, 0) 1 HRUN.out _ o2 g2); clear o2 g2 _f2))
                    go_roundw
                    case rel => exact ⟨i + 1, by have := HHB.out; omega, by go_num, _, HF2⟩
                    case measure => exact meas_add i 1 j (by have := HHB.out; omega) (by have := HHB.out; omega)
          · have bx0 : (x == 0) = false := by simp; exact x0
            by_cases h3 : 3 ≤ H
            · have z3 : (3 : Int) ≤ H := by omega
              have dz3 : decide ((3 : Int) ≤ H) = true := decide_eq_true z3
              by_cases hi0 : i = 0
              · subst hi0
                rw [Nat.add_zero] at _c
                have HRUN := hide (HST.out (x, 0) 1 (by unfold stepF; rw [if_neg (fun h => x0 h.1), if_neg (fun h => x0 h.1), if_neg (fun h => by cases h.1)]))
                clear x0 h3
                go_wp2_with fail
                go_quiet (fail)
                go_wp2_with (first
                  | (at_builtin; refine wpList_append_fresh _ rfl _ _ 96 rfl W.heap.size 99 i1 (.agg #[.int .i64 0, .int .i64 0]) 2 16 Try.underlying96 ki kz0 kz1 kz2 rfl (by decide) u4 _ _ rfl ((HFQ.out _).own.alloc _) ⟨w1.heap.size, 0, none⟩ 1 1 [.int .i64 x, .int .i64 0] rfl rfl (cell_two_new _ _ _ _) (two_one _ _) X1.out X2.out (size_alloc_le (HFQ.out _).bel.size) ?_; intro v2 w2 o2 g2 _f2; have HF2 := hide ((HFQ.out _).app x HX.out (x, 0) 1 HRUN.out _ o2 g2); clear o2 g2 _f2))
                go_roundw
                case rel => exact ⟨0 + 1, by have := HHB.out; omega, by go_num, _, HF2⟩
                case measure => exact meas_add 0 1 j (by have := HHB.out; omega) (by have := HHB.out; omega)
              · have zi0 : (0 : Int) < i := by omega
                have dzi0 : decide ((0 : Int) < i) = true := decide_eq_true zi0
                have dzn0 : decide (0 < i) = true := decide_eq_true (by omega)
                obtain ⟨y, hy⟩ := getZ? l (i - 1) (by rw [HN.out]; omega)
                have _c3 := HC2.out (i - 1) y hy
                have HPV := hide (show prevAt l i = some y by unfold prevAt; rw [if_neg hi0]; exact hy)
                have ei1 : (i : Int) - 1 = ((i - 1 : Nat) : Int) := by omega
                have ew1 : IntKind.i64.wrap ((i : Int) - 1) = ((i - 1 : Nat) : Int) := by rw [IntKind.wrap_i64]; omega
                have zp : ((i - 1 : Nat) : Int) < j := by omega
                generalize i - 1 = q at *
                clear hy hi0
                by_cases exy : y = x
                · subst exy
                  by_cases h6 : 6 < H
                  · have z6 : (6 : Int) < H := by omega
                    have HRUN := hide (HST.out (16, 3) 6 (by unfold stepF; rw [if_neg (fun h => x0 h.1), if_neg (fun h => x0 h.1), if_pos ⟨HPV.out, h3⟩, Nat.min_eq_right (by omega)]; rfl))
                    clear x0 h3 h6
                    go_wp2_with fail
                    go_quiet (fail)
                    go_wp2_with (first
                      | (at_builtin; refine wpList_append_fresh _ rfl _ _ 96 rfl W.heap.size 99 i1 (.agg #[.int .i64 0, .int .i64 0]) 2 16 Try.underlying96 ki kz0 kz1 kz2 rfl (by decide) u4 _ _ rfl ((HFQ.out _).own.alloc _) ⟨w1.heap.size, 0, none⟩ 1 1 [.int .i64 16, .int .i64 3] rfl rfl (cell_two_new _ _ _ _) (two_one _ _) X1.out X2.out (size_alloc_le (HFQ.out _).bel.size) ?_; intro v2 w2 o2 g2 _f2; have HF2 := hide ((HFQ.out _).app y HX.out (16, 3) 6 HRUN.out _ o2 g2); clear o2 g2 _f2))
                    go_roundw
                    case rel => exact ⟨i + 6, by have := HHB.out; omega, by go_num, _, HF2⟩
                    case measure => exact meas_add i 6 j (by have := HHB.out; omega) (by have := HHB.out; omega)
                  · have z6 : ¬ (6 : Int) < H := by omega
                    have HRUN := hide (HST.out (16, (H : Int) - 3) H (by unfold stepF; rw [if_neg (fun h => x0 h.1), if_neg (fun h => x0 h.1), if_pos ⟨HPV.out, h3⟩, Nat.min_eq_left (by omega)]))
                    clear x0 h3 h6
                    go_wp2_with fail
                    go_quiet (fail)
                    go_wp2_with (first
                      | (at_builtin; refine wpList_append_fresh _ rfl _ _ 96 rfl W.heap.size 99 i1 (.agg #[.int .i64 0, .int .i64 0]) 2 16 Try.underlying96 ki kz0 kz1 kz2 rfl (by decide) u4 _ _ rfl ((HFQ.out _).own.alloc _) ⟨w1.heap.size, 0, none⟩ 1 1 [.int .i64 16, .int .i64 ((H : Int) - 3)] rfl rfl (cell_two_new _ _ _ _) (two_one _ _) X1.out X2.out (size_alloc_le (HFQ.out _).bel.size) ?_; intro v2 w2 o2 g2 _f2; have HF2 := hide ((HFQ.out _).app y HX.out (16, ((H : Int) - 3)) H HRUN.out _ o2 g2); clear o2 g2 _f2))
                    go_roundw
                    case rel => exact ⟨i + H, by have := HHB.out; omega, by go_num, _, HF2⟩
                    case measure => exact meas_add i H j (by have := HHB.out; omega) (by have := HHB.out; omega)
                · have bxy : (y == x) = false := by simp; exact exy
                  have HRUN := hide (HST.out (x, 0) 1 (by unfold stepF; rw [if_neg (fun h => x0 h.1), if_neg (fun h => x0 h.1), if_neg (fun h => exy (by have h1 := h.1; rw [HPV.out] at h1; injection h1))]))
                  clear x0 h3 exy
                  go_wp2_with fail
                  go_quiet (fail)
                  go_wp2_with (first
                    | (at_builtin; refine wpList_append_fresh _ rfl _ _ 96 rfl W.heap.size 99 i1 (.agg #[.int .i64 0, .int .i64 0]) 2 16 Try.underlying96 ki kz0 kz1 kz2 rfl (by decide) u4 _ _ rfl ((HFQ.out _).own.alloc _) ⟨w1.heap.size, 0, none⟩ 1 1 [.int .i64 x, .int .i64 0] rfl rfl (cell_two_new _ _ _ _) (two_one _ _) X1.out X2.out (size_alloc_le (HFQ.out _).bel.size) ?_; intro v2 w2 o2 g2 _f2; have HF2 := hide ((HFQ.out _).app x HX.out (x, 0) 1 HRUN.out _ o2 g2); clear o2 g2 _f2))
                  go_roundw
                  case rel => exact ⟨i + 1, by have := HHB.out; omega, by go_num, _, HF2⟩
                  case measure => exact meas_add i 1 j (by have := HHB.out; omega) (by have := HHB.out; omega)
            · have z3 : decide ((3 : Int) ≤ H) = false := decide_eq_false (by omega)
              by_cases hi0 : i = 0
              · subst hi0
                rw [Nat.add_zero] at _c
                have HRUN := hide (HST.out (x, 0) 1 (by unfold stepF; rw [if_neg (fun h => x0 h.1), if_neg (fun h => x0 h.1), if_neg (fun h => by cases h.1)]))
                clear x0 h3
                go_wp2_with fail
                go_quiet (fail)
                go_wp2_with (first
                  | (at_builtin; refine wpList_append_fresh _ rfl _ _ 96 rfl W.heap.size 99 i1 (.agg #[.int .i64 0, .int .i64 0]) 2 16 Try.underlying96 ki kz0 kz1 kz2 rfl (by decide) u4 _ _ rfl ((HFQ.out _).own.alloc _) ⟨w1.heap.size, 0, none⟩ 1 1 [.int .i64 x, .int .i64 0] rfl rfl (cell_two_new _ _ _ _) (two_one _ _) X1.out X2.out (size_alloc_le (HFQ.out _).bel.size) ?_; intro v2 w2 o2 g2 _f2; have HF2 := hide ((HFQ.out _).app x HX.out (x, 0) 1 HRUN.out _ o2 g2); clear o2 g2 _f2))
                go_roundw
                case rel => exact ⟨0 + 1, by have := HHB.out; omega, by go_num, _, HF2⟩
                case measure => exact meas_add 0 1 j (by have := HHB.out; omega) (by have := HHB.out; omega)
              · have zi0 : (0 : Int) < i := by omega
                have dzi0 : decide ((0 : Int) < i) = true := decide_eq_true zi0
                have dzn0 : decide (0 < i) = true := decide_eq_true (by omega)
                obtain ⟨y, hy⟩ := getZ? l (i - 1) (by rw [HN.out]; omega)
                have _c3 := HC2.out (i - 1) y hy
                have HPV := hide (show prevAt l i = some y by unfold prevAt; rw [if_neg hi0]; exact hy)
                have ei1 : (i : Int) - 1 = ((i - 1 : Nat) : Int) := by omega
                have ew1 : IntKind.i64.wrap ((i : Int) - 1) = ((i - 1 : Nat) : Int) := by rw [IntKind.wrap_i64]; omega
                have zp : ((i - 1 : Nat) : Int) < j := by omega
                generalize i - 1 = q at *
                clear hy hi0
                by_cases exy : y = x
                · subst exy
                  have HRUN := hide (HST.out (y, 0) 1 (by unfold stepF; rw [if_neg (fun h => x0 h.1), if_neg (fun h => x0 h.1), if_neg (fun h => h3 h.2)]))
                  clear x0 h3
                  go_wp2_with fail
                  go_quiet (fail)
                  go_wp2_with (first
                    | (at_builtin; refine wpList_append_fresh _ rfl _ _ 96 rfl W.heap.size 99 i1 (.agg #[.int .i64 0, .int .i64 0]) 2 16 Try.underlying96 ki kz0 kz1 kz2 rfl (by decide) u4 _ _ rfl ((HFQ.out _).own.alloc _) ⟨w1.heap.size, 0, none⟩ 1 1 [.int .i64 y, .int .i64 0] rfl rfl (cell_two_new _ _ _ _) (two_one _ _) X1.out X2.out (size_alloc_le (HFQ.out _).bel.size) ?_; intro v2 w2 o2 g2 _f2; have HF2 := hide ((HFQ.out _).app y HX.out (y, 0) 1 HRUN.out _ o2 g2); clear o2 g2 _f2))
                  go_roundw
                  case rel => exact ⟨i + 1, by have := HHB.out; omega, by go_num, _, HF2⟩
                  case measure => exact meas_add i 1 j (by have := HHB.out; omega) (by have := HHB.out; omega)
                · have bxy : (y == x) = false := by simp; exact exy
                  have HRUN := hide (HST.out (x, 0) 1 (by unfold stepF; rw [if_neg (fun h => x0 h.1), if_neg (fun h => x0 h.1), if_neg (fun h => exy (by have h1 := h.1; rw [HPV.out] at h1; injection h1))]))
                  clear x0 h3 exy
                  go_wp2_with fail
                  go_quiet (fail)
                  go_wp2_with (first
                    | (at_builtin; refine wpList_append_fresh _ rfl _ _ 96 rfl W.heap.size 99 i1 (.agg #[.int .i64 0, .int .i64 0]) 2 16 Try.underlying96 ki kz0 kz1 kz2 rfl (by decide) u4 _ _ rfl ((HFQ.out _).own.alloc _) ⟨w1.heap.size, 0, none⟩ 1 1 [.int .i64 x, .int .i64 0] rfl rfl (cell_two_new _ _ _ _) (two_one _ _) X1.out X2.out (size_alloc_le (HFQ.out _).bel.size) ?_; intro v2 w2 o2 g2 _f2; have HF2 := hide ((HFQ.out _).app x HX.out (x, 0) 1 HRUN.out _ o2 g2); clear o2 g2 _f2))
                  go_roundw
                  case rel => exact ⟨i + 1, by have := HHB.out; omega, by go_num, _, HF2⟩
                  case measure => exact meas_add i 1 j (by have := HHB.out; omega) (by have := HHB.out; omega)
        · have hie : i = j := by omega
          subst hie
          have HD := hide (show FoldNew W l (.returned u4) wr by have h := HF.out; rw [← HN.out] at h; exact h.done HLB.out)
          go_wp2
          go_ret
          exact HD.out

theorem qfold_any (l : List Int) (a : Option Addr) (cap : Nat) (W : World) (harg : ArgZ W a l) (hl : l.length ≤ 3000) :
    Calls Try.prog 57 #[.slice a l.length cap] W fun e w' => FoldPost W l e w' :=
  (qfold_new l a cap W harg hl).mono fun _ _ h => h.post

end Go.Proofs.Ytaalbaiglkadlaa
