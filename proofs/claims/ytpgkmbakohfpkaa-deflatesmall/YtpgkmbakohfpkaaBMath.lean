/- Blocks, plainly: how often symbols stand, a block's lengths, its bits. Nothing of the program is named here, but by what is imported. -/
import Derived.Test.YtpgkmbakohfpkaaSA
import Derived.Test.YtpgkmbakohfpkaaWLen
import Derived.Test.YtpgkmbakohfpkaaKA
import Derived.Test.YtpgkmbakohfpkaaRA
import Derived.Test.YtpgkmbakohfpkaaBitsA
namespace Go.Proofs.Ytpgkmbakohfpkaa

/-- A token's symbol, and that of its distance. -/
def symT (t : Nat × Int × Int) : Nat := if t.2.1 ≤ 0 then t.1 else 257 + lnT t.2.1
def isM (t : Nat × Int × Int) : Bool := decide (0 < t.2.1)
def farT (t : Nat × Int × Int) : Nat := dsT t.2.2
/-- A token that may stand in a block. -/
def RightT (t : Nat × Int × Int) : Prop := t.1 < 256 ∧ (0 < t.2.1 → (3 ≤ t.2.1 ∧ t.2.1 ≤ 258) ∧ (1 ≤ t.2.2 ∧ t.2.2 ≤ 32768))
/-- How often. -/
def wL (l : List (Nat × Int × Int)) (s : Nat) : Nat := (if s = 256 then 1 else 0) + l.countP (fun t => symT t == s)
def wD (l : List (Nat × Int × Int)) (s : Nat) : Nat := l.countP (fun t => isM t && (farT t == s))
def litWs (l : List (Nat × Int × Int)) : List Nat := (List.range 286).map (wL l)
def distWs (l : List (Nat × Int × Int)) : List Nat := (List.range 30).map (wD l)

theorem lnT_le (n : Int) : lnT n ≤ 28 := top_le _ _ _
theorem dsT_le (n : Int) : dsT n ≤ 29 := top_le _ _ _
theorem symT_lt {t : Nat × Int × Int} (h : RightT t) : symT t < 286 := by
  unfold symT
  split
  · have := h.1; omega
  · have := lnT_le t.2.1; omega
theorem farT_lt (t : Nat × Int × Int) : farT t < 30 := by
  have := dsT_le t.2.2
  unfold farT
  omega
theorem litWs_length (l : List (Nat × Int × Int)) : (litWs l).length = 286 := by simp [litWs]
theorem distWs_length (l : List (Nat × Int × Int)) : (distWs l).length = 30 := by simp [distWs]
theorem litWs_get (l : List (Nat × Int × Int)) (i : Nat) (h : i < 286) : (litWs l)[i]? = some (wL l i) := by
  unfold litWs
  rw [List.getElem?_map, List.getElem?_range h]
  rfl
theorem distWs_get (l : List (Nat × Int × Int)) (i : Nat) (h : i < 30) : (distWs l)[i]? = some (wD l i) := by
  unfold distWs
  rw [List.getElem?_map, List.getElem?_range h]
  rfl
theorem litWs_nil : litWs [] = (List.replicate 286 0).set 256 1 := by decide +kernel
theorem distWs_nil : distWs [] = List.replicate 30 0 := by decide +kernel
theorem set_map_range (f g : Nat → Nat) (n k x : Nat) (_hk : k < n) (hx : g k = x) (h : ∀ i, i ≠ k → g i = f i) : (List.range n).map g = ((List.range n).map f).set k x := by
  apply List.ext_getElem?
  intro i
  by_cases hi : i < n
  · rw [List.getElem?_set, List.getElem?_map, List.getElem?_map, List.getElem?_range hi]
    by_cases e : k = i
    · subst e
      rw [if_pos rfl, if_pos (by simpa using hi)]
      simp [hx]
    · rw [if_neg e]
      simp [h i (fun e2 => e e2.symm)]
  · rw [List.getElem?_eq_none (by simpa using hi), List.getElem?_eq_none (by simpa using hi)]
theorem litWs_snoc (l : List (Nat × Int × Int)) (t : Nat × Int × Int) (h : symT t < 286) : litWs (l ++ [t]) = (litWs l).set (symT t) (wL l (symT t) + 1) := by
  refine set_map_range (wL l) (wL (l ++ [t])) 286 (symT t) _ h ?_ ?_
  · unfold wL
    rw [List.countP_append, List.countP_singleton]
    simp
    omega
  · intro i hi
    unfold wL
    have hb : (symT t == i) = false := by simp; exact fun e => hi e.symm
    rw [List.countP_append, List.countP_singleton, hb]
    simp
theorem distWs_lit (l : List (Nat × Int × Int)) (t : Nat × Int × Int) (h : t.2.1 ≤ 0) : distWs (l ++ [t]) = distWs l := by
  have e : isM t = false := decide_eq_false (by omega)
  unfold distWs
  apply List.map_congr_left
  intro i _
  unfold wD
  rw [List.countP_append, List.countP_singleton, e]
  simp
theorem distWs_mat (l : List (Nat × Int × Int)) (t : Nat × Int × Int) (h : 0 < t.2.1) : distWs (l ++ [t]) = (distWs l).set (farT t) (wD l (farT t) + 1) := by
  have e : isM t = true := decide_eq_true h
  refine set_map_range (wD l) (wD (l ++ [t])) 30 (farT t) _ (farT_lt t) ?_ ?_
  · unfold wD
    rw [List.countP_append, List.countP_singleton, e]
    simp
  · intro i hi
    unfold wD
    have hb : (farT t == i) = false := by simp; exact fun e => hi e.symm
    rw [List.countP_append, List.countP_singleton, e, hb]
    simp
theorem wL_le (l : List (Nat × Int × Int)) (s : Nat) : wL l s ≤ l.length + 1 := by
  unfold wL
  have := List.countP_le_length (p := fun t : Nat × Int × Int => symT t == s) (l := l)
  split <;> omega
theorem wD_le (l : List (Nat × Int × Int)) (s : Nat) : wD l s ≤ l.length := List.countP_le_length

theorem sum_one (a n : Nat) : ((List.range n).map fun s => if (a == s) = true then 1 else 0).sum ≤ 1 := by
  have key : ((List.range n).map fun s => if (a == s) = true then 1 else 0).sum = if a < n then 1 else 0 := by
    induction n with
    | zero => simp
    | succ n ih =>
      rw [List.range_succ, List.map_append, List.sum_append, ih]
      by_cases h : a = n
      · subst h; simp
      · have hb : (a == n) = false := by simp [h]
        simp only [List.map_cons, List.map_nil, List.sum_cons, List.sum_nil, hb, Bool.false_eq_true, if_false]
        by_cases h2 : a < n
        · rw [if_pos h2, if_pos (by omega)]; rfl
        · rw [if_neg h2, if_neg (by omega)]; rfl
  rw [key]
  split <;> omega
theorem sum_add (f g : Nat → Nat) : ∀ l : List Nat, (l.map fun s => f s + g s).sum = (l.map f).sum + (l.map g).sum
  | [] => rfl
  | x :: l => by
    have := sum_add f g l
    simp only [List.map_cons, List.sum_cons]
    omega
theorem sum_noughts : ∀ l : List Nat, (l.map fun _ => 0).sum = 0
  | [] => rfl
  | x :: l => by
    have := sum_noughts l
    simp only [List.map_cons, List.sum_cons]
    omega
theorem count_sum (f : Nat × Int × Int → Nat → Bool) (n : Nat) (hf : ∀ t, ((List.range n).map fun s => if f t s = true then 1 else 0).sum ≤ 1) : ∀ l : List (Nat × Int × Int), ((List.range n).map fun s => l.countP (fun t => f t s)).sum ≤ l.length
  | [] => by
    have := sum_noughts (List.range n)
    simp only [List.countP_nil, List.length_nil]
    omega
  | t :: l => by
    have ih := count_sum f n hf l
    have e : ((List.range n).map fun s => (t :: l).countP (fun t => f t s)) = (List.range n).map fun s => l.countP (fun t => f t s) + if f t s = true then 1 else 0 := by
      apply List.map_congr_left
      intro s _
      rw [List.countP_cons]
    rw [e, sum_add, List.length_cons]
    have := hf t
    omega
theorem litWs_sum (l : List (Nat × Int × Int)) : (litWs l).sum ≤ l.length + 1 := by
  unfold litWs
  have e : (List.range 286).map (wL l) = (List.range 286).map fun s => (if s = 256 then 1 else 0) + l.countP (fun t => symT t == s) := rfl
  rw [e, sum_add]
  have h1 := count_sum (fun t s => symT t == s) 286 (fun t => sum_one _ _) l
  have h2 : ((List.range 286).map fun s => if s = 256 then 1 else 0).sum = 1 := by decide +kernel
  rw [h2]
  omega
theorem distWs_sum (l : List (Nat × Int × Int)) : (distWs l).sum ≤ l.length := by
  refine count_sum (fun t s => isM t && (farT t == s)) 30 (fun t => ?_) l
  cases h : isM t with
  | false =>
    have := sum_noughts (List.range 30)
    simp only [Bool.false_and, Bool.false_eq_true, if_false]
    omega
  | true => simpa using sum_one (farT t) 30

theorem lim_small (ws : List Nat) (h : ws.sum < 2584) : LimTo ws 15 (lens ws) := by
  refine ⟨0, rfl, ?_, fun i hi => by omega⟩
  rw [shortL_iff]
  exact fun s => lens_fib ws h s
theorem lim_lens {ws out : List Nat} (h : ws.sum < 2584) (k : LimTo ws 15 out) : out = lens ws := k.uniq (lim_small ws h)

/-- Without the noughts at the end, but at least so many. -/
def cutN (l : List Nat) (least : Nat) : Nat → Nat
  | 0 => 0
  | n + 1 => if least < n + 1 ∧ l.getD n 0 = 0 then cutN l least n else n + 1
def cutL (l : List Nat) (least : Nat) : List Nat := l.take (cutN l least l.length)

theorem cutN_le (l : List Nat) (least : Nat) : ∀ n, cutN l least n ≤ n
  | 0 => Nat.le_refl _
  | n + 1 => by
    unfold cutN
    split
    · exact Nat.le_succ_of_le (cutN_le l least n)
    · exact Nat.le_refl _
theorem cutN_least (l : List Nat) (least : Nat) : ∀ n, least ≤ n → least ≤ cutN l least n
  | 0, h => by unfold cutN; omega
  | n + 1, h => by
    unfold cutN
    split
    · exact cutN_least l least n (by omega)
    · exact h
theorem cutN_zero (l : List Nat) (least : Nat) : ∀ n i, cutN l least n ≤ i → i < n → l.getD i 0 = 0
  | 0, i, _, h => by omega
  | n + 1, i, h1, h2 => by
    unfold cutN at h1
    split at h1
    · next h3 =>
      by_cases e : i = n
      · rw [e]; exact h3.2
      · exact cutN_zero l least n i h1 (by omega)
    · omega
theorem cutN_step (l : List Nat) (least n : Nat) (h : least < n + 1) (h2 : l.getD n 0 = 0) : cutN l least (n + 1) = cutN l least n := by rw [cutN, if_pos ⟨h, h2⟩]
theorem cutN_stop (l : List Nat) (least n : Nat) (h : ¬ (least < n ∧ l.getD (n - 1) 0 = 0)) : cutN l least n = n := by
  cases n with
  | zero => rfl
  | succ n => rw [Nat.add_sub_cancel] at h; rw [cutN, if_neg h]
theorem cutL_length (l : List Nat) (least : Nat) : (cutL l least).length = cutN l least l.length := by
  unfold cutL
  rw [List.length_take]
  have := cutN_le l least l.length
  omega
theorem cutL_get (l : List Nat) (least i : Nat) : (cutL l least).getD i 0 = l.getD i 0 := by
  unfold cutL
  simp only [List.getD_eq_getElem?_getD, List.getElem?_take]
  split
  · rfl
  · by_cases h : i < l.length
    · have := cutN_zero l least l.length i (by omega) h
      rw [List.getD_eq_getElem?_getD] at this
      rw [this]
      rfl
    · rw [List.getElem?_eq_none (by omega)]

theorem krTo_append (a b : List Nat) (k : Nat) : krTo (a ++ b) k = krTo a k + krTo b k := by simp [krTo]
theorem krTo_noughts (l : List Nat) (k : Nat) (h : ∀ x ∈ l, x = 0) : krTo l k = 0 := by
  induction l with
  | nil => rfl
  | cons x l ih =>
    have h1 := ih (fun y hy => h y (List.mem_cons_of_mem _ hy))
    have h2 := h x (List.mem_cons_self ..)
    unfold krTo at h1 ⊢
    rw [List.map_cons, List.sum_cons, h1, h2]
    rfl
theorem cut_rest (l : List Nat) (least : Nat) : ∀ x ∈ l.drop (cutN l least l.length), x = 0 := by
  intro x hx
  obtain ⟨i, hi⟩ := List.getElem?_of_mem hx
  rw [List.getElem?_drop] at hi
  have h1 : cutN l least l.length + i < l.length := (List.getElem?_eq_some_iff.1 hi).1
  have h2 := cutN_zero l least l.length _ (by omega) h1
  rw [List.getD_eq_getElem?_getD, hi] at h2
  exact h2
theorem MakesC.cut {l : List Nat} (h : MakesC l) (least : Nat) : MakesC (cutL l least) := by
  have hs : l = cutL l least ++ l.drop (cutN l least l.length) := (List.take_append_drop _ _).symm
  have hk : krTo l 15 = krTo (cutL l least) 15 := by
    rw [hs, krTo_append, ← hs, krTo_noughts _ _ (cut_rest l least), Nat.add_zero]
  have hn : numL l = numL (cutL l least) := by
    unfold numL
    have hz : (l.drop (cutN l least l.length)).countP (fun x => x != 0) = 0 := List.countP_eq_zero.2 (fun x hx => by rw [cut_rest l least x hx]; simp)
    conv => lhs; rw [hs]
    rw [List.countP_append, hz, Nat.add_zero]
  refine ⟨fun x hx => h.each x (List.mem_of_mem_take hx), ?_⟩
  rw [← hk, ← hn]
  exact h.full

/-- What lengths of those that stand fill. -/
def krG (f : Nat → Nat) : List Nat → Nat → Nat
  | [], _ => 0
  | w :: ws, i => (if w = 0 then 0 else 2 ^ (15 - f i)) + krG f ws (i + 1)
theorem krG_stand (f : Nat → Nat) (ws : List Nat) : ∀ i, kraft 15 ((stand ws i).map f) = krG f ws i := by
  induction ws with
  | nil => intro i; rfl
  | cons w ws ih =>
    intro i
    unfold stand krG
    by_cases h : w = 0
    · rw [if_pos h, if_pos h, ih, Nat.zero_add]
    · rw [if_neg h, if_neg h]
      show 2 ^ (15 - f i) + kraft 15 _ = _
      rw [ih]
theorem krG_lens (f : Nat → Nat) (ws : List Nat) : ∀ i, (∀ j, j < ws.length → (ws.getD j 0 = 0 → f (i + j) = 0) ∧ (ws.getD j 0 ≠ 0 → 1 ≤ f (i + j) ∧ f (i + j) ≤ 15)) → krTo ((List.range ws.length).map fun j => f (i + j)) 15 = krG f ws i ∧ numL ((List.range ws.length).map fun j => f (i + j)) = (stand ws i).length := by
  induction ws with
  | nil => intro i _; exact ⟨rfl, rfl⟩
  | cons w ws ih =>
    intro i h
    have h0 := h 0 (by simp)
    have hr := ih (i + 1) (fun j hj => by
      have := h (j + 1) (by simpa using hj)
      rw [List.getD_cons_succ, show i + (j + 1) = i + 1 + j by omega] at this
      exact this)
    have e : (List.range (w :: ws).length).map (fun j => f (i + j)) = f i :: (List.range ws.length).map fun j => f (i + 1 + j) := by
      rw [List.length_cons, List.range_succ_eq_map, List.map_cons, List.map_map]
      congr 1
      apply List.map_congr_left
      intro j _
      show f (i + (j + 1)) = _
      rw [show i + (j + 1) = i + 1 + j by omega]
    rw [e]
    rw [List.getD_cons_zero, Nat.add_zero] at h0
    unfold krG stand
    by_cases hw : w = 0
    · have hf := h0.1 hw
      rw [if_pos hw, if_pos hw]
      constructor
      · have := hr.1
        unfold krTo at this ⊢
        rw [List.map_cons, List.sum_cons, this, hf]
        simp
      · have := hr.2
        unfold numL at this ⊢
        rw [List.countP_cons, this, hf]
        simp
    · have hf := h0.2 hw
      rw [if_neg hw, if_neg hw]
      constructor
      · have := hr.1
        unfold krTo at this ⊢
        rw [List.map_cons, List.sum_cons, this, if_neg (by omega), if_pos hf.2]
      · have := hr.2
        unfold numL at this ⊢
        rw [List.countP_cons, this, if_pos (by simp; omega), List.length_cons]

theorem lenF_each (ws : List Nat) (h : shortL ws 15) (j : Nat) (hj : j < ws.length) : (ws.getD j 0 = 0 → lenF ws j = 0) ∧ (ws.getD j 0 ≠ 0 → 1 ≤ lenF ws j ∧ lenF ws j ≤ 15) := by
  constructor
  · intro h0; unfold lenF; rw [if_pos h0]
  · intro h0
    refine ⟨?_, ((shortL_iff ws 15).1 h) j⟩
    by_cases h2 : 2 ≤ cnt ws
    · exact lens_pos ws h2 j ((stand0 ws j).2 ⟨hj, h0⟩)
    · have hm : j ∈ stand ws 0 := (stand0 ws j).2 ⟨hj, h0⟩
      have h1 : cnt ws = 1 := by
        have := List.length_pos_of_mem hm
        unfold cnt at h2 ⊢
        omega
      unfold lenF
      rw [if_neg h0, if_pos h1]
      exact Nat.le_refl _
/-- Lengths that are short enough make a code. -/
theorem makes_lens (ws : List Nat) (h : shortL ws 15) : MakesC (lens ws) := by
  have hk := krG_lens (lenF ws) ws 0 (fun j hj => by rw [Nat.zero_add]; exact lenF_each ws h j hj)
  simp only [Nat.zero_add] at hk
  have hk1 : krTo (lens ws) 15 = krG (lenF ws) ws 0 := hk.1
  have hk2 : numL (lens ws) = cnt ws := hk.2
  refine ⟨h, ?_⟩
  rw [hk1, hk2, ← krG_stand]
  by_cases h2 : 2 ≤ cnt ws
  · left
    rw [lens_full ws h2 15 (fun s _ => ((shortL_iff ws 15).1 h) s)]
  · by_cases h0 : cnt ws = 0
    · right; left; exact h0
    · right; right
      have h1 : cnt ws = 1 := by omega
      refine ⟨h1, ?_⟩
      obtain ⟨s, hs⟩ : ∃ s, stand ws 0 = [s] := List.length_eq_one_iff.1 h1
      have hm := (stand0 ws s).1 (by rw [hs]; exact List.mem_singleton.2 rfl)
      rw [hs]
      show 2 ^ (15 - lenF ws s) + 0 = _
      unfold lenF
      rw [if_neg hm.2, if_pos h1]
theorem halfJ_short15 {ws : List Nat} {m : Nat} {out : List Nat} (h : LimTo ws m out) (hm : m ≤ 15) : MakesC out ∧ out.length = ws.length ∧ (∀ x ∈ out, x ≤ m) := by
  obtain ⟨j, rfl, h2, _⟩ := h
  refine ⟨makes_lens _ (fun x hx => Nat.le_trans (h2 x hx) hm), ?_, h2⟩
  rw [lens_length, halfJ_len]

end Go.Proofs.Ytpgkmbakohfpkaa
