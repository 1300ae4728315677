import Derived.Test.YtaalbaiglkadlaaGreatSA
import Derived.Test.YtaalbaiglkadlaaGreatWL
import Derived.Test.YtaalbaiglkadlaaGreatKA
import Derived.Test.YtaalbaiglkadlaaGreatRA
import Derived.Test.YtaalbaiglkadlaaGreatBitsA
import Derived.BigRegion
import Derived.Test.YtaalbaiglkadlaaGreatMA
import Derived.Test.YtaalbaiglkadlaaGreatQB
/- Blocks, plainly: how often symbols stand, a block's lengths, its bits. Nothing of the program is named here, but by what is imported. -/
namespace Go.Proofs.YtaalbaiglkadlaaGreat

/-- A token's symbol, and that of its distance. -/
def symT (t : Nat × Int × Int) : Nat := if t.2.1 ≤ 0 then t.1 else 257 + lnT t.2.1
def isM (t : Nat × Int × Int) : Bool := decide (0 < t.2.1)
def farT (t : Nat × Int × Int) : Nat := dsT t.2.2
/-- A token that may stand in a block. -/
def RightT (t : Nat × Int × Int) : Prop := t.1 < 256 ∧ (0 < t.2.1 → (3 ≤ t.2.1 ∧ t.2.1 ≤ 258) ∧ (1 ≤ t.2.2 ∧ t.2.2 ≤ 32768))
/-- How often. -/
def wL (l : List (Nat × Int × Int)) (s : Nat) : Nat := (if s = 256 then 1 else 0) + l.countP (fun t => symT t == s)
def wD (l : List (Nat × Int × Int)) (s : Nat) : Nat := l.countP (fun t => isM t && (farT t == s))
def litWs (l : List (Nat × Int × Int)) : List Nat := (List.range 286).map (wL l)
def distWs (l : List (Nat × Int × Int)) : List Nat := (List.range 30).map (wD l)

theorem lnT_le (n : Int) : lnT n ≤ 28 := top_le _ _ _
theorem dsT_le (n : Int) : dsT n ≤ 29 := top_le _ _ _
theorem symT_lt {t : Nat × Int × Int} (h : RightT t) : symT t < 286 := by
  unfold symT
  split
  · have := h.1; omega
  · have := lnT_le t.2.1; omega
theorem farT_lt (t : Nat × Int × Int) : farT t < 30 := by
  have := dsT_le t.2.2
  unfold farT
  omega
theorem litWs_length (l : List (Nat × Int × Int)) : (litWs l).length = 286 := by simp [litWs]
theorem distWs_length (l : List (Nat × Int × Int)) : (distWs l).length = 30 := by simp [distWs]
theorem litWs_get (l : List (Nat × Int × Int)) (i : Nat) (h : i < 286) : (litWs l)[i]? = some (wL l i) := by
  unfold litWs
  rw [List.getElem?_map, List.getElem?_range h]
  rfl
theorem distWs_get (l : List (Nat × Int × Int)) (i : Nat) (h : i < 30) : (distWs l)[i]? = some (wD l i) := by
  unfold distWs
  rw [List.getElem?_map, List.getElem?_range h]
  rfl
theorem litWs_nil : litWs [] = (List.replicate 286 0).set 256 1 := by decide +kernel
theorem distWs_nil : distWs [] = List.replicate 30 0 := by decide +kernel
theorem set_map_range (f g : Nat → Nat) (n k x : Nat) (_hk : k < n) (hx : g k = x) (h : ∀ i, i ≠ k → g i = f i) : (List.range n).map g = ((List.range n).map f).set k x := by
  apply List.ext_getElem?
  intro i
  by_cases hi : i < n
  · rw [List.getElem?_set, List.getElem?_map, List.getElem?_map, List.getElem?_range hi]
    by_cases e : k = i
    · subst e
      rw [if_pos rfl, if_pos (by simpa using hi)]
      simp [hx]
    · rw [if_neg e]
      simp [h i (fun e2 => e e2.symm)]
  · rw [List.getElem?_eq_none (by simpa using hi), List.getElem?_eq_none (by simpa using hi)]
theorem litWs_snoc (l : List (Nat × Int × Int)) (t : Nat × Int × Int) (h : symT t < 286) : litWs (l ++ [t]) = (litWs l).set (symT t) (wL l (symT t) + 1) := by
  refine set_map_range (wL l) (wL (l ++ [t])) 286 (symT t) _ h ?_ ?_
  · unfold wL
    rw [List.countP_append, List.countP_singleton]
    simp
    omega
  · intro i hi
    unfold wL
    have hb : (symT t == i) = false := by simp; exact fun e => hi e.symm
    rw [List.countP_append, List.countP_singleton, hb]
    simp
theorem distWs_lit (l : List (Nat × Int × Int)) (t : Nat × Int × Int) (h : t.2.1 ≤ 0) : distWs (l ++ [t]) = distWs l := by
  have e : isM t = false := decide_eq_false (by omega)
  unfold distWs
  apply List.map_congr_left
  intro i _
  unfold wD
  rw [List.countP_append, List.countP_singleton, e]
  simp
theorem distWs_mat (l : List (Nat × Int × Int)) (t : Nat × Int × Int) (h : 0 < t.2.1) : distWs (l ++ [t]) = (distWs l).set (farT t) (wD l (farT t) + 1) := by
  have e : isM t = true := decide_eq_true h
  refine set_map_range (wD l) (wD (l ++ [t])) 30 (farT t) _ (farT_lt t) ?_ ?_
  · unfold wD
    rw [List.countP_append, List.countP_singleton, e]
    simp
  · intro i hi
    unfold wD
    have hb : (farT t == i) = false := by simp; exact fun e => hi e.symm
    rw [List.countP_append, List.countP_singleton, e, hb]
    simp
theorem wL_le (l : List (Nat × Int × Int)) (s : Nat) : wL l s ≤ l.length + 1 := by
  unfold wL
  have := List.countP_le_length (p := fun t : Nat × Int × Int => symT t == s) (l := l)
  split <;> omega
theorem wD_le (l : List (Nat × Int × Int)) (s : Nat) : wD l s ≤ l.length := List.countP_le_length

theorem sum_one (a n : Nat) : ((List.range n).map fun s => if (a == s) = true then 1 else 0).sum ≤ 1 := by
  have key : ((List.range n).map fun s => if (a == s) = true then 1 else 0).sum = if a < n then 1 else 0 := by
    induction n with
    | zero => simp
    | succ n ih =>
      rw [List.range_succ, List.map_append, List.sum_append, ih]
      by_cases h : a = n
      · subst h; simp
      · have hb : (a == n) = false := by simp [h]
        simp only [List.map_cons, List.map_nil, List.sum_cons, List.sum_nil, hb, Bool.false_eq_true, if_false]
        by_cases h2 : a < n
        · rw [if_pos h2, if_pos (by omega)]; rfl
        · rw [if_neg h2, if_neg (by omega)]; rfl
  rw [key]
  split <;> omega
theorem sum_add (f g : Nat → Nat) : ∀ l : List Nat, (l.map fun s => f s + g s).sum = (l.map f).sum + (l.map g).sum
  | [] => rfl
  | x :: l => by
    have := sum_add f g l
    simp only [List.map_cons, List.sum_cons]
    omega
theorem sum_noughts : ∀ l : List Nat, (l.map fun _ => 0).sum = 0
  | [] => rfl
  | x :: l => by
    have := sum_noughts l
    simp only [List.map_cons, List.sum_cons]
    omega
theorem count_sum (f : Nat × Int × Int → Nat → Bool) (n : Nat) (hf : ∀ t, ((List.range n).map fun s => if f t s = true then 1 else 0).sum ≤ 1) : ∀ l : List (Nat × Int × Int), ((List.range n).map fun s => l.countP (fun t => f t s)).sum ≤ l.length
  | [] => by
    have := sum_noughts (List.range n)
    simp only [List.countP_nil, List.length_nil]
    omega
  | t :: l => by
    have ih := count_sum f n hf l
    have e : ((List.range n).map fun s => (t :: l).countP (fun t => f t s)) = (List.range n).map fun s => l.countP (fun t => f t s) + if f t s = true then 1 else 0 := by
      apply List.map_congr_left
      intro s _
      rw [List.countP_cons]
    rw [e, sum_add, List.length_cons]
    have := hf t
    omega
theorem litWs_sum (l : List (Nat × Int × Int)) : (litWs l).sum ≤ l.length + 1 := by
  unfold litWs
  have e : (List.range 286).map (wL l) = (List.range 286).map fun s => (if s = 256 then 1 else 0) + l.countP (fun t => symT t == s) := rfl
  rw [e, sum_add]
  have h1 := count_sum (fun t s => symT t == s) 286 (fun t => sum_one _ _) l
  have h2 : ((List.range 286).map fun s => if s = 256 then 1 else 0).sum = 1 := by decide +kernel
  rw [h2]
  omega
theorem distWs_sum (l : List (Nat × Int × Int)) : (distWs l).sum ≤ l.length := by
  refine count_sum (fun t s => isM t && (farT t == s)) 30 (fun t => ?_) l
  cases h : isM t with
  | false =>
    have := sum_noughts (List.range 30)
    simp only [Bool.false_and, Bool.false_eq_true, if_false]
    omega
  | true => simpa using sum_one (farT t) 30

theorem lim_small (ws : List Nat) (h : ws.sum < 2584) : LimTo ws 15 (lens ws) := by
  refine ⟨0, rfl, ?_, fun i hi => by omega⟩
  rw [shortL_iff]
  exact fun s => lens_fib ws h s
theorem lim_lens {ws out : List Nat} (h : ws.sum < 2584) (k : LimTo ws 15 out) : out = lens ws := k.uniq (lim_small ws h)

/-- Without the noughts at the end, but at least so many. -/
def cutN (l : List Nat) (least : Nat) : Nat → Nat
  | 0 => 0
  | n + 1 => if least < n + 1 ∧ l.getD n 0 = 0 then cutN l least n else n + 1
def cutL (l : List Nat) (least : Nat) : List Nat := l.take (cutN l least l.length)

theorem cutN_le (l : List Nat) (least : Nat) : ∀ n, cutN l least n ≤ n
  | 0 => Nat.le_refl _
  | n + 1 => by
    unfold cutN
    split
    · exact Nat.le_succ_of_le (cutN_le l least n)
    · exact Nat.le_refl _
theorem cutN_least (l : List Nat) (least : Nat) : ∀ n, least ≤ n → least ≤ cutN l least n
  | 0, h => by unfold cutN; omega
  | n + 1, h => by
    unfold cutN
    split
    · exact cutN_least l least n (by omega)
    · exact h
theorem cutN_zero (l : List Nat) (least : Nat) : ∀ n i, cutN l least n ≤ i → i < n → l.getD i 0 = 0
  | 0, i, _, h => by omega
  | n + 1, i, h1, h2 => by
    unfold cutN at h1
    split at h1
    · next h3 =>
      by_cases e : i = n
      · rw [e]; exact h3.2
      · exact cutN_zero l least n i h1 (by omega)
    · omega
theorem cutN_step (l : List Nat) (least n : Nat) (h : least < n + 1) (h2 : l.getD n 0 = 0) : cutN l least (n + 1) = cutN l least n := by rw [cutN, if_pos ⟨h, h2⟩]
theorem cutN_stop (l : List Nat) (least n : Nat) (h : ¬ (least < n ∧ l.getD (n - 1) 0 = 0)) : cutN l least n = n := by
  cases n with
  | zero => rfl
  | succ n => rw [Nat.add_sub_cancel] at h; rw [cutN, if_neg h]
theorem cutL_length (l : List Nat) (least : Nat) : (cutL l least).length = cutN l least l.length := by
  unfold cutL
  rw [List.length_take]
  have := cutN_le l least l.length
  omega
theorem cutL_get (l : List Nat) (least i : Nat) : (cutL l least).getD i 0 = l.getD i 0 := by
  unfold cutL
  simp only [List.getD_eq_getElem?_getD, List.getElem?_take]
  split
  · rfl
  · by_cases h : i < l.length
    · have := cutN_zero l least l.length i (by omega) h
      rw [List.getD_eq_getElem?_getD] at this
      rw [this]
      rfl
    · rw [List.getElem?_eq_none (by omega)]

theorem krTo_append (a b : List Nat) (k : Nat) : krTo (a ++ b) k = krTo a k + krTo b k := by simp [krTo]
theorem krTo_noughts (l : List Nat) (k : Nat) (h : ∀ x ∈ l, x = 0) : krTo l k = 0 := by
  induction l with
  | nil => rfl
  | cons x l ih =>
    have h1 := ih (fun y hy => h y (List.mem_cons_of_mem _ hy))
    have h2 := h x (List.mem_cons_self ..)
    unfold krTo at h1 ⊢
    rw [List.map_cons, List.sum_cons, h1, h2]
    rfl
theorem cut_rest (l : List Nat) (least : Nat) : ∀ x ∈ l.drop (cutN l least l.length), x = 0 := by
  intro x hx
  obtain ⟨i, hi⟩ := List.getElem?_of_mem hx
  rw [List.getElem?_drop] at hi
  have h1 : cutN l least l.length + i < l.length := (List.getElem?_eq_some_iff.1 hi).1
  have h2 := cutN_zero l least l.length _ (by omega) h1
  rw [List.getD_eq_getElem?_getD, hi] at h2
  exact h2
theorem MakesC.cut {l : List Nat} (h : MakesC l) (least : Nat) : MakesC (cutL l least) := by
  have hs : l = cutL l least ++ l.drop (cutN l least l.length) := (List.take_append_drop _ _).symm
  have hk : krTo l 15 = krTo (cutL l least) 15 := by
    rw [hs, krTo_append, ← hs, krTo_noughts _ _ (cut_rest l least), Nat.add_zero]
  have hn : numL l = numL (cutL l least) := by
    unfold numL
    have hz : (l.drop (cutN l least l.length)).countP (fun x => x != 0) = 0 := List.countP_eq_zero.2 (fun x hx => by rw [cut_rest l least x hx]; simp)
    conv => lhs; rw [hs]
    rw [List.countP_append, hz, Nat.add_zero]
  refine ⟨fun x hx => h.each x (List.mem_of_mem_take hx), ?_⟩
  rw [← hk, ← hn]
  exact h.full

/-- What lengths of those that stand fill. -/
def krG (f : Nat → Nat) : List Nat → Nat → Nat
  | [], _ => 0
  | w :: ws, i => (if w = 0 then 0 else 2 ^ (15 - f i)) + krG f ws (i + 1)
theorem krG_stand (f : Nat → Nat) (ws : List Nat) : ∀ i, kraft 15 ((stand ws i).map f) = krG f ws i := by
  induction ws with
  | nil => intro i; rfl
  | cons w ws ih =>
    intro i
    unfold stand krG
    by_cases h : w = 0
    · rw [if_pos h, if_pos h, ih, Nat.zero_add]
    · rw [if_neg h, if_neg h]
      show 2 ^ (15 - f i) + kraft 15 _ = _
      rw [ih]
theorem krG_lens (f : Nat → Nat) (ws : List Nat) : ∀ i, (∀ j, j < ws.length → (ws.getD j 0 = 0 → f (i + j) = 0) ∧ (ws.getD j 0 ≠ 0 → 1 ≤ f (i + j) ∧ f (i + j) ≤ 15)) → krTo ((List.range ws.length).map fun j => f (i + j)) 15 = krG f ws i ∧ numL ((List.range ws.length).map fun j => f (i + j)) = (stand ws i).length := by
  induction ws with
  | nil => intro i _; exact ⟨rfl, rfl⟩
  | cons w ws ih =>
    intro i h
    have h0 := h 0 (by simp)
    have hr := ih (i + 1) (fun j hj => by
      have := h (j + 1) (by simpa using hj)
      rw [List.getD_cons_succ, show i + (j + 1) = i + 1 + j by omega] at this
      exact this)
    have e : (List.range (w :: ws).length).map (fun j => f (i + j)) = f i :: (List.range ws.length).map fun j => f (i + 1 + j) := by
      rw [List.length_cons, List.range_succ_eq_map, List.map_cons, List.map_map]
      congr 1
      apply List.map_congr_left
      intro j _
      show f (i + (j + 1)) = _
      rw [show i + (j + 1) = i + 1 + j by omega]
    rw [e]
    rw [List.getD_cons_zero, Nat.add_zero] at h0
    unfold krG stand
    by_cases hw : w = 0
    · have hf := h0.1 hw
      rw [if_pos hw, if_pos hw]
      constructor
      · have := hr.1
        unfold krTo at this ⊢
        rw [List.map_cons, List.sum_cons, this, hf]
        simp
      · have := hr.2
        unfold numL at this ⊢
        rw [List.countP_cons, this, hf]
        simp
    · have hf := h0.2 hw
      rw [if_neg hw, if_neg hw]
      constructor
      · have := hr.1
        unfold krTo at this ⊢
        rw [List.map_cons, List.sum_cons, this, if_neg (by omega), if_pos hf.2]
      · have := hr.2
        unfold numL at this ⊢
        rw [List.countP_cons, this, if_pos (by simp; omega), List.length_cons]

theorem lenF_each (ws : List Nat) (h : shortL ws 15) (j : Nat) (hj : j < ws.length) : (ws.getD j 0 = 0 → lenF ws j = 0) ∧ (ws.getD j 0 ≠ 0 → 1 ≤ lenF ws j ∧ lenF ws j ≤ 15) := by
  constructor
  · intro h0; unfold lenF; rw [if_pos h0]
  · intro h0
    refine ⟨?_, ((shortL_iff ws 15).1 h) j⟩
    by_cases h2 : 2 ≤ cnt ws
    · exact lens_pos ws h2 j ((stand0 ws j).2 ⟨hj, h0⟩)
    · have hm : j ∈ stand ws 0 := (stand0 ws j).2 ⟨hj, h0⟩
      have h1 : cnt ws = 1 := by
        have := List.length_pos_of_mem hm
        unfold cnt at h2 ⊢
        omega
      unfold lenF
      rw [if_neg h0, if_pos h1]
      exact Nat.le_refl _
/-- Lengths that are short enough make a code. -/
theorem makes_lens (ws : List Nat) (h : shortL ws 15) : MakesC (lens ws) := by
  have hk := krG_lens (lenF ws) ws 0 (fun j hj => by rw [Nat.zero_add]; exact lenF_each ws h j hj)
  simp only [Nat.zero_add] at hk
  have hk1 : krTo (lens ws) 15 = krG (lenF ws) ws 0 := hk.1
  have hk2 : numL (lens ws) = cnt ws := hk.2
  refine ⟨h, ?_⟩
  rw [hk1, hk2, ← krG_stand]
  by_cases h2 : 2 ≤ cnt ws
  · left
    rw [lens_full ws h2 15 (fun s _ => ((shortL_iff ws 15).1 h) s)]
  · by_cases h0 : cnt ws = 0
    · right; left; exact h0
    · right; right
      have h1 : cnt ws = 1 := by omega
      refine ⟨h1, ?_⟩
      obtain ⟨s, hs⟩ : ∃ s, stand ws 0 = [s] := List.length_eq_one_iff.1 h1
      have hm := (stand0 ws s).1 (by rw [hs]; exact List.mem_singleton.2 rfl)
      rw [hs]
      show 2 ^ (15 - lenF ws s) + 0 = _
      unfold lenF
      rw [if_neg hm.2, if_pos h1]
theorem halfJ_short15 {ws : List Nat} {m : Nat} {out : List Nat} (h : LimTo ws m out) (hm : m ≤ 15) : MakesC out ∧ out.length = ws.length ∧ (∀ x ∈ out, x ≤ m) := by
  obtain ⟨j, rfl, h2, _⟩ := h
  refine ⟨makes_lens _ (fun x hx => Nat.le_trans (h2 x hx) hm), ?_, h2⟩
  rw [lens_length, halfJ_len]

end Go.Proofs.YtaalbaiglkadlaaGreat

/- Contracts of the document's layer 9: Plain. -/
namespace Go.Proofs.YtaalbaiglkadlaaGreat
open Go.RowKit Go.Lib

theorem ArgN.toZ {w : World} {a : Option Addr} {l : List Nat} (h : ArgN w a l) : ArgZ w a (l.map fun (x : Nat) => (x : Int)) := by
  intro i x hx
  rw [List.getElem?_map] at hx
  cases hy : l[i]? with
  | none => rw [hy] at hx; cases hx
  | some y =>
    rw [hy] at hx
    injection hx with hx
    subst hx
    exact h i y hy

/-- Two rows of numbers come back. -/
def TwoN (W : World) (x y : List Nat) (e : Ending) (w' : World) : Prop := ∃ a c b d, e = .returned (.tuple #[.slice a x.length c, .slice b y.length d]) ∧ ArgN w' a x ∧ ArgN w' b y ∧ (a = none → c = 0) ∧ (b = none → d = 0) ∧ Below W.heap.size W w'

/-- The same, and both are new. -/
def NewA (W : World) (a : Option Addr) : Prop := ∀ b off, a = some ⟨b, off, none⟩ → W.heap.size ≤ b
def TwoNew (W : World) (x y : List Nat) (e : Ending) (w' : World) : Prop := ∃ a c b d, e = .returned (.tuple #[.slice a x.length c, .slice b y.length d]) ∧ ArgN w' a x ∧ ArgN w' b y ∧ (a = none → c = 0) ∧ (b = none → d = 0) ∧ Below W.heap.size W w' ∧ NewA W a ∧ NewA W b
theorem TwoNew.two {W : World} {x y : List Nat} {e : Ending} {w' : World} (h : TwoNew W x y e w') : TwoN W x y e w' := by
  obtain ⟨a, c, b, d, h1, h2, h3, h4, h5, h6, _⟩ := h
  exact ⟨a, c, b, d, h1, h2, h3, h4, h5, h6⟩

/-- The fixed codes' lengths. -/
def plainF (i : Nat) : Nat := if i < 144 then 8 else if i < 256 then 9 else if i < 280 then 7 else 8
def plainL : List Nat := (List.range 288).map plainF
def plainD : List Nat := (List.range 32).map fun _ => 5

theorem make_int (n : Nat) (hn : n ≤ 1000) (w : World) : (Instr.makeSlice 63 (.int .i64 (n : Int)) (.int .i64 (n : Int))).run Tryz.prog w = .ok (.slice (some ⟨w.heap.size, 0, none⟩) n n) (w.alloc (.cells (madeCells #[.int .i64 0] n) 3)) :=
  run_make_row' (P := Tryz.prog) 63 3 (.int .i64 0) 8 Tryz.underlying63 Tryz.infoInt rfl .i64 .i64 n (by omega) (by omega) w

theorem own_other {w : World} {B p o : Nat} {e : TypeId} {size n : Nat} {v u : Value} {xs : List Value} (h : w.ownsRow B e size v n xs) (hp : v.ownBlock ≠ some p) : (w.setCell ⟨p, o, none⟩ u).ownsRow B e size v n xs := by
  refine ⟨h.1, ?_⟩
  rcases h.2 with h2 | ⟨g, cap, cur, hv, hg, hh, r⟩
  · exact .inl h2
  · refine .inr ⟨g, cap, cur, hv, hg, ?_, r⟩
    rw [Below.heap_setCell _ _ _ _ (fun e => hp (by rw [hv, show g = p from e]; rfl))]
    exact hh

/-- Two new rows of numbers, side by side. -/
structure TwoRows (w W : World) (P1 P2 n m : Nat) (x y : List Nat) : Prop where
  o1 : w.ownsRow W.heap.size 3 1 (.slice (some ⟨P1, 0, none⟩) n n) n (natCs x)
  o2 : w.ownsRow W.heap.size 3 1 (.slice (some ⟨P2, 0, none⟩) m m) m (natCs y)
  ne : P1 ≠ P2
  bel : Below W.heap.size W w

section
variable {w w' W : World} {P1 P2 n m : Nat} {x y : List Nat}
theorem TwoRows.lo1 (h : TwoRows w W P1 P2 n m x y) : W.heap.size ≤ P1 := (h.o1.lt P1 rfl).1
theorem TwoRows.lo2 (h : TwoRows w W P1 P2 n m x y) : W.heap.size ≤ P2 := (h.o2.lt P2 rfl).1
theorem TwoRows.set1 (h : TwoRows w W P1 P2 n m x y) (j z : Nat) : TwoRows (w.setCell ⟨P1, j, none⟩ (.int .i64 (z : Int))) W P1 P2 n m (x.set j z) y :=
  ⟨own_set h.o1 j z, own_other h.o2 (fun e => h.ne (by injection e with e; exact e.symm)), h.ne, h.bel.setCell (p := ⟨P1, j, none⟩) h.lo1 _⟩
theorem TwoRows.set2 (h : TwoRows w W P1 P2 n m x y) (j z : Nat) : TwoRows (w.setCell ⟨P2, j, none⟩ (.int .i64 (z : Int))) W P1 P2 n m x (y.set j z) :=
  ⟨own_other h.o1 (fun e => h.ne (by injection e with e)), own_set h.o2 j z, h.ne, h.bel.setCell (p := ⟨P2, j, none⟩) h.lo2 _⟩
theorem TwoRows.below (h : TwoRows w W P1 P2 n m x y) (b : Below w.heap.size w w') : TwoRows w' W P1 P2 n m x y :=
  ⟨own_below h.o1 b (Nat.le_refl _), own_below h.o2 b (Nat.le_refl _), h.ne, h.bel.trans (b.mono h.bel.size)⟩
theorem TwoRows.c1 (h : TwoRows w W P1 P2 n m x y) (hx : x.length = n) {j z : Nat} (hj : x[j]? = some z) : w.cell? ⟨P1, j, none⟩ = some (.int .i64 (z : Int)) ∧ w.frozen? ⟨P1, j, none⟩ = false := by
  subst hx
  exact own_nat h.o1 hj
theorem TwoRows.c2 (h : TwoRows w W P1 P2 n m x y) (hy : y.length = m) {j z : Nat} (hj : y[j]? = some z) : w.cell? ⟨P2, j, none⟩ = some (.int .i64 (z : Int)) ∧ w.frozen? ⟨P2, j, none⟩ = false := by
  subst hy
  exact own_nat h.o2 hj
theorem TwoRows.done (h : TwoRows w W P1 P2 n m x y) (hx : x.length = n) (hy : y.length = m) : TwoNew W x y (.returned (.tuple #[.slice (some ⟨P1, 0, none⟩) n n, .slice (some ⟨P2, 0, none⟩) m m])) w :=
  ⟨_, n, _, m, by rw [hx, hy], own_arg h.o1 hx, own_arg h.o2 hy, (fun e => by cases e), (fun e => by cases e), h.bel, (fun b off e => by injection e with e; injection e with e; have := h.lo1; omega), (fun b off e => by injection e with e; injection e with e; have := h.lo2; omega)⟩
theorem TwoRows.made (W : World) (n m : Nat) (hn : n ≤ 1000) (hm : m ≤ 1000) : TwoRows (((W.alloc (.cells (madeCells #[.int .i64 0] n) 3)).alloc (.cells (madeCells #[.int .i64 0] m) 3)).drew) W W.heap.size (W.heap.size + 1) n m (List.replicate n 0) (List.replicate m 0) := by
  have h1 := own_made0 W n (by omega)
  have h2 := own_made0 (W.alloc (.cells (madeCells #[.int .i64 0] n) 3)) m (by omega)
  have hs : (W.alloc (.cells (madeCells #[.int .i64 0] n) 3)).heap.size = W.heap.size + 1 := by simp
  rw [hs] at h2
  exact ⟨h1.alloc _, ownsRow_base h2 (by omega), by omega, (((Below.refl _ _).alloc (Nat.le_refl _) _).alloc (size_alloc_le (Nat.le_refl _)) _).drew⟩
theorem TwoRows.made' (W : World) (n m : Nat) (hn : n ≤ 1000) (hm : m ≤ 1000) : TwoRows (((W.alloc (.cells (madeCells #[.int .i64 0] m) 3)).alloc (.cells (madeCells #[.int .i64 0] n) 3)).drew) W (W.heap.size + 1) W.heap.size n m (List.replicate n 0) (List.replicate m 0) := by
  have h := TwoRows.made W m n hm hn
  exact ⟨h.o2, h.o1, h.ne.symm, h.bel⟩
end

theorem fill_end (f : Nat → Nat) (n : Nat) : fillTo f n n = (List.range n).map f := by
  unfold fillTo
  apply List.map_congr_left
  intro i hi
  rw [if_pos (List.mem_range.1 hi)]
theorem fill_begin (f : Nat → Nat) (n : Nat) : fillTo f n 0 = List.replicate n 0 := by
  apply List.eq_replicate_iff.2
  refine ⟨by simp [fillTo], fun b hb => ?_⟩
  obtain ⟨i, _, rfl⟩ := List.mem_map.1 hb
  rfl

end Go.Proofs.YtaalbaiglkadlaaGreat

/- Contracts of the document's layer 9: Weights, cut, Own. -/
namespace Go.Proofs.YtaalbaiglkadlaaGreat
open Go.RowKit Go.Lib

theorem ln_val (n : Int) (h : 3 ≤ n ∧ n ≤ 258) : lnV n = .tuple #[.int .i64 ((257 + lnT n : Nat) : Int), .int .i64 (lenBits (lnT n) : Int), .int .i64 (n - (lenBase (lnT n) : Int)), .bool true] := by
  have h1 : lnOk n = true := by unfold lnOk; rw [decide_eq_true h.1, decide_eq_true h.2]; rfl
  unfold lnV lnS lnX lnE
  rw [h1, if_pos rfl, if_pos rfl, if_pos rfl, Int.natCast_add]
  rfl
theorem ds_val (n : Int) (h : 1 ≤ n ∧ n ≤ 32768) : dsV n = .tuple #[.int .i64 (dsT n : Int), .int .i64 (distBits (dsT n) : Int), .int .i64 (n - (distBase (dsT n) : Int)), .bool true] := by
  have h1 : dsOk n = true := by unfold dsOk; rw [decide_eq_true h.1, decide_eq_true h.2]; rfl
  unfold dsV dsS dsX dsE
  rw [h1, if_pos rfl, if_pos rfl, if_pos rfl]
theorem take_snocT (l : List (Nat × Int × Int)) (k : Nat) (t : Nat × Int × Int) (h : l[k]? = some t) : l.take (k + 1) = l.take k ++ [t] := by
  rw [List.take_add_one, h]
  rfl

theorem ArgN.take {w : World} {a : Option Addr} {l : List Nat} (h : ArgN w a l) (k : Nat) : ArgN w a (l.take k) := by
  intro i x hx
  rw [List.getElem?_take] at hx
  split at hx
  · exact h i x hx
  · cases hx

/-- A dynamic block's lengths. -/
def ownLit (l : List (Nat × Int × Int)) : List Nat := cutL (lens (litWs l)) 257
def ownDist (l : List (Nat × Int × Int)) : List Nat := cutL (lens (distWs l)) 1

theorem nat_back (l : List Nat) : (l.map fun (x : Nat) => (x : Int)).map Int.toNat = l := by
  rw [List.map_map]
  exact List.map_id'' (fun x => by simp) l
theorem goodW_nat (l : List Nat) (m : Nat) (h1 : 1 ≤ m) (h2 : m ≤ 15) (hl : l.length ≤ 512) (hx : ∀ x ∈ l, x ≤ 1000000) (hc : l.length ≤ 2 ^ m) : GoodW (l.map fun (x : Nat) => (x : Int)) (m : Int) := by
  refine ⟨by omega, by omega, by rw [List.length_map]; exact hl, ?_, ?_⟩
  · intro x hm
    obtain ⟨y, hy, rfl⟩ := List.mem_map.1 hm
    have := hx y hy
    omega
  · rw [nat_back, Int.toNat_natCast]
    exact Nat.le_trans (cntL_le l) hc

theorem litWs_mem (l : List (Nat × Int × Int)) (h : l.length ≤ 2000) : ∀ x ∈ litWs l, x ≤ 1000000 := by
  intro x hx
  obtain ⟨s, _, rfl⟩ := List.mem_map.1 hx
  have := wL_le l s
  omega
theorem distWs_mem (l : List (Nat × Int × Int)) (h : l.length ≤ 2000) : ∀ x ∈ distWs l, x ≤ 1000000 := by
  intro x hx
  obtain ⟨s, _, rfl⟩ := List.mem_map.1 hx
  have := wD_le l s
  omega
/-- What Lengths gives of weights that are few. -/
theorem lens_res {W w' : World} {ws : List Nat} {r : Value} (h : LenRes W (ws.map fun (x : Nat) => (x : Int)) 15 r w') (hs : ws.sum < 2584) (hl : ws.length ≤ 512) (hx : ∀ x ∈ ws, x ≤ 1000000) :
    ∃ g c, r = .tuple #[.slice g ws.length c, .int .i64 0] ∧ w'.ownsRow W.heap.size 3 1 (.slice g ws.length c) ws.length (natCs (lens ws)) := by
  have hg : GoodW (ws.map fun (x : Nat) => (x : Int)) 15 := goodW_nat ws 15 (by omega) (by omega) hl hx (by omega)
  rcases h with ⟨h1, _⟩ | ⟨_, v, out, rfl, h2, h3⟩
  · exact absurd hg h1
  · rw [nat_back] at h2
    have h2 : LimTo ws 15 out := h2
    rw [lim_lens hs h2, List.length_map] at h3
    rcases len_form h3 with ⟨e1, e2⟩ | ⟨g, c, e1⟩
    · rw [e1, ← e2] at h3 ⊢
      exact ⟨none, 0, by rw [e2], by rw [e2] at h3 ⊢; exact h3⟩
    · rw [e1] at h3 ⊢
      exact ⟨_, c, rfl, h3⟩
theorem lens_short (ws : List Nat) (h : ws.sum < 2584) : ∀ x ∈ lens ws, x ≤ 1000 := by
  intro x hx
  obtain ⟨s, _, rfl⟩ := List.mem_map.1 hx
  have := lens_fib ws h s
  omega
theorem own_new {w : World} {B n c : Nat} {a : Option Addr} {e : TypeId} {size : Nat} {xs : List Value} (h : w.ownsRow B e size (.slice a n c) n xs) : ∀ b off, a = some ⟨b, off, none⟩ → B ≤ b := by
  intro b off e1
  subst e1
  exact (h.lt b rfl).1
theorem own_capA {w : World} {B n c : Nat} {a : Option Addr} {e : TypeId} {size : Nat} {xs : List Value} (h : w.ownsRow B e size (.slice a n c) n xs) : n ≤ c ∧ (a = none → c = 0) := by
  rcases h.2 with ⟨e1, e2⟩ | ⟨g, cap, cur, e1, _, _, hn, _⟩
  · injection e1 with e3 e4 e5
    exact ⟨by omega, fun _ => e5⟩
  · injection e1 with e3 e4 e5
    subst e3 e5
    exact ⟨hn, fun e => by cases e⟩

end Go.Proofs.YtaalbaiglkadlaaGreat

/- A dynamic block's header, plainly; and what a writer's step leaves as it is. -/
namespace Go.Proofs.YtaalbaiglkadlaaGreat
open Go.RowKit Go.Lib

/-- In which order the lengths stand. -/
def orderL : List Nat := [16, 17, 18, 0, 8, 7, 9, 6, 10, 5, 11, 4, 12, 3, 13, 2, 14, 1, 15]
theorem orderL_cs : orderCs = natCs orderL := rfl
theorem orderL_lt : ∀ k, k < 19 → orderL.getD k 0 < 19 := by decide
theorem orderL_get (k : Nat) (h : k < 19) : orderL[k]? = some (orderL.getD k 0) := getD_some orderL k h

/-- How often symbols stand in runs. -/
def cntR (rs : List (Int × Int)) (s : Nat) : Nat := rs.countP (fun r => r.1 == (s : Int))
def runWs (rs : List (Int × Int)) : List Nat := (List.range 19).map (cntR rs)
theorem runWs_length (rs : List (Int × Int)) : (runWs rs).length = 19 := by simp [runWs]
theorem runWs_get (rs : List (Int × Int)) (i : Nat) (h : i < 19) : (runWs rs)[i]? = some (cntR rs i) := by
  unfold runWs
  rw [List.getElem?_map, List.getElem?_range h]
  rfl
theorem runWs_nil : runWs [] = List.replicate 19 0 := by decide
theorem runWs_snoc (rs : List (Int × Int)) (s : Nat) (e : Int) (h : s < 19) : runWs (rs ++ [((s : Int), e)]) = (runWs rs).set s (cntR rs s + 1) := by
  refine set_map_range (cntR rs) (cntR (rs ++ [((s : Int), e)])) 19 s _ h ?_ ?_
  · unfold cntR
    rw [List.countP_append, List.countP_singleton]
    simp
  · intro i hi
    unfold cntR
    have hb : (((s : Nat) : Int) == (i : Int)) = false := by simp; omega
    rw [List.countP_append, List.countP_singleton]
    show _ + (if (((s : Nat) : Int) == (i : Int)) = true then 1 else 0) = _
    rw [hb]
    simp
theorem cntR_le (rs : List (Int × Int)) (s : Nat) : cntR rs s ≤ rs.length := List.countP_le_length

/-- How many of the lengths are told. -/
def ordN (hl : List Nat) : Nat → Nat
  | 0 => 0
  | k + 1 => if 4 < k + 1 ∧ hl.getD (orderL.getD k 0) 0 = 0 then ordN hl k else k + 1
theorem ordN_le (hl : List Nat) : ∀ k, ordN hl k ≤ k
  | 0 => Nat.le_refl _
  | k + 1 => by
    unfold ordN
    split
    · exact Nat.le_succ_of_le (ordN_le hl k)
    · exact Nat.le_refl _
theorem ordN_four (hl : List Nat) : ∀ k, 4 ≤ k → 4 ≤ ordN hl k
  | 0, h => by omega
  | k + 1, h => by
    unfold ordN
    split
    · exact ordN_four hl k (by omega)
    · exact h
theorem ordN_step (hl : List Nat) (k : Nat) (h : 4 < k + 1) (h2 : hl.getD (orderL.getD k 0) 0 = 0) : ordN hl (k + 1) = ordN hl k := by rw [ordN, if_pos ⟨h, h2⟩]
theorem ordN_stop (hl : List Nat) (k : Nat) (h : ¬ (4 < k + 1 ∧ hl.getD (orderL.getD k 0) 0 = 0)) : ordN hl (k + 1) = k + 1 := by rw [ordN, if_neg h]

def runBits (hl : List Nat) (r : Int × Int) : List Bool := highBits (codeN hl r.1.toNat : Int) (hl.getD r.1.toNat 0) ++ lowBits r.2 (xBits r.1)
def ordBits (hl : List Nat) (k : Nat) : List Bool := (orderL.take k).flatMap fun o => lowBits (hl.getD o 0 : Int) 3
def runsBits (hl : List Nat) (rs : List (Int × Int)) : List Bool := rs.flatMap (runBits hl)
/-- The header's bits. -/
def headBits (a b : Nat) (rs : List (Int × Int)) (hl : List Nat) : List Bool :=
  lowBits ((a - 257 : Nat) : Int) 5 ++ (lowBits ((b - 1 : Nat) : Int) 5 ++ (lowBits ((ordN hl 19 - 4 : Nat) : Int) 4 ++ (ordBits hl (ordN hl 19) ++ runsBits hl rs)))
def HeadRel (x y : List Nat) (bs : List Bool) : Prop := ∃ rs hl, FoldRes ((x ++ y).map fun (n : Nat) => (n : Int)) rs ∧ LimTo (runWs rs) 7 hl ∧ bs = headBits x.length y.length rs hl
theorem HeadRel.uniq {x y : List Nat} {a b : List Bool} (h : HeadRel x y a) (k : HeadRel x y b) : a = b := by
  obtain ⟨rs, hl, h1, h2, rfl⟩ := h
  obtain ⟨rs', hl', k1, k2, rfl⟩ := k
  have e := h1.uniq k1
  subst e
  rw [h2.uniq k2]

theorem ordBits_succ (hl : List Nat) (k : Nat) (h : k < 19) : ordBits hl (k + 1) = ordBits hl k ++ lowBits (hl.getD (orderL.getD k 0) 0 : Int) 3 := by
  unfold ordBits
  rw [List.take_add_one, orderL_get k h]
  simp
theorem runsBits_snoc (hl : List Nat) (rs : List (Int × Int)) (r : Int × Int) : runsBits hl (rs ++ [r]) = runsBits hl rs ++ runBits hl r := by simp [runsBits]
theorem ordBits_le (hl : List Nat) (k : Nat) (h : k ≤ 19) : (ordBits hl k).length ≤ 57 := by
  have key : ∀ k, k ≤ 19 → (ordBits hl k).length = 3 * k := by
    intro k
    induction k with
    | zero => intro _; rfl
    | succ k ih =>
      intro hk
      rw [ordBits_succ hl k (by omega), List.length_append, ih (by omega), lowBits_length]
      omega
  rw [key k h]
  omega
theorem xBits_le (s : Int) : xBits s ≤ 7 := by
  unfold xBits
  split
  · omega
  · split
    · omega
    · split <;> omega
theorem runsBits_le (hl : List Nat) (hm : ∀ z ∈ hl, z ≤ 15) (rs : List (Int × Int)) : (runsBits hl rs).length ≤ 22 * rs.length := by
  induction rs with
  | nil => exact Nat.le_refl _
  | cons r rs ih =>
    show (runBits hl r ++ runsBits hl rs).length ≤ _
    rw [List.length_append, List.length_cons]
    have h1 : (runBits hl r).length ≤ 22 := by
      unfold runBits highBits
      rw [List.length_append, List.length_reverse, lowBits_length, lowBits_length]
      have := xBits_le r.1
      have h2 : hl.getD r.1.toNat 0 ≤ 15 := by
        rw [List.getD_eq_getElem?_getD]
        cases hq : hl[r.1.toNat]? with
        | none => exact Nat.zero_le _
        | some z => exact hm z (List.mem_of_getElem? hq)
      omega
    omega

/-- Runs of a fold are runs. -/
theorem folds_ok : ∀ (rs : List (Int × Int)) (p : Option Int) (l : List Int), Folds p l rs → (∀ x ∈ l, 0 ≤ x ∧ x ≤ 15) → ∀ r ∈ rs, 0 ≤ r.1 ∧ r.1 ≤ 18
  | [], _, _, _, _, r, hr => by cases hr
  | r0 :: rs, p, l, h, hv, r, hr => by
    obtain ⟨x, t, hl, h1, h2⟩ := h
    rcases List.mem_cons.1 hr with e | e
    · rw [e, h1]
      have hx := hv x (by rw [hl]; exact List.mem_cons_self ..)
      unfold stepF
      split
      · exact ⟨by show (0 : Int) ≤ 18; omega, by show (18 : Int) ≤ 18; omega⟩
      · split
        · exact ⟨by show (0 : Int) ≤ 17; omega, by show (17 : Int) ≤ 18; omega⟩
        · split
          · exact ⟨by show (0 : Int) ≤ 16; omega, by show (16 : Int) ≤ 18; omega⟩
          · exact ⟨hx.1, by show x ≤ 18; omega⟩
    · exact folds_ok rs (some x) _ h2 (fun z hz => hv z (List.mem_of_mem_drop hz)) r e
theorem foldRes_ok {l : List Int} {rs : List (Int × Int)} (h : FoldRes l rs) : ∀ r ∈ rs, 0 ≤ r.1 ∧ r.1 ≤ 18 := by
  rcases h with ⟨h1, h2⟩ | ⟨_, rfl⟩
  · exact folds_ok rs none l h2 ((lenB_iff l).1 h1)
  · intro r hr; cases hr

theorem codesL_get (ls : List Nat) (i : Nat) (h : i < ls.length) : (codesL ls)[i]? = some (codeN ls i) := by
  unfold codesL
  rw [List.getElem?_map, List.getElem?_range h]
  rfl
/-- What Codes gives of lengths that make a code. -/
theorem codes_res {W w' : World} {ls : List Nat} {r : Value} (h : CodesRes W (ls.map fun (x : Nat) => (x : Int)) r w') (hm : MakesC ls) :
    ∃ g c, r = .tuple #[.slice g ls.length c, .int .i64 0] ∧ w'.ownsRow W.heap.size 3 1 (.slice g ls.length c) ls.length (natCs (codesL ls)) := by
  have hg : goodB (ls.map fun (x : Nat) => (x : Int)) = true := (goodB_iff _).2 ⟨fun x hx => by
    obtain ⟨y, hy, rfl⟩ := List.mem_map.1 hx
    have := hm.each y hy
    omega, by rw [nat_back]; exact hm⟩
  rcases h with ⟨h1, _⟩ | ⟨_, v, rfl, h3⟩
  · rw [hg] at h1; cases h1
  · rw [nat_back, List.length_map] at h3
    rcases len_form h3 with ⟨e1, e2⟩ | ⟨g, c, e1⟩
    · rw [e1] at h3 ⊢
      exact ⟨none, 0, by rw [e2], by rw [e2] at h3 ⊢; exact h3⟩
    · rw [e1] at h3 ⊢
      exact ⟨_, c, rfl, h3⟩
/-- What Lengths gives, with any limit. -/
theorem lim_res {W w' : World} {ws : List Nat} {m : Nat} {r : Value} (h : LenRes W (ws.map fun (x : Nat) => (x : Int)) (m : Int) r w') (h1 : 1 ≤ m) (h2 : m ≤ 15) (hl : ws.length ≤ 512) (hc : ws.length ≤ 2 ^ m) (hx : ∀ x ∈ ws, x ≤ 1000000) :
    ∃ g c out, r = .tuple #[.slice g ws.length c, .int .i64 0] ∧ LimTo ws m out ∧ w'.ownsRow W.heap.size 3 1 (.slice g ws.length c) ws.length (natCs out) := by
  have hg : GoodW (ws.map fun (x : Nat) => (x : Int)) (m : Int) := goodW_nat ws m h1 h2 hl hx hc
  rcases h with ⟨h1, _⟩ | ⟨_, v, out, rfl, h2, h3⟩
  · exact absurd hg h1
  · rw [nat_back, Int.toNat_natCast] at h2
    rw [List.length_map] at h3
    rcases len_form h3 with ⟨e1, e2⟩ | ⟨g, c, e1⟩
    · rw [e1] at h3 ⊢
      exact ⟨none, 0, out, by rw [e2], h2, by rw [e2] at h3 ⊢; exact h3⟩
    · rw [e1] at h3 ⊢
      exact ⟨_, c, out, rfl, h2, h3⟩

/-- A block that a writer does not turn. -/
def FreeB (p : Nat) (v : Value) (w : World) (b : Nat) : Prop := b < w.heap.size ∧ b ≠ p ∧ v.ownBlock ≠ some b
section
variable {p b : Nat} {v v' : Value} {w w' : World}
theorem FreeB.step (h : FreeB p v w b) (s : Step p v v' w w') : FreeB p v' w' b := by
  refine ⟨Nat.lt_of_lt_of_le h.1 s.size, h.2.1, ?_⟩
  rcases s.own with e | e
  · rw [e]; exact h.2.2
  · intro e2
    have := e b e2
    have := h.1
    omega
theorem FreeB.cell (h : FreeB p v w b) (s : Step p v v' w w') (o : Nat) : w'.cell? ⟨b, o, none⟩ = w.cell? ⟨b, o, none⟩ :=
  World.cell?_of_block (a := ⟨b, o, none⟩) (s.block b h.1 h.2.1 (fun e => h.2.2 e.symm))
theorem Step.ofBelow (h : Below w.heap.size w w') : Step p v v w w' := ⟨h.os, h.tape, h.output, h.size, fun k hk _ _ => h.block k hk, .inl rfl⟩
theorem Step.drewN (w : World) (n : Nat) : Step p v v w (w.drewN n) := ⟨rfl, rfl, rfl, Nat.le_refl _, fun _ _ _ _ => rfl, .inl rfl⟩
end
/-- Numbers that a writer does not turn; runs; tokens. -/
structure KN (p : Nat) (v : Value) (w : World) (a : Option Addr) (l : List Nat) : Prop where
  arg : ArgN w a l
  free : ∀ b off, a = some ⟨b, off, none⟩ → FreeB p v w b
structure KR (p : Nat) (v : Value) (w : World) (a : Option Addr) (l : List (Int × Int)) : Prop where
  arg : ArgR w a l
  free : ∀ b off, a = some ⟨b, off, none⟩ → FreeB p v w b
structure KT (p : Nat) (v : Value) (w : World) (a : Option Addr) (l : List (Nat × Int × Int)) : Prop where
  arg : ArgT w a l
  free : l ≠ [] → ∀ b off, a = some ⟨b, off, none⟩ → FreeB p v w b
section
variable {p : Nat} {v v' : Value} {w w' : World} {a : Option Addr}
theorem KN.step {l : List Nat} (h : KN p v w a l) (s : Step p v v' w w') : KN p v' w' a l := by
  refine ⟨fun i x hx => ?_, fun b off e => (h.free b off e).step s⟩
  obtain ⟨b, off, h1, h2, h3⟩ := h.arg i x hx
  exact ⟨b, off, h1, Nat.lt_of_lt_of_le h2 s.size, by rw [(h.free b off h1).cell s]; exact h3⟩
theorem KR.step {l : List (Int × Int)} (h : KR p v w a l) (s : Step p v v' w w') : KR p v' w' a l := by
  refine ⟨fun i x y hx => ?_, fun b off e => (h.free b off e).step s⟩
  obtain ⟨b, off, h1, h2, h3, h4⟩ := h.arg i x y hx
  exact ⟨b, off, h1, Nat.lt_of_lt_of_le h2 s.size, by rw [(h.free b off h1).cell s]; exact h3, by rw [(h.free b off h1).cell s]; exact h4⟩
theorem KT.step {l : List (Nat × Int × Int)} (h : KT p v w a l) (s : Step p v v' w w') : KT p v' w' a l := by
  refine ⟨fun i t hx => ?_, fun hne b off e => (h.free hne b off e).step s⟩
  have hne : l ≠ [] := List.ne_nil_of_mem (List.mem_of_getElem? hx)
  obtain ⟨b, off, h1, h2, h3, h4, h5⟩ := h.arg i t hx
  exact ⟨b, off, h1, Nat.lt_of_lt_of_le h2 s.size, by rw [(h.free hne b off h1).cell s]; exact h3, by rw [(h.free hne b off h1).cell s]; exact h4, by rw [(h.free hne b off h1).cell s]; exact h5⟩
/-- Tokens that are older than the writer. -/
theorem KT.fresh {W : World} {l : List (Nat × Int × Int)} (h : ArgT W a l) (b : Below W.heap.size W w) (hp : W.heap.size ≤ p) (hv : ∀ k, v.ownBlock = some k → W.heap.size ≤ k) : KT p v w a l := by
  refine ⟨h.below b (Nat.le_refl _), fun hne g off e => ?_⟩
  obtain ⟨t, l', rfl⟩ := List.exists_cons_of_ne_nil hne
  obtain ⟨b', off', h1, h2, _⟩ := h 0 t rfl
  rw [e] at h1
  injection h1 with h1
  injection h1 with h1
  subst h1
  have := b.size
  exact ⟨by omega, by omega, fun e2 => by have := hv g e2; omega⟩
end
theorem Wr.old {w : World} {p : Nat} {v : Value} {bs : List Bool} (h : Wr w p v bs) : p < w.heap.size ∧ ∀ k, v.ownBlock = some k → k < w.heap.size := by
  obtain ⟨out, h1, _⟩ := h
  exact ⟨(Array.getElem?_eq_some_iff.1 h1.box).1, fun k hk => (h1.own.lt k hk).2⟩
theorem Wr.below {w w' : World} {p : Nat} {v : Value} {bs : List Bool} (h : Wr w p v bs) (b : Below w.heap.size w w') : Wr w' p v bs := by
  obtain ⟨hp, _⟩ := h.old
  obtain ⟨out, h1, h2⟩ := h
  exact ⟨out, ⟨by rw [b.block p hp]; exact h1.box, own_below h1.own b (Nat.le_refl _), h1.ne⟩, h2⟩
/-- What is new is no writer's. -/
theorem free_new {W w : World} {p b : Nat} {v : Value} (hp : p < W.heap.size) (hv : ∀ k, v.ownBlock = some k → k < W.heap.size) (h1 : W.heap.size ≤ b) (h2 : b < w.heap.size) : FreeB p v w b :=
  ⟨h2, by omega, fun e => by have := hv b e; omega⟩

end Go.Proofs.YtaalbaiglkadlaaGreat
