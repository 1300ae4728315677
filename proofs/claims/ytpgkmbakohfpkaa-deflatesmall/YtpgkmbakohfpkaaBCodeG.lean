/- How many bits tokens take, plainly: by how often symbols stand. -/
import Derived.Test.YtpgkmbakohfpkaaBCodeF
import Derived.Test.YtpgkmbakohfpkaaWC
namespace Go.Proofs.Ytpgkmbakohfpkaa
open Go.RowKit Go.Lib

def dotN (f g : Nat → Nat) : Nat → Nat
  | 0 => 0
  | j + 1 => dotN f g j + f j * g j
theorem dot_add (f f' g : Nat → Nat) : ∀ n, dotN (fun s => f s + f' s) g n = dotN f g n + dotN f' g n
  | 0 => rfl
  | n + 1 => by
    unfold dotN
    rw [dot_add f f' g n, Nat.add_mul]
    omega
theorem dot_zero (g : Nat → Nat) : ∀ n, dotN (fun _ => 0) g n = 0
  | 0 => rfl
  | n + 1 => by unfold dotN; rw [dot_zero g n, Nat.zero_mul]
theorem dot_congr (f f' g g' : Nat → Nat) : ∀ n, (∀ i, i < n → f i * g i = f' i * g' i) → dotN f g n = dotN f' g' n
  | 0, _ => rfl
  | n + 1, h => by
    unfold dotN
    rw [dot_congr f f' g g' n (fun i hi => h i (by omega)), h n (by omega)]
theorem dot_one (a : Nat) (g : Nat → Nat) : ∀ n, dotN (fun s => if a = s then 1 else 0) g n = if a < n then g a else 0
  | 0 => by rw [if_neg (Nat.not_lt_zero _)]; rfl
  | n + 1 => by
    unfold dotN
    rw [dot_one a g n]
    by_cases e : a = n
    · subst e
      rw [if_pos rfl, if_neg (Nat.lt_irrefl _), if_pos (Nat.lt_succ_self _)]
      omega
    · rw [if_neg e]
      by_cases h : a < n
      · rw [if_pos h, if_pos (by omega)]; omega
      · rw [if_neg h, if_neg (by omega)]; omega
theorem dot_le (f g : Nat → Nat) (F G : Nat) (hf : ∀ i, f i ≤ F) (hg : ∀ i, g i ≤ G) : ∀ n, dotN f g n ≤ n * (F * G)
  | 0 => by rw [Nat.zero_mul]; exact Nat.le_refl _
  | n + 1 => by
    unfold dotN
    have h1 := dot_le f g F G hf hg n
    have h2 := Nat.mul_le_mul (hf n) (hg n)
    rw [Nat.add_mul, Nat.one_mul]
    omega
/-- Counted by symbols, or token by token. -/
theorem dot_count (c : Nat × Int × Int → Bool) (h : Nat × Int × Int → Nat) (g : Nat → Nat) (n : Nat) : ∀ l : List (Nat × Int × Int), (∀ t ∈ l, c t = true → h t < n) → dotN (fun s => l.countP (fun t => c t && (h t == s))) g n = (l.map fun t => if c t = true then g (h t) else 0).sum
  | [], _ => by
    simp only [List.countP_nil, List.map_nil, List.sum_nil]
    exact dot_zero g n
  | t :: l, hh => by
    have ih := dot_count c h g n l (fun u hu => hh u (List.mem_cons_of_mem _ hu))
    rw [List.map_cons, List.sum_cons, ← ih]
    have e : (fun s => (t :: l).countP (fun t => c t && (h t == s))) = fun s => l.countP (fun t => c t && (h t == s)) + (if (c t && (h t == s)) = true then 1 else 0) := by
      funext s
      rw [List.countP_cons]
    rw [e, dot_add, Nat.add_comm]
    congr 1
    cases hc : c t with
    | false => simp only [Bool.false_and, Bool.false_eq_true, if_false]; exact dot_zero g n
    | true =>
      have hlt := hh t (List.mem_cons_self ..) hc
      have e2 : (fun s => if (true && (h t == s)) = true then 1 else 0) = fun s => if h t = s then 1 else 0 := by
        funext s
        simp
      rw [e2, dot_one, if_pos hlt, if_pos rfl]

/-- A symbol's extra bits. -/
def xlF (i : Nat) : Nat := if 257 ≤ i then lenBits (i - 257) else 0
theorem xl_lit (i : Nat) (h : i < 257) : xlF i = 0 := by unfold xlF; rw [if_neg (by omega)]
theorem xl_mat (k : Nat) : xlF (257 + k) = lenBits k := by unfold xlF; rw [if_pos (by omega), show 257 + k - 257 = k by omega]
theorem sum_add2 (u v : Nat × Int × Int → Nat) : ∀ l : List (Nat × Int × Int), (l.map fun t => u t + v t).sum = (l.map u).sum + (l.map v).sum
  | [] => rfl
  | t :: l => by
    have := sum_add2 u v l
    simp only [List.map_cons, List.sum_cons]
    omega
theorem dot_wL (l : List (Nat × Int × Int)) (g : Nat → Nat) (h : ∀ t ∈ l, symT t < 286) : dotN (wL l) g 286 = g 256 + (l.map fun t => g (symT t)).sum := by
  have e : wL l = fun s => (if 256 = s then 1 else 0) + l.countP (fun t => true && (symT t == s)) := by
    funext s
    unfold wL
    simp only [Bool.true_and]
    congr 1
    by_cases e : s = 256
    · rw [if_pos e, if_pos e.symm]
    · rw [if_neg e, if_neg (fun h => e h.symm)]
  rw [e, dot_add, dot_one, if_pos (by omega), dot_count (fun _ => true) symT g 286 l (fun t ht _ => h t ht)]
  simp only [if_true]
theorem dot_wD (l : List (Nat × Int × Int)) (g : Nat → Nat) : dotN (wD l) g 30 = (l.map fun t => if isM t = true then g (farT t) else 0).sum :=
  dot_count isM farT g 30 l (fun t _ _ => farT_lt t)
theorem tok_bits (la lb : List Nat) (t : Nat × Int × Int) (hr : RightT t) : la.getD (symT t) 0 + xlF (symT t) + ((if isM t = true then lb.getD (farT t) 0 else 0) + (if isM t = true then distBits (farT t) else 0)) = (tokBits la lb t).length := by
  obtain ⟨b, ln, d⟩ := t
  unfold tokBits symT isM farT
  by_cases h : ln ≤ 0
  · have hb : b < 256 := hr.1
    simp only [if_pos h]
    rw [decide_eq_false (show ¬ 0 < ln by omega)]
    rw [high_len, xl_lit _ (by omega)]
    simp
  · simp only [if_neg h]
    rw [decide_eq_true (show 0 < ln by omega), if_pos rfl, if_pos rfl, xl_mat]
    simp only [List.length_append, high_len, lowBits_length]
    omega
theorem body_len (la lb : List Nat) (l : List (Nat × Int × Int)) (hr : ∀ t ∈ l, RightT t) : dotN (wL l) (fun i => la.getD i 0) 286 + dotN (wD l) (fun i => lb.getD i 0) 30 + dotN (wL l) xlF 286 + dotN (wD l) distBits 30 = (bodyBits la lb l).length := by
  have h9 : ∀ t ∈ l, symT t < 286 := fun t ht => symT_lt (hr t ht)
  rw [dot_wL l _ h9, dot_wL l _ h9, dot_wD, dot_wD, xl_lit 256 (by omega)]
  have key : (l.map fun t => la.getD (symT t) 0 + xlF (symT t) + ((if isM t = true then lb.getD (farT t) 0 else 0) + (if isM t = true then distBits (farT t) else 0))).sum = (toksBits la lb l).length := by
    clear h9
    induction l with
    | nil => rfl
    | cons t l ih =>
      rw [List.map_cons, List.sum_cons, ih (fun u hu => hr u (List.mem_cons_of_mem _ hu)), tok_bits la lb t (hr t (List.mem_cons_self ..))]
      show _ = (tokBits la lb t ++ toksBits la lb l).length
      rw [List.length_append]
  rw [sum_add2, sum_add2, sum_add2] at key
  unfold bodyBits
  rw [List.length_append, high_len]
  omega
/-- Beyond a list's end nothing is counted. -/
theorem dot_cut (f : Nat → Nat) (b : List Nat) : ∀ n, dotN f (fun i => b.getD i 0) (min n b.length) = dotN f (fun i => b.getD i 0) n
  | 0 => by rw [Nat.zero_min]
  | n + 1 => by
    by_cases h : n + 1 ≤ b.length
    · rw [Nat.min_eq_left h]
    · have e : b.getD n 0 = 0 := by rw [List.getD_eq_getElem?_getD, List.getElem?_eq_none (by omega)]; rfl
      have ih := dot_cut f b n
      rw [show min (n + 1) b.length = min n b.length by omega, ih]
      show _ = dotN f (fun i => b.getD i 0) n + f n * b.getD n 0
      rw [e, Nat.mul_zero, Nat.add_zero]
theorem cast_getD (l : List Nat) (i : Nat) : (l.map fun (x : Nat) => (x : Int)).getD i 0 = ((l.getD i 0 : Nat) : Int) := by
  rw [List.getD_eq_getElem?_getD, List.getD_eq_getElem?_getD, List.getElem?_map]
  cases l[i]? <;> rfl
theorem cost_dot (a b : List Nat) (ha : ∀ i, a.getD i 0 ≤ 2001) (hb : ∀ i, b.getD i 0 ≤ 15) : ∀ k, k ≤ 300 → costW (a.map fun (x : Nat) => (x : Int)) (b.map fun (x : Nat) => (x : Int)) k = ((dotN (fun i => a.getD i 0) (fun i => b.getD i 0) k : Nat) : Int)
  | 0, _ => rfl
  | k + 1, h => by
    unfold costW dotN
    rw [cost_dot a b ha hb k (by omega), cast_getD, cast_getD]
    have h1 := dot_le (fun i => a.getD i 0) (fun i => b.getD i 0) 2001 15 ha hb k
    have h2 := Nat.mul_le_mul (ha k) (hb k)
    rw [← Int.natCast_mul]
    generalize a.getD k 0 * b.getD k 0 = P at *
    generalize dotN (fun i => a.getD i 0) (fun i => b.getD i 0) k = D at *
    have h3 : D ≤ 300 * (2001 * 15) := Nat.le_trans h1 (Nat.mul_le_mul_right _ (by omega))
    unfold wrap64
    omega

end Go.Proofs.Ytpgkmbakohfpkaa
