/- What WeighLeast wants of the plain process: costs as sums, and that no other code of the same symbols costs less. -/
import Derived.Test.YtihgdlnnfhpdcaaWFills
namespace Go.Proofs.Ytihgdlnnfhpdcaa
open Go.RowKit Go.Lib

/-- Products of the first j, summed. -/
def costT (a b : List Nat) : Nat → Nat
  | 0 => 0
  | j + 1 => costT a b j + a.getD j 0 * b.getD j 0

theorem costT_le (a b : List Nat) (A B : Nat) (ha : ∀ i, a.getD i 0 ≤ A) (hb : ∀ i, b.getD i 0 ≤ B) : ∀ j, costT a b j ≤ j * (A * B)
  | 0 => by simp [costT]
  | j + 1 => by
    have h := costT_le a b A B ha hb j
    have h2 : a.getD j 0 * b.getD j 0 ≤ A * B := Nat.mul_le_mul (ha j) (hb j)
    show costT a b j + _ ≤ _
    rw [Nat.add_mul]
    omega

/-- No product, no sum goes round. -/
theorem costW_nat (a b : List Nat) (ha : ∀ i, a.getD i 0 ≤ 2500) (hb : ∀ i, b.getD i 0 ≤ 15) : ∀ j, j ≤ 40 → costW (a.map fun (x : Nat) => (x : Int)) (b.map fun (x : Nat) => (x : Int)) j = ((costT a b j : Nat) : Int)
  | 0, _ => rfl
  | j + 1, hj => by
    have ih := costW_nat a b ha hb j (by omega)
    have g : ∀ l : List Nat, (l.map fun (x : Nat) => (x : Int)).getD j 0 = ((l.getD j 0 : Nat) : Int) := by
      intro l
      rw [List.getD_eq_getElem?_getD, List.getD_eq_getElem?_getD, List.getElem?_map]
      cases l[j]? <;> rfl
    show wrap64 (costW _ _ j + wrap64 (_ * _)) = _
    rw [ih, g, g, ← Int.natCast_mul]
    have h1 : a.getD j 0 * b.getD j 0 ≤ 2500 * 15 := Nat.mul_le_mul (ha j) (hb j)
    have h2 := costT_le a b 2500 15 ha hb j
    have h3 : j * (2500 * 15) ≤ 40 * (2500 * 15) := Nat.mul_le_mul_right _ (by omega)
    show _ = ((costT a b j + a.getD j 0 * b.getD j 0 : Nat) : Int)
    generalize a.getD j 0 * b.getD j 0 = P at *
    unfold wrap64
    omega

/-- A cost by numbers is one by symbols that stand. -/
theorem costT_stand (ws : List Nat) (f : Nat → Nat) : costT ws ((List.range ws.length).map f) ws.length = costD (fun s => ws.getD s 0) f (stand ws 0) := by
  have key : ∀ (l : List Nat) (i : Nat) (W F : Nat → Nat), (∀ s, s < l.length → W (i + s) = l.getD s 0) → costD W F (stand l i) = (List.range l.length).foldr (fun s acc => l.getD s 0 * F (i + s) + acc) 0 := by
    intro l
    induction l with
    | nil => intro i W F _; rfl
    | cons w l ih =>
      intro i W F hW
      have ih2 := ih (i + 1) W F (fun s hs => by
        have := hW (s + 1) (by rw [List.length_cons]; omega)
        rw [List.getD_cons_succ, show i + (s + 1) = i + 1 + s by omega] at this
        exact this)
      have hfold : (List.range (w :: l).length).foldr (fun s acc => (w :: l).getD s 0 * F (i + s) + acc) 0 = w * F i + (List.range l.length).foldr (fun s acc => l.getD s 0 * F (i + 1 + s) + acc) 0 := by
        rw [List.length_cons, List.range_succ_eq_map, List.foldr_cons, List.foldr_map]
        have e0 : (w :: l).getD 0 0 = w := rfl
        rw [e0, Nat.add_zero]
        congr 1
        congr 1
        funext s acc
        rw [List.getD_cons_succ, show i + (s + 1) = i + 1 + s by omega]
      rw [hfold, ← ih2]
      show costD W F (if w = 0 then stand l (i + 1) else i :: stand l (i + 1)) = _
      by_cases hw : w = 0
      · rw [if_pos hw, hw, Nat.zero_mul, Nat.zero_add]
      · rw [if_neg hw]
        have h0 := hW 0 (by rw [List.length_cons]; omega)
        show W i * F i + costD W F (stand l (i + 1)) = _
        rw [show W i = w by simpa using h0]
  have k2 : ∀ (n : Nat) (G : Nat → Nat), (List.range n).foldr (fun s acc => G s + acc) 0 = ((List.range n).map G).sum := by
    intro n G
    generalize List.range n = r
    induction r with
    | nil => rfl
    | cons x r ih => rw [List.foldr_cons, ih, List.map_cons, List.sum_cons]
  have k3 : ∀ j, j ≤ ws.length → costT ws ((List.range ws.length).map f) j = ((List.range j).map fun s => ws.getD s 0 * f s).sum := by
    intro j
    induction j with
    | zero => intro _; rfl
    | succ j ih =>
      intro hj
      have e : ((List.range ws.length).map f).getD j 0 = f j := by
        rw [List.getD_eq_getElem?_getD, List.getElem?_map, List.getElem?_range (by omega)]
        rfl
      show costT ws _ j + ws.getD j 0 * _ = _
      rw [ih (by omega), e, List.range_succ, List.map_append, List.sum_append]
      simp
  rw [k3 _ (Nat.le_refl _), key ws 0 (fun s => ws.getD s 0) f (fun s _ => by simp), k2]
  refine congrArg List.sum (List.map_congr_left fun s _ => ?_)
  rw [Nat.zero_add]

theorem stand_congr : ∀ (a b : List Nat) (i : Nat), a.length = b.length → (∀ s, a.getD s 0 = 0 ↔ b.getD s 0 = 0) → stand a i = stand b i
  | [], [], _, _, _ => rfl
  | [], _ :: _, _, h, _ => by simp at h
  | _ :: _, [], _, h, _ => by simp at h
  | x :: a, y :: b, i, h, hz => by
    have h0 := hz 0
    have ih := stand_congr a b (i + 1) (by simpa using h) (fun s => by have := hz (s + 1); simpa using this)
    simp only [List.getD_cons_zero] at h0
    unfold stand
    rw [ih]
    by_cases hx : x = 0
    · rw [if_pos hx, if_pos (h0.1 hx)]
    · rw [if_neg hx, if_neg (fun e => hx (h0.2 e))]

/-- NO OTHER CODE OF THE SAME SYMBOLS COSTS LESS. -/
theorem least_costT (ws vs : List Nat) (hlen : vs.length = ws.length) (hz : ∀ i, vs.getD i 0 = 0 ↔ ws.getD i 0 = 0) (hle : ∀ i, lenF vs i ≤ 15) :
    costT ws (lens ws) ws.length ≤ costT ws (lens vs) ws.length := by
  have e1 : lens ws = (List.range ws.length).map (lenF ws) := rfl
  have e2 : lens vs = (List.range ws.length).map (lenF vs) := by unfold lens; rw [hlen]
  rw [e1, e2, costT_stand, costT_stand]
  have hst : stand vs 0 = stand ws 0 := stand_congr vs ws 0 hlen hz
  have hc : cnt vs = cnt ws := by unfold cnt; rw [hst]
  by_cases h2 : 2 ≤ cnt ws
  · refine lens_least ws h2 (lenF vs) 15 (fun s _ => hle s) ?_
    rw [← hst]
    exact Nat.le_of_eq (lens_full vs (by omega) 15 fun s _ => hle s)
  · have hcong : ∀ l : List Nat, (∀ s ∈ l, lenF ws s = lenF vs s) → costD (fun s => ws.getD s 0) (lenF ws) l = costD (fun s => ws.getD s 0) (lenF vs) l := by
      intro l
      induction l with
      | nil => intro _; rfl
      | cons x l ih =>
        intro hx
        simp only [costD]
        rw [hx x List.mem_cons_self, ih fun s hs => hx s (List.mem_cons_of_mem _ hs)]
    refine Nat.le_of_eq (hcong _ fun s hs => ?_)
    have hpos : 0 < cnt ws := List.length_pos_of_mem hs
    have h1 : cnt ws = 1 := by omega
    have hw := ((stand0 ws s).1 hs).2
    unfold lenF
    rw [if_neg hw, if_pos h1, if_neg (fun e => hw ((hz s).1 e)), if_pos (by omega)]

end Go.Proofs.Ytihgdlnnfhpdcaa
