/- Contract of the code of layer 8: counted. -/
import Derived.Test.YtpgkmbakohfpkaaMB
import Derived.Test.YtpgkmbakohfpkaaMA
import Derived.Laws.BytesString
namespace Go.Proofs.Ytpgkmbakohfpkaa
open Go.RowKit Go.Lib

/-- How many bytes tokens come to, behind so many, or the error. -/
def cntT (limit : Int) : Nat → List (Nat × Int × Int) → Nat × Nat
  | S, [] => (S, 0)
  | S, t :: ts =>
    if t.2.1 ≤ 0 then (if limit ≤ (S : Int) then (0, 6) else cntT limit (S + 1) ts)
    else if t.2.2 < 1 ∨ (S : Int) < t.2.2 then (0, 5)
    else if limit - (S : Int) < t.2.1 then (0, 6)
    else cntT limit (S + t.2.1.toNat) ts
/-- What is counted is what they come to. -/
theorem cnt_ex (limit : Int) : ∀ (ts : List (Nat × Int × Int)) (out : List Nat), (cntT limit out.length ts).2 = (exF 5 6 limit out ts).2 ∧ ((exF 5 6 limit out ts).2 = 0 → (cntT limit out.length ts).1 = (exF 5 6 limit out ts).1.length) ∧ ((exF 5 6 limit out ts).2 ≠ 0 → (cntT limit out.length ts).1 = 0)
  | [], out => ⟨rfl, fun _ => rfl, fun h => absurd rfl h⟩
  | t :: ts, out => by
    unfold exF cntT
    by_cases c1 : t.2.1 ≤ 0
    · rw [if_pos c1, if_pos c1]
      by_cases c2 : limit ≤ (out.length : Int)
      · rw [if_pos c2, if_pos c2]
        exact ⟨rfl, fun h => (by cases h), fun _ => rfl⟩
      · rw [if_neg c2, if_neg c2]
        have h := cnt_ex limit ts (out ++ [t.1])
        rw [List.length_append] at h
        exact h
    · rw [if_neg c1, if_neg c1]
      by_cases c2 : t.2.2 < 1 ∨ (out.length : Int) < t.2.2
      · rw [if_pos c2, if_pos c2]
        exact ⟨rfl, fun h => (by cases h), fun _ => rfl⟩
      · rw [if_neg c2, if_neg c2]
        by_cases c3 : limit - (out.length : Int) < t.2.1
        · rw [if_pos c3, if_pos c3]
          exact ⟨rfl, fun h => (by cases h), fun _ => rfl⟩
        · rw [if_neg c3, if_neg c3]
          have h := cnt_ex limit ts (copyN t.2.2.toNat t.2.1.toNat out)
          rw [copyN_length] at h
          exact h

/-- A counting under way. -/
structure CntT (w W : World) (l : List (Nat × Int × Int)) (limit : Int) (i S : Nat) : Prop where
  bel : Below W.heap.size W w
  cnt : cntT limit 0 l = cntT limit S (l.drop i)
  room : S = 0 ∨ (S : Int) ≤ limit
/-- What a counting gives. -/
def CntTPost (W : World) (l : List (Nat × Int × Int)) (limit : Int) (e : Ending) (w' : World) : Prop := e = .returned (.tuple #[.int .i64 ((cntT limit 0 l).1 : Nat), .int .i64 ((cntT limit 0 l).2 : Nat)]) ∧ Below W.heap.size W w'
theorem CntT.step {w W : World} {l : List (Nat × Int × Int)} {limit : Int} {i S : Nat} (h : CntT w W l limit i S) (t : Nat × Int × Int) (ht : l[i]? = some t) :
    cntT limit 0 l = (if t.2.1 ≤ 0 then (if limit ≤ (S : Int) then (0, 6) else cntT limit (S + 1) (l.drop (i + 1)))
      else if t.2.2 < 1 ∨ (S : Int) < t.2.2 then (0, 5)
      else if limit - (S : Int) < t.2.1 then (0, 6)
      else cntT limit (S + t.2.1.toNat) (l.drop (i + 1))) := by
  obtain ⟨hi, e⟩ := List.getElem?_eq_some_iff.1 ht
  rw [h.cnt, List.drop_eq_getElem_cons hi, e]
  rfl
theorem cntT_post {W w : World} {l : List (Nat × Int × Int)} {limit : Int} {n e : Nat} (h : cntT limit 0 l = (n, e)) (b : Below W.heap.size W w) : CntTPost W l limit (.returned (.tuple #[.int .i64 (n : Nat), .int .i64 (e : Nat)])) w := by
  unfold CntTPost
  rw [h]
  exact ⟨rfl, b⟩

end Go.Proofs.Ytpgkmbakohfpkaa
