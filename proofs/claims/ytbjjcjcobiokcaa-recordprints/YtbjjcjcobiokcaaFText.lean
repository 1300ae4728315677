/- Plain facts on what a cursor reads of a text that was laid piece by piece. Nothing of the program's calls is named here. -/
import Derived.Test.YtbjjcjcobiokcaaFBoth
namespace Go.Proofs.Ytbjjcjcobiokcaa
open Go.RowKit Go.Lib

theorem ba_size (s : ByteArray) : s.data.toList.length = s.size := Array.length_toList

theorem extract_list (s : ByteArray) (i j : Nat) : (s.extract i j).data.toList = (s.data.toList.drop i).take (j - i) := by
  rw [ByteArray.data_extract, Array.toList_extract, List.extract_eq_take_drop]

/-- What lies in the middle is read. -/
theorem textV_mid (s : ByteArray) (A B C : List UInt8) (h : s.data.toList = A ++ (B ++ C)) (i n : Nat) (hA : A.length = i) (hB : B.length = n) : textV s i n false = ⟨B.toArray⟩ ∧ textI s i n false = ((i + n : Nat) : Int) ∧ canT s i n false = true := by
  have hsz : i + n ≤ s.size := by
    rw [← ba_size, h, List.length_append, List.length_append]; omega
  have hc := canT_mk hsz
  refine ⟨?_, ?_, hc⟩
  · unfold textV
    rw [hc, if_pos rfl]
    apply ba_ext
    rw [extract_list, h]
    simp only [Int.toNat_natCast]
    rw [← hA, List.drop_left, show A.length + n - A.length = n by omega, ← hB, List.take_left]
  · unfold textI
    rw [hc, if_pos rfl]
    omega

theorem textV_bad (s : ByteArray) (i n : Int) : textV s i n true = ByteArray.empty ∧ textI s i n true = i ∧ canT s i n true = false := by
  have hc : canT s i n true = false := by simp [canT]
  refine ⟨?_, ?_, hc⟩
  · unfold textV; rw [hc]; rfl
  · unfold textI; rw [hc]; rfl

theorem numV_empty : numV ByteArray.empty = 0 := rfl
theorem numBig_empty : numBig ByteArray.empty = false := rfl

/-- The number of a number's bytes, where it fits. -/
theorem numV_low (n : Int) (k : Nat) (h : n % 2 ^ (8 * k) < 9223372036854775808) : numV (lowS n k) = n % 2 ^ (8 * k) ∧ numBig (lowS n k) = false := by
  have e := numB_low n k
  unfold numV numBig
  rw [lowS_list]
  constructor
  · rw [if_pos (by omega), e]
  · simp; omega

theorem numV_high (n : Int) (k : Nat) (h : 9223372036854775808 ≤ n % 2 ^ (8 * k)) : numV (lowS n k) = 0 ∧ numBig (lowS n k) = true := by
  have e := numB_low n k
  unfold numV numBig
  rw [lowS_list]
  constructor
  · rw [if_neg (by omega)]
  · simp; omega

/-- A number's 14 bytes. -/
def fourteen (x : Int) : List UInt8 := lowB x 2 ++ (lowB x 4 ++ lowB x 8)
theorem fourteen_length (x : Int) : (fourteen x).length = 14 := by simp [fourteen, lowB_length]

def rowB (l : List Int) : List UInt8 := l.flatMap fourteen
theorem rowB_length (l : List Int) : (rowB l).length = 14 * l.length := by
  induction l with
  | nil => rfl
  | cons x l ih => simp only [rowB, List.flatMap_cons, List.length_append, fourteen_length, List.length_cons] at ih ⊢; omega
theorem rowB_append (a b : List Int) : rowB (a ++ b) = rowB a ++ rowB b := by simp [rowB]

/-- The text of the first k numbers. -/
def backT (l : List Int) (k : Nat) : ByteArray := ⟨(rowB (l.take k)).toArray⟩
theorem backT_list (l : List Int) (k : Nat) : (backT l k).data.toList = rowB (l.take k) := rfl
theorem backT_size (l : List Int) (k : Nat) (h : k ≤ l.length) : (backT l k).size = 14 * k := by
  rw [← ba_size, backT_list, rowB_length, List.length_take]; omega
theorem backT_succ (l : List Int) (k : Nat) (x : Int) (h : l[k]? = some x) : backT l (k + 1) = backT l k ++ lowS x 2 ++ lowS x 4 ++ lowS x 8 := by
  obtain ⟨hk, hx⟩ := List.getElem?_eq_some_iff.1 h
  apply ba_ext
  rw [ba_append_list, ba_append_list, ba_append_list, backT_list, backT_list, lowS_list, lowS_list, lowS_list, List.take_succ_eq_append_getElem hk, rowB_append, hx]
  simp [rowB, fourteen]

/-- The whole text, parted at number k. -/
theorem back_parts (l : List Int) (s : ByteArray) (k : Nat) (x : Int) (h : l[k]? = some x) :
    (backT l l.length ++ s).data.toList = rowB (l.take k) ++ (lowB x 2 ++ (lowB x 4 ++ (lowB x 8 ++ (rowB (l.drop (k + 1)) ++ s.data.toList)))) := by
  obtain ⟨hk, hx⟩ := List.getElem?_eq_some_iff.1 h
  have e : l = l.take k ++ (x :: l.drop (k + 1)) := by
    rw [← hx, ← List.drop_eq_getElem_cons hk, List.take_append_drop]
  rw [ba_append_list, backT_list, List.take_length]
  conv => lhs; rw [e]
  rw [rowB_append]
  simp [rowB, fourteen]

theorem back_end (l : List Int) (s : ByteArray) : (backT l l.length ++ s).data.toList = rowB l ++ (s.data.toList ++ []) := by
  rw [ba_append_list, backT_list, List.take_length, List.append_nil]

theorem take_len (l : List Int) (k : Nat) (x : Int) (h : l[k]? = some x) : (rowB (l.take k)).length = 14 * k := by
  have := (List.getElem?_eq_some_iff.1 h).1
  rw [rowB_length, List.length_take]; omega

theorem read16 (l : List Int) (s : ByteArray) (k : Nat) (x : Int) (h : l[k]? = some x) : numV (textV (backT l l.length ++ s) ((14 * k : Nat) : Int) 2 false) = x % 65536 ∧ textI (backT l l.length ++ s) ((14 * k : Nat) : Int) 2 false = ((14 * k + 2 : Nat) : Int) ∧ numW (backT l l.length ++ s) ((14 * k : Nat) : Int) 2 false = false := by
  obtain ⟨h1, h2, h3⟩ := textV_mid _ _ _ _ (back_parts l s k x h) (14 * k) 2 (take_len l k x h) (lowB_length x 2)
  have hn := numV_low x 2 (by have := Int.emod_lt_of_pos x (show (0 : Int) < 2 ^ (8 * 2) by decide); simp at this ⊢; omega)
  unfold numW
  rw [show ((2 : Nat) : Int) = 2 from rfl] at h1 h2 h3
  rw [h1, h2, h3]
  exact ⟨hn.1, rfl, by rw [show (⟨(lowB x 2).toArray⟩ : ByteArray) = lowS x 2 from rfl, hn.2]; rfl⟩

theorem read32 (l : List Int) (s : ByteArray) (k : Nat) (x : Int) (h : l[k]? = some x) : numV (textV (backT l l.length ++ s) ((14 * k + 2 : Nat) : Int) 4 false) = x % 4294967296 ∧ textI (backT l l.length ++ s) ((14 * k + 2 : Nat) : Int) 4 false = ((14 * k + 6 : Nat) : Int) ∧ numW (backT l l.length ++ s) ((14 * k + 2 : Nat) : Int) 4 false = false := by
  have hp := back_parts l s k x h
  rw [← List.append_assoc] at hp
  obtain ⟨h1, h2, h3⟩ := textV_mid _ _ _ _ hp (14 * k + 2) 4 (by rw [List.length_append, take_len l k x h, lowB_length]) (lowB_length x 4)
  have hn := numV_low x 4 (by have := Int.emod_lt_of_pos x (show (0 : Int) < 2 ^ (8 * 4) by decide); simp at this ⊢; omega)
  unfold numW
  rw [show ((4 : Nat) : Int) = 4 from rfl] at h1 h2 h3
  rw [h1, h2, h3]
  exact ⟨hn.1, rfl, by rw [show (⟨(lowB x 4).toArray⟩ : ByteArray) = lowS x 4 from rfl, hn.2]; rfl⟩

theorem read64 (l : List Int) (s : ByteArray) (k : Nat) (x : Int) (h : l[k]? = some x) : textV (backT l l.length ++ s) ((14 * k + 6 : Nat) : Int) 8 false = lowS x 8 ∧ textI (backT l l.length ++ s) ((14 * k + 6 : Nat) : Int) 8 false = ((14 * (k + 1) : Nat) : Int) ∧ numW (backT l l.length ++ s) ((14 * k + 6 : Nat) : Int) 8 false = numBig (lowS x 8) := by
  have hp := back_parts l s k x h
  rw [← List.append_assoc, ← List.append_assoc] at hp
  obtain ⟨h1, h2, h3⟩ := textV_mid _ _ _ _ hp (14 * k + 6) 8 (by rw [List.length_append, List.length_append, take_len l k x h, lowB_length, lowB_length]) (lowB_length x 8)
  unfold numW
  rw [show ((8 : Nat) : Int) = 8 from rfl] at h1 h2 h3
  rw [h1, h2, h3, show (⟨(lowB x 8).toArray⟩ : ByteArray) = lowS x 8 from rfl, Bool.not_true, Bool.false_or]
  exact ⟨rfl, by congr 1, rfl⟩

theorem read64_ok (x : Int) (h0 : 0 ≤ x) (h1 : x ≤ 9223372036854775807) : numV (lowS x 8) = x ∧ numBig (lowS x 8) = false := by
  have e : x % 2 ^ (8 * 8) = x := Int.emod_eq_of_lt h0 (by omega)
  have := numV_low x 8 (by omega)
  rwa [e] at this

theorem read64_no (x : Int) (h0 : x < 0) (h1 : -9223372036854775808 ≤ x) : numV (lowS x 8) = 0 ∧ numBig (lowS x 8) = true :=
  numV_high x 8 (by simp only [show (2 : Int) ^ (8 * 8) = 18446744073709551616 from rfl]; omega)

theorem read_end (l : List Int) (s : ByteArray) : textV (backT l l.length ++ s) ((14 * l.length : Nat) : Int) s.size false = s ∧ textI (backT l l.length ++ s) ((14 * l.length : Nat) : Int) s.size false = (((backT l l.length ++ s).size : Nat) : Int) ∧ canT (backT l l.length ++ s) ((14 * l.length : Nat) : Int) s.size false = true := by
  obtain ⟨h1, h2, h3⟩ := textV_mid _ _ _ _ (back_end l s) (14 * l.length) s.size (rowB_length l) (ba_size s)
  refine ⟨by rw [h1], ?_, h3⟩
  rw [h2, ByteArray.size_append, backT_size l l.length (Nat.le_refl _)]

theorem doneB_end (s : ByteArray) : doneB s s.size false = true := by simp [doneB]
theorem doneB_bad (s : ByteArray) (i : Int) : doneB s i true = false := rfl

end Go.Proofs.Ytbjjcjcobiokcaa
