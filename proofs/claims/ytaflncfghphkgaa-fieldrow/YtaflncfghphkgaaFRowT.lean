/- Plain facts on texts that were laid each behind its length, and on what is read of the first bytes of them. Nothing of the program's calls is named here. -/
import Derived.Test.YtaflncfghphkgaaFText
namespace Go.Proofs.Ytaflncfghphkgaa
open Go.RowKit Go.Lib

/-- A text behind its length. -/
def recB (x : ByteArray) : List UInt8 := lowB x.size 4 ++ x.data.toList
def rowR (l : List ByteArray) : List UInt8 := l.flatMap recB
theorem rowR_append (a b : List ByteArray) : rowR (a ++ b) = rowR a ++ rowR b := by simp [rowR]
theorem recB_length (x : ByteArray) : (recB x).length = 4 + x.size := by
  unfold recB; rw [List.length_append, lowB_length, ba_size]

/-- Where the text number k lies. -/
def offR (l : List ByteArray) (k : Nat) : Nat := (rowR (l.take k)).length
/-- The first k texts. -/
def rowT (l : List ByteArray) (k : Nat) : ByteArray := ⟨(rowR (l.take k)).toArray⟩
theorem rowT_list (l : List ByteArray) (k : Nat) : (rowT l k).data.toList = rowR (l.take k) := rfl
theorem rowT_size (l : List ByteArray) (k : Nat) : (rowT l k).size = offR l k := by rw [← ba_size]; rfl

theorem take_succ' (l : List ByteArray) (k : Nat) (x : ByteArray) (h : l[k]? = some x) : l.take (k + 1) = l.take k ++ [x] := by
  obtain ⟨hk, hx⟩ := List.getElem?_eq_some_iff.1 h
  rw [List.take_succ_eq_append_getElem hk, hx]

theorem rowR_succ (l : List ByteArray) (k : Nat) (x : ByteArray) (h : l[k]? = some x) : rowR (l.take (k + 1)) = rowR (l.take k) ++ recB x := by
  rw [take_succ' l k x h, rowR_append]; simp [rowR]

theorem offR_succ (l : List ByteArray) (k : Nat) (x : ByteArray) (h : l[k]? = some x) : offR l (k + 1) = offR l k + 4 + x.size := by
  unfold offR
  rw [rowR_succ l k x h, List.length_append, recB_length]; omega

theorem rowT_succ (l : List ByteArray) (k : Nat) (x : ByteArray) (h : l[k]? = some x) : rowT l (k + 1) = rowT l k ++ lowS x.size 4 ++ x := by
  apply ba_ext
  rw [ba_append_list, ba_append_list, rowT_list, rowT_list, lowS_list, rowR_succ l k x h, recB, List.append_assoc]

theorem rowR_parts (l : List ByteArray) (k : Nat) (x : ByteArray) (h : l[k]? = some x) :
    rowR l = rowR (l.take k) ++ (lowB x.size 4 ++ (x.data.toList ++ rowR (l.drop (k + 1)))) := by
  obtain ⟨hk, hx⟩ := List.getElem?_eq_some_iff.1 h
  have e : l = l.take k ++ (x :: l.drop (k + 1)) := by
    rw [← hx, ← List.drop_eq_getElem_cons hk, List.take_append_drop]
  conv => lhs; rw [e]
  rw [rowR_append]
  simp [rowR, recB]

theorem offR_all (l : List ByteArray) : offR l l.length = (rowR l).length := by unfold offR; rw [List.take_length]

theorem off_le (l : List ByteArray) (k : Nat) (x : ByteArray) (h : l[k]? = some x) : offR l k + 4 + x.size ≤ (rowR l).length := by
  have e := congrArg List.length (rowR_parts l k x h)
  simp only [List.length_append, lowB_length, ba_size] at e
  unfold offR
  omega

/-- The first m bytes of all. -/
theorem cut_list (l : List ByteArray) (m : Nat) : ((rowT l l.length).extract 0 m).data.toList = (rowR l).take m := by
  rw [extract_list, rowT_list, List.take_length]; simp

theorem cut_size (l : List ByteArray) (m : Nat) (h : m ≤ (rowR l).length) : ((rowT l l.length).extract 0 m).size = m := by
  rw [← ba_size, cut_list, List.length_take]; omega

theorem numW_no {s : ByteArray} {i n : Int} {bad : Bool} (h : canT s i n bad = false) : numW s i n bad = true ∧ textV s i n bad = ByteArray.empty ∧ textI s i n bad = i := by
  refine ⟨?_, ?_, ?_⟩
  · unfold numW; rw [h]; rfl
  · unfold textV; rw [h]; rfl
  · unfold textI; rw [h]; rfl

/-- The length is read. -/
theorem read_len (T : ByteArray) (A C : List UInt8) (x : ByteArray) (i : Nat) (hA : A.length = i) (hx : x.size ≤ 200) (h : T.data.toList = A ++ (lowB x.size 4 ++ C)) :
    numV (textV T i 4 false) = x.size ∧ textI T i 4 false = ((i + 4 : Nat) : Int) ∧ numW T i 4 false = false := by
  obtain ⟨h1, h2, h3⟩ := textV_mid _ _ _ _ h i 4 hA (lowB_length x.size 4)
  have e : (x.size : Int) % 2 ^ (8 * 4) = x.size := Int.emod_eq_of_lt (by omega) (by simp; omega)
  have hn := numV_low x.size 4 (by omega)
  rw [e] at hn
  unfold numW
  rw [show ((4 : Nat) : Int) = 4 from rfl] at h1 h2 h3
  rw [h1, h2, h3, show (⟨(lowB x.size 4).toArray⟩ : ByteArray) = lowS x.size 4 from rfl, hn.2]
  exact ⟨hn.1, rfl, rfl⟩

/-- The text is read. -/
theorem read_str (T : ByteArray) (A C : List UInt8) (x : ByteArray) (i : Nat) (hA : A.length = i) (h : T.data.toList = A ++ (lowB x.size 4 ++ (x.data.toList ++ C))) :
    textV T ((i + 4 : Nat) : Int) x.size false = x ∧ textI T ((i + 4 : Nat) : Int) x.size false = ((i + 4 + x.size : Nat) : Int) ∧ canT T ((i + 4 : Nat) : Int) x.size false = true := by
  rw [← List.append_assoc] at h
  obtain ⟨h1, h2, h3⟩ := textV_mid _ _ _ _ h (i + 4) x.size (by rw [List.length_append, hA, lowB_length]) (ba_size x)
  exact ⟨by rw [h1], h2, h3⟩

theorem take2 (A B C : List UInt8) (m : Nat) (h : A.length + B.length ≤ m) : (A ++ (B ++ C)).take m = A ++ (B ++ C.take (m - (A.length + B.length))) := by
  rw [List.take_append, List.take_of_length_le (by omega), List.take_append, List.take_of_length_le (by omega)]
  congr 3
  omega
theorem take3 (A B C D : List UInt8) (m : Nat) (h : A.length + B.length + C.length ≤ m) : (A ++ (B ++ (C ++ D))).take m = A ++ (B ++ (C ++ D.take (m - (A.length + B.length + C.length)))) := by
  rw [take2 A B (C ++ D) m (by omega), List.take_append, List.take_of_length_le (by omega)]
  congr 4
  omega

theorem row_list (l : List ByteArray) (k : Nat) (x : ByteArray) (h : l[k]? = some x) : (rowT l l.length).data.toList = rowR (l.take k) ++ (lowB x.size 4 ++ (x.data.toList ++ rowR (l.drop (k + 1)))) := by
  rw [rowT_list, List.take_length]; exact rowR_parts l k x h

/-- Of the first m bytes, where the text number k lies within them. -/
theorem cut_in (l : List ByteArray) (k : Nat) (x : ByteArray) (h : l[k]? = some x) (m : Nat) (hm : offR l k + 4 + x.size ≤ m) : ∃ C, ((rowT l l.length).extract 0 m).data.toList = rowR (l.take k) ++ (lowB x.size 4 ++ (x.data.toList ++ C)) := by
  have e := take3 (rowR (l.take k)) (lowB x.size 4) x.data.toList (rowR (l.drop (k + 1))) m (by rw [lowB_length, ba_size]; exact hm)
  rw [← rowR_parts l k x h, ← cut_list] at e
  exact ⟨_, e⟩

/-- .. where its length alone does. -/
theorem cut_len (l : List ByteArray) (k : Nat) (x : ByteArray) (h : l[k]? = some x) (m : Nat) (hm : offR l k + 4 ≤ m) : ∃ C, ((rowT l l.length).extract 0 m).data.toList = rowR (l.take k) ++ (lowB x.size 4 ++ C) := by
  have e := take2 (rowR (l.take k)) (lowB x.size 4) (x.data.toList ++ rowR (l.drop (k + 1))) m (by rw [lowB_length]; exact hm)
  rw [← rowR_parts l k x h, ← cut_list] at e
  exact ⟨_, e⟩

theorem canT_over (s : ByteArray) (i n : Nat) (h : s.size < i + n) : canT s i n false = false := by
  unfold canT
  simp
  omega

/-- The state of a cursor over the first m bytes, behind k texts: all well, or what is missing was met. -/
def CutOk (l : List ByteArray) (m k : Nat) (i : Int) (bad : Bool) : Prop := i ≤ 9223372036854775807 ∧ (bad = false ∧ i = (offR l k : Nat) ∧ offR l k ≤ m ∨ bad = true ∧ m < (rowR l).length)

/-- One text more. -/
theorem CutOk.step (l : List ByteArray) (m k : Nat) (x : ByteArray) (h : l[k]? = some x) (hx : x.size ≤ 200) (hm : m ≤ (rowR l).length) (i : Int) (bad : Bool) (hc : CutOk l m k i bad) (T : ByteArray) (hT : T = (rowT l l.length).extract 0 m) (hb : m ≤ 1000000) :
    ∃ (n i1 : Int) (bad1 : Bool), numV (textV T i 4 bad) = n ∧ textI T i 4 bad = i1 ∧ numW T i 4 bad = bad1 ∧ i1 ≤ 9223372036854775807 ∧ CutOk l m (k + 1) (textI T i1 n bad1) (!canT T i1 n bad1) := by
  subst hT
  obtain ⟨hi, ⟨rfl, rfl, ho⟩ | ⟨rfl, ho⟩⟩ := hc
  · have hsz := cut_size l m hm
    have hoff := off_le l k x h
    by_cases h1 : offR l k + 4 ≤ m
    · obtain ⟨C, hC⟩ := cut_len l k x h m h1
      obtain ⟨e1, e2, e3⟩ := read_len _ _ _ x (offR l k) rfl hx hC
      refine ⟨_, _, _, e1, e2, e3, by omega, ?_⟩
      by_cases h2 : offR l k + 4 + x.size ≤ m
      · obtain ⟨C2, hC2⟩ := cut_in l k x h m h2
        obtain ⟨_, f2, f3⟩ := read_str _ _ _ x (offR l k) rfl hC2
        rw [f2, f3]
        exact ⟨by omega, .inl ⟨rfl, by rw [offR_succ l k x h], by rw [offR_succ l k x h]; exact h2⟩⟩
      · have hc := canT_over ((rowT l l.length).extract 0 m) (offR l k + 4) x.size (by rw [hsz]; omega)
        obtain ⟨_, _, g3⟩ := numW_no hc
        rw [g3, hc]
        exact ⟨by omega, .inr ⟨rfl, by omega⟩⟩
    · have hc : canT ((rowT l l.length).extract 0 m) (offR l k : Nat) 4 false = false := canT_over ((rowT l l.length).extract 0 m) (offR l k) 4 (by rw [hsz]; omega)
      obtain ⟨g1, g2, g3⟩ := numW_no hc
      refine ⟨0, _, true, by rw [g2, numV_empty], g3, g1, by omega, ?_⟩
      obtain ⟨_, t2, t3⟩ := textV_bad ((rowT l l.length).extract 0 m) (offR l k : Nat) 0
      rw [t2, t3]
      exact ⟨by omega, .inr ⟨rfl, by omega⟩⟩
  · obtain ⟨t1, t2, t3⟩ := textV_bad ((rowT l l.length).extract 0 m) i 4
    refine ⟨0, _, true, by rw [t1, numV_empty], t2, by unfold numW; rw [t3]; rfl, hi, ?_⟩
    obtain ⟨_, u2, u3⟩ := textV_bad ((rowT l l.length).extract 0 m) i 0
    rw [u2, u3]
    exact ⟨hi, .inr ⟨rfl, ho⟩⟩

end Go.Proofs.Ytaflncfghphkgaa
