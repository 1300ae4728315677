/- Both cursors' reading as functions of what they are: Text, U16, U32, U64. -/
import Derived.Test.YtbjjcjcobiokcaaFRef
namespace Go.Proofs.Ytbjjcjcobiokcaa
open Go.RowKit Go.Lib

/-- Can n bytes be read? -/
def canT (s : ByteArray) (i n : Int) (bad : Bool) : Bool := !bad && decide (0 ≤ n) && decide (0 ≤ i) && decide (n ≤ (s.size : Int) - i)
/-- The text that is read. -/
def textV (s : ByteArray) (i n : Int) (bad : Bool) : ByteArray := if canT s i n bad then s.extract i.toNat (i.toNat + n.toNat) else ByteArray.empty
/-- From where on the next is read. -/
def textI (s : ByteArray) (i n : Int) (bad : Bool) : Int := if canT s i n bad then i + n else i
/-- Did it go wrong, of a number? -/
def numW (s : ByteArray) (i n : Int) (bad : Bool) : Bool := !canT s i n bad || numBig (textV s i n bad)

theorem canT_true {s : ByteArray} {i n : Int} {bad : Bool} (h : canT s i n bad = true) : bad = false ∧ 0 ≤ n ∧ 0 ≤ i ∧ n ≤ (s.size : Int) - i := by
  unfold canT at h
  simpa [and_assoc] using h
theorem canT_false {s : ByteArray} {i n : Int} {bad : Bool} (h : canT s i n bad = false) : bad = true ∨ n < 0 ∨ i < 0 ∨ (s.size : Int) - i < n := by
  unfold canT at h
  cases bad
  · by_cases h1 : n < 0
    · exact .inr (.inl h1)
    · by_cases h2 : i < 0
      · exact .inr (.inr (.inl h2))
      · refine .inr (.inr (.inr ?_))
        simp only [Bool.not_false, Bool.true_and, Bool.and_eq_false_iff, decide_eq_false_iff_not] at h
        omega
  · exact .inl rfl

theorem canT_mk {s : ByteArray} {i n : Nat} (h : i + n ≤ s.size) : canT s i n false = true := by
  unfold canT
  simp
  omega

theorem extract_size (s : ByteArray) (i n : Nat) (h : i + n ≤ s.size) : (s.extract i (i + n)).size = n := by
  rw [ByteArray.size_extract]
  omega

theorem textV_size (s : ByteArray) (i n : Int) (bad : Bool) (k : Nat) (hn : n ≤ k) : (textV s i n bad).size ≤ k := by
  unfold textV
  split
  · rw [ByteArray.size_extract]; omega
  · exact Nat.zero_le _

theorem textI_le (s : ByteArray) (i n : Int) (bad : Bool) (hi : i ≤ 9223372036854775807) (hs : s.size ≤ 1000000000000) : textI s i n bad ≤ 9223372036854775807 := by
  unfold textI
  split
  · rename_i h; have := canT_true h; omega
  · exact hi

theorem ctext_any (p : Nat) (s : ByteArray) (w : World) (i : Int) (bad : Bool) (h : CurAt 29 w p s i bad) (hi : i ≤ 9223372036854775807) (hs : s.size ≤ 1000000000000) (n : Int) :
    Calls Try.prog 42 #[.pointer (some ⟨p, 0, none⟩), .int .i64 n] w fun e w' => e = .returned (.string (textV s i n bad)) ∧ CurAt 29 w' p s (textI s i n bad) (!canT s i n bad) ∧ Only p w w' := by
  cases hc : canT s i n bad
  · unfold textV textI
    rw [hc]
    exact ctext_no p s w i n bad h (canT_false hc) hi hs
  · obtain ⟨hb, h0, h1, h2⟩ := canT_true hc
    unfold textV textI
    rw [hc]
    subst hb
    obtain ⟨m, rfl⟩ : ∃ m : Nat, i = m := ⟨i.toNat, by omega⟩
    obtain ⟨l, rfl⟩ : ∃ l : Nat, n = l := ⟨n.toNat, by omega⟩
    refine (ctext_ok p s w m l h (by omega) hs).mono ?_
    rintro e w' ⟨rfl, h1, h2⟩
    exact ⟨rfl, by simpa using h1, h2⟩

theorem cnumber_any (p : Nat) (s : ByteArray) (w : World) (i : Int) (bad : Bool) (h : CurAt 29 w p s i bad) (hi : i ≤ 9223372036854775807) (hs : s.size ≤ 1000000000000) (k : Nat) (hk : k ≤ 8) :
    Calls Try.prog 48 #[.pointer (some ⟨p, 0, none⟩), .int .i64 k] w fun e w' => e = .returned (.int .i64 (numV (textV s i k bad))) ∧ CurAt 29 w' p s (textI s i k bad) (numW s i k bad) ∧ Only p w w' :=
  cnumber_of p s (textV s i k bad) w k _ _ (textV_size s i k bad 8 (by omega)) (ctext_any p s w i bad h hi hs k)

set_option maxHeartbeats 400000 in
theorem cu16_any (p : Nat) (s : ByteArray) (w : World) (i : Int) (bad : Bool) (h : CurAt 29 w p s i bad) (hi : i ≤ 9223372036854775807) (hs : s.size ≤ 1000000000000) :
    Calls Try.prog 45 #[.pointer (some ⟨p, 0, none⟩)] w fun e w' => e = .returned (.int .i64 (numV (textV s i 2 bad))) ∧ CurAt 29 w' p s (textI s i 2 bad) (numW s i 2 bad) ∧ Only p w w' := by
  have H := hide h
  clear h
  go_enter Try.func45, Try.ntmps45
  go_wp2_with fail
  refine (cnumber_any p s w i bad H.out hi hs 2 (by decide)).mono ?_
  rintro e w1 ⟨rfl, h1, o1⟩
  have H1 := hide h1
  have O1 := hide o1
  clear h1 o1
  go_wp2
  go_ret
  exact ⟨rfl, H1.out, O1.out⟩

set_option maxHeartbeats 400000 in
theorem cu32_any (p : Nat) (s : ByteArray) (w : World) (i : Int) (bad : Bool) (h : CurAt 29 w p s i bad) (hi : i ≤ 9223372036854775807) (hs : s.size ≤ 1000000000000) :
    Calls Try.prog 44 #[.pointer (some ⟨p, 0, none⟩)] w fun e w' => e = .returned (.int .i64 (numV (textV s i 4 bad))) ∧ CurAt 29 w' p s (textI s i 4 bad) (numW s i 4 bad) ∧ Only p w w' := by
  have H := hide h
  clear h
  go_enter Try.func44, Try.ntmps44
  go_wp2_with fail
  refine (cnumber_any p s w i bad H.out hi hs 4 (by decide)).mono ?_
  rintro e w1 ⟨rfl, h1, o1⟩
  have H1 := hide h1
  have O1 := hide o1
  clear h1 o1
  go_wp2
  go_ret
  exact ⟨rfl, H1.out, O1.out⟩

set_option maxHeartbeats 400000 in
theorem cu64_any (p : Nat) (s : ByteArray) (w : World) (i : Int) (bad : Bool) (h : CurAt 29 w p s i bad) (hi : i ≤ 9223372036854775807) (hs : s.size ≤ 1000000000000) :
    Calls Try.prog 46 #[.pointer (some ⟨p, 0, none⟩)] w fun e w' => e = .returned (.int .i64 (numV (textV s i 8 bad))) ∧ CurAt 29 w' p s (textI s i 8 bad) (numW s i 8 bad) ∧ Only p w w' := by
  have H := hide h
  clear h
  go_enter Try.func46, Try.ntmps46
  go_wp2_with fail
  refine (cnumber_any p s w i bad H.out hi hs 8 (by decide)).mono ?_
  rintro e w1 ⟨rfl, h1, o1⟩
  have H1 := hide h1
  have O1 := hide o1
  clear h1 o1
  go_wp2
  go_ret
  exact ⟨rfl, H1.out, O1.out⟩

theorem qtext_any (p : Nat) (s : ByteArray) (w : World) (i : Int) (bad : Bool) (h : CurAt 31 w p s i bad) (hi : i ≤ 9223372036854775807) (hs : s.size ≤ 1000000000000) (n : Int) :
    Calls Try.prog 38 #[.pointer (some ⟨p, 0, none⟩), .int .i64 n] w fun e w' => e = .returned (.string (textV s i n bad)) ∧ CurAt 31 w' p s (textI s i n bad) (!canT s i n bad) ∧ Only p w w' := by
  cases hc : canT s i n bad
  · unfold textV textI
    rw [hc]
    exact qtext_no p s w i n bad h (canT_false hc) hi hs
  · obtain ⟨hb, h0, h1, h2⟩ := canT_true hc
    unfold textV textI
    rw [hc]
    subst hb
    obtain ⟨m, rfl⟩ : ∃ m : Nat, i = m := ⟨i.toNat, by omega⟩
    obtain ⟨l, rfl⟩ : ∃ l : Nat, n = l := ⟨n.toNat, by omega⟩
    refine (qtext_ok p s w m l h (by omega) hs).mono ?_
    rintro e w' ⟨rfl, h1, h2⟩
    exact ⟨rfl, by simpa using h1, h2⟩

theorem qnumber_any (p : Nat) (s : ByteArray) (w : World) (i : Int) (bad : Bool) (h : CurAt 31 w p s i bad) (hi : i ≤ 9223372036854775807) (hs : s.size ≤ 1000000000000) (k : Nat) (hk : k ≤ 8) :
    Calls Try.prog 47 #[.pointer (some ⟨p, 0, none⟩), .int .i64 k] w fun e w' => e = .returned (.int .i64 (numV (textV s i k bad))) ∧ CurAt 31 w' p s (textI s i k bad) (numW s i k bad) ∧ Only p w w' :=
  qnumber_of p s (textV s i k bad) w k _ _ (textV_size s i k bad 8 (by omega)) (qtext_any p s w i bad h hi hs k)

set_option maxHeartbeats 400000 in
theorem qu16_any (p : Nat) (s : ByteArray) (w : World) (i : Int) (bad : Bool) (h : CurAt 31 w p s i bad) (hi : i ≤ 9223372036854775807) (hs : s.size ≤ 1000000000000) :
    Calls Try.prog 39 #[.pointer (some ⟨p, 0, none⟩)] w fun e w' => e = .returned (.int .i64 (numV (textV s i 2 bad))) ∧ CurAt 31 w' p s (textI s i 2 bad) (numW s i 2 bad) ∧ Only p w w' := by
  have H := hide h
  clear h
  go_enter Try.func39, Try.ntmps39
  go_wp2_with fail
  refine (qnumber_any p s w i bad H.out hi hs 2 (by decide)).mono ?_
  rintro e w1 ⟨rfl, h1, o1⟩
  have H1 := hide h1
  have O1 := hide o1
  clear h1 o1
  go_wp2
  go_ret
  exact ⟨rfl, H1.out, O1.out⟩

set_option maxHeartbeats 400000 in
theorem qu32_any (p : Nat) (s : ByteArray) (w : World) (i : Int) (bad : Bool) (h : CurAt 31 w p s i bad) (hi : i ≤ 9223372036854775807) (hs : s.size ≤ 1000000000000) :
    Calls Try.prog 40 #[.pointer (some ⟨p, 0, none⟩)] w fun e w' => e = .returned (.int .i64 (numV (textV s i 4 bad))) ∧ CurAt 31 w' p s (textI s i 4 bad) (numW s i 4 bad) ∧ Only p w w' := by
  have H := hide h
  clear h
  go_enter Try.func40, Try.ntmps40
  go_wp2_with fail
  refine (qnumber_any p s w i bad H.out hi hs 4 (by decide)).mono ?_
  rintro e w1 ⟨rfl, h1, o1⟩
  have H1 := hide h1
  have O1 := hide o1
  clear h1 o1
  go_wp2
  go_ret
  exact ⟨rfl, H1.out, O1.out⟩

set_option maxHeartbeats 400000 in
theorem qu64_any (p : Nat) (s : ByteArray) (w : World) (i : Int) (bad : Bool) (h : CurAt 31 w p s i bad) (hi : i ≤ 9223372036854775807) (hs : s.size ≤ 1000000000000) :
    Calls Try.prog 41 #[.pointer (some ⟨p, 0, none⟩)] w fun e w' => e = .returned (.int .i64 (numV (textV s i 8 bad))) ∧ CurAt 31 w' p s (textI s i 8 bad) (numW s i 8 bad) ∧ Only p w w' := by
  have H := hide h
  clear h
  go_enter Try.func41, Try.ntmps41
  go_wp2_with fail
  refine (qnumber_any p s w i bad H.out hi hs 8 (by decide)).mono ?_
  rintro e w1 ⟨rfl, h1, o1⟩
  have H1 := hide h1
  have O1 := hide o1
  clear h1 o1
  go_wp2
  go_ret
  exact ⟨rfl, H1.out, O1.out⟩

end Go.Proofs.Ytbjjcjcobiokcaa
