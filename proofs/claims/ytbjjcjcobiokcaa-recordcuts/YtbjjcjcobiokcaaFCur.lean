/- Contracts of the Cursor's reading: Text, Done: what each answers, and what the cursor is behind it. -/
import Derived.Test.YtbjjcjcobiokcaaFLow
import Derived.BigQuiet
import Derived.Deep.QuietTactic
namespace Go.Proofs.Ytbjjcjcobiokcaa
open Go.RowKit Go.Lib

/-- A cursor (of type T) lies in block p. -/
def CurAt (T : TypeId) (w : World) (p : Nat) (s : ByteArray) (at' : Int) (bad : Bool) : Prop := w.heap[p]? = some (.cells #[.string s, .int .i64 at', .bool bad] T (0, 0))

section
variable {T : TypeId} {w : World} {p : Nat} {s : ByteArray} {i : Int} {bad : Bool}
theorem CurAt.c0 (h : CurAt T w p s i bad) : w.cell? ⟨p, 0, none⟩ = some (.string s) := by
  unfold CurAt at h; simp [World.cell?, h]
theorem CurAt.c1 (h : CurAt T w p s i bad) : w.cell? ⟨p, 1, none⟩ = some (.int .i64 i) := by
  unfold CurAt at h; simp [World.cell?, h]
theorem CurAt.c2 (h : CurAt T w p s i bad) : w.cell? ⟨p, 2, none⟩ = some (.bool bad) := by
  unfold CurAt at h; simp [World.cell?, h]
theorem CurAt.fz (h : CurAt T w p s i bad) (o : Nat) : w.frozen? ⟨p, o, none⟩ = false := by
  unfold CurAt at h; simp [World.frozen?, h]
theorem CurAt.setBad (h : CurAt T w p s i bad) (n : Nat) : CurAt T ((w.drewN n).setCell ⟨p, 2, none⟩ (.bool true)) p s i true := by
  unfold CurAt at h ⊢; rw [heap_setCell_same _ _ _ _ _ _ _ (show (w.drewN n).heap[p]? = _ from h)]; rfl
theorem CurAt.setBad0 (h : CurAt T w p s i bad) : CurAt T (w.setCell ⟨p, 2, none⟩ (.bool true)) p s i true := h.setBad 0
theorem CurAt.setAt (h : CurAt T w p s i bad) (n : Nat) (j k : Int) (hj : j = k) : CurAt T ((w.drewN n).setCell ⟨p, 1, none⟩ (.int .i64 j)) p s k bad := by
  unfold CurAt at h ⊢; rw [heap_setCell_same _ _ _ _ _ _ _ (show (w.drewN n).heap[p]? = _ from h), hj]; rfl
theorem CurAt.drew2 (h : CurAt T w p s i bad) (n : Nat) : CurAt T (w.drewN n) p s i bad := h
theorem CurAt.block {w' : World} (h : CurAt T w p s i bad) (hb : w'.heap[p]? = w.heap[p]?) : CurAt T w' p s i bad := by
  unfold CurAt at h ⊢; rw [hb]; exact h
theorem CurAt.only {w' : World} {q : Nat} (h : CurAt T w p s i bad) (ho : Only q w w') (hq : p ≠ q) : CurAt T w' p s i bad := h.block (ho.block p hq)
theorem CurAt.lt (h : CurAt T w p s i bad) : p < w.heap.size := (Array.getElem?_eq_some_iff.1 h).1
theorem CurAt.below {w' : World} {B : Nat} (h : CurAt T w p s i bad) (hb : Below B w w') (hp : p < B) : CurAt T w' p s i bad := h.block (hb.block p hp)
theorem CurAt.alloc (h : CurAt T w p s i bad) (o : Obj) : CurAt T (w.alloc o) p s i bad := h.block (Below.heap_alloc _ _ _ h.lt)
end

theorem CurAt.made (T : TypeId) (w : World) (s : ByteArray) (i : Int) : CurAt T (w.alloc (.cells #[.string s, .int .i64 i, .bool false] T)) w.heap.size s i false := by
  show (w.heap.push _)[w.heap.size]? = _
  simp

theorem Only.below {p B : Nat} {w w' : World} (h : Only p w w') (hp : B ≤ p) : Below B w w' := ⟨h.os, h.tape, h.output, Nat.le_of_eq h.size.symm, fun k hk => h.block k (by omega)⟩

theorem retStr {a b : ByteArray} (h : a = b) : Ending.returned (.string a) = .returned (.string b) := by rw [h]

section
variable (p : Nat) (s : ByteArray) (w : World)

set_option maxHeartbeats 400000 in
theorem ctext_ok (i n : Nat) (h : CurAt 29 w p s i false) (hi : i + n ≤ s.size) (hs : s.size ≤ 1000000000000) :
    Calls Try.prog 42 #[.pointer (some ⟨p, 0, none⟩), .int .i64 n] w fun e w' => e = .returned (.string (s.extract i (i + n))) ∧ CurAt 29 w' p s ((i + n : Nat) : Int) false ∧ Only p w w' := by
  have _c0 := h.c0
  have _c1 := h.c1
  have _c2 := h.c2
  have _f1 := h.fz 1
  have H := hide h
  clear h
  go_enter Try.func42, Try.ntmps42
  go_wp2
  have t1 : decide ((n : Int) < 0) = false := by simp
  have t2 : decide ((i : Int) < 0) = false := by simp
  have t3 : decide ((s.size : Int) < (i : Int)) = false := by simp; omega
  have t5 : IntKind.i64.wrap ((s.size : Int) - i) = s.size - i := by rw [IntKind.wrap_i64]; omega
  have t4 : decide ((s.size : Int) - i < n) = false := by simp; omega
  go_quiet (fail)
  clear t1 t2 t3 t4
  go_wp2
  go_quiet (fail)
  go_wp2
  go_ret
  exact ⟨retStr (by first | rfl | (congr 1 <;> omega)), (H.out.setAt _ _ _ (by omega)).drew2 _, ((Only.drewN _ _ _).trans (Only.setCell _ _ _ _)).trans (Only.drewN _ _ _)⟩

set_option maxHeartbeats 400000 in
theorem ctext_no (i n : Int) (bad : Bool) (h : CurAt 29 w p s i bad) (hno : bad = true ∨ n < 0 ∨ i < 0 ∨ (s.size : Int) - i < n) (hi : i ≤ 9223372036854775807) (hs : s.size ≤ 1000000000000) :
    Calls Try.prog 42 #[.pointer (some ⟨p, 0, none⟩), .int .i64 n] w fun e w' => e = .returned (.string ByteArray.empty) ∧ CurAt 29 w' p s i true ∧ Only p w w' := by
  have _c0 := h.c0
  have _c1 := h.c1
  have _c2 := h.c2
  have _f2 := h.fz 2
  have H := hide h
  have HN := hide hno
  clear h hno
  cases bad
  · have hn : n < 0 ∨ i < 0 ∨ (s.size : Int) - i < n := by
      rcases HN.out with h | h
      · cases h
      · exact h
    clear HN
    have HN := hide hn
    clear hn
    by_cases h1 : n < 0
    · by_cases h2 : i < 0
      all_goals
        go_enter Try.func42, Try.ntmps42
        go_wp2
        have t1 : decide (n < 0) = true := by simp; omega
        first
          | (have t2 : decide (i < 0) = true := (by simp; omega); go_quiet (fail); clear t1 t2)
          | (have t2 : decide (i < 0) = false := (by simp; omega); go_quiet (fail); clear t1 t2)
        go_wp2
        go_ret
        exact ⟨rfl, H.out.setBad _, (Only.drewN _ _ _).trans (Only.setCell _ _ _ _)⟩
    · by_cases h2 : i < 0
      · go_enter Try.func42, Try.ntmps42
        go_wp2
        have t1 : decide (n < 0) = false := by simp; omega
        have t2 : decide (i < 0) = true := by simp; omega
        go_quiet (fail)
        clear t1 t2
        go_wp2
        go_ret
        exact ⟨rfl, H.out.setBad _, (Only.drewN _ _ _).trans (Only.setCell _ _ _ _)⟩
      · have h3 : (s.size : Int) - i < n := by
          rcases HN.out with h | h | h
          · omega
          · omega
          · exact h
        clear HN
        by_cases h4 : (s.size : Int) < i
        all_goals
          go_enter Try.func42, Try.ntmps42
          go_wp2
          have t1 : decide (n < 0) = false := by simp; omega
          have t2 : decide (i < 0) = false := by simp; omega
          have t5 : IntKind.i64.wrap ((s.size : Int) - i) = s.size - i := by rw [IntKind.wrap_i64]; omega
          have t4 : decide ((s.size : Int) - i < n) = true := by simp; omega
          first
            | (have t3 : decide ((s.size : Int) < i) = true := (by simp; omega); go_quiet (fail); clear t1 t2 t3 t4 t5)
            | (have t3 : decide ((s.size : Int) < i) = false := (by simp; omega); go_quiet (fail); clear t1 t2 t3 t4 t5)
          go_wp2
          go_ret
          exact ⟨rfl, H.out.setBad _, (Only.drewN _ _ _).trans (Only.setCell _ _ _ _)⟩
  · clear HN
    go_enter Try.func42, Try.ntmps42
    go_wp2
    go_quiet (fail)
    go_wp2
    go_ret
    exact ⟨rfl, H.out.setBad _, (Only.drewN _ _ _).trans (Only.setCell _ _ _ _)⟩

/-- What Done answers. -/
def doneB (s : ByteArray) (i : Int) (bad : Bool) : Bool := !bad && (i == (s.size : Int))

set_option maxHeartbeats 400000 in
theorem cdone_any (i : Int) (bad : Bool) (h : CurAt 29 w p s i bad) :
    Calls Try.prog 23 #[.pointer (some ⟨p, 0, none⟩)] w fun e w' => e = .returned (.bool (doneB s i bad)) ∧ ∃ n, w' = w.drewN n := by
  have _c0 := h.c0
  have _c1 := h.c1
  have _c2 := h.c2
  clear h
  cases bad
  · go_enter Try.func23, Try.ntmps23
    go_wp2
    go_quiet (fail)
    go_wp2
    go_ret
    exact ⟨rfl, _, rfl⟩
  · go_enter Try.func23, Try.ntmps23
    go_wp2
    go_quiet (fail)
    go_wp2
    go_ret
    exact ⟨rfl, _, rfl⟩

end
end Go.Proofs.Ytbjjcjcobiokcaa
