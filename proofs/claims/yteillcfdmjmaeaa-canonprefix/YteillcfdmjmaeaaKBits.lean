/- Contracts of the Reader's methods: what each answers, and what the reader is behind it. -/
import Derived.Test.YteillcfdmjmaeaaRows
import Derived.Test.YteillcfdmjmaeaaBitMath
import Derived.WalkKit
import Derived.WalkSpells
import Derived.WalkLawsBesides
import Derived.Test.YteillcfdmjmaeaaWorld
import Derived.BigQuiet
import Derived.Deep.QuietTactic
namespace Go.Proofs.Yteillcfdmjmaeaa
open Go.RowKit

/-- A reader (of type T) lies in block p. -/
def RdAt (T : TypeId) (w : World) (p : Nat) (s : ByteArray) (i : Nat) (bad : Bool) : Prop := w.heap[p]? = some (.cells #[.string s, .int .i64 (i : Int), .bool bad] T (0, 0))

section
variable {T : TypeId} {w : World} {p : Nat} {s : ByteArray} {i : Nat} {bad : Bool}
theorem RdAt.c0 (h : RdAt T w p s i bad) : w.cell? ⟨p, 0, none⟩ = some (.string s) := by
  unfold RdAt at h; simp [World.cell?, h]
theorem RdAt.c1 (h : RdAt T w p s i bad) : w.cell? ⟨p, 1, none⟩ = some (.int .i64 i) := by
  unfold RdAt at h; simp [World.cell?, h]
theorem RdAt.c2 (h : RdAt T w p s i bad) : w.cell? ⟨p, 2, none⟩ = some (.bool bad) := by
  unfold RdAt at h; simp [World.cell?, h]
theorem RdAt.fz (h : RdAt T w p s i bad) (o : Nat) : w.frozen? ⟨p, o, none⟩ = false := by
  unfold RdAt at h; simp [World.frozen?, h]
theorem RdAt.setBad (h : RdAt T w p s i bad) : RdAt T (w.setCell ⟨p, 2, none⟩ (.bool true)) p s i true := by
  unfold RdAt at h ⊢; rw [heap_setCell_same _ _ _ _ _ _ _ h]; rfl
theorem RdAt.setAt (h : RdAt T w p s i bad) (n : Nat) (j : Int) (k : Nat) (hj : j = k) : RdAt T ((w.drewN n).setCell ⟨p, 1, none⟩ (.int .i64 j)) p s k bad := by
  unfold RdAt at h ⊢; rw [heap_setCell_same _ _ _ _ _ _ _ (show (w.drewN n).heap[p]? = _ from h), hj]; rfl
theorem RdAt.drew2 (h : RdAt T w p s i bad) (n : Nat) : RdAt T (w.drewN n) p s i bad := h
theorem RdAt.only {w' : World} {q : Nat} (h : RdAt T w p s i bad) (ho : Only q w w') (hq : p ≠ q) : RdAt T w' p s i bad := by
  unfold RdAt at h ⊢; rw [ho.block p hq]; exact h
end

/-- Bit number i of bytes, the lowest of a byte first. -/
def bitI (s : ByteArray) (i : Nat) : Int := ((s.data.toList.getD (i / 8) 0).toNat / 2 ^ (i % 8) % 2 : Nat)

theorem bitI_01 (s : ByteArray) (i : Nat) : bitI s i = 0 ∨ bitI s i = 1 := by unfold bitI; omega

theorem getD_of_lt (s : ByteArray) (k : Nat) (h : k < s.size) : s.data.toList.getD k 0 = s[k] := by
  have hk : k < s.data.toList.length := by simpa using h
  rw [List.getD_eq_getElem?_getD, List.getElem?_eq_getElem hk]
  rfl

theorem bit_code (s : ByteArray) (i : Nat) (h : i / 8 < s.size) (h2 : ((i : Int) / 8).toNat < s.size) :
    wrap64 (bits .and .u8 ((s[((i : Int) / 8).toNat].toNat : Int) / 2 ^ ((i : Int) % 8).toNat) 1) = bitI s i := by
  have e1 : ((i : Int) / 8).toNat = i / 8 := by omega
  have e2 : ((i : Int) % 8).toNat = i % 8 := by omega
  have e3 : s[((i : Int) / 8).toNat] = s[i / 8] := by simp only [e1]
  rw [e3, e2, ← getD_of_lt s (i / 8) h]
  unfold bitI
  generalize hb : s.data.toList.getD (i / 8) 0 = b
  have hb2 : b.toNat < 256 := b.toNat_lt
  have hle : b.toNat / 2 ^ (i % 8) < 256 := Nat.lt_of_le_of_lt (Nat.div_le_self _ _) hb2
  have e4 : ((b.toNat : Int) / 2 ^ (i % 8)) = ((b.toNat / 2 ^ (i % 8) : Nat) : Int) := by
    rw [Int.natCast_ediv, Int.natCast_pow]; rfl
  rw [e4, show (1 : Int) = ((1 : Nat) : Int) from rfl, u8_and_nat _ _ hle (by decide), nat_mask1]
  unfold wrap64
  omega

section
variable (p : Nat) (s : ByteArray) (i : Nat) (w : World)
set_option maxHeartbeats 400000 in
theorem rbit_bad (h : RdAt 38 w p s i true) :
    Calls Try.prog 26 #[.pointer (some ⟨p, 0, none⟩)] w fun e w' => e = .returned (.int .i64 0) ∧ RdAt 38 w' p s i true ∧ Only p w w' := by
  have _c1 := h.c1
  have _c2 := h.c2
  have _f2 := h.fz 2
  have H : Hid (RdAt 38 w p s i true) := h
  clear h
  go_enter Try.func26, Try.ntmps26
  go_wp2
  go_ret
  exact ⟨rfl, H.out.setBad, Only.setCell _ _ _ _⟩

set_option maxHeartbeats 400000 in
theorem rbit_end (h : RdAt 38 w p s i false) (hi : s.size ≤ i / 8) :
    Calls Try.prog 26 #[.pointer (some ⟨p, 0, none⟩)] w fun e w' => e = .returned (.int .i64 0) ∧ RdAt 38 w' p s i true ∧ Only p w w' := by
  have _c0 := h.c0
  have _c1 := h.c1
  have _c2 := h.c2
  have _f2 := h.fz 2
  have H : Hid (RdAt 38 w p s i false) := h
  clear h
  go_enter Try.func26, Try.ntmps26
  go_wp2
  go_ret
  exact ⟨rfl, H.out.setBad, Only.setCell _ _ _ _⟩

set_option maxHeartbeats 400000 in
theorem rbit_ok (h : RdAt 38 w p s i false) (hi : i / 8 < s.size) (hs : s.size ≤ 1000000000000) :
    Calls Try.prog 26 #[.pointer (some ⟨p, 0, none⟩)] w fun e w' => e = .returned (.int .i64 (bitI s i)) ∧ RdAt 38 w' p s (i + 1) false ∧ Only p w w' := by
  have _c0 := h.c0
  have _c1 := h.c1
  have _c2 := h.c2
  have _f1 := h.fz 1
  have H : Hid (RdAt 38 w p s i false) := h
  have HB : Hid (wrap64 (bits .and .u8 ((s[((i : Int) / 8).toNat].toNat : Int) / 2 ^ ((i : Int) % 8).toNat) 1) = bitI s i) := bit_code s i hi (by omega)
  clear h
  have ha := and7_i64 i
  go_enter Try.func26, Try.ntmps26
  go_wp2
  go_quiet (fail)
  go_wp2
  go_ret
  exact ⟨retInt HB.out, H.out.setAt _ _ _ (by omega), (Only.drewN _ _ _).trans (Only.setCell _ _ _ _)⟩
end

end Go.Proofs.Yteillcfdmjmaeaa
