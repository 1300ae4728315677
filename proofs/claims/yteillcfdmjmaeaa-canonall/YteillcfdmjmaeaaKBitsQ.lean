/- Contracts of the document's Reader: what each method answers, and what the reader is behind it: the same words as of the program's own. -/
import Derived.Test.YteillcfdmjmaeaaKBits
namespace Go.Proofs.Yteillcfdmjmaeaa
open Go.RowKit

theorem bit_ref (s : ByteArray) (i : Nat) (h : i / 8 < s.size)  :
    bits .and .i64 (wrap64 ((s[i / 8].toNat : Int) / 2 ^ (i % 8))) 1 = bitI s i := by
  rw [and1_i64, ← getD_of_lt s (i / 8) h]
  unfold bitI
  generalize hb : s.data.toList.getD (i / 8) 0 = b
  have hb2 : b.toNat < 256 := b.toNat_lt
  have hle : b.toNat / 2 ^ (i % 8) < 256 := Nat.lt_of_le_of_lt (Nat.div_le_self _ _) hb2
  have e4 : ((b.toNat : Int) / 2 ^ (i % 8)) = ((b.toNat / 2 ^ (i % 8) : Nat) : Int) := by
    rw [Int.natCast_ediv, Int.natCast_pow]; rfl
  rw [e4]
  unfold wrap64
  omega

section
variable (p : Nat) (s : ByteArray) (i : Nat) (w : World)
set_option maxHeartbeats 400000 in
theorem qbit_bad (h : RdAt 40 w p s i true) :
    Calls Try.prog 28 #[.pointer (some ⟨p, 0, none⟩)] w fun e w' => e = .returned (.int .i64 0) ∧ RdAt 40 w' p s i true ∧ Only p w w' := by
  have _c1 := h.c1
  have _c2 := h.c2
  have _f2 := h.fz 2
  have H : Hid (RdAt 40 w p s i true) := h
  clear h
  go_enter Try.func28, Try.ntmps28
  go_wp2
  go_quiet (fail)
  go_wp2
  go_ret
  exact ⟨rfl, H.out.setBad.drew2 _, (Only.setCell _ _ _ _).trans (Only.drewN _ _ _)⟩

set_option maxHeartbeats 400000 in
theorem qbit_end (h : RdAt 40 w p s i false) (hi : s.size ≤ i / 8) (hi2 : i ≤ 8 * s.size) (hs : s.size ≤ 1000000000000) :
    Calls Try.prog 28 #[.pointer (some ⟨p, 0, none⟩)] w fun e w' => e = .returned (.int .i64 0) ∧ RdAt 40 w' p s i true ∧ Only p w w' := by
  have _c0 := h.c0
  have _c1 := h.c1
  have _c2 := h.c2
  have _f2 := h.fz 2
  have H : Hid (RdAt 40 w p s i false) := h
  clear h
  have hd : decide ((i : Int) < 0) = false := by simp
  have hd2 : (s.size : Int) ≤ (i : Int) / 8 := by omega
  go_enter Try.func28, Try.ntmps28
  go_wp2
  go_quiet (fail)
  go_wp2
  go_ret
  exact ⟨rfl, H.out.setBad.drew2 _, (Only.setCell _ _ _ _).trans (Only.drewN _ _ _)⟩

set_option maxHeartbeats 400000 in
theorem qbit_ok (h : RdAt 40 w p s i false) (hi : i / 8 < s.size) (hs : s.size ≤ 1000000000000) :
    Calls Try.prog 28 #[.pointer (some ⟨p, 0, none⟩)] w fun e w' => e = .returned (.int .i64 (bitI s i)) ∧ RdAt 40 w' p s (i + 1) false ∧ Only p w w' := by
  have _c0 := h.c0
  have _c1 := h.c1
  have _c2 := h.c2
  have _f1 := h.fz 1
  have H : Hid (RdAt 40 w p s i false) := h
  clear h
  have hd : decide ((i : Int) < 0) = false := by simp
  have hd2 : (i : Int) / 8 < (s.size : Int) := by omega
  have hd3 : 0 ≤ (i : Int) / 8 := by omega
  go_enter Try.func28, Try.ntmps28
  go_wp2
  go_quiet (fail)
  go_wp2
  go_quiet (fail)
  go_wp2
  go_ret
  exact ⟨retInt (bit_ref s i hi), H.out.setAt _ _ _ (by omega), (Only.drewN _ _ _).trans (Only.setCell _ _ _ _)⟩
end

end Go.Proofs.Yteillcfdmjmaeaa
