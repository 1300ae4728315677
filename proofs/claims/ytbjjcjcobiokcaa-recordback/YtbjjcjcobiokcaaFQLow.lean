/- Contracts of the document's writing: U16, U32, U64 answer a number's lowest bytes. -/
import Derived.Test.YtbjjcjcobiokcaaFAwake
namespace Go.Proofs.Ytbjjcjcobiokcaa
open Go.RowKit Go.Lib

theorem low2_made (w : World) (n : Int) : (convert 55 9 (.slice (some ⟨w.heap.size, 0, none⟩) 2 2)).run Try.prog (w.alloc (.cells #[.int .u8 (n % 256), .int .u8 (n / 256 % 256)] 5)) = .ok (.string (lowS n 2)) (w.alloc (.cells #[.int .u8 (n % 256), .int .u8 (n / 256 % 256)] 5)) := by
  have hg : (w.alloc (.cells #[.int .u8 (n % 256), .int .u8 (n / 256 % 256)] 5)).heap[w.heap.size]? = some (.cells #[.int .u8 (n % 256), .int .u8 (n / 256 % 256)] 5 (0, 0)) := by
    show (w.heap.push _)[w.heap.size]? = _
    simp
  have h := str_row (out := lowB n 2) (cap := 2) hg (by
    have e0 := byteI_toNat n 0
    have e1 := byteI_toNat n 1
    show [_, _] = cellsB [byteI n 0, byteI n 1]
    show _ = [Value.int .u8 _, Value.int .u8 _]
    rw [e0, e1]
    simp)
  rw [lowB_length] at h
  exact h

set_option maxHeartbeats 400000 in
theorem q16_any (n : Int) (w : World) : Calls Try.prog 29 #[.int .i64 n] w fun e w' => e = .returned (.string (lowS n 2)) ∧ Below w.heap.size w w' := by
  have hcv := low2_made w n
  go_enter Try.func29, Try.ntmps29
  go_wp2
  go_ret
  exact ⟨rfl, (Below.refl _ w).alloc (Nat.le_refl _) _⟩

theorem lowS_4 (n : Int) : lowS n 2 ++ lowS (n / 65536) 2 = lowS n 4 := (lowS_add n 2 2).symm
theorem lowS_8 (n : Int) : lowS n 4 ++ lowS (n / 4294967296) 4 = lowS n 8 := (lowS_add n 4 4).symm

set_option maxHeartbeats 400000 in
theorem q32_any (n : Int) (w : World) : Calls Try.prog 31 #[.int .i64 n] w fun e w' => e = .returned (.string (lowS n 4)) ∧ Below w.heap.size w w' := by
  go_enter Try.func31, Try.ntmps31
  go_wp2_with fail
  refine (q16_any n _).mono ?_
  rintro e w1 ⟨rfl, b1⟩
  have B1 := hide b1
  clear b1
  go_wp2_with fail
  refine (q16_any _ _).mono ?_
  rintro e w2 ⟨rfl, b2⟩
  have B2 := hide (B1.out.trans (b2.mono B1.out.size))
  clear b2 B1
  have s1 := lowS_size n 2
  have s2 := lowS_size (n / 65536) 2
  go_wp2
  go_ret
  exact ⟨retStr (lowS_4 n), B2.out⟩

set_option maxHeartbeats 400000 in
theorem q64_any (n : Int) (w : World) : Calls Try.prog 30 #[.int .i64 n] w fun e w' => e = .returned (.string (lowS n 8)) ∧ Below w.heap.size w w' := by
  go_enter Try.func30, Try.ntmps30
  go_wp2_with fail
  refine (q32_any n _).mono ?_
  rintro e w1 ⟨rfl, b1⟩
  have B1 := hide b1
  clear b1
  go_wp2_with fail
  refine (q32_any _ _).mono ?_
  rintro e w2 ⟨rfl, b2⟩
  have B2 := hide (B1.out.trans (b2.mono B1.out.size))
  clear b2 B1
  have s1 := lowS_size n 4
  have s2 := lowS_size (n / 4294967296) 4
  go_wp2
  go_ret
  exact ⟨retStr (lowS_8 n), B2.out⟩

end Go.Proofs.Ytbjjcjcobiokcaa
