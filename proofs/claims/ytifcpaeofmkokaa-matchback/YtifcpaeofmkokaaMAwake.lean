/- The fixed runs of layer 8 come out true. -/
import Derived.Test.YtifcpaeofmkokaaMCode
namespace Go.Proofs.Ytifcpaeofmkokaa
open Go.RowKit Go.Lib

def exS : ByteArray := { data := #[97, 98, 99, 97, 98, 99, 97, 98, 99, 100] }
def exT : List (Nat × Nat × Nat) := [(97, 0, 0), (98, 0, 0), (99, 0, 0), (0, 6, 3), (100, 0, 0)]
theorem ex_size : exS.size = 10 := rfl
theorem ex_t0 : tokM (bAt exS) exS.size 0 1 = (97, 0, 0) := by decide +kernel
theorem ex_t1 : tokM (bAt exS) exS.size 1 1 = (98, 0, 0) := by decide +kernel
theorem ex_t2 : tokM (bAt exS) exS.size 2 1 = (99, 0, 0) := by decide +kernel
theorem ex_t3 : tokM (bAt exS) exS.size 3 1 = (0, 6, 3) := by decide +kernel
theorem ex_t9 : tokM (bAt exS) exS.size 9 1 = (100, 0, 0) := by decide +kernel
theorem ex_toks : Toks (bAt exS) exS.size 1 0 exT :=
  ⟨by decide, ex_t0.symm, by decide, ex_t1.symm, by decide, ex_t2.symm, by decide, ex_t3.symm, by decide, ex_t9.symm, rfl⟩
theorem ex_e10 : exF 5 6 10 [] (exT.map castT) = ([97, 98, 99, 97, 98, 99, 97, 98, 99, 100], 0) := by decide +kernel
theorem ex_e9 : exF 5 6 9 [] (exT.map castT) = ([], 6) := by decide +kernel
theorem ex_far : exF 5 6 99 [] [(97, 0, 0), (0, 3, 2)] = ([], 5) := by decide +kernel
theorem ex_none (c : Nat → Nat) (level : Int) (ts : List (Nat × Nat × Nat)) (h : Toks c 0 level 0 ts) : ts.length = 0 := by
  have := Toks.length _ _ h
  omega
theorem ex_four (c : Nat → Nat) (ts : List (Nat × Nat × Nat)) (h : Toks c 4 0 0 ts) : ts.length = 4 := by
  have h1 := (toks_plain c 4 0 (fun i _ => best_level0 c 4 i 0 (by decide)) ts 0 h).1
  omega
theorem lit_two (w : World) : ArgT (w.alloc (.cells #[.int .i64 0, .int .i64 0, .int .u8 97, .int .i64 3, .int .i64 2, .int .u8 0] 32)) (some ⟨w.heap.size, 0, none⟩) [(97, 0, 0), (0, 3, 2)] := by
  have hh : (w.alloc (.cells #[.int .i64 0, .int .i64 0, .int .u8 97, .int .i64 3, .int .i64 2, .int .u8 0] 32)).heap[w.heap.size]? = some (.cells #[.int .i64 0, .int .i64 0, .int .u8 97, .int .i64 3, .int .i64 2, .int .u8 0] 32 (0, 0)) := by show (w.heap.push _)[w.heap.size]? = _; simp
  have hs : w.heap.size < (w.alloc (.cells #[.int .i64 0, .int .i64 0, .int .u8 97, .int .i64 3, .int .i64 2, .int .u8 0] 32)).heap.size := by show _ < (w.heap.push _).size; simp
  intro i t h
  match i, h with
  | 0, h =>
    simp at h
    subst h
    refine ⟨w.heap.size, 0, rfl, hs, ?_, ?_, ?_⟩ <;> (rw [cell_of_row _ _ _ _ _ (0, 0) hh]; rfl)
  | 1, h =>
    simp at h
    subst h
    refine ⟨w.heap.size, 0, rfl, hs, ?_, ?_, ?_⟩ <;> (rw [cell_of_row _ _ _ _ _ (0, 0) hh]; rfl)
  | i + 2, h => simp at h

set_option maxRecDepth 20000 in
set_option maxHeartbeats 4000000 in
theorem mawake_any (W : World) :
    Calls Try.prog 9 #[] W fun e w' => e = .returned (.bool true) ∧ Below W.heap.size W w' := by
  have HT := hide (tokens_any exS 1 W (by decide))
  have HT0 := hide (fun w => tokens_any { data := #[] } 9 w (by decide))
  have HT4 := hide (fun w => tokens_any { data := #[97, 97, 97, 97] } 0 w (by decide))
  unfold exS at HT
  go_enter Try.func9, Try.ntmps9
  go_wp2_with fail
  refine HT.out.mono ?_
  rintro e w1 ⟨a1, c1, ts, rfl, hts, ha1, _, b1⟩
  have hts2 := Toks.uniq _ _ _ hts ex_toks
  subst hts2
  have HA1 := hide ha1
  have B1 := hide b1
  clear hts b1 ha1
  have HE := hide (expand_any (exT.map castT) a1 c1 10 w1 HA1.out (by decide) (by decide) (by decide))
  unfold ExPost at HE
  rw [ex_e10] at HE
  have hlen : (exT.map castT).length = 5 := rfl
  rw [hlen] at HE
  have hlen2 : exT.length = 5 := rfl
  rw [hlen2]
  go_wp2_with fail
  refine HE.out.mono ?_
  rintro e w2 ⟨rfl, b2⟩
  have HA2 := hide (HA1.out.below b2 (Nat.le_refl _))
  have B2 := hide (B1.out.trans (b2.mono B1.out.size))
  clear b2
  have HE9 := hide (expand_any (exT.map castT) a1 c1 9 w2 HA2.out (by decide) (by decide) (by decide))
  unfold ExPost at HE9
  rw [ex_e9, hlen] at HE9
  go_wp2_with fail
  refine HE9.out.mono ?_
  rintro e w3 ⟨rfl, b3⟩
  have HA3 := hide (HA2.out.below b3 (Nat.le_refl _))
  have B3 := hide (B2.out.trans (b3.mono B2.out.size))
  clear b3
  have HEF := hide (expand_any [(97, 0, 0), (0, 3, 2)] (some ⟨w3.heap.size, 0, none⟩) 2 99 (w3.alloc (.cells #[.int .i64 0, .int .i64 0, .int .u8 97, .int .i64 3, .int .i64 2, .int .u8 0] 32)) (lit_two w3) (by decide) (by decide) (by decide))
  unfold ExPost at HEF
  rw [ex_far] at HEF
  have BB := (Below.refl w3.heap.size w3).alloc (Nat.le_refl _) (.cells #[.int .i64 0, .int .i64 0, .int .u8 97, .int .i64 3, .int .i64 2, .int .u8 0] 32)
  have HA3b := hide (HA3.out.below BB (Nat.le_refl _))
  have B3b := hide (B3.out.alloc B3.out.size (.cells #[.int .i64 0, .int .i64 0, .int .u8 97, .int .i64 3, .int .i64 2, .int .u8 0] 32))
  clear BB
  go_wp2_with fail
  refine HEF.out.mono ?_
  rintro e w4 ⟨rfl, b4⟩
  have HA4 := hide (HA3b.out.below b4 (Nat.le_refl _))
  have B4 := hide (B3b.out.trans (b4.mono B3b.out.size))
  clear b4 HE HE9 HEF HA1 HA2 HA3 HA3b B1 B2 B3 B3b
  obtain ⟨g, off, rfl, _, _p1, _p2, _p3⟩ := HA4.out 3 (0, 6, 3) rfl
  have est : strOf [97, 98, 99, 97, 98, 99, 97, 98, 99, 100] = { data := #[97, 98, 99, 97, 98, 99, 97, 98, 99, 100] } := by decide +kernel
  dsimp only at _p1 _p2 _p3
  go_wp2_with fail
  refine (HT0.out _).mono ?_
  rintro e w5 ⟨a5, c5, t5, rfl, h5, _, _, b5⟩
  have e5 := ex_none _ _ _ h5
  rw [e5]
  have B5 := hide (B4.out.trans (b5.mono B4.out.size))
  clear h5 b5 e5
  go_wp2_with fail
  refine (HT4.out _).mono ?_
  rintro e w6 ⟨a6, c6, t6, rfl, h6, _, _, b6⟩
  have e6 := ex_four _ _ h6
  rw [e6]
  have B6 := hide (B5.out.trans (b6.mono B5.out.size))
  clear h6 b6 e6
  go_wp2
  go_ret
  exact ⟨rfl, B6.out⟩

end Go.Proofs.Ytifcpaeofmkokaa
