/- Whatever lengths are: whether they make a code, and its numbers, are the document's: 'CanonTells' answers true. No condition. -/
import Derived.Test.YteillcfdmjmaeaaKAwake
namespace Go.Proofs.Yteillcfdmjmaeaa
open Go.RowKit Go.Lib

theorem rem_nat (x n : Nat) (_h : 0 < n) : ((x : Int)).tmod (n : Int) = ((x % n : Nat) : Int) := by
  rw [Int.tmod_eq_emod_of_nonneg (by omega)]
  rfl

/-- What stays, whatever is made. -/
structure TellsS (w W : World) (a : Option Addr) (l : List Int) (a1 a2 : Option Addr) (C : List Nat) (P1 P2 : Nat) (x1 x2 : List Value) (a3 a4 : Option Addr) (S : List Nat) : Prop where
  arg : ArgZ w a l
  c1 : ArgN w a1 C
  c2 : ArgN w a2 C
  b1 : w.heap[P1]? = some (.cells x1.toArray 29 (0, 0))
  b2 : w.heap[P2]? = some (.cells x2.toArray 29 (0, 0))
  s1 : ArgN w a3 S
  s2 : ArgN w a4 S
  bel : Below W.heap.size W w

theorem block_below {w w' : World} {P : Nat} {o : Obj} (h : w.heap[P]? = some o) (b : Below w.heap.size w w') : w'.heap[P]? = some o := by
  rw [b.block P (Array.getElem?_eq_some_iff.1 h).1]
  exact h
theorem TellsS.below {w w' W : World} {a : Option Addr} {l : List Int} {a1 a2 : Option Addr} {C : List Nat} {P1 P2 : Nat} {x1 x2 : List Value} {a3 a4 : Option Addr} {S : List Nat} (h : TellsS w W a l a1 a2 C P1 P2 x1 x2 a3 a4 S) (b : Below w.heap.size w w') : TellsS w' W a l a1 a2 C P1 P2 x1 x2 a3 a4 S :=
  ⟨h.arg.below b, h.c1.below b (Nat.le_refl _), h.c2.below b (Nat.le_refl _), block_below h.b1 b, block_below h.b2 b, h.s1.below b (Nat.le_refl _), h.s2.below b (Nat.le_refl _), h.bel.trans (b.mono h.bel.size)⟩

/-- What Codes answered, in either way. -/
theorem codes_any_form {W w' : World} {l : List Int} {r : Value} (h : CodesRes W l r w') : ∃ a c n C e, r = .tuple #[.slice a n c, .int .i64 e] ∧ e = chkI l ∧ ArgN w' a C ∧ C.length = n ∧ C = (if goodB l = true then codesL (l.map Int.toNat) else []) := by
  rcases h with ⟨h1, h2⟩ | ⟨h1, v, h2, h3⟩
  · exact ⟨none, 0, 0, [], 4, h2, by unfold chkI; rw [h1]; rfl, fun i x hx => (by simp at hx), rfl, by rw [h1]; rfl⟩
  · have hl : (codesL (l.map Int.toNat)).length = l.length := by rw [codesL_length, List.length_map]
    obtain ⟨a, c, rfl, ha⟩ := arg_form h3 hl
    exact ⟨a, c, _, _, 0, h2, by rw [chkI_good h1], ha, hl, by rw [if_pos h1]⟩
/-- What Build answered, in either way. -/
theorem build_any_form {W w' : World} {l : List Int} {r : Value} (h : BuildRes W l r w') : ∃ f a c n S e, r = .tuple #[codeV f (.slice a n c), .int .i64 e] ∧ e = chkI l ∧ ArgN w' a S ∧ S.length = n ∧ f = (if goodB l = true then cn (l.map Int.toNat) else fun _ => 0) ∧ S = (if goodB l = true then symTo (l.map Int.toNat) 16 else []) := by
  rcases h with ⟨h1, h2⟩ | ⟨h1, v, h2, h3⟩
  · exact ⟨_, none, 0, 0, [], 4, h2, by unfold chkI; rw [h1]; rfl, fun i x hx => (by simp at hx), rfl, by rw [h1]; rfl, by rw [h1]; rfl⟩
  · obtain ⟨a, c, rfl, ha⟩ := arg_form h3 rfl
    exact ⟨_, a, c, _, _, 0, h2, by rw [chkI_good h1], ha, rfl, by rw [if_pos h1], by rw [if_pos h1]⟩

set_option maxRecDepth 20000 in
set_option maxHeartbeats 4000000 in
theorem tells_walk (l : List Int) (a : Option Addr) (cap : Nat) (W : World) (harg : ArgZ W a l) :
    Calls Try.prog 3 #[.slice a l.length cap] W fun e w' => e = .returned (.bool true) ∧ Below W.heap.size W w' := by
  have HA := hide harg
  have hv := Try.zeroCode
  have hZn := codeCs_length (fun _ => 0) (.slice none 0 0)
  generalize codeCs (fun _ => 0) (.slice none 0 0) = Z at hv hZn
  clear harg
  by_cases h1 : 600 < l.length
  · have z1 : (600 : Int) < l.length := by omega
    go_enter Try.func3, Try.ntmps3
    go_wp2_with fail
    refine (kawake_any _).mono ?_
    rintro e w1 ⟨rfl, b1⟩
    have B1 := hide b1
    clear b1
    go_wp2
    go_ret
    exact ⟨rfl, B1.out⟩
  · have z1 : ¬ (600 : Int) < l.length := by omega
    have HL := hide (show l.length ≤ 1000 by omega)
    go_enter Try.func3, Try.ntmps3
    go_wp2_with fail
    refine (codes_any l a cap W HA.out HL.out).mono ?_
    rintro e w1 ⟨r, rfl, hr, b1⟩
    obtain ⟨a1, c1, n1, C, e1, rfl, he1, hc1, hn1, hC⟩ := codes_any_form hr
    have HE1 := hide he1
    have HC1 := hide hc1
    have HN1 := hide hn1
    have HCC := hide hC
    have B1 := hide b1
    clear hr he1 hc1 hn1 hC b1
    go_wp2_with fail
    refine (qcodes_any l a cap w1 (HA.out.below B1.out) HL.out).mono ?_
    rintro e w2 ⟨r, rfl, hr, b2⟩
    obtain ⟨a2, c2, n2, C2, e2, rfl, he2, hc2, hn2, hC2⟩ := codes_any_form hr
    obtain rfl : C = C2 := HCC.out.trans hC2.symm
    obtain rfl : n1 = n2 := HN1.out.symm.trans hn2
    obtain rfl : e1 = e2 := HE1.out.trans he2.symm
    have HC2 := hide hc2
    have HC12 := hide (HC1.out.below b2 (Nat.le_refl _))
    have B2 := hide (B1.out.trans (b2.mono B1.out.size))
    clear hr he2 hc2 hn2 hC2 b2 B1 HC1
    go_wp2_with fail
    refine (build_any l a cap w2 (HA.out.below B2.out) HL.out).mono ?_
    rintro e w3 ⟨r, rfl, hr, b3⟩
    obtain ⟨f, a3, c3, n3, S, e3, rfl, he3, hs3, hn3, hf, hS⟩ := build_any_form hr
    obtain rfl : e1 = e3 := HE1.out.trans he3.symm
    have HF := hide hf
    have HSS := hide hS
    have HN3 := hide hn3
    have h17 := codeCs_length f (.slice a3 n3 c3)
    have hst := code_store w3 Z (codeCs f (.slice a3 n3 c3)) hZn h17 (codeCs_one _ _ rfl)
    have b3' : Below w2.heap.size w2 (w3.alloc (.cells (codeCs f (.slice a3 n3 c3)).toArray 29)) := b3.alloc b3.size _
    have HS3 := hide (hs3.below ((Below.refl w3.heap.size w3).alloc (Nat.le_refl _) (.cells (codeCs f (.slice a3 n3 c3)).toArray 29)) (Nat.le_refl _))
    have HC13 := hide (HC12.out.below b3' (Nat.le_refl _))
    have HC23 := hide (HC2.out.below b3' (Nat.le_refl _))
    have B3 := hide (B2.out.trans (b3'.mono B2.out.size))
    have HX1 := hide (heap_alloc_at w3 (.cells (codeCs f (.slice a3 n3 c3)).toArray 29) rfl)
    unfold codeV
    have HSM := hide (fun (w : World) (a4 : Option Addr) (c4 : Nat) (hA : ArgN w a3 S) (hB : ArgN w a4 S) (hl : n3 ≤ 1000) => qsame_any f S n3 a3 a4 c3 c4 w hn3 hA hB hl)
    clear hr he3 hs3 hn3 hf hS b3 b3' B2 HC12 HC2
    obtain ⟨x1, hx1⟩ : ∃ x1, codeCs f (.slice a3 n3 c3) = x1 := ⟨_, rfl⟩
    have HXE1 := hide hx1
    rw [hx1] at hst h17 HS3 HC13 HC23 B3 HX1
    simp only [hx1]
    clear hx1
    go_wp2_with fail
    obtain ⟨P1, hP1⟩ : ∃ P1, w3.heap.size = P1 := ⟨_, rfl⟩
    rw [hP1] at HX1
    simp only [hP1]
    clear hP1 hst
    generalize hw4 : w3.alloc (.cells x1.toArray 29) = w4 at *
    clear hw4
    refine (qbuild_any l a cap w4 (HA.out.below B3.out) HL.out).mono ?_
    rintro e w5 ⟨r, rfl, hr, b5⟩
    obtain ⟨f2, a4, c4, n4, S2, e4, rfl, he4, hs4, hn4, hf4, hS4⟩ := build_any_form hr
    obtain rfl : e1 = e4 := HE1.out.trans he4.symm
    obtain rfl : f = f2 := HF.out.trans hf4.symm
    obtain rfl : S = S2 := HSS.out.trans hS4.symm
    obtain rfl : n3 = n4 := HN3.out.symm.trans hn4
    have h17b := codeCs_length f (.slice a4 n3 c4)
    have hst := code_store w5 Z (codeCs f (.slice a4 n3 c4)) hZn h17b (codeCs_one _ _ rfl)
    have b5' : Below w4.heap.size w4 (w5.alloc (.cells (codeCs f (.slice a4 n3 c4)).toArray 29)) := b5.alloc b5.size _
    have HTS := hide (show TellsS (w5.alloc (.cells (codeCs f (.slice a4 n3 c4)).toArray 29)) W a l a1 a2 C P1 w5.heap.size x1 (codeCs f (.slice a4 n3 c4)) a3 a4 S from
      ⟨HA.out.below (B3.out.trans (b5'.mono B3.out.size)), HC13.out.below b5' (Nat.le_refl _), HC23.out.below b5' (Nat.le_refl _), block_below HX1.out b5', heap_alloc_at _ _ rfl, HS3.out.below b5' (Nat.le_refl _), hs4.below ((Below.refl w5.heap.size w5).alloc (Nat.le_refl _) _) (Nat.le_refl _), B3.out.trans (b5'.mono B3.out.size)⟩)
    have hn3 : n3 ≤ 1000 := by
      have h1 := HN3.out
      have h2 := HSS.out
      have h3 := cn_sum (l.map Int.toNat) 16
      rw [List.length_map, ← symTo_length] at h3
      have h4 := HL.out
      by_cases hg : goodB l = true
      · rw [if_pos hg] at h2
        rw [h2] at h1
        omega
      · rw [if_neg hg] at h2
        rw [h2] at h1
        simp at h1
        omega
    have hn1 : n1 ≤ 1000 := by
      have h1 := HN1.out
      have h2 := HCC.out
      have h4 := HL.out
      by_cases hg : goodB l = true
      · rw [if_pos hg] at h2
        rw [h2, codesL_length, List.length_map] at h1
        omega
      · rw [if_neg hg] at h2
        rw [h2] at h1
        simp at h1
        omega
    have HN3' := hide hn3
    have HN1' := hide hn1
    have HSM2 := hide (fun w hA hB => HSM.out w a4 c4 hA hB hn3)
    unfold codeV at HSM2 ⊢
    clear hr he4 hs4 hn4 hf4 hS4 b5 b5' B3 HC13 HC23 HX1 HS3 HSM hn3 hn1
    rw [HXE1.out] at HSM2
    obtain ⟨x2, hx2⟩ : ∃ x2, codeCs f (.slice a4 n3 c4) = x2 := ⟨_, rfl⟩
    rw [hx2] at hst h17b HTS HSM2
    simp only [hx2]
    clear hx2 HXE1
    have HSZ1 := hide (show (Try.prog.info? 29).map (·.size) = some x1.length by rw [h17]; exact Try.sizeCode)
    have HSZ2 := hide (show (Try.prog.info? 29).map (·.size) = some x2.length by rw [h17b]; exact Try.sizeCode)
    go_wp2_with fail
    clear h17 h17b
    obtain ⟨P2, hP2⟩ : ∃ P2, w5.heap.size = P2 := ⟨_, rfl⟩
    rw [hP2] at HTS
    simp only [hP2]
    clear hP2 hst
    generalize hw6 : w5.alloc (.cells x2.toArray 29) = w6 at *
    clear hw6
    refine (kawake_any _).mono ?_
    rintro e w7 ⟨rfl, b7⟩
    have HT7 := hide (HTS.out.below b7)
    clear b7 HTS
    go_wp2_with fail
    refine (check_any l a cap w7 HT7.out.arg HL.out).mono ?_
    rintro e w8 ⟨rfl, b8⟩
    have HT8 := hide (HT7.out.below b8.out)
    clear b8 HT7
    go_wp2_with fail
    refine (qcheck_any l a cap w8 HT8.out.arg HL.out).mono ?_
    rintro e w9 ⟨rfl, rfl⟩
    go_wp2_with fail
    refine (same_any C n1 a1 a2 c1 c2 w8 HN1.out HT8.out.c1 HT8.out.c2 HN1'.out).mono ?_
    rintro e w10 ⟨rfl, b10⟩
    have HT10 := hide (HT8.out.below b10)
    have HR1 := hide (code_range (HT10.out).b1)
    have HR2 := hide (code_range (HT10.out).b2)
    clear b10 HT8
    go_wp2_with (first
      | (refine wpList_load_wanted (by rfl) 29 (Operand.tmp 7) rfl P1 0 rfl x1 _ HR1.out Try.underlying29 rfl HSZ1.out ?_)
      | (refine wpList_load_wanted (by rfl) 29 (Operand.tmp 9) rfl P2 0 rfl x2 _ HR2.out Try.underlying29 rfl HSZ2.out ?_))
    refine (HSM2.out w10 HT10.out.s1 HT10.out.s2).mono ?_
    rintro e w11 ⟨rfl, b11⟩
    have HT11 := hide (HT10.out.below b11)
    clear b11 HT10 HR1 HR2
    go_wp2
    go_ret
    exact ⟨rfl, HT11.out.bel⟩

theorem tells_law (w : World) (v0 : Value) {b0 : Nat} {H : Type} {enc : TypeId × Value → H} {d0 : DataW H} {p0 : List MemPlace}
    (o0 : Value.okWide Try.prog w .any b0 22 v0) (k0 : DataW.Trod enc Try.prog w 0 (fun _ => true) true 22 v0 d0 p0) :
    Calls Try.prog 3 #[v0] w fun e w' => e = .returned (.bool true) ∧ Below w.heap.size w w' := by
  obtain ⟨pa, ca, a, rfl, ha, _, _⟩ := open_argZ o0 k0
  exact tells_walk a pa ca w ha

end Go.Proofs.Yteillcfdmjmaeaa
