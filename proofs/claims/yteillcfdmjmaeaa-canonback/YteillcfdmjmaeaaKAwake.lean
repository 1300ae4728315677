/- The document's examples of layer 5 hold: 'awake' answers true, and touches nothing that was there. -/
import Derived.Test.YteillcfdmjmaeaaKCode
namespace Go.Proofs.Yteillcfdmjmaeaa
open Go.RowKit Go.Lib

def exK : List Int := [3, 3, 3, 3, 3, 2, 4, 4]
def exKs : ByteArray := ⟨#[7]⟩
theorem exK_good : goodB exK = true := by decide +kernel
theorem exK_codes : codesL (exK.map Int.toNat) = [2, 3, 4, 5, 6, 0, 14, 15] := by decide +kernel
theorem exK_syms : symTo (exK.map Int.toNat) 16 = [5, 0, 1, 2, 3, 4, 6, 7] := by decide +kernel
theorem exK_stops : Stops (exK.map Int.toNat) (bitsF exKs 0) 4 := by
  refine ⟨by decide, by decide, fun j h1 h2 => ?_, by decide +kernel⟩
  have h : j = 1 ∨ j = 2 ∨ j = 3 := by omega
  rcases h with rfl | rfl | rfl <;> decide +kernel
theorem exK_sym : symAt (exK.map Int.toNat) (bitsF exKs 0) 4 = 6 := by decide +kernel
theorem exK_read {x : Int} {u : Nat} {bad : Bool} (h : ReadRes (exK.map Int.toNat) (bitsF exKs 0) (8 * exKs.size - 0) x u bad) : x = 6 ∧ u = 4 ∧ bad = false := by
  have h2 : ReadRes (exK.map Int.toNat) (bitsF exKs 0) (8 * exKs.size - 0) 6 4 false := .inl ⟨4, exK_stops, by decide, by rw [exK_sym]; rfl, rfl, rfl⟩
  exact h.uniq h2

theorem codes_good {W w' : World} {l : List Int} {r : Value} (h : CodesRes W l r w') (hg : goodB l = true) : ∃ v, r = .tuple #[v, .int .i64 0] ∧ w'.ownsRow W.heap.size 3 1 v l.length (natCs (codesL (l.map Int.toNat))) := by
  rcases h with ⟨h, _⟩ | ⟨_, v, e, h3⟩
  · rw [hg] at h; cases h
  · exact ⟨v, e, h3⟩
theorem build_good {W w' : World} {l : List Int} {r : Value} (h : BuildRes W l r w') (hg : goodB l = true) : ∃ a c m, r = .tuple #[codeV (cn (l.map Int.toNat)) (.slice a m c), .int .i64 0] ∧ (symTo (l.map Int.toNat) 16).length = m ∧ w'.ownsRow W.heap.size 3 1 (.slice a m c) m (natCs (symTo (l.map Int.toNat) 16)) := by
  rcases h with ⟨h, _⟩ | ⟨_, v, e, h3⟩
  · rw [hg] at h; cases h
  · obtain ⟨a, c, rfl, _⟩ := arg_form h3 rfl
    exact ⟨a, c, _, e, rfl, h3⟩
theorem codes_bad {W w' : World} {l : List Int} {r : Value} (h : CodesRes W l r w') (hg : ¬ goodB l = true) : r = .tuple #[.slice none 0 0, .int .i64 4] := by
  rcases h with ⟨_, e⟩ | ⟨h, _⟩
  · exact e
  · exact absurd h hg
theorem build_bad {W w' : World} {l : List Int} {r : Value} (h : BuildRes W l r w') (hg : ¬ goodB l = true) : r = .tuple #[codeV (fun _ => 0) (.slice none 0 0), .int .i64 4] := by
  rcases h with ⟨_, e⟩ | ⟨h, _⟩
  · exact e
  · exact absurd h hg

theorem own_lit {w : World} {B g c n : Nat} {l : List Nat} (h : w.ownsRow B 3 1 (.slice (some ⟨g, 0, none⟩) n c) n (natCs l)) (i x : Nat) (hx : l[i]? = some x) (hi : i < n) : w.cell? ⟨g, i, none⟩ = some (.int .i64 (x : Int)) := by
  rw [h.cellAt i (by omega)]
  unfold natCs
  rw [List.getElem?_map, hx]
  rfl

set_option maxRecDepth 20000 in
set_option maxHeartbeats 4000000 in
theorem kawake_any (W : World) : Calls Try.prog 9 #[] W fun e w' => e = .returned (.bool true) ∧ Below W.heap.size W w' := by
  have hv := Try.zeroCode
  have hZn := codeCs_length (fun _ => 0) (.slice none 0 0)
  generalize codeCs (fun _ => 0) (.slice none 0 0) = Z at hv hZn
  go_enter Try.func9, Try.ntmps9
  go_wp2_with fail
  have b0 : Below W.heap.size W (W.alloc (.cells (intCs exK).toArray 3)) := (Below.refl _ W).alloc (Nat.le_refl _) _
  have hA0 := lit_arg W exK
  refine (codes_any exK (some ⟨W.heap.size, 0, none⟩) 8 _ hA0 (by decide)).mono ?_
  rintro e w1 ⟨r, rfl, hr, b⟩
  obtain ⟨v1, rfl, o1⟩ := codes_good hr exK_good
  rw [exK_codes] at o1
  obtain ⟨g1, c1, rfl⟩ := own_slice o1 (by decide)
  have B1 := hide (b0.trans (b.mono b0.size))
  have hA1 := hA0.below b
  clear hr
  generalize hw0 : W.alloc (.cells (intCs exK).toArray 3) = w0 at *
  have hw0s : W.heap.size < w0.heap.size := by rw [← hw0]; show _ < (W.heap.push _).size; simp
  clear hw0
  have HA1 := hide hA1
  have HO1 := hide o1
  clear hA0 hA1 o1 b0 b hw0s
  go_wp2_with fail
  refine (build_any exK (some ⟨W.heap.size, 0, none⟩) 8 w1 HA1.out (by decide)).mono ?_
  rintro e w2 ⟨r, rfl, hr, b⟩
  obtain ⟨a2, c2, m2, rfl, hm2, o2⟩ := build_good hr exK_good
  rw [exK_syms] at hm2 o2
  obtain rfl : m2 = 8 := hm2.symm
  obtain ⟨g2, c2', e2⟩ := own_slice o2 (by decide)
  injection e2 with e3 e4 e5
  subst e3
  subst e5
  have B2 := hide (B1.out.trans (b.mono B1.out.size))
  have HO12 := hide (own_below HO1.out b (Nat.le_refl _))
  have h17 := codeCs_length (cn (exK.map Int.toNat)) (.slice (some ⟨g2, 0, none⟩) 8 c2)
  have hst := code_store w2 Z (codeCs (cn (exK.map Int.toNat)) (.slice (some ⟨g2, 0, none⟩) 8 c2)) hZn h17 (codeCs_one _ _ rfl)
  have HO2 := hide o2
  have HLAST := hide (codeCs_last (cn (exK.map Int.toNat)) (.slice (some ⟨g2, 0, none⟩) 8 c2))
  have HCV := hide (show codeV (cn (exK.map Int.toNat)) (.slice (some ⟨g2, 0, none⟩) 8 c2) = .agg (codeCs (cn (exK.map Int.toNat)) (.slice (some ⟨g2, 0, none⟩) 8 c2)).toArray from rfl)
  have HSZ := hide (show (Try.prog.info? 29).map (·.size) = some (codeCs (cn (exK.map Int.toNat)) (.slice (some ⟨g2, 0, none⟩) 8 c2)).length by rw [h17]; exact Try.sizeCode)
  have HRE := hide (fun (w : World) (p : Nat) (hA : ArgN w (some ⟨g2, 0, none⟩) [5, 0, 1, 2, 3, 4, 6, 7]) (hp : g2 ≠ p) (hR : RdAt 38 w p exKs 0 false) => read_any (exK.map Int.toNat) (some ⟨g2, 0, none⟩) c2 8 p exKs 0 w (by rw [exK_syms]; rfl) (by rw [exK_syms]; exact hA) (fun b off e => by injection e with e; injection e with e _; rw [← e]; exact hp) (by decide) hR (Nat.zero_le _) (by decide))
  clear hr b o2 HO1 B1 hm2 e4 HCV
  unfold codeV at HRE ⊢
  generalize codeCs (cn (exK.map Int.toNat)) (.slice (some ⟨g2, 0, none⟩) 8 c2) = cs at *
  have hsz : (w2.alloc (.cells cs.toArray 29)).heap.size = w2.heap.size + 1 := by show (w2.heap.push _).size = _; simp
  have B3 := hide (show Below W.heap.size W ((w2.alloc (.cells cs.toArray 29)).alloc (.cells #[.string exKs, .int .i64 0, .bool false] 38)) from (B2.out.alloc B2.out.size _).alloc (size_alloc_le B2.out.size) _)
  have o3 := (HO12.out.alloc (.cells cs.toArray 29)).alloc (.cells #[.string exKs, .int .i64 0, .bool false] 38)
  have a1 := own_lit o3 0 2 rfl (by decide)
  have a2 := own_lit o3 5 0 rfl (by decide)
  have a3 := own_lit o3 7 15 rfl (by decide)
  have o4 := (HO2.out.alloc (.cells cs.toArray 29)).alloc (.cells #[.string exKs, .int .i64 0, .bool false] 38)
  have a4 := own_lit o4 0 5 rfl (by decide)
  have hbx : ((w2.alloc (.cells cs.toArray 29)).alloc (.cells #[.string exKs, .int .i64 0, .bool false] 38)).heap[w2.heap.size]? = some (.cells cs.toArray 29 (0, 0)) := by
    rw [heap_alloc_old _ _ _ (by omega)]
    exact heap_alloc_at _ _ rfl
  have a5 : ((w2.alloc (.cells cs.toArray 29)).alloc (.cells #[.string exKs, .int .i64 0, .bool false] 38)).cell? ⟨w2.heap.size, 16, none⟩ = some (.slice (some ⟨g2, 0, none⟩) 8 c2) := by
    rw [cell_of_row _ _ 16 _ _ (0, 0) hbx, List.getElem?_toArray]
    exact HLAST.out
  have HRG := hide (code_range hbx)
  have HRD := hide (show RdAt 38 ((w2.alloc (.cells cs.toArray 29)).alloc (.cells #[.string exKs, .int .i64 0, .bool false] 38)) (w2.heap.size + 1) exKs 0 false from heap_alloc_at _ _ hsz)
  have HAR := hide (own_arg o4 rfl)
  have hgw : g2 < w2.heap.size := (HO2.out.lt g2 rfl).2
  have HGW := hide hgw
  have hlen8 : exK.length = 8 := rfl
  rw [hlen8] at *
  have eKs : exKs = ⟨#[7]⟩ := rfl
  rw [eKs] at a1 a2 a3 a4 a5 HRG HAR HRD B3
  clear eKs
  clear o3 o4 hbx hsz hgw HLAST
  generalize hw3 : (w2.alloc (.cells cs.toArray 29)).alloc (.cells #[.string ⟨#[7]⟩, .int .i64 0, .bool false] 38) = w3 at *
  have HW3 := hide hw3
  go_wp2_with (first
    | (refine wpList_load_wanted (by rfl) 29 (Operand.tmp 4) rfl w2.heap.size 0 rfl cs _ HRG.out Try.underlying29 rfl HSZ.out ?_))
  refine (HRE.out w3 (w2.heap.size + 1) HAR.out (by have := HGW.out; omega) HRD.out).mono ?_
  rintro e w4 ⟨x, u, bad, rfl, HX, HR4, HT4⟩
  obtain ⟨rfl, rfl, rfl⟩ := exK_read HX.out
  have B4 := hide (Turn.below B3.out HT4.out (by have := B2.out.size; omega) B3.out.size)
  clear HX HR4 HT4 a1 a2 a3 a4 a5 HRG HAR HRD B3 HRE
  go_wp2_with fail
  refine (check_any [1, 1, 1] (some ⟨w4.heap.size, 0, none⟩) 3 _ (lit_arg w4 [1, 1, 1]) (by decide)).mono ?_
  rintro e w5 ⟨rfl, b5⟩
  rw [show chkI [1, 1, 1] = 4 by decide +kernel]
  have B5 := hide ((B4.out.alloc B4.out.size _).trans (b5.out.mono (size_alloc_le B4.out.size)))
  clear b5
  go_wp2_with fail
  refine (check_any [0, 1] (some ⟨w5.heap.size, 0, none⟩) 2 _ (lit_arg w5 [0, 1]) (by decide)).mono ?_
  rintro e w6 ⟨rfl, b6⟩
  rw [show chkI [0, 1] = 0 by decide +kernel]
  have B6 := hide ((B5.out.alloc B5.out.size _).trans (b6.out.mono (size_alloc_le B5.out.size)))
  clear b6
  go_wp2_with fail
  refine (check_any [2] (some ⟨w6.heap.size, 0, none⟩) 1 _ (lit_arg w6 [2]) (by decide)).mono ?_
  rintro e w7 ⟨rfl, b7⟩
  rw [show chkI [2] = 4 by decide +kernel]
  have B7 := hide ((B6.out.alloc B6.out.size _).trans (b7.out.mono (size_alloc_le B6.out.size)))
  clear b7
  go_wp2_with fail
  refine (check_any [] none 0 w7 (fun i x hx => by simp at hx) (by decide)).mono ?_
  rintro e w8 ⟨rfl, b8⟩
  rw [show chkI [] = 0 by decide +kernel]
  have B8 := hide (B7.out.trans (b8.out.mono B7.out.size))
  clear b8
  go_wp2
  go_ret
  exact ⟨rfl, B8.out⟩

end Go.Proofs.Yteillcfdmjmaeaa
