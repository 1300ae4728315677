/- The document's examples of layer 2 hold: 'awake' answers true, and touches nothing that was there. -/
import Derived.Test.YtaflncfghphkgaaFBoth
namespace Go.Proofs.Ytaflncfghphkgaa
open Go.RowKit Go.Lib

def exS : ByteArray := ⟨#[1, 2, 5, 0, 0, 0, 97, 98]⟩

set_option maxHeartbeats 1000000 in
theorem fawake_any (w : World) : Calls Try.prog 8 #[] w fun e w' => e = .returned (.bool true) ∧ Below w.heap.size w w' := by
  have H0 := hide (CurAt.made 28 w exS 0)
  have B0 := hide ((Below.refl _ w).alloc (Nat.le_refl _) (.cells #[.string exS, .int .i64 0, .bool false] 28))
  go_enter Try.func8, Try.ntmps8
  go_wp2_with fail
  refine (cu16_any w.heap.size exS _ 0 false H0.out (by decide) (by decide)).mono ?_
  rintro e w1 ⟨rfl, h1, o1⟩
  rw [show numV (textV exS 0 2 false) = 513 by decide +kernel]
  rw [show textI exS 0 2 false = 2 by decide +kernel, show numW exS 0 2 false = false by decide +kernel] at h1
  have H1 := hide h1
  have B1 := hide (B0.out.trans (o1.below (Nat.le_refl _)))
  clear h1 o1
  go_wp2_with fail
  refine (cu32_any w.heap.size exS _ 2 false H1.out (by decide) (by decide)).mono ?_
  rintro e w2 ⟨rfl, h1, o1⟩
  rw [show numV (textV exS 2 4 false) = 5 by decide +kernel]
  rw [show textI exS 2 4 false = 6 by decide +kernel, show numW exS 2 4 false = false by decide +kernel] at h1
  have H2 := hide h1
  have B2 := hide (B1.out.trans (o1.below (Nat.le_refl _)))
  clear h1 o1
  go_wp2_with fail
  refine (ctext_any w.heap.size exS _ 6 false H2.out (by decide) (by decide) 2).mono ?_
  rintro e w3 ⟨rfl, h1, o1⟩
  rw [show textV exS 6 2 false = ⟨#[97, 98]⟩ by decide +kernel]
  rw [show textI exS 6 2 false = 8 by decide +kernel, show (!canT exS 6 2 false) = false by decide +kernel] at h1
  have H3 := hide h1
  have B3 := hide (B2.out.trans (o1.below (Nat.le_refl _)))
  clear h1 o1
  go_wp2_with fail
  refine (cdone_any w.heap.size exS _ 8 false H3.out).mono ?_
  rintro e w4 ⟨rfl, m, rfl⟩
  rw [show doneB exS 8 false = true by decide +kernel]
  have H4 := hide (H3.out.drew2 m)
  have B4 := hide (B3.out.trans ((Only.drewN w.heap.size w3 m).below (Nat.le_refl _)))
  clear B0 B1 B2 B3 H0 H1 H2 H3
  generalize w3.drewN m = w4 at *
  go_wp2_with fail
  refine (cu16_any w.heap.size exS _ 8 false H4.out (by decide) (by decide)).mono ?_
  rintro e w5 ⟨rfl, h1, o1⟩
  rw [show numV (textV exS 8 2 false) = 0 by decide +kernel]
  rw [show textI exS 8 2 false = 8 by decide +kernel, show numW exS 8 2 false = true by decide +kernel] at h1
  have hp := h1.lt
  have H5 := hide h1
  have B5 := hide (B4.out.trans (o1.below (Nat.le_refl _)))
  clear h1 o1
  go_wp2_with fail
  refine (u16_any 513 _).mono ?_
  rintro e w6 ⟨rfl, b6⟩
  rw [show lowS 513 2 = ⟨#[1, 2]⟩ by decide +kernel]
  have H6 := hide (H5.out.below b6 hp)
  have B6 := hide (B5.out.trans (b6.mono (by omega)))
  have hp6 := H6.out.lt
  clear b6
  go_wp2_with fail
  refine (u32_any 5 _).mono ?_
  rintro e w7 ⟨rfl, b6⟩
  rw [show lowS 5 4 = ⟨#[5, 0, 0, 0]⟩ by decide +kernel]
  have H7 := hide (H6.out.below b6 hp6)
  have B7 := hide (B6.out.trans (b6.mono (by omega)))
  have hp7 := H7.out.lt
  clear b6
  go_wp2_with fail
  refine (u64_any 1 _).mono ?_
  rintro e w8 ⟨rfl, b6⟩
  rw [show lowS 1 8 = ⟨#[1, 0, 0, 0, 0, 0, 0, 0]⟩ by decide +kernel]
  have _c2 := (H7.out.below b6 hp7).c2
  have B8 := hide (B7.out.trans (b6.mono (by omega)))
  clear b6
  go_wp2
  go_ret
  exact ⟨rfl, B8.out⟩

end Go.Proofs.Ytaflncfghphkgaa
