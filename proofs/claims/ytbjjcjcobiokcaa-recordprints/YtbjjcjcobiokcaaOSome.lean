/- The document's examples of layer 14; the statements' 'some', 'short', 'awake'. -/
import Derived.Test.YtbjjcjcobiokcaaORef
import Derived.Test.YtbjjcjcobiokcaaFBoth
namespace Go.Proofs.Ytbjjcjcobiokcaa
open Go.RowKit Go.Lib

def rSome : Rec := ⟨⟨#[97]⟩, ⟨#[110]⟩, 0, 8, 33, 0, 7, 5, 4, 9, false⟩
def rWide : Rec := ⟨⟨#[97]⟩, ⟨#[110]⟩, 8, 8, 33, 0, 7, 5, 4, 9, true⟩
def rBad : Rec := ⟨⟨#[]⟩, ⟨#[]⟩, 0, 0, 0, 0, -1, 0, 0, 0, false⟩
theorem some_right : RightR rSome := (rightR_iff _).1 (by decide +kernel)
theorem wide_right : RightR rWide := (rightR_iff _).1 (by decide +kernel)
theorem some_loc : locS rSome = ⟨#[80, 75, 3, 4, 20, 0, 0, 0, 8, 0, 0, 0, 33, 0, 7, 0, 0, 0, 4, 0, 0, 0, 5, 0, 0, 0, 1, 0, 0, 0, 97]⟩ := by decide +kernel
theorem some_cen : cenS rSome = ⟨#[80, 75, 1, 2, 20, 0, 20, 0, 0, 0, 8, 0, 0, 0, 33, 0, 7, 0, 0, 0, 4, 0, 0, 0, 5, 0, 0, 0, 1, 0, 0, 0, 1, 0, 0, 0, 0, 0, 0, 0, 0, 0, 9, 0, 0, 0, 97, 110]⟩ := by decide +kernel
theorem some_tail : tailS rSome = ⟨#[]⟩ := by decide +kernel
theorem wide_tail : tailS rWide = ⟨#[80, 75, 7, 8, 7, 0, 0, 0, 4, 0, 0, 0, 0, 0, 0, 0, 5, 0, 0, 0, 0, 0, 0, 0]⟩ := by decide +kernel
theorem wide_loc : locS rWide = ⟨#[80, 75, 3, 4, 45, 0, 8, 0, 8, 0, 0, 0, 33, 0, 0, 0, 0, 0, 255, 255, 255, 255, 255, 255, 255, 255, 1, 0, 20, 0, 97, 1, 0, 16, 0, 0, 0, 0, 0, 0, 0, 0, 0, 0, 0, 0, 0, 0, 0, 0, 0]⟩ := by decide +kernel
theorem results_one11 {fn : Func} {T : TypeId} {i : Tmp} (h : fn.results = #[.cell i T]) (tmps : Array Value) (P : Program) (w : World) (g : Nat) (cs : Array Value) {fs}
    (ht : tmps.getD i undef = .pointer (some ⟨g, 0, none⟩)) (hg : w.heap[g]? = some (.cells cs T (0, 0))) (hu : P.underlying T = some (.struct fs)) (hi : (P.info? T).map (·.size) = some cs.size) :
    (results fn tmps).run P w = .ok (.agg cs) w := by
  have hl := run_loadVar_row (P := P) w g T T cs (0, 0) _ hg hu rfl hi
  have ha : (asAddr (tmps.getD i undef)).run P w = .ok ⟨g, 0, none⟩ w := by rw [ht]; rfl
  rw [Array.getD_eq_getD_getElem?] at ha
  simp [results, h, ha, hl]

set_option maxRecDepth 20000 in
theorem some_any (W : World) : Calls Try.prog 22 #[] W fun e w' => e = .returned (recV rSome) ∧ Below W.heap.size W w' := by
  have B := hide ((Below.refl W.heap.size W).alloc (Nat.le_refl _) (.cells (recCs rSome) 23))
  have HQ := hide (rec_new W (recCs rSome) 23)
  unfold recV
  unfold recCs rSome at *
  dsimp only at B HQ ⊢
  go_enter Try.func22, Try.ntmps22
  go_wp2
  (try simp only [Exit.inBlock, Exit.then])
  refine bodyPost_ret (results_one11 rfl _ _ _ W.heap.size _ rfl HQ.out Try.underlying23 rfl) rfl ?_
  exact ⟨rfl, B.out⟩
/-- Are a record's texts short? -/
def shortR (r : Rec) : Bool := decide ((r.name.size : Int) ≤ 300) && decide ((r.note.size : Int) ≤ 300)
set_option maxRecDepth 20000 in
theorem short_any (r : Rec) (W : World) : Calls Try.prog 8 #[recV r] W fun e w' => e = .returned (.bool (shortR r)) ∧ Below W.heap.size W w' := by
  have B := hide ((Below.refl W.heap.size W).alloc (Nat.le_refl _) (.cells (recCs r) 23))
  obtain ⟨nm, nt, fl, me, da, ck, su, sz, pk, at_, wd⟩ := r
  unfold recV shortR
  unfold recCs at *
  dsimp only at B ⊢
  by_cases h1 : (nm.size : Int) ≤ 300
  · by_cases h2 : (nt.size : Int) ≤ 300
    · rw [decide_eq_true h1, decide_eq_true h2]
      go_enter Try.func8, Try.ntmps8
      go_wp2
      go_ret
      exact ⟨rfl, B.out⟩
    · rw [decide_eq_true h1, decide_eq_false h2]
      go_enter Try.func8, Try.ntmps8
      go_wp2
      go_ret
      exact ⟨rfl, B.out⟩
  · rw [decide_eq_false h1]
    go_enter Try.func8, Try.ntmps8
    go_wp2
    go_ret
    exact ⟨rfl, B.out⟩

end Go.Proofs.Ytbjjcjcobiokcaa
