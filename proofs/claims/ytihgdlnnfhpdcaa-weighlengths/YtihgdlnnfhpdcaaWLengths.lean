/- Whatever weights and a limit are: the code lengths, or the error, are the document's: 'WeighLengths' answers true. No condition. -/
import Derived.Test.YtihgdlnnfhpdcaaWOpen
namespace Go.Proofs.Ytihgdlnnfhpdcaa
open Go.RowKit Go.Lib

theorem LimTo.len {ws : List Nat} {m : Nat} {out : List Nat} (h : LimTo ws m out) : out.length = ws.length := by
  obtain ⟨j, rfl, _⟩ := h
  rw [lens_length, halfJ_len]

set_option maxHeartbeats 1000000 in
theorem wlengths_walk (l : List Int) (m : Int) (a : Option Addr) (cap : Nat) (W : World) (harg : ArgZ W a l) (hnil : a = none → cap = 0) :
    Calls Try.prog 3 #[.slice a l.length cap, .int .i64 m] W fun e w' => e = .returned (.bool true) ∧ Below W.heap.size W w' := by
  have HA := hide harg
  have HN := hide hnil
  clear harg hnil
  by_cases h1 : 600 < l.length
  · have z1 : (600 : Int) < l.length := by omega
    go_enter Try.func3, Try.ntmps3
    go_wp2_with fail
    refine (wawake_any _).mono ?_
    rintro e w1 ⟨rfl, b1⟩
    have B1 := hide b1
    clear b1
    go_wp2
    go_ret
    exact ⟨rfl, B1.out⟩
  · have z1 : ¬ (600 : Int) < l.length := by omega
    have HL := hide (show l.length ≤ 1000 by omega)
    go_enter Try.func3, Try.ntmps3
    go_wp2_with fail
    refine (lengths_any l m a cap W HA.out HN.out).mono ?_
    rintro e w1 ⟨r, rfl, hr, b1⟩
    rcases hr with ⟨hb, rfl⟩ | ⟨hg, v1, out, rfl, hl1, o1⟩
    · have HB := hide hb
      have B1 := hide b1
      clear hb b1
      go_wp2_with fail
      refine (qlengths_any l m a cap _ (HA.out.below B1.out) HN.out).mono ?_
      rintro e w2 ⟨r, rfl, hr, b2⟩
      obtain rfl := len_bad hr HB.out
      have B2 := hide (B1.out.trans (b2.mono B1.out.size))
      clear hr b2
      go_wp2_with fail
      refine (wawake_any _).mono ?_
      rintro e w3 ⟨rfl, b3⟩
      have B3 := hide (B2.out.trans (b3.mono B2.out.size))
      clear b3
      go_wp2_with fail
      refine (same_any [] none none 0 0 _ (fun i x hx => by simp at hx) (fun i x hx => by simp at hx) (by decide)).mono ?_
      rintro e w4 ⟨rfl, b4⟩
      have B4 := hide (B3.out.trans (b4.mono B3.out.size))
      clear b4
      go_wp2
      go_ret
      exact ⟨rfl, B4.out⟩
    · have HG := hide hg
      have HLT := hide hl1
      have B1 := hide b1
      have O1 := hide o1
      clear hg hl1 b1 o1
      go_wp2_with fail
      refine (qlengths_any l m a cap _ (HA.out.below B1.out) HN.out).mono ?_
      rintro e w2 ⟨r, rfl, hr, b2⟩
      obtain ⟨v2, rfl, o2⟩ := len_good hr HG.out out HLT.out
      have O12 := hide (own_below O1.out b2 (Nat.le_refl _))
      have O2 := hide o2
      have B2 := hide (B1.out.trans (b2.mono B1.out.size))
      clear hr b2 o2 O1
      go_wp2_with fail
      refine (wawake_any _).mono ?_
      rintro e w3 ⟨rfl, b3⟩
      have O13 := hide (own_below O12.out b3 (Nat.le_refl _))
      have O23 := hide (own_below O2.out b3 (Nat.le_refl _))
      have B3 := hide (B2.out.trans (b3.mono B2.out.size))
      clear b3 O12 O2
      have hol : out.length = l.length := by rw [HLT.out.len, List.length_map]
      have HOL := hide hol
      obtain ⟨a1, c1, rfl⟩ : ∃ a1 c1, v1 = .slice a1 l.length c1 := by
        rcases len_form O13.out with ⟨e1, e2⟩ | ⟨g, cc, e1⟩
        · exact ⟨none, 0, by rw [e1, e2]⟩
        · exact ⟨_, _, e1⟩
      obtain ⟨a2, c2, rfl⟩ : ∃ a2 c2, v2 = .slice a2 l.length c2 := by
        rcases len_form O23.out with ⟨e1, e2⟩ | ⟨g, cc, e1⟩
        · exact ⟨none, 0, by rw [e1, e2]⟩
        · exact ⟨_, _, e1⟩
      have HSM := hide (same_any (out.map fun (x : Nat) => (x : Int)) a1 a2 c1 c2 w3 (own_argZ O13.out hol) (own_argZ O23.out hol) (by rw [List.length_map, hol]; exact HL.out))
      rw [List.length_map, hol] at HSM
      clear hol
      go_wp2_with fail
      refine HSM.out.mono ?_
      rintro e w4 ⟨rfl, b4⟩
      have B4 := hide (B3.out.trans (b4.mono B3.out.size))
      clear b4
      go_wp2
      go_ret
      exact ⟨rfl, B4.out⟩

theorem wlengths_law (w : World) (v0 : Value) {b0 : Nat} {H : Type} {enc : TypeId × Value → H} {d0 : DataW H} {p0 : List MemPlace}
    (o0 : Value.okWide Try.prog w .any b0 22 v0) (k0 : DataW.Trod enc Try.prog w 0 (fun _ => true) true 22 v0 d0 p0) (a1 : Int) (_w1 : (Lit.int .i64 a1).wf = true) :
    Calls Try.prog 3 #[v0, .int .i64 a1] w fun e w' => e = .returned (.bool true) ∧ Below w.heap.size w w' := by
  obtain ⟨pa, ca, a, rfl, ha, hn, _⟩ := open_argZ o0 k0
  exact wlengths_walk a a1 pa ca w ha hn

end Go.Proofs.Ytihgdlnnfhpdcaa
