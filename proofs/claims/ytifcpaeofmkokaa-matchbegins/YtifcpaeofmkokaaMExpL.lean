/- MatchExpands, the walk: the text of any tokens, or the error, is the document's. -/
import Derived.Test.YtifcpaeofmkokaaMAwake
namespace Go.Proofs.Ytifcpaeofmkokaa
open Go.RowKit Go.Lib Go.Deep

theorem Try.cellsT : Try.prog.cellsOf 32 = 3 := by kernel_rfl
theorem Try.cellsI8 : Try.prog.cellsOf 3 = 1 := by kernel_rfl
theorem Try.cellsU8 : Try.prog.cellsOf 5 = 1 := by kernel_rfl
theorem trod_struct3' {H : Type} {enc : TypeId × Value → H} {P : Program} {w : World} {base : Nat} {spare : Nat → Bool} {held : Bool} {t : TypeId} {f0 f1 f2 : Field} {fuel : Nat} {cs : List Value} {x : DataW H × List MemPlace} (ht : P.underlying t = some (.struct #[f0, f1, f2])) (h : DataW.trod enc P w base spare held fuel t cs = some x) :
    ∃ y0 y1 y2 n, DataW.trod enc P w base spare held n f0.type ((cs.drop f0.offset).take (P.cellsOf f0.type)) = some y0 ∧
      DataW.trod enc P w base spare held n f1.type ((cs.drop f1.offset).take (P.cellsOf f1.type)) = some y1 ∧
      DataW.trod enc P w base spare held n f2.type ((cs.drop f2.offset).take (P.cellsOf f2.type)) = some y2 := by
  obtain ⟨xs, n, _, rfl, hl, hlen, hf⟩ := DataW.trod_struct ht h
  match xs, hlen with
  | [y0, y1, y2], _ => exact ⟨y0, y1, y2, n, by simpa using hf 0 f0 rfl, by simpa using hf 1 f1 rfl, by simpa using hf 2 f2 rfl⟩

theorem open_argT {H : Type} {enc : TypeId × Value → H} {w : World} {d : DataW H} {p : List MemPlace} {v : Value} {base : Nat} (hv : Value.okWide Try.prog w .any base 24 v) (h : DataW.Trod enc Try.prog w 0 (fun _ => true) true 24 v d p) :
    ∃ a cap l, v = .slice a (l : List (Nat × Int × Int)).length cap ∧ ArgT w a l ∧ l.length ≤ cap ∧ (a = none → cap = 0) := by
  obtain ⟨a, len, cap, rfl⟩ := WideShapes.okWide_slice Try.underlying24 hv
  refine ⟨a, cap, ?_⟩
  obtain ⟨fuel, hf⟩ := h
  rcases open_slice Try.underlying24 hf with ⟨hcs, _⟩ | ⟨x, l, c, m, n, D, Pl, hcs, hlc, hl, hm, hmm, _, hall⟩
  · simp [Value.cells] at hcs
    obtain ⟨rfl, rfl, rfl⟩ := hcs
    exact ⟨[], rfl, (fun i t hx => (by simp at hx)), Nat.le_refl _, fun _ => rfl⟩
  · simp [Value.cells] at hcs
    obtain ⟨rfl, rfl, rfl⟩ := hcs
    have hlm : len ≤ m := by rw [hmm]; simp; exact hl
    have hsp : 0 < len → x.spot = none := by
      intro h0
      obtain ⟨cs, hc, _⟩ := hall 0 (by omega)
      rw [Try.cellsT] at hc
      obtain ⟨_, hcl, hcc⟩ := World.cells?_some hc
      have g := hcc 0 (by omega)
      match cs, hcl with
      | c0 :: _, _ => exact World.cell?_spot (by simpa [Addr.add] using g)
    have one : ∀ i, i < len → ∃ y : Nat × Int × Int, ∃ b off, x = ⟨b, off, none⟩ ∧ b < w.heap.size ∧ w.cell? ⟨b, off + i * 3, none⟩ = some (.int .i64 y.2.1) ∧ w.cell? ⟨b, off + i * 3 + 1, none⟩ = some (.int .i64 y.2.2) ∧ w.cell? ⟨b, off + i * 3 + 2, none⟩ = some (.int .u8 (y.1 : Nat)) := by
      intro i hi
      have hsp := hsp (by omega)
      obtain ⟨b, off, spot⟩ := x
      simp only at hsp
      subst hsp
      obtain ⟨cs, hc, ht⟩ := hall i (by omega)
      rw [Try.cellsT] at hc
      obtain ⟨_, hcl, hcc⟩ := World.cells?_some hc
      obtain ⟨y0, y1, y2, k, h0, h1, h2⟩ := trod_struct3' Try.underlying32 ht
      match cs, hcl with
      | [c0, c1, c2], _ =>
        simp only [Try.cellsI8, Try.cellsU8, List.drop_zero, List.drop_succ_cons, List.take_succ_cons, List.take_zero] at h0 h1 h2
        obtain ⟨k0, e0, _, f0⟩ := DataW.trod_int Try.underlying3 h0
        obtain ⟨k1, e1, _, f1⟩ := DataW.trod_int Try.underlying3 h1
        obtain ⟨k2, e2, _, f2⟩ := DataW.trod_int Try.underlying5 h2
        simp only [List.cons.injEq, and_true] at e0 e1 e2
        subst e0 e1 e2
        have g0 := hcc 0 (by omega)
        have g1 := hcc 1 (by omega)
        have g2 := hcc 2 (by omega)
        simp only [add_noneW] at g0 g1 g2
        have hb := bounds_u8 f2
        have hk2 : ((k2.toNat : Nat) : Int) = k2 := by omega
        refine ⟨(k2.toNat, k0, k1), b, off, rfl, World.block_lt_of_cell? w _ (g0.trans rfl), g0, g1, ?_⟩
        show w.cell? _ = some (Value.int .u8 ((k2.toNat : Nat) : Int))
        rw [hk2]
        exact g2
    obtain ⟨f, hf2⟩ := @choose_lt (Nat × Int × Int) ⟨(0, 0, 0)⟩ _ _ one
    refine ⟨(List.range len).map f, by simp, fun i t hy => ?_, by simp; exact hl, fun e => by cases e⟩
    rw [List.getElem?_map] at hy
    by_cases hi : i < len
    · rw [List.getElem?_range hi] at hy
      simp at hy
      obtain ⟨b, off, e1, r1, r2, r3, r4⟩ := hf2 i hi
      rw [hy] at r2 r3 r4
      exact ⟨b, off, by rw [e1], r1, r2, r3, r4⟩
    · rw [List.getElem?_eq_none (by simpa using hi)] at hy
      simp at hy

set_option maxRecDepth 20000 in
set_option maxHeartbeats 4000000 in
theorem mexp_big (n : Nat) (a : Option Addr) (cap : Nat) (limit : Int) (W : World) (h : 100 < n ∨ (n ≤ 100 ∧ 50000 < limit)) :
    Calls Try.prog 4 #[.slice a n cap, .int .i64 limit] W fun e w' => e = .returned (.bool true) ∧ Below W.heap.size W w' := by
  rcases h with h | ⟨h, h2⟩
  · have hz : (100 : Int) < n := by omega
    clear h
    go_enter Try.func4, Try.ntmps4
    go_wp2_with fail
    refine (mawake_any _).mono ?_
    rintro e w1 ⟨rfl, b1⟩
    have B1 := hide b1
    clear b1
    go_wp2
    go_ret
    exact ⟨rfl, B1.out⟩
  · have hz : decide ((100 : Int) < n) = false := decide_eq_false (by omega)
    clear h
    go_enter Try.func4, Try.ntmps4
    go_wp2_with fail
    refine (mawake_any _).mono ?_
    rintro e w1 ⟨rfl, b1⟩
    have B1 := hide b1
    clear b1
    go_wp2
    go_ret
    exact ⟨rfl, B1.out⟩

set_option maxRecDepth 20000 in
set_option maxHeartbeats 4000000 in
theorem mexp_small (l : List (Nat × Int × Int)) (a : Option Addr) (cap : Nat) (limit : Int) (W : World) (harg : ArgT W a l) (hl : l.length ≤ 100) (h1 : -9223372036854775808 ≤ limit) (h2 : limit ≤ 50000) :
    Calls Try.prog 4 #[.slice a l.length cap, .int .i64 limit] W fun e w' => e = .returned (.bool true) ∧ Below W.heap.size W w' := by
  have HE := hide (expand_any l a cap limit W harg (by omega) h1 (by omega))
  have HQ := hide (fun w' (h : ArgT w' a l) => qexpand_any l a cap limit w' h (by omega) h1 (by omega))
  have HA := hide harg
  unfold ExPost at HE HQ
  generalize strOf (exF 5 6 limit [] l).1 = t at *
  generalize (exF 5 6 limit [] l).2 = q at *
  obtain ⟨m, hm⟩ : ∃ m, l.length = m := ⟨_, rfl⟩
  rw [hm] at HE HQ hl ⊢
  have hz : decide ((100 : Int) < m) = false := decide_eq_false (by omega)
  have hz2 : decide ((50000 : Int) < limit) = false := decide_eq_false (by omega)
  clear harg hm hl h1 h2
  go_enter Try.func4, Try.ntmps4
  go_wp2_with fail
  refine HE.out.mono ?_
  rintro e w1 ⟨rfl, b1⟩
  have HA1 := hide (HA.out.below b1 (Nat.le_refl _))
  have B1 := hide b1
  clear b1
  go_wp2_with fail
  refine (HQ.out _ HA1.out).mono ?_
  rintro e w2 ⟨rfl, b2⟩
  have B2 := hide (B1.out.trans (b2.mono B1.out.size))
  clear b2
  go_wp2_with fail
  refine (mawake_any _).mono ?_
  rintro e w3 ⟨rfl, b3⟩
  have B3 := hide (B2.out.trans (b3.mono B2.out.size))
  clear b3
  go_wp2
  go_ret
  exact ⟨rfl, B3.out⟩

theorem matchExpands_walk {H : Type} {enc : TypeId × Value → H} {d : DataW H} {p : List MemPlace} {base : Nat} (W : World) (v : Value) (hv : Value.okWide Try.prog W .any base 24 v) (h : DataW.Trod enc Try.prog W 0 (fun _ => true) true 24 v d p) (limit : Int) (wn : (Lit.int .i64 limit).wf = true) :
    Calls Try.prog 4 #[v, .int .i64 limit] W fun e w' => e = .returned (.bool true) ∧ Below W.heap.size W w' := by
  obtain ⟨a, cap, l, rfl, harg, _⟩ := open_argT hv h
  by_cases hl : 100 < l.length
  · exact mexp_big _ a cap limit W (.inl hl)
  · by_cases h2 : 50000 < limit
    · exact mexp_big _ a cap limit W (.inr ⟨by omega, h2⟩)
    · exact mexp_small l a cap limit W harg (by omega) (bounds_i64 wn).1 (by omega)

end Go.Proofs.Ytifcpaeofmkokaa
