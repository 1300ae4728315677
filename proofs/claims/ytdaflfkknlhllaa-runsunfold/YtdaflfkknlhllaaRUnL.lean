/- RunsUnfold, the walk: the lengths of any runs, or that they are others, are the document's. -/
import Derived.Test.YtdaflfkknlhllaaRAwake
namespace Go.Proofs.Ytdaflfkknlhllaa
open Go.RowKit Go.Lib Go.Deep

theorem Try.cellsR : Try.prog.cellsOf 39 = 2 := by kernel_rfl

theorem open_argR {H : Type} {enc : TypeId × Value → H} {w : World} {d : DataW H} {p : List MemPlace} {v : Value} {base : Nat} (hv : Value.okWide Try.prog w .any base 25 v) (h : DataW.Trod enc Try.prog w 0 (fun _ => true) true 25 v d p) :
    ∃ a cap l, v = .slice a (l : List (Int × Int)).length cap ∧ ArgR w a l := by
  obtain ⟨a, len, cap, rfl⟩ := WideShapes.okWide_slice Try.underlying25 hv
  refine ⟨a, cap, ?_⟩
  obtain ⟨fuel, hf⟩ := h
  rcases open_slice Try.underlying25 hf with ⟨hcs, _⟩ | ⟨x, l, c, m, n, D, Pl, hcs, _, hl, hm, hmm, _, hall⟩
  · simp [Value.cells] at hcs
    obtain ⟨rfl, rfl, rfl⟩ := hcs
    exact ⟨[], rfl, (fun i s e hx => (by simp at hx))⟩
  · simp [Value.cells] at hcs
    obtain ⟨rfl, rfl, rfl⟩ := hcs
    have hlm : len ≤ m := by rw [hmm]; simp; exact hl
    have hsp : 0 < len → x.spot = none := by
      intro h0
      obtain ⟨cs, hc, _⟩ := hall 0 (by omega)
      rw [Try.cellsR] at hc
      obtain ⟨_, hcl, hcc⟩ := World.cells?_some hc
      have g := hcc 0 (by omega)
      match cs, hcl with
      | c0 :: _, _ => exact World.cell?_spot (by simpa [Addr.add] using g)
    have one : ∀ i, i < len → ∃ y : Int × Int, ∃ b off, x = ⟨b, off, none⟩ ∧ b < w.heap.size ∧ w.cell? ⟨b, off + i * 2, none⟩ = some (.int .i64 y.1) ∧ w.cell? ⟨b, off + i * 2 + 1, none⟩ = some (.int .i64 y.2) := by
      intro i hi
      have hsp := hsp (by omega)
      obtain ⟨b, off, spot⟩ := x
      simp only at hsp
      subst hsp
      obtain ⟨cs, hc, ht⟩ := hall i (by omega)
      rw [Try.cellsR] at hc
      obtain ⟨_, hcl, hcc⟩ := World.cells?_some hc
      obtain ⟨y0, y1, k, _, _, h0, h1⟩ := ChangeShapes.trod_struct2 Try.underlying39 ht
      match cs, hcl with
      | [c0, c1], _ =>
        simp only [Try.cellsZ, List.drop_zero, List.drop_succ_cons, List.take_succ_cons, List.take_zero] at h0 h1
        obtain ⟨k0, e0, _, f0⟩ := DataW.trod_int Try.underlying3 h0
        obtain ⟨k1, e1, _, f1⟩ := DataW.trod_int Try.underlying3 h1
        simp only [List.cons.injEq, and_true] at e0 e1
        subst e0 e1
        have g0 := hcc 0 (by omega)
        have g1 := hcc 1 (by omega)
        simp only [add_noneW] at g0 g1
        exact ⟨(k0, k1), b, off, rfl, World.block_lt_of_cell? w _ (g0.trans rfl), g0, g1⟩
    obtain ⟨f, hf2⟩ := @choose_lt (Int × Int) ⟨(0, 0)⟩ _ _ one
    refine ⟨(List.range len).map f, by simp, fun i s e hy => ?_⟩
    rw [List.getElem?_map] at hy
    by_cases hi : i < len
    · rw [List.getElem?_range hi] at hy
      simp at hy
      obtain ⟨b, off, e1, r1, r2, r3⟩ := hf2 i hi
      rw [hy] at r2 r3
      exact ⟨b, off, by rw [e1], r1, r2, r3⟩
    · rw [List.getElem?_eq_none (by simpa using hi)] at hy
      simp at hy

theorem unO_len (rs : List (Int × Int)) (n : Int) (hl : rs.length ≤ 2000) : (unO rs n).length ≤ 276000 := by
  have key : ∀ (rs : List (Int × Int)) (out o : List Int), unF n out rs = some o → o.length ≤ out.length + 138 * rs.length := by
    intro rs
    induction rs with
    | nil =>
      intro out o h
      unfold unF at h
      split at h
      · injection h with h; rw [h]; simp
      · cases h
    | cons r rs ih =>
      intro out o h
      unfold unF at h
      by_cases hb : runB n out r = true
      · rw [if_pos hb] at h
        have h1 := ih _ _ h
        obtain ⟨g1, g2, g3, g4, g5, g6⟩ := (runB_iff n out r).1 hb
        rw [List.length_append, List.length_replicate] at h1
        have h138 : (timesR r).toNat ≤ 138 := by
          have hx : xBits r.1 ≤ 7 := by unfold xBits; split; · omega
                                        split; · omega
                                        split; · omega
                                        omega
          have hp : (2 : Nat) ^ xBits r.1 ≤ 2 ^ 7 := Nat.pow_le_pow_right (by decide) hx
          unfold timesR
          split; · rename_i e2; rw [e2, xb16] at g5; omega
          split; · rename_i e2; rw [e2, xb17] at g5; omega
          split; · omega
          omega
        rw [List.length_cons]
        omega
      · rw [if_neg hb] at h
        cases h
  unfold unO
  cases h : unF n [] rs with
  | none => exact Nat.zero_le _
  | some o =>
    have := key rs [] o h
    show o.length ≤ _
    simp at this
    omega

set_option maxRecDepth 20000 in
set_option maxHeartbeats 4000000 in
theorem run_big (n : Nat) (a : Option Addr) (cap : Nat) (s : Int) (W : World) (hn : 200 < n) :
    Calls Try.prog 4 #[.slice a n cap, .int .i64 s] W fun e w' => e = .returned (.bool true) ∧ Below W.heap.size W w' := by
  have hz : (200 : Int) < n := by omega
  clear hn
  go_enter Try.func4, Try.ntmps4
  go_wp2_with fail
  refine (rawake_any _).mono ?_
  rintro e w1 ⟨rfl, b1⟩
  have B1 := hide b1
  clear b1
  go_wp2
  go_ret
  exact ⟨rfl, B1.out⟩

set_option maxRecDepth 20000 in
set_option maxHeartbeats 4000000 in
theorem run_small (rs : List (Int × Int)) (a : Option Addr) (cap : Nat) (n : Int) (W : World) (harg : ArgR W a rs) (hl : rs.length ≤ 200) (hn1 : -9223372036854775808 ≤ n) (hn2 : n ≤ 9223372036854775807) :
    Calls Try.prog 4 #[.slice a rs.length cap, .int .i64 n] W fun e w' => e = .returned (.bool true) ∧ Below W.heap.size W w' := by
  have HU := hide (unfold7_any rs a cap n W harg (by omega) hn1 hn2)
  have HQ := hide (fun w' (h : ArgR w' a rs) => qunfold_any rs a cap n w' h (by omega) hn1 hn2)
  have HA := hide harg
  have HOL := hide (unO_len rs n (by omega))
  obtain ⟨m, hm⟩ : ∃ m, rs.length = m := ⟨_, rfl⟩
  rw [hm] at HU HQ hl ⊢
  have hz : ¬ (200 : Int) < m := by omega
  unfold UnPost at HU HQ
  generalize unO rs n = o at *
  generalize unB rs n = q at *
  clear harg hm hl hn1 hn2
  go_enter Try.func4, Try.ntmps4
  go_wp2_with fail
  refine HU.out.mono ?_
  rintro e w1 ⟨a1, c1, rfl, ha1, _, b1⟩
  have HA1 := hide (HA.out.below b1 (Nat.le_refl _))
  have HX1 := hide ha1
  have B1 := hide b1
  clear b1 ha1
  go_wp2_with fail
  refine (HQ.out _ HA1.out).mono ?_
  rintro e w2 ⟨a2, c2, rfl, ha2, _, b2⟩
  have HX2 := hide ha2
  have HX1b := hide (HX1.out.belowB b2 (Nat.le_refl _))
  have B2 := hide (B1.out.trans (b2.mono B1.out.size))
  clear b2 ha2
  go_wp2_with fail
  refine (rawake_any _).mono ?_
  rintro e w3 ⟨rfl, b3⟩
  have HX2c := hide (HX2.out.belowB b3 (Nat.le_refl _))
  have HX1c := hide (HX1b.out.belowB b3 (Nat.le_refl _))
  have B3 := hide (B2.out.trans (b3.mono B2.out.size))
  clear b3
  have HSM := hide (same7_any o o.length a1 a2 c1 c2 w3 rfl HX1c.out HX2c.out (Nat.le_trans HOL.out (by decide)))
  generalize o.length = k at *
  go_wp2_with fail
  refine HSM.out.mono ?_
  rintro e w4 ⟨rfl, b4⟩
  have B4 := hide (B3.out.trans (b4.mono B3.out.size))
  clear b4
  go_wp2
  go_ret
  exact ⟨rfl, B4.out⟩

theorem runsUnfold_walk {H : Type} {enc : TypeId × Value → H} {d : DataW H} {p : List MemPlace} {base : Nat} (W : World) (v : Value) (hv : Value.okWide Try.prog W .any base 25 v) (h : DataW.Trod enc Try.prog W 0 (fun _ => true) true 25 v d p) (n : Int) (wn : (Lit.int .i64 n).wf = true) :
    Calls Try.prog 4 #[v, .int .i64 n] W fun e w' => e = .returned (.bool true) ∧ Below W.heap.size W w' := by
  obtain ⟨a, cap, l, rfl, harg⟩ := open_argR hv h
  by_cases hl : 200 < l.length
  · exact run_big _ a cap n W hl
  · exact run_small l a cap n W harg (by omega) (bounds_i64 wn).1 (bounds_i64 wn).2

end Go.Proofs.Ytdaflfkknlhllaa
