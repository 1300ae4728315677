/- RunsFold, the walk: lengths as runs, how many bits are extra, and the order, are the document's. -/
import Derived.Test.YtdaflfkknlhllaaRAwake
namespace Go.Proofs.Ytdaflfkknlhllaa
open Go.RowKit Go.Lib

set_option maxRecDepth 20000 in
theorem order_eql (w : World) : (Op.equalIn 10000 28 (.agg orderCs.toArray) (.agg orderCs.toArray)).run Try.prog w = .ok true w := by kernel_rfl

set_option maxRecDepth 20000 in
set_option maxHeartbeats 4000000 in
theorem rfold_big (n : Nat) (a : Option Addr) (cap : Nat) (s : Int) (W : World) (hn : 600 < n) :
    Calls Try.prog 3 #[.slice a n cap, .int .i64 s] W fun e w' => e = .returned (.bool true) ∧ Below W.heap.size W w' := by
  have hz : (600 : Int) < n := by omega
  clear hn
  go_enter Try.func3, Try.ntmps3
  go_wp2_with fail
  refine (rawake_any _).mono ?_
  rintro e w1 ⟨rfl, b1⟩
  have B1 := hide b1
  clear b1
  go_wp2
  go_ret
  exact ⟨rfl, B1.out⟩

set_option maxRecDepth 20000 in
set_option maxHeartbeats 4000000 in
theorem rfold_small (l : List Int) (a : Option Addr) (cap : Nat) (s : Int) (W : World) (harg : ArgZ W a l) (hl : l.length ≤ 600) (hcap : l.length ≤ cap) :
    Calls Try.prog 3 #[.slice a l.length cap, .int .i64 s] W fun e w' => e = .returned (.bool true) ∧ Below W.heap.size W w' := by
  have HF := hide (fun w' (h : ArgZ w' a l) => fold7_any l a cap w' h (by omega) hcap)
  clear hcap
  have HQ := hide (fun w' (h : ArgZ w' a l) => qfold_any l a cap w' h (by omega))
  have HB := hide (bits7_any s)
  have HQB := hide (qbits_any s)
  have HO := hide order7_any
  have HQO := hide qorder_any
  have heq := order_eql
  have HA := hide harg
  have HLN := hide hl
  generalize xBits s = x at *
  generalize orderCs = cs at *
  obtain ⟨n, hn⟩ : ∃ n, l.length = n := ⟨_, rfl⟩
  rw [hn] at HF HQ hl ⊢
  have HN := hide hn
  have hz : ¬ (600 : Int) < n := by omega
  clear harg hn hl
  go_enter Try.func3, Try.ntmps3
  go_wp2_with fail
  refine (rawake_any _).mono ?_
  rintro e w1 ⟨rfl, b1⟩
  have HA1 := hide (HA.out.belowB b1 (Nat.le_refl _))
  have B1 := hide b1
  clear b1
  go_wp2_with fail
  refine (HF.out _ HA1.out).mono ?_
  rintro e w2 ⟨a2, c2, rs, rfl, hr2, ha2, _, b2⟩
  have HR2 := hide hr2
  have HA2 := hide (HA1.out.belowB b2 (Nat.le_refl _))
  have HX2 := hide ha2
  have B2 := hide (B1.out.trans (b2.mono B1.out.size))
  clear hr2 ha2 b2
  go_wp2_with fail
  refine (HQ.out _ HA2.out).mono ?_
  rintro e w3 ⟨a3, c3, rs3, rfl, hr3, ha3, _, b3⟩
  have ers := hr3.uniq HR2.out
  subst ers
  have HX2b := hide (HX2.out.below b3 (Nat.le_refl _))
  have HX3 := hide ha3
  have B3 := hide (B2.out.trans (b3.mono B2.out.size))
  have HLR := hide (show rs3.length ≤ 10000 by have h1 := hr3.length; have := HLN.out; omega)
  clear hr3 ha3 b3
  have HSM := hide (qrsame_any rs3 rs3.length a2 a3 c2 c3 w3 rfl HX2b.out HX3.out HLR.out)
  generalize rs3.length = m at *
  go_wp2_with fail
  refine HSM.out.mono ?_
  rintro e w4 ⟨rfl, b4⟩
  have B4 := hide (B3.out.trans (b4.mono B3.out.size))
  clear b4
  go_wp2_with fail
  refine (HB.out _).mono ?_
  rintro e w5 ⟨rfl, b5⟩
  have B5 := hide (B4.out.trans (b5.mono B4.out.size))
  clear b5
  go_wp2_with fail
  refine (HQB.out _).mono ?_
  rintro e w6 ⟨rfl, rfl⟩
  go_wp2_with fail
  refine (HO.out _).mono ?_
  rintro e w7 ⟨rfl, b7⟩
  have B7 := hide (B5.out.trans (b7.mono B5.out.size))
  clear b7
  go_wp2_with fail
  refine (HQO.out _).mono ?_
  rintro e w8 ⟨rfl, b8⟩
  have B8 := hide (B7.out.trans (b8.mono B7.out.size))
  clear b8
  go_wp2
  go_ret
  exact ⟨rfl, B8.out⟩

theorem runsFold_walk {H : Type} {enc : TypeId × Value → H} {d : DataW H} {p : List MemPlace} {base : Nat} (W : World) (v : Value) (hv : Value.okWide Try.prog W .any base 22 v) (h : DataW.Trod enc Try.prog W 0 (fun _ => true) true 22 v d p) (s : Int) (_ws : (Lit.int .i64 s).wf = true) :
    Calls Try.prog 3 #[v, .int .i64 s] W fun e w' => e = .returned (.bool true) ∧ Below W.heap.size W w' := by
  obtain ⟨a, cap, l, rfl, harg, _, _⟩ := open_argZ hv h
  by_cases hl : 600 < l.length
  · exact rfold_big _ a cap s W hl
  · exact rfold_small l a cap s W harg (by omega) (open_capZ h)

end Go.Proofs.Ytdaflfkknlhllaa
