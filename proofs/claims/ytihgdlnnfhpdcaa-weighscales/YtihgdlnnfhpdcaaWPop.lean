/- Contracts of container/heap's Init, Pop and Push over the pile of layer 4, and of 'least'. -/
import Derived.Test.YtihgdlnnfhpdcaaWPopM
import Derived.Test.YtihgdlnnfhpdcaaWUp
import Derived.Test.YtihgdlnnfhpdcaaWParM
namespace Go.Proofs.Ytihgdlnnfhpdcaa
open Go.RowKit Go.Lib

/-- A pile with the least on top: its box P holds v, which has the nodes d. -/
structure PileOk (w : World) (B P : Nat) (v : Value) (d : List (Nat × Int)) : Prop where
  at_ : PileAt w B P v d
  hp : HpFrom d 0 d.length

theorem Only.step {P g n cap : Nat} {w w' : World} (h : Only g w w') : Step P (.slice (some ⟨g, 0, none⟩) n cap) (.slice (some ⟨g, 0, none⟩) n cap) w w' :=
  ⟨h.os, h.tape, h.output, Nat.le_of_eq h.size.symm, fun k _ _ hv => h.block k (fun e => hv (by rw [e]; rfl)), .inl rfl⟩

theorem PileAt.len {w : World} {B P n cap : Nat} {a : Option Addr} {d : List (Nat × Int)} (h : PileAt w B P (.slice a n cap) d) : d.length = n := by
  rcases h.own.2 with ⟨h', h2⟩ | ⟨g, cap', _, h', _⟩
  · injection h' with _ h3 _
    omega
  · injection h' with _ h3 _
    exact h3.symm

/-- Behind a Pop. -/
def Popped (w W : World) (B P g n k cap : Nat) (d : List (Nat × Int)) : Prop :=
  ∃ d', PileOk w B P (.slice (some ⟨g, 0, none⟩) k cap) d' ∧ Step P (.slice (some ⟨g, 0, none⟩) n cap) (.slice (some ⟨g, 0, none⟩) k cap) W w ∧ d.Perm (atP d 0 :: d')

set_option maxRecDepth 20000 in
set_option maxHeartbeats 2000000 in
theorem hpop_any (P g n k cap B : Nat) (d : List (Nat × Int)) (W : World) (h : PileOk W B P (.slice (some ⟨g, 0, none⟩) n cap) d) (hk : k + 1 = n) (hn2 : n ≤ 1024) :
    Calls Try.prog 27 #[.iface 42 (.pointer (some ⟨P, 0, none⟩))] W fun e w' => e = .returned (.iface 44 (nodeV (atP d 0))) ∧ Hid (Popped w' W B P g n k cap d) := by
  have hd : d.length = n := h.at_.len
  have ho := h.at_.own
  rw [hd] at ho
  have hml := meth_len P _ W h.at_.cell
  have hms := meth_swap P _ W h.at_.cell
  have e1 : (n : Int) - 1 = (k : Int) := by omega
  have HCS := hide (swap_any g n cap B d 0 k W hd ho (by omega) (by omega))
  have HH := hide h
  have HD := hide hd
  have HK := hide hk
  clear h hd ho hk
  go_enter Try.func27, Try.ntmps27
  go_wp2_with fail
  refine (len_any _ n cap W).mono ?_
  rintro e w0 ⟨rfl, rfl⟩
  go_wp2_with fail
  refine HCS.out.mono ?_
  rintro e w1 ⟨rfl, o1, ho1⟩
  have HO1 := hide o1
  have HP1 := hide (HH.out.at_.turned o1 (swp_length _ _ _) (by rw [HD.out]; exact ho1))
  clear o1 ho1 hml hms
  go_wp2_with fail
  refine (down_any P g n cap B 0 k (swp d 0 k) w1 HP1.out (by rw [swp_length]; exact HD.out) (by have := HK.out; omega) hn2 (Nat.zero_le _) (HpFrom.popped (n := k) (by have := HH.out.hp; rw [HD.out, ← HK.out] at this; exact this) (by have := HK.out; have := HD.out; omega))).mono ?_
  rintro e w2 ⟨⟨r, rfl⟩, HDN⟩
  obtain ⟨d2, h2, o2, k2, p2⟩ := HDN.out
  have hmp := meth_pop P w2
  have HE := hide (pop_perm (by have := HK.out; have := HD.out; omega) k2).1
  have hl2 : d2.length = n := by rw [k2.len, swp_length]; exact HD.out
  have HCP := hide (popm_any P g n k cap B d2 w2 h2 hl2 HK.out hn2)
  have HF := hide (show ∀ w3, PileAt w3 B P (.slice (some ⟨g, 0, none⟩) k cap) (d2.take k) → Step P (.slice (some ⟨g, 0, none⟩) n cap) (.slice (some ⟨g, 0, none⟩) k cap) w2 w3 → Popped w3 W B P g n k cap d from fun w3 a b =>
    ⟨d2.take k, ⟨a, hp_take p2 (by have := HK.out; omega)⟩, ((HO1.out.step (P := P) (n := n) (cap := cap)).trans o2.step).trans b, (pop_perm (by have := HK.out; have := HD.out; omega) k2).2⟩)
  clear h2 o2 k2 p2 hl2 HDN
  go_wp2_with fail
  refine HCP.out.mono ?_
  rintro e w3 ⟨rfl, a3, b3⟩
  have HG := hide (HF.out w3 a3.out b3.out)
  rw [HE.out]
  go_wp2
  go_ret
  exact ⟨rfl, HG⟩

/-- Behind a Push. -/
def Pushed (w W : World) (B P : Nat) (v : Value) (g m cap : Nat) (d : List (Nat × Int)) (x : Nat × Int) : Prop :=
  ∃ d', PileOk w B P (.slice (some ⟨g, 0, none⟩) m cap) d' ∧ Step P v (.slice (some ⟨g, 0, none⟩) m cap) W w ∧ d'.Perm (x :: d)

set_option maxRecDepth 20000 in
set_option maxHeartbeats 2000000 in
theorem hpush_any (P n cap B : Nat) (a : Option Addr) (d : List (Nat × Int)) (x : Nat × Int) (W : World) (h : PileOk W B P (.slice a n cap) d) (hn2 : n ≤ 1023) (hB : B ≤ W.heap.size) :
    Calls Try.prog 25 #[.iface 42 (.pointer (some ⟨P, 0, none⟩)), .iface 44 (nodeV x)] W fun e w' => e = .returned (.tuple #[]) ∧ ∃ g cap', Hid (Pushed w' W B P (.slice a n cap) g (n + 1) cap' d x) := by
  have hd : d.length = n := h.at_.len
  have hmp := meth_push P W
  have HCP := hide (pushm_any P n cap B a d x W h.at_ hd hn2 hB)
  have HH := hide h
  have HD := hide hd
  clear h hd
  unfold nodeV at *
  go_enter Try.func25, Try.ntmps25
  go_wp2_with fail
  refine HCP.out.mono ?_
  rintro e w1 ⟨rfl, g, cap', HA, HS⟩
  have hml := meth_len P _ w1 HA.out.cell
  have e1 : ((n : Int) + 1) - 1 = (n : Int) := by omega
  have HCU := hide (up_any P g (n + 1) cap' B n (d ++ [x]) w1 HA.out (by rw [List.length_append, HD.out]; rfl) (by omega) (by omega) (by have h := HpFrom.pushed HH.out.hp x; rw [HD.out] at h; exact h))
  clear hmp
  go_wp2_with fail
  refine (len_any _ (n + 1) cap' w1).mono ?_
  rintro e w0 ⟨rfl, rfl⟩
  go_wp2_with fail
  refine HCU.out.mono ?_
  rintro e w2 ⟨rfl, HU⟩
  obtain ⟨d2, h2, o2, p2, q2⟩ := HU.out
  have HF := hide (show Pushed w2 W B P (.slice a n cap) g (n + 1) cap' d x from ⟨d2, ⟨h2, by rw [h2.len]; exact q2⟩, HS.out.trans o2.step, p2.trans (List.perm_append_singleton _ _)⟩)
  clear h2 o2 p2 q2
  go_wp2
  go_end0
  exact ⟨rfl, g, cap', HF⟩

/-- The pile under way, m places from the top left. -/
structure Inits (w W : World) (B P : Nat) (v : Value) (n : Nat) (d0 d : List (Nat × Int)) (m : Nat) : Prop where
  pile : PileAt w B P v d
  step : Step P v v W w
  perm : d.Perm d0
  hp : HpFrom d m n

def Inited (w W : World) (B P : Nat) (v : Value) (d0 : List (Nat × Int)) : Prop := ∃ d, PileOk w B P v d ∧ Step P v v W w ∧ d.Perm d0

theorem half_q (n : Nat) (h : n ≤ 1024) : (n : Int).tdiv 2 = ((n / 2 : Nat) : Int) := by
  rw [Int.tdiv_eq_ediv_of_nonneg (by omega)]
  omega
theorem meas_init (m : Nat) : (intOf (.int .i64 ((m : Int) - 1)) + 1).toNat < (intOf (.int .i64 (m : Int)) + 1).toNat := by
  show ((m : Int) - 1 + 1).toNat < ((m : Nat) + 1 : Int).toNat
  omega

set_option maxRecDepth 20000 in
set_option maxHeartbeats 2000000 in
theorem hinit_any (P n cap B : Nat) (a : Option Addr) (d0 : List (Nat × Int)) (W : World) (h : PileAt W B P (.slice a n cap) d0) (hn2 : n ≤ 1024) :
    Calls Try.prog 23 #[.iface 42 (.pointer (some ⟨P, 0, none⟩))] W fun e w' => e = .returned (.tuple #[]) ∧ Hid (Inited w' W B P (.slice a n cap) d0) := by
  have hd : d0.length = n := h.len
  have hml := meth_len P _ W h.cell
  have HS := hide (show Inits W W B P (.slice a n cap) n d0 d0 (n / 2) from ⟨h, Step.refl _ _ _, List.Perm.refl _, HpFrom.half _ _⟩)
  have HD := hide hd
  obtain ⟨q, hq⟩ : ∃ q, n / 2 = q := ⟨_, rfl⟩
  have hqt := half_q n hn2
  rw [hq] at hqt HS
  have hqn : q ≤ n := by omega
  have hq2 : 2 * q ≤ n := by omega
  have HQ2 := hide hq2
  clear h hd hq hq2
  go_enter Try.func23, Try.ntmps23
  go_wp2_with fail
  refine (len_any _ n cap W).mono ?_
  rintro e w0 ⟨rfl, rfl⟩
  clear hml
  have wq : IntKind.i64.wrap ((q : Int) - 1) = (q : Int) - 1 := by rw [IntKind.wrap_i64]; omega
  go_wp2
  go_loopw [3] (fun iv wr => ∃ (m : Nat) (z : Int) (d : List (Nat × Int)), m ≤ q ∧ z + 1 = (m : Int) ∧ iv = .int .i64 z ∧ Hid (Inits wr W B P (.slice a n cap) n d0 d m)) (fun iv _ => (intOf iv + 1).toNat)
  case atStart => exact ⟨q, (q : Int) - 1, d0, Nat.le_refl _, by omega, rfl, HS⟩
  case round =>
    obtain ⟨m, z, d, hm, hz, rfl, HI⟩ := hrel
    cases m with
    | zero =>
      obtain rfl : z = -1 := by omega
      have HF := hide (show Inited wr W B P (.slice a n cap) d0 from ⟨d, ⟨HI.out.pile, by rw [HI.out.pile.len]; exact HI.out.hp⟩, HI.out.step, HI.out.perm⟩)
      clear hz hm
      go_wp2
      go_end0
      exact ⟨rfl, HF⟩
    | succ m =>
      obtain rfl : z = (m : Int) := by omega
      have hdl := HI.out.pile.len
      obtain ⟨g, cap2, e2⟩ := own_slice HI.out.pile.own (by have := HQ2.out; omega)
      rw [hdl] at e2
      injection e2 with e3 e4 e5
      subst e3
      subst e5
      have HCD := hide (down_any P g n cap B m n d wr HI.out.pile hdl (Nat.le_refl _) hn2 (by omega) HI.out.hp)
      have wm : IntKind.i64.wrap ((m : Int) - 1) = (m : Int) - 1 := by rw [IntKind.wrap_i64]; omega
      have z0 : (0 : Int) ≤ m := by omega
      have hm2 : m ≤ q := by omega
      clear hdl hz hm e4
      go_wp2_with fail
      refine HCD.out.mono ?_
      rintro e w2 ⟨⟨r, rfl⟩, HDN⟩
      obtain ⟨d2, h2, o2, k2, p2⟩ := HDN.out
      have HNX := hide (show Inits w2 W B P (.slice (some ⟨g, 0, none⟩) n cap) n d0 d2 m from ⟨h2, HI.out.step.trans o2.step, k2.perm.trans HI.out.perm, p2⟩)
      clear h2 o2 k2 p2 HDN
      go_wp2
      go_roundw
      case rel => exact ⟨m, (m : Int) - 1, d2, hm2, by omega, rfl, HNX⟩
      case measure => exact meas_init m

/-! ### 'least': the top, and what is left -/
theorem Popped.setOther {w W : World} {B P g n k cap : Nat} {d : List (Nat × Int)} (h : Popped w W B P g n k cap d) (R i : Nat) (u : Value) (hR : W.heap.size ≤ R) (hP : P ≠ R) (hg : g ≠ R) : Popped (w.setCell ⟨R, i, none⟩ u) W B P g n k cap d := by
  obtain ⟨d', h1, h2, h3⟩ := h
  refine ⟨d', ⟨⟨?_, ownsRow_setCell_other h1.at_.own (fun e => hg (by injection e)) _, h1.at_.ne⟩, h1.hp⟩, ⟨h2.os, h2.tape, h2.output, by rw [size_setCell]; exact h2.size, fun b hb hp hv => ?_, h2.own⟩, h3⟩
  · rw [Below.heap_setCell _ _ _ _ hP]
    exact h1.at_.box
  · rw [Below.heap_setCell _ _ _ _ (show b ≠ R by omega)]
    exact h2.block b hb hp hv
theorem Popped.unalloc {w W : World} {o : Obj} {B P g n k cap : Nat} {d : List (Nat × Int)} (h : Popped w (W.alloc o) B P g n k cap d) : Popped w W B P g n k cap d := by
  obtain ⟨d', h1, h2, h3⟩ := h
  refine ⟨d', h1, ⟨h2.os, h2.tape, h2.output, Nat.le_trans (size_alloc_le (Nat.le_refl _)) h2.size, fun b hb hp hv => ?_, .inl rfl⟩, h3⟩
  rw [h2.block b (size_alloc_le hb) hp hv]
  exact heap_alloc_old _ _ _ hb
theorem Popped.other {w W : World} {B P g n k cap : Nat} {d : List (Nat × Int)} (h : Popped w W B P g n k cap d) (R : Nat) (hR : R < W.heap.size) (hP : P ≠ R) (hg : g ≠ R) : w.heap[R]? = W.heap[R]? := by
  obtain ⟨d', h1, h2, h3⟩ := h
  exact h2.block R hR (fun e => hP e.symm) (fun e => hg (by injection e with e; exact e.symm))

theorem two_cells {w : World} {R : Nat} {x y : Value} {t : TypeId} (h : w.heap[R]? = some (.cells #[x, y] t (0, 0))) : w.cell? ⟨R, 0, none⟩ = some x ∧ w.cell? ⟨R, 1, none⟩ = some y ∧ w.frozen? ⟨R, 0, none⟩ = false ∧ w.frozen? ⟨R, 1, none⟩ = false := by
  refine ⟨?_, ?_, by simp [World.frozen?, h], by simp [World.frozen?, h]⟩
  · rw [cell_of_row _ _ 0 _ _ (0, 0) h]; rfl
  · rw [cell_of_row _ _ 1 _ _ (0, 0) h]; rfl

set_option maxRecDepth 20000 in
set_option maxHeartbeats 2000000 in
theorem least_any (P g n k cap B : Nat) (d : List (Nat × Int)) (W : World) (h : PileOk W B P (.slice (some ⟨g, 0, none⟩) n cap) d) (hk : k + 1 = n) (hn2 : n ≤ 1024) :
    Calls Try.prog 24 #[.pointer (some ⟨P, 0, none⟩)] W fun e w' => e = .returned (nodeV (atP d 0)) ∧ Hid (Popped w' W B P g n k cap d) := by
  have hta := node_assert
  have hPW : P < W.heap.size := (Array.getElem?_eq_some_iff.1 h.at_.box).1
  have hgW : g < W.heap.size := (h.at_.own.lt g rfl).2
  have HC := hide (fun o => hpop_any P g n k cap B d (W.alloc o) ⟨h.at_.alloc o, h.hp⟩ hk hn2)
  have HN := hide (show W.heap.size < (W.alloc (.cells #[.int .i64 0, .int .i64 0] 44)).heap.size ∧ (W.alloc (.cells #[.int .i64 0, .int .i64 0] 44)).heap[W.heap.size]? = some (.cells #[.int .i64 0, .int .i64 0] 44 (0, 0)) by
    constructor
    · show W.heap.size < (W.heap.push _).size
      simp
    · show (W.heap.push _)[W.heap.size]? = _
      simp)
  have HPG := hide (And.intro (show P ≠ W.heap.size by omega) (show g ≠ W.heap.size by omega))
  clear h hk
  generalize atP d 0 = x at HC ⊢
  obtain ⟨x1, x2⟩ := x
  unfold nodeV at *
  dsimp only at HC ⊢
  go_enter Try.func24, Try.ntmps24
  go_wp2_with fail
  refine (HC.out _).mono ?_
  rintro e w3 ⟨rfl, HP⟩
  obtain ⟨c1, c2, f1, f2⟩ := two_cells ((HP.out.other W.heap.size HN.out.1 HPG.out.1 HPG.out.2).trans HN.out.2)
  have HF := hide (fun u1 u2 => (HP.out.unalloc.setOther W.heap.size 0 u1 (Nat.le_refl _) HPG.out.1 HPG.out.2).setOther W.heap.size 1 u2 (Nat.le_refl _) HPG.out.1 HPG.out.2)
  go_wp2
  (try simp only [Exit.inBlock, Exit.then])
  refine bodyPost_ret (v := .agg #[.int .i64 (x1 : Int), .int .i64 x2]) ?_ rfl ⟨rfl, hide (HF.out _ _)⟩
  simp [results, Try.results24, asAddr]
  go_simp

end Go.Proofs.Ytihgdlnnfhpdcaa
