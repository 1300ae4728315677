/- InflateBack, the plain facts: blocks laid one behind the other, token by token; bytes that came in. -/
import Derived.Test.YtaalbaiglkadlaaIEndsM
import Derived.Test.YtaalbaiglkadlaaBK
import Derived.ProofKit
import Derived.OpenShut
import Derived.Laws.Tables
namespace Go.Proofs.Ytaalbaiglkadlaa
open Go.RowKit Go.Lib Go.Deep

theorem block_len {l : List (Nat × Int × Int)} {kind : Int} {last : Bool} {ob : List Bool} (h : BlockRel l kind last ob) (hr : ∀ t ∈ l, RightT t) (hl : l.length ≤ 2000) : ob.length ≤ 10100 + 48 * l.length := by
  have hb : ∀ la lb : List Nat, CodesOk la lb l → (bodyBits la lb l).length ≤ 48 * l.length + 15 := by
    intro la lb ok
    unfold bodyBits highBits
    have h1 := toksBits_le ok.ma.each ok.mb.each l
    have h2 := getD_le ok.ma.each 256
    rw [List.length_append, List.length_reverse, lowBits_length]
    omega
  rcases h with ⟨_, hd, hh, rfl⟩ | ⟨_, rfl⟩
  · have h1 := hb _ _ (own_ok l hr hl)
    have h2 := headRel_le hh (by rw [List.length_append]; have := ownLit_len l; have := ownDist_len l; omega)
    simp only [List.length_append, List.length_singleton, lowBits_length]
    omega
  · have h1 := hb _ _ (plain_ok l hr)
    simp only [List.length_append, List.length_singleton, lowBits_length]
    omega
/-- What tokens come to fits. -/
theorem exF_fits {L : Int} : ∀ (l : List (Nat × Int × Int)) (out o : List Nat), exF 5 6 L out l = (o, 0) → (out.length : Int) ≤ L → (o.length : Int) ≤ L
  | [], out, o, h, hL => by
    injection h with h _
    subst h
    exact hL
  | t :: l, out, o, h, hL => by
    unfold exF at h
    split at h
    · split at h
      · injection h with _ h; cases h
      · refine exF_fits l _ o h ?_
        rw [List.length_append]
        show ((out.length + 1 : Nat) : Int) ≤ L
        omega
    · split at h
      · injection h with _ h; cases h
      · split at h
        · injection h with _ h; cases h
        · refine exF_fits l _ o h ?_
          rw [copyN_length]
          omega
/-- What isn't too far has a distance. -/
theorem exF_far {L : Int} : ∀ (l : List (Nat × Int × Int)) (out o : List Nat), exF 5 6 L out l = (o, 0) → ∀ t ∈ l, 0 < t.2.1 → 1 ≤ t.2.2
  | [], _, _, _, t, ht, _ => by cases ht
  | x :: l, out, o, h, t, ht, h0 => by
    unfold exF at h
    split at h
    · rename_i hx
      split at h
      · injection h with _ h; cases h
      · rcases List.mem_cons.1 ht with rfl | ht
        · omega
        · exact exF_far l _ o h t ht h0
    · split at h
      · injection h with _ h; cases h
      · rename_i hf
        split at h
        · injection h with _ h; cases h
        · rcases List.mem_cons.1 ht with rfl | ht
          · omega
          · exact exF_far l _ o h t ht h0
/-- Matches whose lengths may be, that aren't too far. -/
def farOk (t : Nat × Int × Int) : Bool := !(decide (0 < t.2.1) && (decide (t.2.1 < 3) || decide (258 < t.2.1) || decide (32768 < t.2.2)))
theorem farOk_iff (t : Nat × Int × Int) : farOk t = true ↔ (0 < t.2.1 → (3 ≤ t.2.1 ∧ t.2.1 ≤ 258) ∧ t.2.2 ≤ 32768) := by
  unfold farOk
  simp only [Bool.not_eq_true', Bool.and_eq_false_iff, Bool.or_eq_false_iff, decide_eq_false_iff_not]
  omega
/-- Blocks so far: a stream's bits, as they are opened by the limit M. -/
def LaidB (M : Int) (o : List Nat) (l : List (Nat × Int × Int)) (k i : Nat) (bs : List Bool) : Prop := ∃ out m, m ≤ i ∧ Opened M bs out m ∧ exF 5 6 M out (l.drop k) = (o, 0) ∧ bs.length ≤ 10100 * i + 48 * k
theorem LaidB.start {M : Int} {o : List Nat} {l : List (Nat × Int × Int)} (h : exF 5 6 M [] l = (o, 0)) : LaidB M o l 0 0 [] :=
  ⟨[], 0, Nat.le_refl _, Opened.nil M, h, Nat.zero_le _⟩
section
variable {M : Int} {o : List Nat} {l : List (Nat × Int × Int)} {k i n : Nat} {bs ob : List Bool} {kind : Int}
theorem LaidB.next (h : LaidB M o l k i bs) (hb : BlockRel ((l.drop k).take n) kind false ob) (hr : ∀ t ∈ l, RightT t) (hl : l.length ≤ 200) (hn : k + n ≤ l.length) : LaidB M o l (k + n) (i + 1) (bs ++ ob) := by
  obtain ⟨out, m, hm, hO, hx, hlen⟩ := h
  have hr2 : ∀ t ∈ (l.drop k).take n, RightT t := fun t ht => hr t (List.mem_of_mem_drop (List.mem_of_mem_take ht))
  have hl2 : ((l.drop k).take n).length = n := by rw [List.length_take, List.length_drop]; omega
  have hxs := hx
  rw [← List.take_append_drop n (l.drop k)] at hxs
  obtain ⟨o2, h1, h2⟩ := exF_split hxs
  rw [List.drop_drop] at h2
  have h3 := block_len hb hr2 (by omega)
  refine ⟨o2, m + 1, by omega, hO.step ⟨ob, rfl⟩ (block_at hb hr2 (by omega) h1), h2, ?_⟩
  rw [List.length_append]
  omega
theorem LaidB.done (h : LaidB M o l k i bs) (hb : BlockRel (l.drop k) kind true ob) (hr : ∀ t ∈ l, RightT t) (hl : l.length ≤ 200) (hi : i ≤ 20) {t : List UInt8} (hp : Packs (bs ++ ob) t) :
    strOf (openO ⟨t.toArray⟩ M) = strOf o ∧ openN ⟨t.toArray⟩ M = t.length ∧ openE ⟨t.toArray⟩ M = 0 := by
  obtain ⟨out, m, hm, hO, hx, _⟩ := h
  have hr2 : ∀ t ∈ l.drop k, RightT t := fun t ht => hr t (List.mem_of_mem_drop ht)
  have hl2 : (l.drop k).length ≤ 2000 := by rw [List.length_drop]; omega
  have hlies := lies_packs hp []
  rw [List.append_nil] at hlies
  have hR : openR ⟨t.toArray⟩ M = .ok (o, (bs ++ ob).length) := hO.last ⟨ob, rfl⟩ (block_at hb hr2 hl2 hx) _ _ hlies 1000000 (by omega)
  obtain ⟨e1, e2, e3⟩ := open_ok hR
  exact ⟨by rw [e1], by rw [e2]; exact hp.len.symm, e3⟩
theorem LaidB.len (h : LaidB M o l k i bs) : bs.length ≤ 10100 * i + 48 * k := by
  obtain ⟨_, _, _, _, _, h⟩ := h
  exact h
end
/-- A writer that is new. -/
structure BackSt (W w : World) (p : Nat) (v : Value) (bs : List Bool) : Prop where
  wq : Wq w p v bs
  bel : Below W.heap.size W w
  hp : W.heap.size ≤ p
  hv : ∀ k, v.ownBlock = some k → W.heap.size ≤ k
section
variable {W w w' : World} {p : Nat} {v v' : Value} {bs b1 : List Bool}
theorem BackSt.step (h : BackSt W w p v bs) (s : Step p v v' w w') (hw : Wq w' p v' b1) : BackSt W w' p v' b1 := by
  refine ⟨hw, s.new h.bel h.hp h.hv, h.hp, fun k hk => ?_⟩
  rcases s.own with e | e
  · exact h.hv k (by rw [← e]; exact hk)
  · have := e k hk
    have := h.bel.size
    omega
theorem BackSt.below (h : BackSt W w p v bs) (b : Below w.heap.size w w') : BackSt W w' p v bs := ⟨h.wq.below b, h.bel.trans (b.mono h.bel.size), h.hp, h.hv⟩
theorem BackSt.drewN (h : BackSt W w p v bs) (n : Nat) : BackSt W (w.drewN n) p v bs := h.below (below_drewN (Below.refl _ _) n)
theorem BackSt.kt {a : Option Addr} {l : List (Nat × Int × Int)} (h : BackSt W w p v bs) (ha : ArgT W a l) : KT p v w a l := KT.fresh ha h.bel h.hp h.hv
end

theorem slice_mid (a : Option Addr) (n c i k : Nat) (z : Int) (hz : z = (k : Nat)) (hi : i ≤ k) (hk : k ≤ c) (w : World) : (Instr.slice 27 (.slice a n c) (some (.int .i64 (i : Nat))) (some (.int .i64 z)) none).run Try.prog w = .ok (.slice (leftA a c i) (k - i) (c - i)) w := by
  subst hz
  rw [run_slice_lh (P := Try.prog) w 27 a n c Try.tokUnder .i64 .i64 (i : Int) (k : Int) (by omega) (by omega) (by omega), size_tok]
  simp only [Result.andThen, sliced, Int.toNat_natCast]
  rfl

/-- A row of bytes that came in. -/
def ArgY (w : World) (a : Option Addr) (l : List Nat) : Prop := ∀ (i x : Nat), l[i]? = some x → x < 256 ∧ ∃ b off, a = some ⟨b, off, none⟩ ∧ b < w.heap.size ∧ w.cell? ⟨b, off + i, none⟩ = some (.int .u8 (x : Int))
theorem Try.cellsY : Try.prog.cellsOf 5 = 1 := by kernel_rfl
set_option maxRecDepth 20000 in
theorem open_argY {H : Type} {enc : TypeId × Value → H} {w : World} {d : DataW H} {p : List MemPlace} {v : Value} {base : Nat} (hv : Value.okWide Try.prog w .any base 28 v) (h : DataW.Trod enc Try.prog w 0 (fun _ => true) true 28 v d p) :
    ∃ a cap l, v = .slice a (l : List Nat).length cap ∧ ArgY w a l ∧ l.length ≤ 9223372036854775807 := by
  obtain ⟨a, len, cap, rfl⟩ := WideShapes.okWide_slice Try.underlying28 hv
  refine ⟨a, cap, ?_⟩
  obtain ⟨fuel, hf⟩ := h
  rcases open_slice Try.underlying28 hf with ⟨hcs, _⟩ | ⟨x, l, c, m, n, D, Pl, hcs, hlc, hl, hm, hmm, _, hall⟩
  · simp [Value.cells] at hcs
    obtain ⟨rfl, rfl, rfl⟩ := hcs
    exact ⟨[], rfl, (fun i x hx => (by simp at hx)), by decide⟩
  · simp [Value.cells] at hcs
    obtain ⟨rfl, rfl, rfl⟩ := hcs
    have hlm : len ≤ m := by rw [hmm]; simp; exact hl
    have hsp : 0 < len → x.spot = none := by
      intro h0
      obtain ⟨cs, hc, _⟩ := hall 0 (by omega)
      rw [Try.cellsY] at hc
      obtain ⟨_, hcl, hcc⟩ := World.cells?_some hc
      have g := hcc 0 (by omega)
      match cs, hcl with
      | c0 :: _, _ => exact World.cell?_spot (by simpa [Addr.add] using g)
    have one : ∀ i, i < len → ∃ y : Int, ∃ b off, x = ⟨b, off, none⟩ ∧ b < w.heap.size ∧ w.cell? ⟨b, off + i, none⟩ = some (.int .u8 y) ∧ (Lit.int .u8 y).wf = true := by
      intro i hi
      have hsp := hsp (by omega)
      obtain ⟨b, off, spot⟩ := x
      simp only at hsp
      subst hsp
      obtain ⟨cs, hc, ht⟩ := hall i (by omega)
      rw [Try.cellsY] at hc
      obtain ⟨_, hcl, hcc⟩ := World.cells?_some hc
      match cs, hcl with
      | [c0], _ =>
        obtain ⟨k0, e0, _, f0⟩ := DataW.trod_int Try.underlying5 ht
        simp only [List.cons.injEq, and_true] at e0
        subst e0
        have g0 := hcc 0 (by omega)
        simp only [add_noneW] at g0
        rw [Nat.mul_one] at g0
        exact ⟨k0, b, off, rfl, World.block_lt_of_cell? w _ (g0.trans rfl), g0, f0⟩
    obtain ⟨f, hf2⟩ := @choose_lt (Int) ⟨0⟩ _ _ one
    refine ⟨(List.range len).map fun i => (f i).toNat, by simp, fun i y hy => ?_, ?_⟩
    · rw [List.getElem?_map] at hy
      by_cases hi : i < len
      · rw [List.getElem?_range hi] at hy
        simp at hy
        subst hy
        obtain ⟨b, off, e, r⟩ := hf2 i hi
        have hb := bounds_u8 r.2.2
        refine ⟨by omega, b, off, by rw [e], r.1, ?_⟩
        rw [r.2.1, Int.toNat_of_nonneg hb.1]
      · rw [List.getElem?_eq_none (by simpa using hi)] at hy
        simp at hy
    · rw [List.length_map, List.length_range]
      unfold maxLen at hm
      omega

set_option maxRecDepth 20000 in
/-- Tokens that came in are no more than there is room. -/
theorem open_capT {H : Type} {enc : TypeId × Value → H} {w : World} {d : DataW H} {p : List MemPlace} {a : Option Addr} {n cap : Nat} (h : DataW.Trod enc Try.prog w 0 (fun _ => true) true 27 (.slice a n cap) d p) : n ≤ cap := by
  obtain ⟨fuel, hf⟩ := h
  rcases open_slice Try.underlying27 hf with ⟨hcs, _⟩ | ⟨x, l, c, m, q, D, Pl, hcs, _, hl, _, _, _, _⟩
  · simp [Value.cells] at hcs
    omega
  · simp [Value.cells] at hcs
    omega

end Go.Proofs.Ytaalbaiglkadlaa
