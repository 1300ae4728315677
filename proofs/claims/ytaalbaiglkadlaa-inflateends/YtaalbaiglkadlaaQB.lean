import Derived.Test.YtaalbaiglkadlaaBitsA
import Derived.Deep.LoopGhost
/- Contracts of the document's Writer: Bit. -/
namespace Go.Proofs.Ytaalbaiglkadlaa
open Go.RowKit Go.Lib

/-- The document's writer lies in block p: its slice v owns the bytes out; it has N bits. -/
structure WqAt (w : World) (p : Nat) (v : Value) (out : List UInt8) (N : Nat) : Prop where
  box : w.heap[p]? = some (.cells #[v, .int .i64 (N : Int)] 35 (0, 0))
  own : w.ownsRow 0 5 1 v out.length (cellsB out)
  ne : v.ownBlock ≠ some p
section
variable {w : World} {p : Nat} {v : Value} {out : List UInt8} {N : Nat}
theorem WqAt.c0 (h : WqAt w p v out N) : w.cell? ⟨p, 0, none⟩ = some v := by simp [World.cell?, h.box]
theorem WqAt.c1 (h : WqAt w p v out N) : w.cell? ⟨p, 1, none⟩ = some (.int .i64 N) := by simp [World.cell?, h.box]
theorem WqAt.fz (h : WqAt w p v out N) (o : Nat) : w.frozen? ⟨p, o, none⟩ = false := by simp [World.frozen?, h.box]
theorem WqAt.drewN (h : WqAt w p v out N) (n : Nat) : WqAt (w.drewN n) p v out N := ⟨h.box, h.own, h.ne⟩
theorem WqAt.row (h : WqAt w p v out N) (hn : out ≠ []) : ∃ g cap cur, v = .slice (some ⟨g, 0, none⟩) out.length cap ∧ g ≠ p ∧ w.heap[g]? = some (.cells cur 5 (0, 0)) ∧ out.length ≤ cap ∧ cap ≤ maxLen ∧ cur.size = cap ∧ cur.toList.take out.length = cellsB out := by
  rcases h.own.2 with ⟨_, h0⟩ | ⟨g, cap, cur, hv, _, hg, h1, h2, h3, h4⟩
  · exact absurd (List.length_eq_zero_iff.1 h0) hn
  · refine ⟨g, cap, cur, hv, ?_, hg, h1, h2, by simpa using h3, by simpa using h4⟩
    intro e
    exact h.ne (by rw [hv, e]; rfl)
end
theorem WqAt.put {w : World} {p g cap : Nat} {out : List UInt8} {x : UInt8} {N : Nat} (h : WqAt w p (.slice (some ⟨g, 0, none⟩) (out.length + 1) cap) (out ++ [x]) N) (y : UInt8) (Y MI : Int) (hY : Y = y.toNat) (M : Nat) (hM : MI = M) :
    WqAt (((w.setCell ⟨g, out.length, none⟩ (.int .u8 Y)).setCell ⟨p, 1, none⟩ (.int .i64 MI)).drew) p (.slice (some ⟨g, 0, none⟩) (out.length + 1) cap) (out ++ [y]) M ∧
    Step p (.slice (some ⟨g, 0, none⟩) (out.length + 1) cap) (.slice (some ⟨g, 0, none⟩) (out.length + 1) cap) w (((w.setCell ⟨g, out.length, none⟩ (.int .u8 Y)).setCell ⟨p, 1, none⟩ (.int .i64 MI)).drew) := by
  obtain ⟨g', cap', cur, hv, hgp, hg, hl, hm, hs, ht⟩ := h.row (by simp)
  injection hv with e1 e2 e3
  injection e1 with e1
  injection e1 with e1 _ _
  subst e1 e3
  simp only [List.length_append, List.length_singleton] at hl ht
  constructor
  · refine ⟨?_, ?_, h.ne⟩
    · show ((w.setCell ⟨g, out.length, none⟩ (.int .u8 Y)).setCell ⟨p, 1, none⟩ (.int .i64 MI)).heap[p]? = _
      rw [heap_setCell_same _ _ _ _ #[.slice (some ⟨g, 0, none⟩) (out.length + 1) cap, .int .i64 (N : Int)] 35 (0, 0) (by rw [Below.heap_setCell _ _ _ _ (Ne.symm hgp)]; exact h.box), hM]
      rfl
    · refine ⟨by simp [cellsB], .inr ⟨g, cap, cur.setIfInBounds out.length (.int .u8 Y), by simp, Nat.zero_le _, ?_, by simpa using hl, hm, by simpa using hs, ?_⟩⟩
      · show ((w.setCell ⟨g, out.length, none⟩ (.int .u8 Y)).setCell ⟨p, 1, none⟩ (.int .i64 MI)).heap[g]? = _
        rw [Below.heap_setCell _ _ _ _ hgp, heap_setCell_same _ _ _ _ _ _ _ hg]
      · rw [Array.toList_setIfInBounds]
        simp only [List.length_append, List.length_singleton, Nat.mul_one]
        rw [List.take_set, ht, cellsB_append, cellsB_append, List.set_append_right _ _ (by rw [cellsB_length]; omega), cellsB_length, Nat.sub_self]
        simp [cellsB, hY]
  · refine ⟨rfl, rfl, rfl, by simp [World.setCell], fun k _ hp hv => ?_, .inl rfl⟩
    show ((w.setCell ⟨g, out.length, none⟩ (.int .u8 Y)).setCell ⟨p, 1, none⟩ (.int .i64 MI)).heap[k]? = _
    rw [Below.heap_setCell _ _ _ _ hp, Below.heap_setCell _ _ _ _ (fun e => hv (by rw [e]; rfl))]
theorem WqAt.app {w w1 : World} {p : Nat} {v v1 : Value} {out add : List UInt8} {N : Nat} (h : WqAt w p v out N) (hown : w1.ownsRow 0 5 1 v1 (out.length + add.length) (cellsB out ++ cellsB add)) (hs : w.heap.size ≤ w1.heap.size)
    (hb : ∀ k, k < w.heap.size → some k ≠ v.ownBlock → w1.heap[k]? = w.heap[k]?) (hos : w1.os = w.os) (htp : w1.tape = w.tape) (hop : w1.output = w.output)
    (hf : v1.ownBlock = v.ownBlock ∨ ∀ k, v1.ownBlock = some k → w.heap.size ≤ k) :
    WqAt (w1.setCell ⟨p, 0, none⟩ v1) p v1 (out ++ add) N ∧ Step p v v1 w (w1.setCell ⟨p, 0, none⟩ v1) := by
  have hp : p < w.heap.size := (Array.getElem?_eq_some_iff.1 h.box).1
  have hbox : w1.heap[p]? = _ := (hb p hp (Ne.symm h.ne)).trans h.box
  have hne : v1.ownBlock ≠ some p := by
    rcases hf with e | e
    · rw [e]; exact h.ne
    · intro e2; have := e p e2; omega
  refine ⟨⟨?_, ?_, hne⟩, ⟨hos, htp, hop, by simpa [World.setCell] using hs, fun k hk hkp hv => ?_, hf⟩⟩
  · rw [heap_setCell_same _ _ _ _ _ _ _ hbox]; rfl
  · have e : (out ++ add).length = out.length + add.length := by simp
    rw [e, cellsB_append]
    refine ⟨hown.1, ?_⟩
    rcases hown.2 with h2 | ⟨g, cap, cur, hv, hg, hh, r⟩
    · exact .inl h2
    · refine .inr ⟨g, cap, cur, hv, hg, ?_, r⟩
      rw [Below.heap_setCell _ _ _ _ (fun e => hne (by rw [hv, show g = p from e]; rfl))]
      exact hh
  · rw [Below.heap_setCell _ _ _ _ hkp, hb k hk hv]
theorem WqAt.app1 {w w1 : World} {p : Nat} {v v1 : Value} {out : List UInt8} {N : Nat} {o : Obj} (h : WqAt w p v out N) (hown : w1.ownsRow 0 5 1 v1 (out.length + 1) (cellsB out ++ [.int .u8 0])) (hgr : (w.alloc o).grownBy w1 v.ownBlock)
    (hf : v1.ownBlock = v.ownBlock ∨ ∀ k, v1.ownBlock = some k → (w.alloc o).heap.size ≤ k) :
    ∃ g cap, v1 = .slice (some ⟨g, 0, none⟩) (out.length + 1) cap ∧ g ≠ p ∧ w1.cell? ⟨p, 0, none⟩ = some v ∧ w1.cell? ⟨p, 1, none⟩ = some (.int .i64 N) ∧ w1.frozen? ⟨p, 0, none⟩ = false ∧ w1.frozen? ⟨p, 1, none⟩ = false ∧
      w1.cell? ⟨g, out.length, none⟩ = some (.int .u8 0) ∧ w1.frozen? ⟨g, out.length, none⟩ = false ∧ WqAt (w1.setCell ⟨p, 0, none⟩ v1) p v1 (out ++ [0]) N ∧ Step p v v1 w (w1.setCell ⟨p, 0, none⟩ v1) := by
  have hsz : (w.alloc o).heap.size = w.heap.size + 1 := by simp
  have hp : p < w.heap.size := (Array.getElem?_eq_some_iff.1 h.box).1
  have hbl : ∀ k, k < w.heap.size → some k ≠ v.ownBlock → w1.heap[k]? = w.heap[k]? := fun k hk hv => (hgr.block k (by omega) hv).trans (Below.heap_alloc _ _ _ hk)
  have hf' : v1.ownBlock = v.ownBlock ∨ ∀ k, v1.ownBlock = some k → w.heap.size ≤ k := by
    rcases hf with e | e
    · exact .inl e
    · exact .inr fun k hk => by have := e k hk; omega
  have hA := h.app (add := [0]) hown (by have := hgr.size; omega) hbl (hgr.os.trans rfl) (hgr.tape.trans rfl) (hgr.output.trans rfl) hf'
  obtain ⟨g, cap, cur, hv, hgp, hg, hl, hm, hs, ht⟩ := hA.1.row (by simp)
  have hbox : w1.heap[p]? = _ := (hbl p hp (Ne.symm h.ne)).trans h.box
  have hg1 : w1.heap[g]? = some (.cells cur 5 (0, 0)) := by rw [Below.heap_setCell _ _ _ _ hgp] at hg; exact hg
  simp only [List.length_append, List.length_singleton] at hv ht
  have hc := row_cell hg1 ht
  exact ⟨g, cap, hv, hgp, by simp [World.cell?, hbox], by simp [World.cell?, hbox], by simp [World.frozen?, hbox], by simp [World.frozen?, hbox], hc.1, hc.2, hA.1, hA.2⟩
theorem WqAt.setN {w : World} {p : Nat} {v : Value} {out : List UInt8} {N : Nat} (h : WqAt w p v out N) (MI : Int) (M : Nat) (hM : MI = M) : WqAt (w.setCell ⟨p, 1, none⟩ (.int .i64 MI)) p v out M := by
  refine ⟨?_, ?_, h.ne⟩
  · rw [heap_setCell_same _ _ _ _ _ _ _ h.box, hM]; rfl
  · refine ⟨h.own.1, ?_⟩
    rcases h.own.2 with h2 | ⟨g, cap, cur, hv, hg, hh, r⟩
    · exact .inl h2
    · refine .inr ⟨g, cap, cur, hv, hg, ?_, r⟩
      rw [Below.heap_setCell _ _ _ _ (fun e => h.ne (by rw [hv, show g = p from e]; rfl))]
      exact hh
theorem WqAt.str {w : World} {p : Nat} {v : Value} {out : List UInt8} {N : Nat} (h : WqAt w p v out N) : (convert 28 9 v).run Try.prog w = .ok (.string ⟨out.toArray⟩) w := by
  by_cases hn : out = []
  · subst hn
    rcases h.own.2 with ⟨hv, h0⟩ | ⟨g, cap, cur, hv, _, hg, h1, h2, h3, h4⟩
    · rw [hv, run_convert_bytes_string _ _ _ _ _ _ _ Try.underlying28 Try.underlying5 Try.underlying9]
      rfl
    · rw [hv, run_convert_bytes_string _ _ _ _ _ _ _ Try.underlying28 Try.underlying5 Try.underlying9, run_bytesToString _ _ _ _ ([].map fun b : UInt8 => (b.toNat : Int)) (load_row hg (by simp [cellsB]))]
      rfl
  · obtain ⟨g, cap, cur, hv, hgp, hg, hl, hm, hs, ht⟩ := h.row hn
    rw [hv, run_convert_bytes_string _ _ _ _ _ _ _ Try.underlying28 Try.underlying5 Try.underlying9, run_bytesToString _ _ _ _ (out.map fun b : UInt8 => (b.toNat : Int)) (load_row hg ht), pushes]
    simp

/-- What the document's writer sets. -/
theorem or_codeQ (x : UInt8) (k : Nat) (hk : k < 8) (b : Int) (hb : b % 2 = 1) : bits .or .u8 (x.toNat : Int) (2 ^ k % 256) = ((orBit x b k).toNat : Int) := by
  have h := or_code x b k hk
  rw [hb, Int.one_mul] at h
  exact h
set_option maxHeartbeats 800000 in
theorem qwbit_in1 (p : Nat) (v : Value) (out : List UInt8) (x : UInt8) (N : Nat) (b : Int) (w : World) (h : WqAt w p v (out ++ [x]) N) (hN : N % 8 ≠ 0) (hD : N / 8 = out.length) (hN2 : N ≤ 1000000000000) (hb1 : b % 2 = 1) :
    Calls Try.prog 26 #[.pointer (some ⟨p, 0, none⟩), .int .i64 b] w fun e w' => e = .returned (.tuple #[]) ∧ WqAt w' p v (out ++ [orBit x b (N % 8)]) (N + 1) ∧ Step p v v w w' := by
  obtain ⟨g, cap, cur, rfl, hgp, hg, hl, hm, hs, ht⟩ := h.row (by simp)
  have _c0 := h.c0
  have _c1 := h.c1
  have _f1 := h.fz 1
  have hb := and1_i64 b
  rw [hb1] at hb
  simp only [List.length_append, List.length_singleton] at *
  obtain ⟨cx, fx⟩ := row_cell hg ht
  have HH := hide h
  have hpl : (((N : Int) % 8) == 0) = false := by simp; omega
  have HO := hide (or_codeQ x (N % 8) (by omega) b hb1)
  have hq : (N : Int) / 8 = (out.length : Int) := by omega
  obtain ⟨k, hk⟩ : ∃ k, N % 8 = k := ⟨_, rfl⟩
  rw [hk] at HO hN ⊢
  have hr : (N : Int) % 8 = (k : Int) := by omega
  have hr8 : k < 8 := by omega
  clear h hs ht hg hm hb1 hk hD
  go_enter Try.func26, Try.ntmps26
  go_wp2
  go_region
  go_wp2
  go_end0
  have hp := HH.out.put (orBit x b k) _ ((N : Int) + 1) HO.out (N + 1) (by omega)
  exact ⟨rfl, hp.1, hp.2⟩

theorem qwbit_in0 (p : Nat) (v : Value) (out : List UInt8) (N : Nat) (b : Int) (w : World) (h : WqAt w p v out N) (hN : N % 8 ≠ 0) (hN2 : N ≤ 1000000000000) (hb1 : b % 2 = 0) :
    Calls Try.prog 26 #[.pointer (some ⟨p, 0, none⟩), .int .i64 b] w fun e w' => e = .returned (.tuple #[]) ∧ WqAt w' p v out (N + 1) ∧ Step p v v w w' := by
  have _c0 := h.c0
  have _c1 := h.c1
  have _f1 := h.fz 1
  have hb := and1_i64 b
  rw [hb1] at hb
  have HH := hide h
  have hpl : (((N : Int) % 8) == 0) = false := by simp; omega
  clear h hb1
  go_enter Try.func26, Try.ntmps26
  go_wp2
  go_end0
  exact ⟨rfl, HH.out.setN _ _ (by omega), Step.ofOnly (Only.setCell _ _ _ _)⟩

set_option maxHeartbeats 800000 in
theorem qwbit_new1 (p : Nat) (v : Value) (out : List UInt8) (N : Nat) (b : Int) (w : World) (h : WqAt w p v out N) (hN : N % 8 = 0) (hD : N / 8 = out.length) (hN2 : N ≤ 1000000000000) (hb1 : b % 2 = 1) :
    Calls Try.prog 26 #[.pointer (some ⟨p, 0, none⟩), .int .i64 b] w fun e w' => e = .returned (.tuple #[]) ∧ ∃ v', WqAt w' p v' (out ++ [orBit 0 b 0]) (N + 1) ∧ Step p v v' w w' := by
  have _c0 := h.c0
  have _c1 := h.c1
  have _f0 := h.fz 0
  have _f1 := h.fz 1
  have hb := and1_i64 b
  rw [hb1] at hb
  have hr : (N : Int) % 8 = 0 := by omega
  have hq : (N : Int) / 8 = (out.length : Int) := by omega
  have HO := hide (or_codeQ 0 0 (by omega) b hb1)
  have HH := hide h
  have hplt : p < w.heap.size := (Array.getElem?_eq_some_iff.1 h.box).1
  clear h hN hb1 hD
  go_enter Try.func26, Try.ntmps26
  obtain ⟨i0, hi, hz0, hz1, hz2⟩ := info_parts Try.infoU8
  go_wp2_with (first
    | (at_builtin; refine wpList_append_fresh _ rfl _ _ 28 rfl 0 5 i0 (.int .u8 0) 1 1 Try.underlying28 hi hz0 hz1 hz2 rfl (by decide) v _ _ rfl (HH.out.own.alloc _) ⟨w.heap.size, 0, none⟩ 1 1 [.int .u8 0] rfl rfl (cell_one_new _ _ _) (fun x hx => by simp at hx; subst hx; rfl) (by unfold maxLen; omega) (by omega) (by simp) ?_; intro v1 w1 hown1 hgr1 hf1; obtain ⟨g, cap, rfl, hgp, c0, c1, f0, f1, cx, fx, hA, hS⟩ := HH.out.app1 hown1 hgr1 hf1; have HA := hide hA; have HS := hide hS; clear hown1 hgr1 hf1 hA hS))
  go_region
  go_wp2
  go_end0
  have hp := HA.out.put (orBit 0 b 0) _ ((N : Int) + 1) HO.out (N + 1) (by omega)
  exact ⟨rfl, _, hp.1, HS.out.trans hp.2⟩

set_option maxHeartbeats 800000 in
theorem qwbit_new0 (p : Nat) (v : Value) (out : List UInt8) (N : Nat) (b : Int) (w : World) (h : WqAt w p v out N) (hN : N % 8 = 0) (hD : N / 8 = out.length) (hN2 : N ≤ 1000000000000) (hb1 : b % 2 = 0) :
    Calls Try.prog 26 #[.pointer (some ⟨p, 0, none⟩), .int .i64 b] w fun e w' => e = .returned (.tuple #[]) ∧ ∃ v', WqAt w' p v' (out ++ [0]) (N + 1) ∧ Step p v v' w w' := by
  have _c0 := h.c0
  have _c1 := h.c1
  have _f0 := h.fz 0
  have _f1 := h.fz 1
  have hb := and1_i64 b
  rw [hb1] at hb
  have hr : (N : Int) % 8 = 0 := by omega
  have HH := hide h
  have hplt : p < w.heap.size := (Array.getElem?_eq_some_iff.1 h.box).1
  have ho : out.length ≤ 1000000000000 := by omega
  clear h hN hb1 hD
  go_enter Try.func26, Try.ntmps26
  obtain ⟨i0, hi, hz0, hz1, hz2⟩ := info_parts Try.infoU8
  go_wp2_with (first
    | (at_builtin; refine wpList_append_fresh _ rfl _ _ 28 rfl 0 5 i0 (.int .u8 0) 1 1 Try.underlying28 hi hz0 hz1 hz2 rfl (by decide) v _ _ rfl (HH.out.own.alloc _) ⟨w.heap.size, 0, none⟩ 1 1 [.int .u8 0] rfl rfl (cell_one_new _ _ _) (fun x hx => by simp at hx; subst hx; rfl) (by unfold maxLen; omega) (by omega) (by simp) ?_; intro v1 w1 hown1 hgr1 hf1; obtain ⟨g, cap, rfl, hgp, c0, c1, f0, f1, cx, fx, hA, hS⟩ := HH.out.app1 hown1 hgr1 hf1; have HA := hide hA; have HS := hide hS; clear hown1 hgr1 hf1 hA hS))
  go_end0
  exact ⟨rfl, _, HA.out.setN _ _ (by omega), HS.out.trans (Step.ofOnly (Only.setCell _ _ _ _))⟩

/-- The document's writer holds these bits. -/
def Wq (w : World) (p : Nat) (v : Value) (bs : List Bool) : Prop := ∃ out, WqAt w p v out bs.length ∧ Packs bs out

theorem qwbit_any (p : Nat) (v : Value) (bs : List Bool) (b : Int) (w : World) (h : Wq w p v bs) (hN2 : bs.length ≤ 1000000000000) :
    Calls Try.prog 26 #[.pointer (some ⟨p, 0, none⟩), .int .i64 b] w fun e w' => e = .returned (.tuple #[]) ∧ ∃ v', Wq w' p v' (bs ++ [decide (b % 2 = 1)]) ∧ Step p v v' w w' := by
  obtain ⟨out, hw, hp⟩ := h
  have hl := hp.len
  by_cases h0 : bs.length % 8 = 0
  · by_cases hb : b % 2 = 1
    · refine (qwbit_new1 p v out bs.length b w hw h0 (by omega) hN2 hb).mono ?_
      rintro e w' ⟨rfl, v', h1, h2⟩
      refine ⟨rfl, v', ⟨_, by simpa using h1, hp.new h0 _ _ ?_⟩, h2⟩
      rw [orBit_nat _ _ _ (by omega), odd_nat]
      simp
    · refine (qwbit_new0 p v out bs.length b w hw h0 (by omega) hN2 (by omega)).mono ?_
      rintro e w' ⟨rfl, v', h1, h2⟩
      refine ⟨rfl, v', ⟨_, by simpa using h1, hp.new h0 _ _ ?_⟩, h2⟩
      rw [decide_eq_false hb]
      rfl
  · have hne : out ≠ [] := by intro e; rw [e] at hl; simp at hl; omega
    obtain ⟨o2, x, rfl⟩ : ∃ o2 x, out = o2 ++ [x] := ⟨_, _, (List.dropLast_concat_getLast hne).symm⟩
    have hl2 : bs.length / 8 = o2.length := by simp at hl; omega
    by_cases hb : b % 2 = 1
    · refine (qwbit_in1 p v o2 x bs.length b w hw h0 hl2 hN2 hb).mono ?_
      rintro e w' ⟨rfl, h1, h2⟩
      refine ⟨rfl, v, ⟨_, by simpa using h1, hp.put h0 _ _ ?_⟩, h2⟩
      rw [orBit_nat _ _ _ (by omega), odd_nat]
    · refine (qwbit_in0 p v _ bs.length b w hw h0 hN2 (by omega)).mono ?_
      rintro e w' ⟨rfl, h1, h2⟩
      refine ⟨rfl, v, ⟨_, by simpa using h1, hp.put h0 _ x ?_⟩, h2⟩
      rw [decide_eq_false hb]
      simp

end Go.Proofs.Ytaalbaiglkadlaa

/- Contracts of the document's Writer over lists of bits: Put, Turn, Align, Text, Bytes. -/
namespace Go.Proofs.Ytaalbaiglkadlaa
open Go.RowKit Go.Lib

set_option maxHeartbeats 400000 in
theorem qwput_any (p : Nat) (v : Value) (bs : List Bool) (x : Int) (k : Nat) (w : World) (hk30 : k ≤ 30) (h : Wq w p v bs) (hN2 : bs.length ≤ 900000000000) :
    Calls Try.prog 27 #[.pointer (some ⟨p, 0, none⟩), .int .i64 x, .int .i64 (k : Int)] w fun e w' => e = .returned (.tuple #[]) ∧ ∃ v', Wq w' p v' (bs ++ lowBits x k) ∧ Step p v v' w w' := by
  have H := hide h
  clear h
  go_enter Try.func27, Try.ntmps27
  go_wp2
  go_loopw [6] (fun c wr => ∃ (j : Nat) (vj : Value), j ≤ k ∧ c = .int .i64 j ∧ Hid (Wq wr p vj (bs ++ lowBits x j)) ∧ Hid (Step p v vj w wr)) (fun c _ => k - (intOf c).toNat)
  case atStart => exact ⟨0, v, Nat.zero_le _, rfl, by simpa [lowBits] using H, Step.refl _ _ _⟩
  case round =>
    obtain ⟨j, vj, hj, rfl, HR, HO⟩ := hrel
    by_cases hlt : j < k
    · have hlen : (bs ++ lowBits x j).length ≤ 1000000000000 := by simp [lowBits_length]; omega
      have zj : (j : Int) < (k : Int) := by omega
      have zj3 : (j : Int) < 30 := by omega
      go_wp2_with (first | (go_at_call 26; refine (qwbit_any p vj (bs ++ lowBits x j) _ _ HR.out hlen).mono ?_; rintro e w1 ⟨rfl, v1, hr1, ho1⟩; have HR1 := hide hr1; have HO1 := hide ho1; clear hr1 ho1))
      go_roundw
      case rel =>
        refine ⟨j + 1, v1, by omega, by go_num, ?_, HO.out.trans HO1.out⟩
        rw [lowBits_succ, ← List.append_assoc]
        exact HR1
      case measure => simp [intOf]; omega
    · have hjk : k = j := by omega
      subst hjk
      have zj : ¬ (k : Int) < (k : Int) := by omega
      go_wp2
      go_end0
      exact ⟨rfl, _, HR.out, HO.out⟩

set_option maxHeartbeats 400000 in
theorem qwturn_any (p : Nat) (v : Value) (bs : List Bool) (x : Int) (k : Nat) (w : World) (hk30 : k ≤ 30) (h : Wq w p v bs) (hN2 : bs.length ≤ 900000000000) :
    Calls Try.prog 31 #[.pointer (some ⟨p, 0, none⟩), .int .i64 x, .int .i64 (k : Int)] w fun e w' => e = .returned (.tuple #[]) ∧ ∃ v', Wq w' p v' (bs ++ highBits x k) ∧ Step p v v' w w' := by
  have H := hide h
  clear h
  have zk : (k : Int) ≤ 30 := by omega
  go_enter Try.func31, Try.ntmps31
  go_wp2
  go_loopw [6] (fun c wr => ∃ (j : Nat) (vj : Value), j ≤ k ∧ c = .int .i64 ((j : Int) - 1) ∧ Hid (Wq wr p vj (bs ++ ((lowBits x k).drop j).reverse)) ∧ Hid (Step p v vj w wr)) (fun c _ => (intOf c + 1).toNat)
  case atStart => exact ⟨k, v, Nat.le_refl _, by go_num, by rw [List.drop_eq_nil_of_le (by rw [lowBits_length]; exact Nat.le_refl _)]; simpa using H, Step.refl _ _ _⟩
  case round =>
    obtain ⟨j, vj, hj, rfl, HR, HO⟩ := hrel
    by_cases hlt : 0 < j
    · obtain ⟨m, rfl⟩ : ∃ m, j = m + 1 := ⟨j - 1, by omega⟩
      have hlen : (bs ++ ((lowBits x k).drop (m + 1)).reverse).length ≤ 1000000000000 := by simp [lowBits_length]; omega
      go_wp2_with (first | (go_at_call 26; refine (qwbit_any p vj (bs ++ ((lowBits x k).drop (m + 1)).reverse) _ _ HR.out hlen).mono ?_; rintro e w1 ⟨rfl, v1, hr1, ho1⟩; have HR1 := hide hr1; have HO1 := hide ho1; clear hr1 ho1))
      go_roundw
      case rel =>
        refine ⟨m, v1, by omega, by go_num, ?_, HO.out.trans HO1.out⟩
        rw [drop_step x k m (by omega), ← List.append_assoc]
        exact HR1
      case measure => simp [intOf]
    · have hj0 : j = 0 := by omega
      subst hj0
      go_wp2
      go_end0
      exact ⟨rfl, _, by simpa [highBits] using HR.out, HO.out⟩

theorem align_step (bs : List Bool) (h : bs.length % 8 ≠ 0) : alignBits (bs ++ [false]) = alignBits bs := by
  unfold alignBits
  rw [List.append_assoc]
  congr 1
  rw [List.length_append, List.length_singleton]
  obtain ⟨m, hm⟩ : ∃ m, (bs.length + 7) / 8 * 8 - bs.length = m + 1 := ⟨(bs.length + 7) / 8 * 8 - bs.length - 1, by omega⟩
  rw [hm, show (bs.length + 1 + 7) / 8 * 8 - (bs.length + 1) = m by omega]
  rfl
theorem align_done (bs : List Bool) (h : bs.length % 8 = 0) : alignBits bs = bs := by
  unfold alignBits
  rw [show (bs.length + 7) / 8 * 8 - bs.length = 0 by omega]
  simp

set_option maxHeartbeats 400000 in
theorem qwalign_any (p : Nat) (v : Value) (bs : List Bool) (w : World) (h : Wq w p v bs) (hN2 : bs.length ≤ 900000000000) :
    Calls Try.prog 61 #[.pointer (some ⟨p, 0, none⟩)] w fun e w' => e = .returned (.tuple #[]) ∧ ∃ v', Wq w' p v' (alignBits bs) ∧ Step p v v' w w' := by
  have H := hide h
  clear h
  go_enter Try.func61, Try.ntmps61
  go_wp2
  go_loopg [] ((alignBits bs).length - bs.length) (fun gk wr => ∃ (cs : List Bool) (vj : Value), Hid (Wq wr p vj cs) ∧ cs.length ≤ 900000000008 ∧ (cs.length + 7) / 8 * 8 - cs.length ≤ gk ∧ Hid (alignBits cs = alignBits bs) ∧ Hid (Step p v vj w wr))
  case atStart => exact ⟨bs, v, H, by omega, by rw [alignBits_length]; exact Nat.le_refl _, rfl, Step.refl _ _ _⟩
  case round =>
    obtain ⟨cs, vj, HR, hlen, hgk, HA, HS⟩ := hrel
    obtain ⟨out, hr1, hp1⟩ := HR.out
    have _c1 := hr1.c1
    clear hr1 hp1
    by_cases h0 : cs.length % 8 = 0
    · have hpl : (((cs.length : Int) % 8) == 0) = true := by simp; omega
      have HD := hide (align_done cs h0)
      go_wp2
      go_end0
      rw [← HA.out, HD.out]
      exact ⟨rfl, _, HR.out, HS.out⟩
    · have hpl : (((cs.length : Int) % 8) == 0) = false := by simp; omega
      have HD := hide (align_step cs h0)
      go_wp2_with (first | (go_at_call 26; refine (qwbit_any p vj cs _ _ HR.out (by omega)).mono ?_; rintro e w1 ⟨rfl, v1, hr1, ho1⟩; have HR1 := hide hr1; have HO1 := hide ho1; clear hr1 ho1))
      go_roundg ((cs.length + 1 + 7) / 8 * 8 - (cs.length + 1))
      case measure => omega
      case rel => exact ⟨cs ++ [false], v1, HR1, by rw [List.length_append, List.length_singleton]; omega, by rw [List.length_append, List.length_singleton]; exact Nat.le_refl _, HD.out.trans HA.out, HS.out.trans HO1.out⟩

theorem byte_bits (x : UInt8) : lowBits ((x.toNat : Nat) : Int) 8 = (List.range 8).map fun j => x.toNat.testBit j := by
  unfold lowBits
  apply List.map_congr_left
  intro i hi
  rw [Nat.testBit_eq_decide_div_mod_eq]
  have e : ((x.toNat : Int) / 2 ^ i % 2) = ((x.toNat / 2 ^ i % 2 : Nat) : Int) := by
    rw [Int.natCast_emod, Int.natCast_ediv, Int.natCast_pow]
    rfl
  rw [e]
  apply decide_eq_decide.2
  omega
theorem bytes_snoc (l : List UInt8) (x : UInt8) : bytesBits (l ++ [x]) = bytesBits l ++ lowBits ((x.toNat : Nat) : Int) 8 := by
  rw [byte_bits]
  induction l with
  | nil => simp [bytesBits]
  | cons y l ih => rw [List.cons_append, bytesBits, ih, bytesBits, List.append_assoc]

def bAt (s : ByteArray) (i : Nat) : Nat := (s.data.toList.getD i 0).toNat
theorem bAt_get (s : ByteArray) (i : Nat) (h : i < s.size) : s[i].toNat = bAt s i := by
  unfold bAt
  have hk : i < s.data.toList.length := by simpa using h
  rw [List.getD_eq_getElem?_getD, List.getElem?_eq_getElem hk]
  rfl
theorem str_index (s : ByteArray) (i : Nat) (h : i < s.size) (w : World) : (Instr.index 9 (.string s) (.int .i64 (i : Nat))).run Try.prog w = .ok (.int .u8 (bAt s i : Nat)) w := by
  have hg := bAt_get s i h
  simp [Instr.index, asIntOf, run_underlying Try.underlying9, h, hg]

set_option maxHeartbeats 400000 in
theorem qwtext_any (p : Nat) (v : Value) (bs : List Bool) (s : ByteArray) (w : World) (h : Wq w p v bs) (hN2 : bs.length ≤ 800000000000) (hs : s.size ≤ 10000000000) :
    Calls Try.prog 62 #[.pointer (some ⟨p, 0, none⟩), .string s] w fun e w' => e = .returned (.tuple #[]) ∧ ∃ v', Wq w' p v' (alignBits bs ++ bytesBits s.data.toList) ∧ Step p v v' w w' := by
  have HAL := hide (qwalign_any p v bs w h (by omega))
  clear h
  obtain ⟨n, hn⟩ : ∃ n, s.size = n := ⟨_, rfl⟩
  have HN := hide hn
  have HLL := hide (show s.data.toList.length = n by rw [Array.length_toList]; exact hn)
  have zn : ((s.size : Nat) : Int) = (n : Int) := by omega
  rw [hn] at hs
  have hal : (alignBits bs).length ≤ 800000000008 := by rw [alignBits_length]; omega
  clear hn
  go_enter Try.func62, Try.ntmps62
  go_wp2_with fail
  refine HAL.out.mono ?_
  rintro e w1 ⟨rfl, v1, hr1, ho1⟩
  have HR1 := hide hr1
  have HO1 := hide ho1
  clear hr1 ho1
  go_wp2
  go_loopw [4] (fun c wr => ∃ (j : Nat) (vj : Value), j ≤ n ∧ c = .int .i64 j ∧ Hid (Wq wr p vj (alignBits bs ++ bytesBits (s.data.toList.take j))) ∧ Hid (Step p v vj w wr)) (fun c _ => n - (intOf c).toNat)
  case atStart => exact ⟨0, v1, Nat.zero_le _, rfl, by simpa [bytesBits] using HR1, HO1⟩
  case round =>
    clear HR1 HO1
    obtain ⟨j, vj, hj, rfl, HR, HO⟩ := hrel
    by_cases hlt : j < n
    · have zj : (j : Int) < (n : Int) := by omega
      have hlen : (alignBits bs ++ bytesBits (s.data.toList.take j)).length ≤ 900000000000 := by
        have : (s.data.toList.take j).length ≤ j := by rw [List.length_take]; omega
        rw [List.length_append, bytesBits_length]
        omega
      have HIS := hide (show j < s.size by rw [HN.out]; exact hlt)
      have ix := str_index s j HIS.out
      have HB := hide (bytes_snoc (s.data.toList.take j) (s.data.toList.getD j 0))
      have HTK := hide (show s.data.toList.take (j + 1) = s.data.toList.take j ++ [s.data.toList.getD j 0] by
        rw [List.take_add_one, List.getD_eq_getElem?_getD, List.getElem?_eq_getElem (by rw [HLL.out]; exact hlt)]; rfl)
      have hb8 : bAt s j < 256 := (s.data.toList.getD j 0).toNat_lt
      obtain ⟨y, hy⟩ : ∃ y, bAt s j = y := ⟨_, rfl⟩
      have HY := hide hy
      rw [hy] at ix hb8
      clear hy
      have HP := hide (fun w' h => qwput_any p vj (alignBits bs ++ bytesBits (s.data.toList.take j)) ((y : Nat) : Int) 8 w' (by omega) h hlen)
      clear hlen
      go_wp2_with fail
      refine (HP.out _ HR.out).mono ?_
      rintro e w2 ⟨rfl, v2, hr2, ho2⟩
      have HR2 := hide hr2
      have HO2 := hide ho2
      clear hr2 ho2 ix HP
      go_wp2
      go_roundw
      case rel =>
        refine ⟨j + 1, v2, hlt, by go_num, ?_, HO.out.trans HO2.out⟩
        rw [HTK.out, HB.out, ← List.append_assoc]
        rw [← HY.out] at HR2
        exact HR2
      case measure => first | (simp [intOf]; done) | (simp [intOf]; omega)
    · have hjk : j = n := by omega
      subst hjk
      have zj : ¬ (j : Int) < (j : Int) := by omega
      go_wp2
      go_end0
      have HR2 := HR.out
      rw [← HLL.out, List.take_length] at HR2
      exact ⟨rfl, _, HR2, HO.out⟩

set_option maxHeartbeats 400000 in
theorem qwbytes_any (p : Nat) (v : Value) (bs : List Bool) (w : World) (h : Wq w p v bs) :
    Calls Try.prog 13 #[.pointer (some ⟨p, 0, none⟩)] w fun e w' => (∃ out, e = .returned (.string ⟨out.toArray⟩) ∧ Packs bs out) ∧ w = w' := by
  obtain ⟨out, hw, hp⟩ := h
  have _c0 := hw.c0
  have hcv := hw.str
  clear hw
  go_enter Try.func13, Try.ntmps13
  go_wp2
  go_ret
  exact ⟨⟨out, rfl, hp⟩, rfl⟩

end Go.Proofs.Ytaalbaiglkadlaa
