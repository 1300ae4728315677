/- Contracts of the Writer's methods: Bit. -/
import Derived.Test.YteillcfdmjmaeaaKBits0
import Derived.Test.YteillcfdmjmaeaaWorld
import Derived.Test.YteillcfdmjmaeaaAppend
import Derived.BigRegion
namespace Go.Proofs.Yteillcfdmjmaeaa
open Go.RowKit

/-- A writer lies in block p: its slice v owns the bytes out; it has N bits. -/
structure WrAt (w : World) (p : Nat) (v : Value) (out : List UInt8) (N : Nat) : Prop where
  box : w.heap[p]? = some (.cells #[v, .int .i64 (N : Int)] 48 (0, 0))
  own : w.ownsRow 0 5 1 v out.length (cellsB out)
  ne : v.ownBlock ≠ some p

section
variable {w : World} {p : Nat} {v : Value} {out : List UInt8} {N : Nat}
theorem WrAt.c0 (h : WrAt w p v out N) : w.cell? ⟨p, 0, none⟩ = some v := by simp [World.cell?, h.box]
theorem WrAt.c1 (h : WrAt w p v out N) : w.cell? ⟨p, 1, none⟩ = some (.int .i64 N) := by simp [World.cell?, h.box]
theorem WrAt.fz (h : WrAt w p v out N) (o : Nat) : w.frozen? ⟨p, o, none⟩ = false := by simp [World.frozen?, h.box]
theorem WrAt.drewN (h : WrAt w p v out N) (n : Nat) : WrAt (w.drewN n) p v out N := ⟨h.box, h.own, h.ne⟩
/-- Where there are bytes, the slice is a row of its own. -/
theorem WrAt.row (h : WrAt w p v out N) (hn : out ≠ []) : ∃ g cap cur, v = .slice (some ⟨g, 0, none⟩) out.length cap ∧ g ≠ p ∧ w.heap[g]? = some (.cells cur 5 (0, 0)) ∧ out.length ≤ cap ∧ cap ≤ maxLen ∧ cur.size = cap ∧ cur.toList.take out.length = cellsB out := by
  rcases h.own.2 with ⟨_, h0⟩ | ⟨g, cap, cur, hv, _, hg, h1, h2, h3, h4⟩
  · exact absurd (List.length_eq_zero_iff.1 h0) hn
  · refine ⟨g, cap, cur, hv, ?_, hg, h1, h2, by simpa using h3, by simpa using h4⟩
    intro e
    exact h.ne (by rw [hv, e]; rfl)
end

theorem Try.infoU8 : (Try.prog.info? 5).map (fun i => (i.zero, i.size, i.bytes)) = some (some (.int .u8 0), 1, 1) := by kernel_rfl

/-- A byte with one bit more. -/
def orBit (x : UInt8) (b : Int) (k : Nat) : UInt8 := UInt8.ofNat (x.toNat ||| (b % 2).toNat * 2 ^ k)

theorem orBit_nat (x : UInt8) (b : Int) (k : Nat) (hk : k < 8) : (orBit x b k).toNat = x.toNat ||| (b % 2).toNat * 2 ^ k := by
  unfold orBit
  have h1 : (b % 2).toNat * 2 ^ k < 2 ^ 8 := by
    have h2 : (b % 2).toNat ≤ 1 := by omega
    have h3 : (2 : Nat) ^ k ≤ 2 ^ 7 := Nat.pow_le_pow_right (by decide) (by omega)
    have h4 : (b % 2).toNat * 2 ^ k ≤ 1 * 2 ^ k := Nat.mul_le_mul_right _ h2
    omega
  have h5 : x.toNat < 2 ^ 8 := x.toNat_lt
  have := Nat.or_lt_two_pow h5 h1
  rw [UInt8.toNat_ofNat']
  exact Nat.mod_eq_of_lt this

theorem or_code (x : UInt8) (b : Int) (k : Nat) (hk : k < 8) : bits .or .u8 (x.toNat : Int) (b % 2 * 2 ^ k % 256) = ((orBit x b k).toNat : Int) := by
  rw [orBit_nat x b k hk]
  have h3 : (2 : Nat) ^ k ≤ 2 ^ 7 := Nat.pow_le_pow_right (by decide) (by omega)
  have e : (2 : Int) ^ k = ((2 ^ k : Nat) : Int) := by rw [Int.natCast_pow]; rfl
  obtain ⟨c, hc⟩ : ∃ c : Nat, b % 2 = c := ⟨(b % 2).toNat, by omega⟩
  have h2 : c ≤ 1 := by omega
  have h4 : c * 2 ^ k ≤ 1 * 2 ^ k := Nat.mul_le_mul_right _ h2
  rw [hc, e, Int.toNat_natCast, ← Int.natCast_mul]
  have e2 : ((c * 2 ^ k : Nat) : Int) % 256 = ((c * 2 ^ k : Nat) : Int) := Int.emod_eq_of_lt (by omega) (by omega)
  rw [e2, u8_or_nat _ _ x.toNat_lt (by omega)]

theorem cellsB_length (l : List UInt8) : (cellsB l).length = l.length := by simp [cellsB]
theorem cellsB_append (l m : List UInt8) : cellsB (l ++ m) = cellsB l ++ cellsB m := by simp [cellsB]

/-- The last byte and the number of bits are set. -/
theorem WrAt.put {w : World} {p g cap : Nat} {out : List UInt8} {x : UInt8} {N : Nat} (h : WrAt w p (.slice (some ⟨g, 0, none⟩) (out.length + 1) cap) (out ++ [x]) N) (y : UInt8) (Y MI : Int) (hY : Y = y.toNat) (M : Nat) (hM : MI = M) :
    WrAt (((w.setCell ⟨g, out.length, none⟩ (.int .u8 Y)).setCell ⟨p, 1, none⟩ (.int .i64 MI)).drew) p (.slice (some ⟨g, 0, none⟩) (out.length + 1) cap) (out ++ [y]) M ∧
    Step p (.slice (some ⟨g, 0, none⟩) (out.length + 1) cap) (.slice (some ⟨g, 0, none⟩) (out.length + 1) cap) w (((w.setCell ⟨g, out.length, none⟩ (.int .u8 Y)).setCell ⟨p, 1, none⟩ (.int .i64 MI)).drew) := by
  obtain ⟨g', cap', cur, hv, hgp, hg, hl, hm, hs, ht⟩ := h.row (by simp)
  injection hv with e1 e2 e3
  injection e1 with e1
  injection e1 with e1 _ _
  subst e1 e3
  simp only [List.length_append, List.length_singleton] at hl ht
  constructor
  · refine ⟨?_, ?_, h.ne⟩
    · show ((w.setCell ⟨g, out.length, none⟩ (.int .u8 Y)).setCell ⟨p, 1, none⟩ (.int .i64 MI)).heap[p]? = _
      rw [heap_setCell_same _ _ _ _ #[.slice (some ⟨g, 0, none⟩) (out.length + 1) cap, .int .i64 (N : Int)] 48 (0, 0) (by rw [Below.heap_setCell _ _ _ _ (Ne.symm hgp)]; exact h.box), hM]
      rfl
    · refine ⟨by simp [cellsB], .inr ⟨g, cap, cur.setIfInBounds out.length (.int .u8 Y), by simp, Nat.zero_le _, ?_, by simpa using hl, hm, by simpa using hs, ?_⟩⟩
      · show ((w.setCell ⟨g, out.length, none⟩ (.int .u8 Y)).setCell ⟨p, 1, none⟩ (.int .i64 MI)).heap[g]? = _
        rw [Below.heap_setCell _ _ _ _ hgp, heap_setCell_same _ _ _ _ _ _ _ hg]
      · rw [Array.toList_setIfInBounds]
        simp only [List.length_append, List.length_singleton, Nat.mul_one]
        rw [List.take_set, ht, cellsB_append, cellsB_append, List.set_append_right _ _ (by rw [cellsB_length]; omega), cellsB_length, Nat.sub_self]
        simp [cellsB, hY]
  · refine ⟨rfl, rfl, rfl, by simp [World.setCell], fun k _ hp hv => ?_, .inl rfl⟩
    show ((w.setCell ⟨g, out.length, none⟩ (.int .u8 Y)).setCell ⟨p, 1, none⟩ (.int .i64 MI)).heap[k]? = _
    rw [Below.heap_setCell _ _ _ _ hp, Below.heap_setCell _ _ _ _ (fun e => hv (by rw [e]; rfl))]

/-- What an append has made is laid into the writer's box. -/
theorem WrAt.app {w w1 : World} {p : Nat} {v v1 : Value} {out add : List UInt8} {N : Nat} (h : WrAt w p v out N) (hown : w1.ownsRow 0 5 1 v1 (out.length + add.length) (cellsB out ++ cellsB add)) (hs : w.heap.size ≤ w1.heap.size)
    (hb : ∀ k, k < w.heap.size → some k ≠ v.ownBlock → w1.heap[k]? = w.heap[k]?) (hos : w1.os = w.os) (htp : w1.tape = w.tape) (hop : w1.output = w.output)
    (hf : v1.ownBlock = v.ownBlock ∨ ∀ k, v1.ownBlock = some k → w.heap.size ≤ k) :
    WrAt (w1.setCell ⟨p, 0, none⟩ v1) p v1 (out ++ add) N ∧ Step p v v1 w (w1.setCell ⟨p, 0, none⟩ v1) := by
  have hp : p < w.heap.size := (Array.getElem?_eq_some_iff.1 h.box).1
  have hbox : w1.heap[p]? = _ := (hb p hp (Ne.symm h.ne)).trans h.box
  have hne : v1.ownBlock ≠ some p := by
    rcases hf with e | e
    · rw [e]; exact h.ne
    · intro e2; have := e p e2; omega
  refine ⟨⟨?_, ?_, hne⟩, ⟨hos, htp, hop, by simpa [World.setCell] using hs, fun k hk hkp hv => ?_, hf⟩⟩
  · rw [heap_setCell_same _ _ _ _ _ _ _ hbox]; rfl
  · have e : (out ++ add).length = out.length + add.length := by simp
    rw [e, cellsB_append]
    refine ⟨hown.1, ?_⟩
    rcases hown.2 with h2 | ⟨g, cap, cur, hv, hg, hh, r⟩
    · exact .inl h2
    · refine .inr ⟨g, cap, cur, hv, hg, ?_, r⟩
      rw [Below.heap_setCell _ _ _ _ (fun e => hne (by rw [hv, show g = p from e]; rfl))]
      exact hh
  · rw [Below.heap_setCell _ _ _ _ hkp, hb k hk hv]

theorem row_cell {w : World} {g : Nat} {cur : Array Value} {out : List UInt8} {x : UInt8} {T : TypeId} (hg : w.heap[g]? = some (.cells cur T (0, 0))) (ht : cur.toList.take (out.length + 1) = cellsB (out ++ [x])) :
    w.cell? ⟨g, out.length, none⟩ = some (.int .u8 x.toNat) ∧ w.frozen? ⟨g, out.length, none⟩ = false := by
  have e : (cur.toList.take (out.length + 1))[out.length]? = some (.int .u8 x.toNat) := by
    rw [ht, cellsB_append, List.getElem?_append_right (by rw [cellsB_length]; omega), cellsB_length, Nat.sub_self]; rfl
  rw [List.getElem?_take, if_pos (by omega)] at e
  constructor
  · simp only [World.cell?, hg]
    simpa using e
  · simp [World.frozen?, hg]

set_option maxHeartbeats 400000 in
theorem wbit_in (p : Nat) (v : Value) (out : List UInt8) (x : UInt8) (N : Nat) (b : Int) (w : World) (h : WrAt w p v (out ++ [x]) N) (hN : N % 8 ≠ 0) (hN2 : N ≤ 1000000000000) (ho : out.length ≤ 1000000000000) :
    Calls Try.prog 30 #[.pointer (some ⟨p, 0, none⟩), .int .i64 b] w fun e w' => e = .returned (.tuple #[]) ∧ WrAt w' p v (out ++ [orBit x b (N % 8)]) (N + 1) ∧ Step p v v w w' := by
  obtain ⟨g, cap, cur, rfl, hgp, hg, hl, hm, hs, ht⟩ := h.row (by simp)
  have _c0 := h.c0
  have _c1 := h.c1
  have _f1 := h.fz 1
  have ha := and7_i64 N
  have hb := and1_i64 b
  simp only [List.length_append, List.length_singleton] at *
  obtain ⟨cx, fx⟩ := row_cell hg ht
  have HH := hide h
  have hpl : (((N : Int) % 8) == 0) = false := by simp; omega
  have HO := hide (or_code x b (N % 8) (by omega))
  clear h hs ht hg hm
  go_enter Try.func30, Try.ntmps30
  go_wp2
  go_region
  go_wp2
  go_end0
  have hp := HH.out.put (orBit x b (N % 8)) _ ((N : Int) + 1) HO.out (N + 1) (by omega)
  exact ⟨rfl, hp.1, hp.2⟩

/-- All that the walk wants behind the append of one byte. -/
theorem WrAt.app1 {w w1 : World} {p : Nat} {v v1 : Value} {out : List UInt8} {N : Nat} {o : Obj} (h : WrAt w p v out N) (hown : w1.ownsRow 0 5 1 v1 (out.length + 1) (cellsB out ++ [.int .u8 0])) (hgr : (w.alloc o).grownBy w1 v.ownBlock)
    (hf : v1.ownBlock = v.ownBlock ∨ ∀ k, v1.ownBlock = some k → (w.alloc o).heap.size ≤ k) :
    ∃ g cap, v1 = .slice (some ⟨g, 0, none⟩) (out.length + 1) cap ∧ g ≠ p ∧ w1.cell? ⟨p, 0, none⟩ = some v ∧ w1.cell? ⟨p, 1, none⟩ = some (.int .i64 N) ∧ w1.frozen? ⟨p, 0, none⟩ = false ∧ w1.frozen? ⟨p, 1, none⟩ = false ∧
      w1.cell? ⟨g, out.length, none⟩ = some (.int .u8 0) ∧ w1.frozen? ⟨g, out.length, none⟩ = false ∧ WrAt (w1.setCell ⟨p, 0, none⟩ v1) p v1 (out ++ [0]) N ∧ Step p v v1 w (w1.setCell ⟨p, 0, none⟩ v1) := by
  have hsz : (w.alloc o).heap.size = w.heap.size + 1 := by simp
  have hp : p < w.heap.size := (Array.getElem?_eq_some_iff.1 h.box).1
  have hbl : ∀ k, k < w.heap.size → some k ≠ v.ownBlock → w1.heap[k]? = w.heap[k]? := fun k hk hv => (hgr.block k (by omega) hv).trans (Below.heap_alloc _ _ _ hk)
  have hf' : v1.ownBlock = v.ownBlock ∨ ∀ k, v1.ownBlock = some k → w.heap.size ≤ k := by
    rcases hf with e | e
    · exact .inl e
    · exact .inr fun k hk => by have := e k hk; omega
  have hA := h.app (add := [0]) hown (by have := hgr.size; omega) hbl (hgr.os.trans rfl) (hgr.tape.trans rfl) (hgr.output.trans rfl) hf'
  obtain ⟨g, cap, cur, hv, hgp, hg, hl, hm, hs, ht⟩ := hA.1.row (by simp)
  have hbox : w1.heap[p]? = _ := (hbl p hp (Ne.symm h.ne)).trans h.box
  have hg1 : w1.heap[g]? = some (.cells cur 5 (0, 0)) := by rw [Below.heap_setCell _ _ _ _ hgp] at hg; exact hg
  simp only [List.length_append, List.length_singleton] at hv ht
  have hc := row_cell hg1 ht
  exact ⟨g, cap, hv, hgp, by simp [World.cell?, hbox], by simp [World.cell?, hbox], by simp [World.frozen?, hbox], by simp [World.frozen?, hbox], hc.1, hc.2, hA.1, hA.2⟩

set_option maxHeartbeats 400000 in
theorem wbit_new (p : Nat) (v : Value) (out : List UInt8) (N : Nat) (b : Int) (w : World) (h : WrAt w p v out N) (hN : N % 8 = 0) (hN2 : N ≤ 1000000000000) (ho : out.length ≤ 1000000000000) :
    Calls Try.prog 30 #[.pointer (some ⟨p, 0, none⟩), .int .i64 b] w fun e w' => e = .returned (.tuple #[]) ∧ ∃ v', WrAt w' p v' (out ++ [orBit 0 b 0]) (N + 1) ∧ Step p v v' w w' := by
  have _c0 := h.c0
  have _c1 := h.c1
  have _f0 := h.fz 0
  have _f1 := h.fz 1
  have ha := and7_i64 N
  have hb := and1_i64 b
  have hpl : (((N : Int) % 8) == 0) = true := by simp; omega
  have HO := hide (show bits .or .u8 0 (b % 2 * 2 ^ (N % 8) % 256) = ((orBit 0 b 0).toNat : Int) from by rw [hN]; exact or_code 0 b 0 (by omega))
  have HH := hide h
  have hplt : p < w.heap.size := (Array.getElem?_eq_some_iff.1 h.box).1
  clear h hN
  go_enter Try.func30, Try.ntmps30
  obtain ⟨i0, hi, hz0, hz1, hz2⟩ := info_parts Try.infoU8
  go_wp2_with (first
    | (at_builtin; refine wpList_append_fresh _ rfl _ _ 46 rfl 0 5 i0 (.int .u8 0) 1 1 Try.underlying46 hi hz0 hz1 hz2 rfl (by decide) v _ _ rfl (HH.out.own.alloc _) ⟨w.heap.size, 0, none⟩ 1 1 [.int .u8 0] rfl rfl (cell_one_new _ _ _) (fun x hx => by simp at hx; subst hx; rfl) (by unfold maxLen; omega) (by omega) (by simp) ?_; intro v1 w1 hown1 hgr1 hf1; obtain ⟨g, cap, rfl, hgp, c0, c1, f0, f1, cx, fx, hA, hS⟩ := HH.out.app1 hown1 hgr1 hf1; have HA := hide hA; have HS := hide hS; clear hown1 hgr1 hf1 hA hS))
  go_region
  go_wp2
  go_end0
  have hp := HA.out.put (orBit 0 b 0) _ ((N : Int) + 1) HO.out (N + 1) (by omega)
  exact ⟨rfl, _, hp.1, HS.out.trans hp.2⟩

end Go.Proofs.Yteillcfdmjmaeaa
