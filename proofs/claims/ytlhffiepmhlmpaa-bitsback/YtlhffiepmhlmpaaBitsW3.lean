/- Contracts of the Writer's methods over lists of bits: Text, Bytes. -/
import Derived.Test.YtlhffiepmhlmpaaBitsW2
namespace Go.Proofs.Ytlhffiepmhlmpaa
open Go.RowKit Go.Lib

/-- The bits of bytes. -/
def bytesBits : List UInt8 → List Bool
  | [] => []
  | x :: l => (List.range 8).map (fun j => x.toNat.testBit j) ++ bytesBits l

theorem bytesBits_length (l : List UInt8) : (bytesBits l).length = 8 * l.length := by
  induction l with
  | nil => rfl
  | cons x l ih => simp only [bytesBits, List.length_append, List.length_map, List.length_range, ih, List.length_cons]; omega

theorem bytesBits_getD (l : List UInt8) : ∀ i, (bytesBits l).getD i false = (l.getD (i / 8) 0).toNat.testBit (i % 8) := by
  induction l with
  | nil => intro i; simp [bytesBits]
  | cons x l ih =>
    intro i
    simp only [bytesBits, List.getD_eq_getElem?_getD, List.getElem?_append, List.length_map, List.length_range]
    by_cases h : i < 8
    · rw [if_pos h, List.getElem?_map, List.getElem?_range h, show i / 8 = 0 by omega, show i % 8 = i by omega]
      rfl
    · rw [if_neg h]
      have := ih (i - 8)
      simp only [List.getD_eq_getElem?_getD] at this
      rw [this, show (i - 8) % 8 = i % 8 by omega]
      obtain ⟨k, hk⟩ : ∃ k, i / 8 = k + 1 := ⟨i / 8 - 1, by omega⟩
      rw [hk, show (i - 8) / 8 = k by omega, List.getElem?_cons_succ]

theorem Packs.text {bs : List Bool} {out : List UInt8} (h : Packs bs out) (hN : bs.length % 8 = 0) (l : List UInt8) : Packs (bs ++ bytesBits l) (out ++ l) := by
  have hl := h.len
  refine ⟨by simp only [List.length_append, bytesBits_length]; omega, fun i => ?_⟩
  have hi := h.bit i
  simp only [List.getD_eq_getElem?_getD, List.getElem?_append] at hi ⊢
  by_cases h1 : i < bs.length
  · rw [if_pos h1, if_pos (by omega)]
    exact hi
  · rw [if_neg h1, if_neg (by omega)]
    have := bytesBits_getD l (i - bs.length)
    simp only [List.getD_eq_getElem?_getD] at this
    rw [this, show (i - bs.length) / 8 = i / 8 - out.length by omega, show (i - bs.length) % 8 = i % 8 by omega]

theorem pushes (l : List UInt8) : ∀ s : ByteArray, (l.map fun b => (b.toNat : Int)).foldl (fun r n => r.push (UInt8.ofNat n.toNat)) s = ⟨(s.data.toList ++ l).toArray⟩ := by
  induction l with
  | nil => intro s; simp
  | cons x l ih =>
    intro s
    rw [List.map_cons, List.foldl_cons, ih]
    simp [ByteArray.push]

theorem load_row {P : Program} {w : World} {g : Nat} {cur : Array Value} {T : TypeId} {z : Nat × Nat} {out : List UInt8} (hg : w.heap[g]? = some (.cells cur T z)) (ht : cur.toList.take out.length = cellsB out) :
    (loadCells ⟨g, 0, none⟩ out.length).run P w = .ok ((out.map fun b => (b.toNat : Int)).map (Value.int .u8)).toArray w := by
  have h := run_loadCells_list (P := P) (w := w) ⟨g, 0, none⟩ (cellsB out) (by
    intro j u hu
    rw [← ht, List.getElem?_take] at hu
    split at hu
    · have hadd : (⟨g, 0, none⟩ : Addr).add j = ⟨g, j, none⟩ := by unfold Addr.add; split <;> simp_all
      rw [hadd]
      simp only [World.cell?, hg]
      simpa using hu
    · cases hu)
  rw [show (cellsB out).length = out.length by simp [cellsB]] at h
  rw [h]
  simp [cellsB, List.map_map]

theorem WrAt.str {w : World} {p : Nat} {v : Value} {out : List UInt8} {N : Nat} (h : WrAt w p v out N) : (convert 37 9 v).run Try.prog w = .ok (.string ⟨out.toArray⟩) w := by
  by_cases hn : out = []
  · subst hn
    rcases h.own.2 with ⟨hv, h0⟩ | ⟨g, cap, cur, hv, _, hg, h1, h2, h3, h4⟩
    · rw [hv, run_convert_bytes_string _ _ _ _ _ _ _ Try.underlying37 Try.underlying5 Try.underlying9]
      rfl
    · rw [hv, run_convert_bytes_string _ _ _ _ _ _ _ Try.underlying37 Try.underlying5 Try.underlying9, run_bytesToString _ _ _ _ ([].map fun b : UInt8 => (b.toNat : Int)) (load_row hg (by simp [cellsB]))]
      rfl
  · obtain ⟨g, cap, cur, hv, hgp, hg, hl, hm, hs, ht⟩ := h.row hn
    rw [hv, run_convert_bytes_string _ _ _ _ _ _ _ Try.underlying37 Try.underlying5 Try.underlying9, run_bytesToString _ _ _ _ (out.map fun b : UInt8 => (b.toNat : Int)) (load_row hg ht), pushes]
    simp

set_option maxHeartbeats 400000 in
theorem wbytes_at (p : Nat) (v : Value) (out : List UInt8) (N : Nat) (w : World) (hw : WrAt w p v out N) :
    Calls Try.prog 24 #[.pointer (some ⟨p, 0, none⟩)] w fun e w' => e = .returned (.string ⟨out.toArray⟩) ∧ w' = w := by
  have _c0 := hw.c0
  have hcv := hw.str
  clear hw
  go_enter Try.func24, Try.ntmps24
  go_wp2
  go_ret
  exact ⟨rfl, rfl⟩

set_option maxHeartbeats 400000 in
theorem wbytes_any (p : Nat) (v : Value) (bs : List Bool) (w : World) (h : Wr w p v bs) :
    Calls Try.prog 24 #[.pointer (some ⟨p, 0, none⟩)] w fun e w' => (∃ out, e = .returned (.string ⟨out.toArray⟩) ∧ Packs bs out) ∧ w = w' := by
  obtain ⟨out, hw, hp⟩ := h
  have _c0 := hw.c0
  have hcv := hw.str
  clear hw
  go_enter Try.func24, Try.ntmps24
  go_wp2
  go_ret
  exact ⟨⟨out, rfl, hp⟩, rfl⟩

/-- All that the walk wants behind the append of a string. -/
theorem WrAt.appS {w w1 : World} {p : Nat} {v v1 : Value} {out : List UInt8} {N : Nat} {s : ByteArray} (h : WrAt w p v out N) (hown : w1.ownsRow 0 5 1 v1 (out.length + s.size) (cellsB out ++ strCells s)) (hgr : w.grownBy w1 v.ownBlock)
    (hf : v1.ownBlock = v.ownBlock ∨ ∀ k, v1.ownBlock = some k → w.heap.size ≤ k) :
    ∃ a n cap, v1 = .slice a n cap ∧ w1.cell? ⟨p, 0, none⟩ = some v ∧ w1.cell? ⟨p, 1, none⟩ = some (.int .i64 N) ∧ w1.frozen? ⟨p, 0, none⟩ = false ∧ w1.frozen? ⟨p, 1, none⟩ = false ∧
      WrAt (w1.setCell ⟨p, 0, none⟩ v1) p v1 (out ++ s.data.toList) N ∧ Step p v v1 w (w1.setCell ⟨p, 0, none⟩ v1) := by
  have hp : p < w.heap.size := (Array.getElem?_eq_some_iff.1 h.box).1
  have hbl : ∀ k, k < w.heap.size → some k ≠ v.ownBlock → w1.heap[k]? = w.heap[k]? := fun k hk hv => hgr.block k hk hv
  have hA := h.app (add := s.data.toList) (by rw [Array.length_toList]; exact hown) hgr.size hbl hgr.os hgr.tape hgr.output hf
  have hbox : w1.heap[p]? = _ := (hbl p hp (Ne.symm h.ne)).trans h.box
  have hv : ∃ a n cap, v1 = .slice a n cap := by
    rcases hown.2 with ⟨e, _⟩ | ⟨g, cap, cur, e, _⟩
    · exact ⟨_, _, _, e⟩
    · exact ⟨_, _, _, e⟩
  obtain ⟨a, n, cap, hv⟩ := hv
  exact ⟨a, n, cap, hv, by simp [World.cell?, hbox], by simp [World.cell?, hbox], by simp [World.frozen?, hbox], by simp [World.frozen?, hbox], hA.1, hA.2⟩

set_option maxHeartbeats 400000 in
theorem wtext_any (p : Nat) (v : Value) (bs : List Bool) (s : ByteArray) (w : World) (h : Wr w p v bs) (hN2 : bs.length ≤ 800000000000) (hs : s.size ≤ 10000000000) :
    Calls Try.prog 23 #[.pointer (some ⟨p, 0, none⟩), .string s] w fun e w' => e = .returned (.tuple #[]) ∧ ∃ v', Wr w' p v' (alignBits bs ++ bytesBits s.data.toList) ∧ Step p v v' w w' := by
  have H := hide h
  clear h
  have hlen : (alignBits bs).length ≤ 900000000000 := by rw [alignBits_length]; omega
  obtain ⟨i0, hi, hz0, hz1, hz2⟩ := info_parts Try.infoU8
  go_enter Try.func23, Try.ntmps23
  go_wp2_with (first
    | (go_at_call 22; refine (walign_any p v bs _ H.out (by omega)).mono ?_; rintro e w1 ⟨rfl, ⟨out, hr1, hp1⟩, ho1⟩; have _c0 := hr1.c0; have _c1 := hr1.c1; have _f0 := hr1.fz 0; have _f1 := hr1.fz 1; have hol : out.length ≤ 100000000001 := (by have := hp1.len; rw [alignBits_length] at this; omega); have HR1 := hide hr1; have HP := hide hp1; have HO1 := hide ho1; clear hr1 hp1 ho1)
    | (at_builtin; refine wpList_append_fresh_string _ rfl _ _ 37 9 rfl 0 5 i0 Try.underlying37 Try.underlying9 hi hz0 hz1 hz2 v _ _ rfl HR1.out.own s rfl (by unfold maxLen; omega) (by omega) (Nat.zero_le _) ?_; intro v1 w2 hown hgr hf; obtain ⟨a1, n1, cap1, rfl, c0, c1, f0, f1, hA, hS⟩ := HR1.out.appS hown hgr hf; have HA := hide hA; have HS := hide hS; clear hown hgr hf hA hS))
  go_end0
  refine ⟨rfl, _, ⟨_, HA.out.setN _ _ ?_, HP.out.text (by rw [alignBits_length]; omega) _⟩, ((Step.ofOnly HO1.out).trans HS.out).trans (Step.ofOnly (Only.setCell _ _ _ _))⟩
  simp only [List.length_append, bytesBits_length, Array.length_toList]
  have : s.data.size = s.size := rfl
  omega

end Go.Proofs.Ytlhffiepmhlmpaa
