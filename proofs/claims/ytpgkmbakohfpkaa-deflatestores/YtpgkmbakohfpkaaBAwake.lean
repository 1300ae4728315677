/- The document's examples of layer 9 hold: 'awake' answers true. -/
import Derived.Test.YtpgkmbakohfpkaaBSpec
namespace Go.Proofs.Ytpgkmbakohfpkaa
open Go.RowKit Go.Lib

theorem takenI_nat (k : Nat) (h : k ≤ 30) : takenI (k : Int) = (k : Int) := by
  unfold takenI
  rw [if_neg (by omega), if_neg (by omega)]
theorem Packs.of {bs : List Bool} {out : List UInt8} (k : Nat) (h : bs ++ List.replicate k false = bytesBits out) (hl : out.length = (bs.length + 7) / 8) : Packs bs out := by
  refine ⟨hl, fun i => ?_⟩
  rw [← bytesBits_getD, ← h]
  simp only [List.getD_eq_getElem?_getD, List.getElem?_append]
  by_cases hi : i < bs.length
  · rw [if_pos hi]
  · rw [if_neg hi, List.getElem?_replicate]
    have e : bs[i]? = none := List.getElem?_eq_none (by omega)
    rw [e]
    split <;> rfl
def ex9 : List (Nat × Int × Int) := [(97, 0, 0)]
theorem ex9_right : ∀ t ∈ ex9, RightT t := by
  intro t ht
  rw [List.mem_singleton.1 ht]
  exact ⟨by decide, fun h => absurd h (by decide)⟩
theorem ex9_bits : [true] ++ (lowBits 1 2 ++ bodyBits plainL plainD ex9) ++ List.replicate 6 false = bytesBits [75, 4, 0] := by decide +kernel
theorem ex9_len : ([true] ++ (lowBits 1 2 ++ bodyBits plainL plainD ex9)).length = 18 := by decide +kernel
theorem ex9_block {ob : List Bool} (h : BlockRel ex9 1 true ob) : Packs ob [75, 4, 0] := by
  rcases h with ⟨h1, _⟩ | ⟨_, rfl⟩
  · exact absurd h1 (by decide)
  · exact Packs.of 6 ex9_bits (by rw [ex9_len]; rfl)
def exS9 : ByteArray := ⟨#[97, 98]⟩
theorem ex9_store : storeAll [] exS9 true = bytesBits [1, 2, 0, 253, 255, 97, 98] := by decide +kernel
theorem ex9_packs : Packs (storeAll [] exS9 true) [1, 2, 0, 253, 255, 97, 98] := Packs.of 0 (by rw [List.replicate_zero, List.append_nil]; exact ex9_store) (by rw [ex9_store, bytesBits_length]; rfl)
/-- A header is no less than 26 bits. -/
theorem headRel_ge {x y : List Nat} {hb : List Bool} (h : HeadRel x y hb) : 26 ≤ hb.length := by
  obtain ⟨rs, hl, _, _, rfl⟩ := h
  have h4 := ordN_four hl 19 (by omega)
  have h9 := ordN_le hl 19
  have key : ∀ k, k ≤ 19 → (ordBits hl k).length = 3 * k := by
    intro k
    induction k with
    | zero => intro _; rfl
    | succ k ih =>
      intro hk
      rw [ordBits_succ hl k (by omega), List.length_append, ih (by omega), lowBits_length]
      omega
  have hk := key _ h9
  unfold headBits
  simp only [List.length_append, lowBits_length]
  omega
theorem ex9_choose {c : Int} (h : ChooseRel ex9 1 0 c) : c = 1 := by
  obtain ⟨f, r, d, h1, h2, h3, rfl⟩ := h
  have hf : f = 18 := by
    rcases h1 with ⟨e, _⟩ | ⟨_, ob, hb, _, rfl⟩
    · exact absurd e (by decide)
    · rcases hb with ⟨e, _⟩ | ⟨_, rfl⟩
      · exact absurd e (by decide)
      · have := ex9_len
        simp only [List.length_append, List.length_singleton] at this ⊢
        omega
  have hr : r = 48 := by
    rcases h2 with ⟨_, rfl⟩ | ⟨e, _⟩
    · decide
    · exact absurd rfl e
  have hd : 29 ≤ d := by
    rcases h3 with ⟨e, _⟩ | ⟨_, ob, hb, _, rfl⟩
    · exact absurd e (by decide)
    · rcases hb with ⟨_, hb, hh, rfl⟩ | ⟨e, _⟩
      · have := headRel_ge hh
        simp only [List.length_append, List.length_singleton, lowBits_length]
        omega
      · exact absurd rfl e
  subst hf hr
  exact (choose_fix1 (by omega) (by omega)).symm
theorem ex9_size {l : List (Nat × Int × Int)} {raw z : Int} (h : SizeRel l raw 0 0 z) : z = rawSize raw 0 := by
  rcases h with ⟨_, rfl⟩ | ⟨e, _⟩
  · rfl
  · exact absurd rfl e
theorem lit_tok (w : World) (b : Nat) (x y : Int) : ArgT (w.alloc (.cells #[.int .i64 x, .int .i64 y, .int .u8 (b : Int)] 45)) (some ⟨w.heap.size, 0, none⟩) [(b, x, y)] := by
  intro i t hi
  have h0 : i = 0 := by
    have := (List.getElem?_eq_some_iff.1 hi).1
    simp at this
    exact this
  subst h0
  simp at hi
  subst hi
  have hh : (w.alloc (.cells #[.int .i64 x, .int .i64 y, .int .u8 (b : Int)] 45)).heap[w.heap.size]? = some (.cells #[.int .i64 x, .int .i64 y, .int .u8 (b : Int)] 45 (0, 0)) := by show (w.heap.push _)[w.heap.size]? = _; simp
  refine ⟨w.heap.size, 0, rfl, by show _ < (w.heap.push _).size; simp, ?_, ?_, ?_⟩
  · rw [cell_of_row _ _ _ _ _ (0, 0) hh]; rfl
  · rw [cell_of_row _ _ _ _ _ (0, 0) hh]; rfl
  · rw [cell_of_row _ _ _ _ _ (0, 0) hh]; rfl
theorem new_wr (w : World) : Wr (w.alloc (.cells #[.slice none 0 0, .int .i64 0] 31)) w.heap.size (.slice none 0 0) [] :=
  ⟨[], ⟨by show (w.heap.push _)[w.heap.size]? = _; simp, World.ownsRow_nil _ _ _ _, fun e => by cases e⟩, Packs.nil⟩
/-- A writer stays while another one writes. -/
theorem Wr.other {w w' : World} {p q : Nat} {v u u' : Value} {bs : List Bool} (h : Wr w p v bs) (s : Step q u u' w w') (hp : FreeB q u w p) (hv : ∀ k, v.ownBlock = some k → FreeB q u w k) : Wr w' p v bs := by
  obtain ⟨out, hw, hpk⟩ := h
  have hb : ∀ k, FreeB q u w k → w'.heap[k]? = w.heap[k]? := fun k hk => s.block k hk.1 hk.2.1 (fun e => hk.2.2 e.symm)
  refine ⟨out, ⟨(hb p hp).trans hw.box, ?_, hw.ne⟩, hpk⟩
  refine ⟨hw.own.1, ?_⟩
  rcases hw.own.2 with h2 | ⟨g, cap, cur, e, hg, hh, r⟩
  · exact .inl h2
  · exact .inr ⟨g, cap, cur, e, hg, (hb g (hv g (by rw [e]; rfl))).trans hh, r⟩
theorem Wr.size {w : World} {p : Nat} {v : Value} {bs : List Bool} (h : Wr w p v bs) : w.cell? ⟨p, 1, none⟩ = some (.int .i64 (bs.length : Nat)) := by
  obtain ⟨out, h1, _⟩ := h
  exact h1.c1
/-- A writer that is new turns nothing old. -/
theorem Step.new {W w w' : World} {p : Nat} {v v' : Value} (s : Step p v v' w w') (b : Below W.heap.size W w) (hp : W.heap.size ≤ p) (hv : ∀ k, v.ownBlock = some k → W.heap.size ≤ k) : Below W.heap.size W w' :=
  b.trans ⟨s.os, s.tape, s.output, s.size, fun k hk => s.block k (Nat.lt_of_lt_of_le hk b.size) (by omega) (fun e => by have := hv k e.symm; omega)⟩

end Go.Proofs.Ytpgkmbakohfpkaa
