import Derived.Test.YtaalbaiglkadlaaGreatBK
import Derived.Test.YtaalbaiglkadlaaGreatMA
/- Contracts of the document's layer 9: Store, Size, Choose. -/
namespace Go.Proofs.YtaalbaiglkadlaaGreat
open Go.RowKit Go.Lib

/-- The bits of a writer that held bs, behind a stored block. -/
def storeAll (bs : List Bool) (s : ByteArray) (last : Bool) : List Bool :=
  alignBits (alignBits (bs ++ [last] ++ lowBits 0 2) ++ lowBits (s.size : Int) 16 ++ lowBits (65535 - (s.size : Int)) 16) ++ bytesBits s.data.toList

theorem storeAll_length (bs : List Bool) (s : ByteArray) (last : Bool) : (storeAll bs s last).length = (bs.length + 3 + 7) / 8 * 8 + 32 + 8 * s.size := by
  unfold storeAll
  have : s.data.size = s.size := rfl
  simp only [List.length_append, alignBits_length, lowBits_length, bytesBits_length, Array.length_toList, List.length_singleton]
  omega

/-- How many bits a stored block has. -/
def rawSize (raw k : Int) : Int := if raw < 0 ∨ 65535 < raw then -1 else 3 + (8 - (k + 3) % 8) % 8 + 32 + 8 * raw
def SizeRel (l : List (Nat × Int × Int)) (raw kind k z : Int) : Prop := (kind = 0 ∧ z = rawSize raw k) ∨ (kind ≠ 0 ∧ ∃ ob, BlockRel l kind false ob ∧ ob.length ≤ 200000 ∧ z = (ob.length : Int))
theorem SizeRel.uniq {l : List (Nat × Int × Int)} {raw kind k z z' : Int} (h : SizeRel l raw kind k z) (g : SizeRel l raw kind k z') : z = z' := by
  rcases h with ⟨h1, rfl⟩ | ⟨h1, ob, h2, _, rfl⟩
  · rcases g with ⟨_, rfl⟩ | ⟨g1, _⟩
    · rfl
    · exact absurd h1 g1
  · rcases g with ⟨g1, _⟩ | ⟨_, ob', g2, _, rfl⟩
    · exact absurd g1 h1
    · rw [h2.uniq g2]
theorem SizeRel.range {l : List (Nat × Int × Int)} {raw kind k z : Int} (h : SizeRel l raw kind k z) : -1 ≤ z ∧ z ≤ 1000000 := by
  rcases h with ⟨_, rfl⟩ | ⟨_, ob, _, h3, rfl⟩
  · unfold rawSize
    split <;> omega
  · omega

/-- Which kind is chosen. -/
def chooseI (f r d : Int) : Int := if d < (if 0 ≤ r ∧ r ≤ f then r else f) then 2 else if 0 ≤ r ∧ r ≤ f then 0 else 1
theorem choose_raw2 {f r d : Int} (h : 0 ≤ r ∧ r ≤ f) (h3 : d < r) : 2 = chooseI f r d := by unfold chooseI; simp only [if_pos h]; rw [if_pos h3]
theorem choose_raw0 {f r d : Int} (h : 0 ≤ r ∧ r ≤ f) (h3 : ¬ d < r) : 0 = chooseI f r d := by unfold chooseI; simp only [if_pos h]; rw [if_neg h3]
theorem choose_fix2 {f r d : Int} (h : ¬ (0 ≤ r ∧ r ≤ f)) (h3 : d < f) : 2 = chooseI f r d := by unfold chooseI; simp only [if_neg h]; rw [if_pos h3]
theorem choose_fix1 {f r d : Int} (h : ¬ (0 ≤ r ∧ r ≤ f)) (h3 : ¬ d < f) : 1 = chooseI f r d := by unfold chooseI; simp only [if_neg h]; rw [if_neg h3]
def ChooseRel (l : List (Nat × Int × Int)) (raw k c : Int) : Prop := ∃ f r d, SizeRel l raw 1 k f ∧ SizeRel l raw 0 k r ∧ SizeRel l raw 2 k d ∧ c = chooseI f r d
theorem ChooseRel.uniq {l : List (Nat × Int × Int)} {raw k c c' : Int} (h : ChooseRel l raw k c) (g : ChooseRel l raw k c') : c = c' := by
  obtain ⟨f, r, d, h1, h2, h3, rfl⟩ := h
  obtain ⟨f', r', d', g1, g2, g3, rfl⟩ := g
  rw [h1.uniq g1, h2.uniq g2, h3.uniq g3]

end Go.Proofs.YtaalbaiglkadlaaGreat

/- What the program's layer 9 must be, in one structure; and the statements' small helpers: right, same. -/
namespace Go.Proofs.YtaalbaiglkadlaaGreat
open Go.RowKit Go.Lib

def WriteRPost (W : World) (l : List (Nat × Int × Int)) (kind : Int) (last : Bool) (p : Nat) (v : Value) (bs : List Bool) (e : Ending) (w' : World) : Prop := e = .returned (.tuple #[]) ∧ ∃ ob v', BlockRel l kind last ob ∧ ob.length ≤ 200000 ∧ Wr w' p v' (bs ++ ob) ∧ Step p v v' W w'

/-- The contracts of the program's calls. -/
structure BSpec : Prop where
  plain : ∀ (W : World), Calls Tryz.prog 26 #[] W fun e w' => TwoN W plainL plainD e w'
  weights : ∀ (l : List (Nat × Int × Int)) (a : Option Addr) (cap : Nat) (W : World), ArgT W a l → (a = none → cap = 0) → (∀ t ∈ l, RightT t) → l.length ≤ 2000 → Calls Tryz.prog 59 #[.slice a l.length cap] W fun e w' => TwoN W (litWs l) (distWs l) e w'
  own : ∀ (l : List (Nat × Int × Int)) (a : Option Addr) (cap : Nat) (W : World), ArgT W a l → (a = none → cap = 0) → (∀ t ∈ l, RightT t) → l.length ≤ 2000 → Calls Tryz.prog 47 #[.slice a l.length cap] W fun e w' => TwoN W (ownLit l) (ownDist l) e w'
  write : ∀ (l : List (Nat × Int × Int)) (a : Option Addr) (cap : Nat) (kind : Int) (last : Bool) (p : Nat) (v : Value) (bs : List Bool) (W : World), Wr W p v bs → bs.length ≤ 500000 → KT p v W a l → (a = none → cap = 0) → (∀ t ∈ l, RightT t) → l.length ≤ 2000 → Calls Tryz.prog 35 #[.pointer (some ⟨p, 0, none⟩), .slice a l.length cap, .int .i64 kind, .bool last] W fun e w' => WriteRPost W l kind last p v bs e w'
  store : ∀ (p : Nat) (v : Value) (bs : List Bool) (s : ByteArray) (last : Bool) (W : World), Wr W p v bs → bs.length ≤ 500000 → s.size ≤ 65535 → Calls Tryz.prog 16 #[.pointer (some ⟨p, 0, none⟩), .string s, .bool last] W fun e w' => e = .returned (.tuple #[]) ∧ ∃ v', Wr w' p v' (storeAll bs s last) ∧ Step p v v' W w'
  size : ∀ (l : List (Nat × Int × Int)) (a : Option Addr) (cap : Nat) (raw kind k : Int) (W : World), ArgT W a l → (a = none → cap = 0) → (∀ t ∈ l, RightT t) → l.length ≤ 2000 → 0 ≤ k → k ≤ 1099511627776 → 0 ≤ kind → kind ≤ 2 → Calls Tryz.prog 44 #[.slice a l.length cap, .int .i64 raw, .int .i64 kind, .int .i64 k] W fun e w' => ∃ z, e = .returned (.int .i64 z) ∧ SizeRel l raw kind k z ∧ Below W.heap.size W w'
  choose : ∀ (l : List (Nat × Int × Int)) (a : Option Addr) (cap : Nat) (raw k : Int) (W : World), ArgT W a l → (a = none → cap = 0) → (∀ t ∈ l, RightT t) → l.length ≤ 2000 → 0 ≤ k → k ≤ 1099511627776 → Calls Tryz.prog 34 #[.slice a l.length cap, .int .i64 raw, .int .i64 k] W fun e w' => ∃ c, e = .returned (.int .i64 c) ∧ ChooseRel l raw k c ∧ Below W.heap.size W w'

/-- Matches that may be. -/
def matchOk (t : Nat × Int × Int) : Bool := !(decide (0 < t.2.1) && (decide (t.2.1 < 3) || decide (258 < t.2.1) || decide (t.2.2 < 1) || decide (32768 < t.2.2)))
def rightB (l : List (Nat × Int × Int)) : Bool := l.all matchOk && decide (l.length ≤ 200)
theorem matchOk_iff (t : Nat × Int × Int) : matchOk t = true ↔ (0 < t.2.1 → (3 ≤ t.2.1 ∧ t.2.1 ≤ 258) ∧ (1 ≤ t.2.2 ∧ t.2.2 ≤ 32768)) := by
  unfold matchOk
  simp only [Bool.not_eq_true', Bool.and_eq_false_iff, Bool.or_eq_false_iff, decide_eq_false_iff_not]
  omega
theorem right_all {l : List (Nat × Int × Int)} (h : rightB l = true) (hb : ∀ t ∈ l, t.1 < 256) : (∀ t ∈ l, RightT t) ∧ l.length ≤ 200 := by
  unfold rightB at h
  rw [Bool.and_eq_true, decide_eq_true_eq, List.all_eq_true] at h
  exact ⟨fun t ht => ⟨hb t ht, (matchOk_iff t).1 (h.1 t ht)⟩, h.2⟩

end Go.Proofs.YtaalbaiglkadlaaGreat

/- The document's examples of layer 9 hold: 'awake' answers true. -/
namespace Go.Proofs.YtaalbaiglkadlaaGreat
open Go.RowKit Go.Lib

theorem takenI_nat (k : Nat) (h : k ≤ 30) : takenI (k : Int) = (k : Int) := by
  unfold takenI
  rw [if_neg (by omega), if_neg (by omega)]
theorem Packs.of {bs : List Bool} {out : List UInt8} (k : Nat) (h : bs ++ List.replicate k false = bytesBits out) (hl : out.length = (bs.length + 7) / 8) : Packs bs out := by
  refine ⟨hl, fun i => ?_⟩
  rw [← bytesBits_getD, ← h]
  simp only [List.getD_eq_getElem?_getD, List.getElem?_append]
  by_cases hi : i < bs.length
  · rw [if_pos hi]
  · rw [if_neg hi, List.getElem?_replicate]
    have e : bs[i]? = none := List.getElem?_eq_none (by omega)
    rw [e]
    split <;> rfl
def ex9 : List (Nat × Int × Int) := [(97, 0, 0)]
theorem ex9_right : ∀ t ∈ ex9, RightT t := by
  intro t ht
  rw [List.mem_singleton.1 ht]
  exact ⟨by decide, fun h => absurd h (by decide)⟩
theorem ex9_bits : [true] ++ (lowBits 1 2 ++ bodyBits plainL plainD ex9) ++ List.replicate 6 false = bytesBits [75, 4, 0] := by decide +kernel
theorem ex9_len : ([true] ++ (lowBits 1 2 ++ bodyBits plainL plainD ex9)).length = 18 := by decide +kernel
theorem ex9_block {ob : List Bool} (h : BlockRel ex9 1 true ob) : Packs ob [75, 4, 0] := by
  rcases h with ⟨h1, _⟩ | ⟨_, rfl⟩
  · exact absurd h1 (by decide)
  · exact Packs.of 6 ex9_bits (by rw [ex9_len]; rfl)
def exS9 : ByteArray := ⟨#[97, 98]⟩
theorem ex9_store : storeAll [] exS9 true = bytesBits [1, 2, 0, 253, 255, 97, 98] := by decide +kernel
theorem ex9_packs : Packs (storeAll [] exS9 true) [1, 2, 0, 253, 255, 97, 98] := Packs.of 0 (by rw [List.replicate_zero, List.append_nil]; exact ex9_store) (by rw [ex9_store, bytesBits_length]; rfl)
/-- A header is no less than 26 bits. -/
theorem headRel_ge {x y : List Nat} {hb : List Bool} (h : HeadRel x y hb) : 26 ≤ hb.length := by
  obtain ⟨rs, hl, _, _, rfl⟩ := h
  have h4 := ordN_four hl 19 (by omega)
  have h9 := ordN_le hl 19
  have key : ∀ k, k ≤ 19 → (ordBits hl k).length = 3 * k := by
    intro k
    induction k with
    | zero => intro _; rfl
    | succ k ih =>
      intro hk
      rw [ordBits_succ hl k (by omega), List.length_append, ih (by omega), lowBits_length]
      omega
  have hk := key _ h9
  unfold headBits
  simp only [List.length_append, lowBits_length]
  omega
theorem ex9_choose {c : Int} (h : ChooseRel ex9 1 0 c) : c = 1 := by
  obtain ⟨f, r, d, h1, h2, h3, rfl⟩ := h
  have hf : f = 18 := by
    rcases h1 with ⟨e, _⟩ | ⟨_, ob, hb, _, rfl⟩
    · exact absurd e (by decide)
    · rcases hb with ⟨e, _⟩ | ⟨_, rfl⟩
      · exact absurd e (by decide)
      · have := ex9_len
        simp only [List.length_append, List.length_singleton] at this ⊢
        omega
  have hr : r = 48 := by
    rcases h2 with ⟨_, rfl⟩ | ⟨e, _⟩
    · decide
    · exact absurd rfl e
  have hd : 29 ≤ d := by
    rcases h3 with ⟨e, _⟩ | ⟨_, ob, hb, _, rfl⟩
    · exact absurd e (by decide)
    · rcases hb with ⟨_, hb, hh, rfl⟩ | ⟨e, _⟩
      · have := headRel_ge hh
        simp only [List.length_append, List.length_singleton, lowBits_length]
        omega
      · exact absurd rfl e
  subst hf hr
  exact (choose_fix1 (by omega) (by omega)).symm
theorem ex9_size {l : List (Nat × Int × Int)} {raw z : Int} (h : SizeRel l raw 0 0 z) : z = rawSize raw 0 := by
  rcases h with ⟨_, rfl⟩ | ⟨e, _⟩
  · rfl
  · exact absurd rfl e
theorem lit_tok (w : World) (b : Nat) (x y : Int) : ArgT (w.alloc (.cells #[.int .i64 x, .int .i64 y, .int .u8 (b : Int)] 58)) (some ⟨w.heap.size, 0, none⟩) [(b, x, y)] := by
  intro i t hi
  have h0 : i = 0 := by
    have := (List.getElem?_eq_some_iff.1 hi).1
    simp at this
    exact this
  subst h0
  simp at hi
  subst hi
  have hh : (w.alloc (.cells #[.int .i64 x, .int .i64 y, .int .u8 (b : Int)] 58)).heap[w.heap.size]? = some (.cells #[.int .i64 x, .int .i64 y, .int .u8 (b : Int)] 58 (0, 0)) := by show (w.heap.push _)[w.heap.size]? = _; simp
  refine ⟨w.heap.size, 0, rfl, by show _ < (w.heap.push _).size; simp, ?_, ?_, ?_⟩
  · rw [cell_of_row _ _ _ _ _ (0, 0) hh]; rfl
  · rw [cell_of_row _ _ _ _ _ (0, 0) hh]; rfl
  · rw [cell_of_row _ _ _ _ _ (0, 0) hh]; rfl
theorem new_wr (w : World) : Wr (w.alloc (.cells #[.slice none 0 0, .int .i64 0] 35)) w.heap.size (.slice none 0 0) [] :=
  ⟨[], ⟨by show (w.heap.push _)[w.heap.size]? = _; simp, World.ownsRow_nil _ _ _ _, fun e => by cases e⟩, Packs.nil⟩
/-- A writer stays while another one writes. -/
theorem Wr.other {w w' : World} {p q : Nat} {v u u' : Value} {bs : List Bool} (h : Wr w p v bs) (s : Step q u u' w w') (hp : FreeB q u w p) (hv : ∀ k, v.ownBlock = some k → FreeB q u w k) : Wr w' p v bs := by
  obtain ⟨out, hw, hpk⟩ := h
  have hb : ∀ k, FreeB q u w k → w'.heap[k]? = w.heap[k]? := fun k hk => s.block k hk.1 hk.2.1 (fun e => hk.2.2 e.symm)
  refine ⟨out, ⟨(hb p hp).trans hw.box, ?_, hw.ne⟩, hpk⟩
  refine ⟨hw.own.1, ?_⟩
  rcases hw.own.2 with h2 | ⟨g, cap, cur, e, hg, hh, r⟩
  · exact .inl h2
  · exact .inr ⟨g, cap, cur, e, hg, (hb g (hv g (by rw [e]; rfl))).trans hh, r⟩
theorem Wr.size {w : World} {p : Nat} {v : Value} {bs : List Bool} (h : Wr w p v bs) : w.cell? ⟨p, 1, none⟩ = some (.int .i64 (bs.length : Nat)) := by
  obtain ⟨out, h1, _⟩ := h
  exact h1.c1
/-- A writer that is new turns nothing old. -/
theorem Step.new {W w w' : World} {p : Nat} {v v' : Value} (s : Step p v v' w w') (b : Below W.heap.size W w) (hp : W.heap.size ≤ p) (hv : ∀ k, v.ownBlock = some k → W.heap.size ≤ k) : Below W.heap.size W w' :=
  b.trans ⟨s.os, s.tape, s.output, s.size, fun k hk => s.block k (Nat.lt_of_lt_of_le hk b.size) (by omega) (fun e => by have := hv k e.symm; omega)⟩

end Go.Proofs.YtaalbaiglkadlaaGreat

/- The kind that is chosen has no more bits than any other one; a text's tokens are right ones. -/
namespace Go.Proofs.YtaalbaiglkadlaaGreat
open Go.RowKit Go.Lib

theorem choose_least {l : List (Nat × Int × Int)} {raw k c z : Int} (h0 : 0 ≤ raw) (h1 : raw ≤ 65535) (h : ChooseRel l raw k c) (hz : SizeRel l raw c k z) :
    0 ≤ z ∧ z ≤ 8 * raw + 3 + 7 + 32 ∧ ∀ kind m, 0 ≤ kind → kind ≤ 2 → SizeRel l raw kind k m → z ≤ m := by
  obtain ⟨f, r, d, hf, hr, hd, rfl⟩ := h
  have er : r = 3 + (8 - (k + 3) % 8) % 8 + 32 + 8 * raw := by
    rcases hr with ⟨_, rfl⟩ | ⟨e, _⟩
    · unfold rawSize; rw [if_neg (by omega)]
    · exact absurd rfl e
  have gf : 0 ≤ f := by
    rcases hf with ⟨e, _⟩ | ⟨_, ob, _, _, rfl⟩
    · exact absurd e (by decide)
    · omega
  have gd : 0 ≤ d := by
    rcases hd with ⟨e, _⟩ | ⟨_, ob, _, _, rfl⟩
    · exact absurd e (by decide)
    · omega
  have hall : ∀ kind m, 0 ≤ kind → kind ≤ 2 → SizeRel l raw kind k m → (kind = 0 ∧ m = r) ∨ (kind = 1 ∧ m = f) ∨ (kind = 2 ∧ m = d) := by
    intro kind m g1 g2 g3
    have : kind = 0 ∨ kind = 1 ∨ kind = 2 := by omega
    rcases this with rfl | rfl | rfl
    · exact .inl ⟨rfl, g3.uniq hr⟩
    · exact .inr (.inl ⟨rfl, g3.uniq hf⟩)
    · exact .inr (.inr ⟨rfl, g3.uniq hd⟩)
  have key : (chooseI f r d = 2 ∧ d ≤ r ∧ d ≤ f) ∨ (chooseI f r d = 0 ∧ r ≤ d ∧ r ≤ f) ∨ (chooseI f r d = 1 ∧ f ≤ d ∧ f ≤ r) := by
    by_cases g : 0 ≤ r ∧ r ≤ f
    · by_cases g2 : d < r
      · exact .inl ⟨(choose_raw2 g g2).symm, by omega, by omega⟩
      · exact .inr (.inl ⟨(choose_raw0 g g2).symm, by omega, g.2⟩)
    · by_cases g2 : d < f
      · exact .inl ⟨(choose_fix2 g g2).symm, by omega, by omega⟩
      · exact .inr (.inr ⟨(choose_fix1 g g2).symm, by omega, by omega⟩)
  have hzz : (chooseI f r d = 0 ∧ z = r) ∨ (chooseI f r d = 1 ∧ z = f) ∨ (chooseI f r d = 2 ∧ z = d) := hall _ z (by omega) (by omega) hz
  refine ⟨by omega, by omega, fun kind m g1 g2 g3 => ?_⟩
  have := hall kind m g1 g2 g3
  omega
theorem choose_range {l : List (Nat × Int × Int)} {raw k c : Int} (h : ChooseRel l raw k c) : 0 ≤ c ∧ c ≤ 2 := by
  obtain ⟨f, r, d, _, _, _, rfl⟩ := h
  unfold chooseI
  split
  · omega
  · split <;> omega
theorem toks_right (s : ByteArray) (level : Int) : ∀ (ts : List (Nat × Nat × Nat)) (i : Nat), Toks (bAt s) s.size level i ts → ∀ t ∈ ts.map castT, RightT t
  | [], _, _, t, ht => by cases ht
  | x :: ts, i, h, t, ht => by
    obtain ⟨h1, h2, h3⟩ := h
    rcases List.mem_cons.1 ht with e | e
    · rw [e, h2]
      unfold tokM
      split
      · exact ⟨(s.data.toList.getD i 0).toNat_lt, fun g => absurd g (by show ¬ (0 : Int) < ((0 : Nat) : Int); omega)⟩
      · next hn =>
        have hg := best_good (bAt s) s.size i (chainL level)
        refine ⟨by show 0 < 256; omega, fun _ => ?_⟩
        rcases hg with e0 | hg
        · exact absurd (.inl (by rw [e0])) hn
        · show (3 ≤ (((bestM (bAt s) s.size i (chainL level)).1 : Nat) : Int) ∧ (((bestM (bAt s) s.size i (chainL level)).1 : Nat) : Int) ≤ 258) ∧ (1 ≤ (((bestM (bAt s) s.size i (chainL level)).2 : Nat) : Int) ∧ (((bestM (bAt s) s.size i (chainL level)).2 : Nat) : Int) ≤ 32768)
          obtain ⟨a1, a2, a3, a4, _⟩ := hg
          omega
    · exact toks_right s level ts _ h3 t e

end Go.Proofs.YtaalbaiglkadlaaGreat
