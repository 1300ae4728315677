import Derived.Test.YtaalbaiglkadlaaGreatIB
import Derived.Test.YtaalbaiglkadlaaGreatKR
import Derived.Test.YtaalbaiglkadlaaGreatRfA
import Derived.Test.YtaalbaiglkadlaaGreatBS
/- Contracts of the document's layer 11: bits, next. -/
namespace Go.Proofs.YtaalbaiglkadlaaGreat
open Go.RowKit Go.Lib

theorem numI_lo (s : ByteArray) (i : Nat) : ∀ k, numI s i k = ((numLo (srcB s) i k : Nat) : Int)
  | 0 => rfl
  | k + 1 => by
    show numI s i k + bitI s (i + k) * 2 ^ k = ((numLo (srcB s) i k + srcB s (i + k) * 2 ^ k : Nat) : Int)
    have e : ((srcB s (i + k) : Nat) : Int) = bitI s (i + k) := by
      unfold srcB
      rcases bitI_01 s (i + k) with h | h <;> rw [h] <;> rfl
    rw [numI_lo s i k, Int.natCast_add, Int.natCast_mul, e, Int.natCast_pow]
    rfl
end Go.Proofs.YtaalbaiglkadlaaGreat

/- Contracts of the document's layer 11: a stored block behind what there is. -/
namespace Go.Proofs.YtaalbaiglkadlaaGreat
open Go.RowKit Go.Lib

/-- What there is so far: a reader at a place, and a row of bytes. -/
structure OutSt (T : TypeId) (w W : World) (p : Nat) (s : ByteArray) (i : Nat) (out : List Nat) (v : Value) : Prop where
  rd : RdAt T w p s i false
  own : w.ownsRow W.heap.size 5 1 v out.length (u8Cs out)
  bel : Below W.heap.size W w
  new : W.heap.size ≤ p
  ne : v.ownBlock ≠ some p
/-- What a piece gives: bytes, and a reader behind it; or an error. -/
def PiecePost (T : TypeId) (R : Except Int (List Nat × Nat)) (W : World) (p : Nat) (s : ByteArray) (e : Ending) (w' : World) : Prop :=
  (∃ o j v', R = .ok (o, j) ∧ e = .returned (.tuple #[v', .int .i64 0]) ∧ OutSt T w' W p s j o v') ∨
  (∃ er, R = .error er ∧ er ≠ 0 ∧ e = .returned (.tuple #[.slice none 0 0, .int .i64 er]) ∧ Below W.heap.size W w')
section
variable {T : TypeId} {w w' W : World} {p i j : Nat} {s : ByteArray} {out o : List Nat} {v v' : Value}
theorem OutSt.read (h : OutSt T w W p s i out v) (t : Turn p w w') (r : RdAt T w' p s j false) : OutSt T w' W p s j out v := by
  refine ⟨r, ?_, t.below h.bel h.new h.bel.size, h.new, h.ne⟩
  have hlt := h.own.lt
  refine ⟨h.own.1, ?_⟩
  rcases h.own.2 with h2 | ⟨g, cap, cur, e, hg, hh, r2⟩
  · exact .inl h2
  · have hgl := hlt g (by rw [e]; rfl)
    have hgp : g ≠ p := fun e2 => h.ne (by rw [e, ← e2]; rfl)
    exact .inr ⟨g, cap, cur, e, hg, (t.block g hgl.2 hgp).trans hh, r2⟩
theorem OutSt.bad (h : OutSt T w W p s i out v) (t : Turn p w w') : Below W.heap.size W w' := t.below h.bel h.new h.bel.size
theorem OutSt.grow (h : OutSt T w W p s i out v) (ho : w'.ownsRow W.heap.size 5 1 v' o.length (u8Cs o)) (hg : w.grownBy w' v.ownBlock) (hf : v'.ownBlock = v.ownBlock ∨ ∀ k, v'.ownBlock = some k → w.heap.size ≤ k) : OutSt T w' W p s i o v' := by
  have hp : p < w.heap.size := (Array.getElem?_eq_some_iff.1 h.rd).1
  refine ⟨?_, ho, Below.grownB h.bel hg h.own h.bel.size, h.new, ?_⟩
  · unfold RdAt
    rw [hg.block p hp (fun e => h.ne e.symm)]
    exact h.rd
  · rcases hf with e | e
    · rw [e]; exact h.ne
    · intro e2
      have := e p e2
      omega
end
theorem bits_cells (s : ByteArray) : strCells s = u8Cs (natsB s) := by
  unfold strCells u8Cs natsB
  rw [List.map_map]
  rfl

/-- The bytes of a part, by its bits. -/
theorem text_nats (s : ByteArray) (k n : Nat) (h : k + n ≤ s.size) : textP n (srcB s) (8 * s.size) (8 * k) = .ok (natsB (s.extract k (k + n)), 8 * (k + n)) := by
  have hsz : s.data.toList.length = s.size := by rw [Array.length_toList]; rfl
  have e : (s.extract k (k + n)).data.toList = (s.data.toList.drop k).take n := by
    rw [ByteArray.data_extract, Array.toList_extract, List.extract_eq_take_drop, show k + n - k = n by omega]
  unfold textP
  rw [if_pos (by omega), show 8 * k + 8 * n = 8 * (k + n) by omega]
  congr 2
  apply List.ext_getElem?
  intro q
  unfold natsB
  rw [e, List.getElem?_map, List.getElem?_map, List.getElem?_take]
  by_cases hq : q < n
  · rw [List.getElem?_range hq, if_pos hq, List.getElem?_drop, List.getElem?_eq_getElem (by rw [hsz]; omega)]
    show some (numLo (srcB s) (8 * k + 8 * q) 8) = some (s.data.toList[k + q].toNat)
    rw [numLo_mod (srcB s) (8 * k + 8 * q) (s.data.toList[k + q].toNat) 8 (fun j hj => ?_), Nat.mod_eq_of_lt (show _ < 2 ^ 8 from (s.data.toList[k + q]).toNat_lt)]
    unfold srcB bitI
    rw [Int.toNat_natCast, show (8 * k + 8 * q + j) / 8 = k + q by omega, show (8 * k + 8 * q + j) % 8 = j by omega, List.getD_eq_getElem?_getD, List.getElem?_eq_getElem (by rw [hsz]; omega)]
    rfl
  · rw [if_neg hq, List.getElem?_eq_none (by rw [List.length_range]; omega)]
    rfl

end Go.Proofs.YtaalbaiglkadlaaGreat

/- Contracts of the document's layer 11: a block of symbols behind what there is. -/
namespace Go.Proofs.YtaalbaiglkadlaaGreat
open Go.RowKit Go.Lib

theorem Turn.step {p : Nat} {v : Value} {w w' : World} (t : Turn p w w') : Step p v v w w' := ⟨t.os, t.tape, t.output, t.size, fun k hk hp _ => t.block k hk hp, .inl rfl⟩
theorem grown_step {p : Nat} {v v' : Value} {w w' : World} (hg : w.grownBy w' v.ownBlock) (hf : v'.ownBlock = v.ownBlock ∨ ∀ k, v'.ownBlock = some k → w.heap.size ≤ k) : Step p v v' w w' := ⟨hg.os, hg.tape, hg.output, hg.size, fun k hk _ hv => hg.block k hk hv, hf⟩
/-- What there is, and two codes. -/
structure PF (T : TypeId) (w W0 : World) (p : Nat) (s : ByteArray) (i : Nat) (out : List Nat) (v : Value) (a1 a2 : Option Addr) (Q1 Q2 : Nat) (cs1 cs2 : List Value) (S1 S2 : List Nat) : Prop where
  st : OutSt T w W0 p s i out v
  ka : KN p v w a1 S1
  kb : KN p v w a2 S2
  q1 : w.heap[Q1]? = some (.cells cs1.toArray 80 (0, 0))
  q2 : w.heap[Q2]? = some (.cells cs2.toArray 80 (0, 0))
  f1 : FreeB p v w Q1
  f2 : FreeB p v w Q2
section
variable {T : TypeId} {w w' W0 : World} {p i j : Nat} {s : ByteArray} {out o : List Nat} {v v' : Value} {a1 a2 : Option Addr} {Q1 Q2 : Nat} {cs1 cs2 : List Value} {S1 S2 : List Nat}
theorem PF.step (h : PF T w W0 p s i out v a1 a2 Q1 Q2 cs1 cs2 S1 S2) (st : Step p v v' w w') (o' : OutSt T w' W0 p s j o v') : PF T w' W0 p s j o v' a1 a2 Q1 Q2 cs1 cs2 S1 S2 :=
  ⟨o', h.ka.step st, h.kb.step st, (st.block Q1 h.f1.1 h.f1.2.1 (fun e => h.f1.2.2 e.symm)).trans h.q1, (st.block Q2 h.f2.1 h.f2.2.1 (fun e => h.f2.2.2 e.symm)).trans h.q2, h.f1.step st, h.f2.step st⟩
theorem PF.read (h : PF T w W0 p s i out v a1 a2 Q1 Q2 cs1 cs2 S1 S2) (t : Turn p w w') (r : RdAt T w' p s j false) : PF T w' W0 p s j out v a1 a2 Q1 Q2 cs1 cs2 S1 S2 := h.step t.step (h.st.read t r)
theorem OutSt.alloc (h : OutSt T w W0 p s i out v) (ob : Obj) : OutSt T (w.alloc ob) W0 p s i out v := by
  have hp : p < w.heap.size := (Array.getElem?_eq_some_iff.1 h.rd).1
  refine ⟨?_, h.own.alloc ob, h.bel.alloc h.bel.size ob, h.new, h.ne⟩
  unfold RdAt
  rw [heap_alloc_old _ _ _ hp]
  exact h.rd
theorem PF.alloc (h : PF T w W0 p s i out v a1 a2 Q1 Q2 cs1 cs2 S1 S2) (ob : Obj) : PF T (w.alloc ob) W0 p s i out v a1 a2 Q1 Q2 cs1 cs2 S1 S2 :=
  h.step (Step.ofBelow ((Below.refl _ w).alloc (Nat.le_refl _) ob)) (h.st.alloc ob)
theorem PF.grow (h : PF T w W0 p s i out v a1 a2 Q1 Q2 cs1 cs2 S1 S2) (ho : w'.ownsRow W0.heap.size 5 1 v' o.length (u8Cs o)) (hg : w.grownBy w' v.ownBlock) (hf : v'.ownBlock = v.ownBlock ∨ ∀ k, v'.ownBlock = some k → w.heap.size ≤ k) : PF T w' W0 p s i o v' a1 a2 Q1 Q2 cs1 cs2 S1 S2 :=
  h.step (grown_step hg hf) (h.st.grow ho hg hf)
theorem PF.slice (h : PF T w W0 p s i out v a1 a2 Q1 Q2 cs1 cs2 S1 S2) : ∃ a c, v = .slice a out.length c := by
  rcases len_form h.st.own with ⟨e1, e2⟩ | ⟨g, c, e1⟩
  · exact ⟨none, 0, by rw [e1, e2]⟩
  · exact ⟨_, c, e1⟩
theorem PF.byte {a : Option Addr} {c : Nat} (h : PF T w W0 p s i out (.slice a out.length c) a1 a2 Q1 Q2 cs1 cs2 S1 S2) (q : Nat) (hq : q < out.length) : ∃ g, a = some ⟨g, 0, none⟩ ∧ w.cell? ⟨g, q, none⟩ = some (.int .u8 (out.getD q 0 : Nat)) := by
  rcases len_form h.st.own with ⟨_, e2⟩ | ⟨g, c2, e1⟩
  · omega
  · injection e1 with e1 _ _
    subst e1
    refine ⟨g, rfl, ?_⟩
    rw [h.st.own.cellAt q (by omega)]
    unfold u8Cs
    rw [List.getElem?_map, List.getD_eq_getElem?_getD, List.getElem?_eq_getElem hq]
    rfl
end
theorem PF.start {T : TypeId} {W W0 : World} {p i : Nat} {s : ByteArray} {out : List Nat} {v : Value} {a1 a2 : Option Addr} {S1 S2 : List Nat} (h : OutSt T W W0 p s i out v) (ka : KN p v W a1 S1) (kb : KN p v W a2 S2) (cs1 cs2 : List Value) :
    PF T ((W.alloc (.cells cs1.toArray 80)).alloc (.cells cs2.toArray 80)) W0 p s i out v a1 a2 W.heap.size (W.heap.size + 1) cs1 cs2 S1 S2 := by
  have hp : p < W.heap.size := (Array.getElem?_eq_some_iff.1 h.rd).1
  have hv : ∀ k, v.ownBlock = some k → k < W.heap.size := fun k hk => (h.own.lt k hk).2
  have b1 := Step.ofBelow (p := p) (v := v) ((Below.refl _ W).alloc (Nat.le_refl _) (.cells cs1.toArray 80))
  have b2 := Step.ofBelow (p := p) (v := v) ((Below.refl _ (W.alloc (.cells cs1.toArray 80))).alloc (Nat.le_refl _) (.cells cs2.toArray 80))
  have s1 : (W.alloc (.cells cs1.toArray 80)).heap.size = W.heap.size + 1 := by show (W.heap.push _).size = _; simp
  have s2 : ((W.alloc (.cells cs1.toArray 80)).alloc (.cells cs2.toArray 80)).heap.size = W.heap.size + 2 := by show ((W.alloc _).heap.push _).size = _; rw [Array.size_push, s1]
  refine ⟨(h.alloc _).alloc _, (ka.step b1).step b2, (kb.step b1).step b2, ?_, heap_alloc_at _ _ s1, ⟨by omega, by omega, fun e => by have := hv _ e; omega⟩, ⟨by omega, by omega, fun e => by have := hv _ e; omega⟩⟩
  rw [heap_alloc_old _ _ _ (by omega)]
  exact heap_alloc_at _ _ rfl

end Go.Proofs.YtaalbaiglkadlaaGreat

/- Contract of the document's 'pour' of layer 11. -/
namespace Go.Proofs.YtaalbaiglkadlaaGreat
open Go.RowKit Go.Lib

section
variable {la lb : List Nat} {limit : Int} {f : Nat} {out : List Nat} {B : Nat → Nat} {T i x j : Nat}
theorem pour_err {e : Int} (h : symP la B T i = .error e) : pourP la lb limit (f + 1) out B T i = .error e := by
  unfold pourP
  exact bindP_err h
theorem pour_end (h : symP la B T i = .ok (256, j)) : pourP la lb limit (f + 1) out B T i = .ok (out, j) := by
  unfold pourP
  rw [bindP_ok h, if_pos rfl]
  rfl
theorem pour_full (h : symP la B T i = .ok (x, j)) (hx : x < 256) (hl : limit ≤ (out.length : Int)) : pourP la lb limit (f + 1) out B T i = .error 6 := by
  unfold pourP
  rw [bindP_ok h, if_neg (by omega), if_pos hx, if_pos hl]
  rfl
theorem pour_lit (h : symP la B T i = .ok (x, j)) (hx : x < 256) (hl : ¬ limit ≤ (out.length : Int)) : pourP la lb limit (f + 1) out B T i = pourP la lb limit f (out ++ [x]) B T j := by
  conv => lhs; unfold pourP
  rw [bindP_ok h, if_neg (by omega), if_pos hx, if_neg hl]
theorem pour_mat (h : symP la B T i = .ok (x, j)) (hx : 256 < x) : pourP la lb limit (f + 1) out B T i = bindP (matchP lb limit out x) (fun o => pourP la lb limit f o) B T j := by
  conv => lhs; unfold pourP
  rw [bindP_ok h, if_neg (by omega), if_neg (by omega)]
end

theorem lbV_no (x : Nat) (h : 285 < x) : lbV (x : Int) = .tuple #[.int .i64 0, .int .i64 0, .bool false] := by
  obtain ⟨e1, e2, e3⟩ := lb_no (n := (x : Int)) (.inr (by omega))
  unfold lbV
  rw [e1, e2, e3]
theorem lbV_yes (x q : Nat) (h : x = 257 + q) (hq : q ≤ 28) : lbV (x : Int) = .tuple #[.int .i64 (lenBase q : Nat), .int .i64 (lenBits q : Nat), .bool true] := by
  obtain ⟨e1, e2, e3⟩ := lb_yes q hq
  have e : (x : Int) = 257 + (q : Int) := by omega
  unfold lbV
  rw [e, e1, e2, e3]
theorem dbV_no (y : Nat) (h : 29 < y) : dbV (y : Int) = .tuple #[.int .i64 0, .int .i64 0, .bool false] := by
  obtain ⟨e1, e2, e3⟩ := db_no (n := (y : Int)) (.inr (by omega))
  unfold dbV
  rw [e1, e2, e3]
theorem dbV_yes (y : Nat) (h : y ≤ 29) : dbV (y : Int) = .tuple #[.int .i64 (distBase y : Nat), .int .i64 (distBits y : Nat), .bool true] := by
  obtain ⟨e1, e2, e3⟩ := db_yes y h
  unfold dbV
  rw [e1, e2, e3]

end Go.Proofs.YtaalbaiglkadlaaGreat
