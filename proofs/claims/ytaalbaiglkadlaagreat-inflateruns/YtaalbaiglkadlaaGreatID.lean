import Derived.Test.YtaalbaiglkadlaaGreatIC
import Derived.Test.YtaalbaiglkadlaaGreatRA
import Derived.Laws.Tables
/- Ahead of the document's 'lengths' of layer 11: its reading by steps, what there is on the way. -/
namespace Go.Proofs.YtaalbaiglkadlaaGreat
open Go.RowKit Go.Lib

theorem Turn.belowT {p B : Nat} {W w w' : World} (t : Turn p W w) (b : Below B w w') (hB : W.heap.size ≤ B) : Turn p W w' :=
  ⟨b.os.trans t.os, b.tape.trans t.tape, b.output.trans t.output, Nat.le_trans t.size b.size, fun k hk hp => (b.block k (by omega)).trans (t.block k hk hp)⟩
theorem Turn.grown {p B n : Nat} {W w w' : World} {v : Value} {e : TypeId} {cs : List Value} (t : Turn p W w) (hg : w.grownBy w' v.ownBlock) (ho : w.ownsRow B e 1 v n cs) (hB : W.heap.size ≤ B) : Turn p W w' :=
  ⟨hg.os.trans t.os, hg.tape.trans t.tape, hg.output.trans t.output, Nat.le_trans t.size hg.size, fun k hk hp => (hg.block k (Nat.lt_of_lt_of_le hk t.size) (fun e2 => by have := (ho.lt k e2.symm).1; omega)).trans (t.block k hk hp)⟩

/-- A reader, that went wrong or not. -/
def RdS (T : TypeId) (w : World) (p : Nat) (s : ByteArray) (q : Nat) (bad : Bool) : Prop := if bad = true then ∃ i, i ≤ 8 * s.size ∧ RdAt T w p s i true else RdAt T w p s q false
section
variable {T : TypeId} {w w' : World} {p q : Nat} {s : ByteArray} {bad : Bool}
theorem RdS.at_ (h : RdS T w p s q bad) : ∃ i, RdAt T w p s i bad := by
  unfold RdS at h
  cases bad with
  | true => obtain ⟨i, _, h⟩ := h; exact ⟨i, h⟩
  | false => exact ⟨q, h⟩
theorem RdS.c2 (h : RdS T w p s q bad) : w.cell? ⟨p, 2, none⟩ = some (.bool bad) := by
  obtain ⟨i, h⟩ := h.at_
  exact h.c2
theorem RdS.lt (h : RdS T w p s q bad) : p < w.heap.size := by
  obtain ⟨i, h⟩ := h.at_
  exact (Array.getElem?_eq_some_iff.1 h).1
theorem RdS.same (h : RdS T w p s q bad) (hb : w'.heap[p]? = w.heap[p]?) : RdS T w' p s q bad := by
  unfold RdS at h ⊢
  unfold RdAt at h ⊢
  rw [hb]
  exact h
end
/-- What a reading of k bits gives. -/
def RdRel (k q : Nat) (s : ByteArray) (bad : Bool) (x q' : Nat) (bad' : Bool) : Prop :=
  (bad = false ∧ bad' = false ∧ rdP k (srcB s) (8 * s.size) q = .ok (x, q')) ∨ (bad = false ∧ bad' = true ∧ rdP k (srcB s) (8 * s.size) q = .error 2) ∨ (bad = true ∧ bad' = true)
/-- The reading of lengths, by steps. -/
def lens4 (a : Nat) (out : List Int) : Ps (List Int × List Int) := bindP (chkP (decide (out.getD 256 0 ≠ 0)) 4) fun _ => pureP (out.take (a + 257), out.drop (a + 257))
def lens3 (a b : Nat) (fl : List Nat) : Ps (List Int × List Int) := bindP (chkP (goodB (fl.map fun (x : Nat) => (x : Int))) 4) fun _ => bindP (runsP fl (a + 257 + (b + 1)) 400 []) (lens4 a)
def lens2 (a b k : Nat) : Ps (List Int × List Int) := bindP (chkP (decide (a + 257 ≤ 286) && decide (b + 1 ≤ 30)) 3) fun _ => bindP (firstP (k + 4) 0 (List.replicate 19 0)) (lens3 a b)
theorem lens_split : lensP = bindP (rdP 5) fun a => bindP (rdP 5) fun b => bindP (rdP 4) fun k => lens2 a b k := rfl
section
variable {s : ByteArray} {i x1 q1 x2 q2 x3 q3 : Nat} {b1 b2 b3 : Bool}
/-- Three numbers: all of them there, or too short. -/
theorem lens_heads (r1 : RdRel 5 i s false x1 q1 b1) (r2 : RdRel 5 q1 s b1 x2 q2 b2) (r3 : RdRel 4 q2 s b2 x3 q3 b3) :
    (b3 = true ∧ lensP (srcB s) (8 * s.size) i = .error 2) ∨ (b3 = false ∧ lensP (srcB s) (8 * s.size) i = lens2 x1 x2 x3 (srcB s) (8 * s.size) q3) := by
  rw [lens_split]
  rcases r1 with ⟨_, rfl, h1⟩ | ⟨_, rfl, h1⟩ | ⟨h, _⟩
  · rcases r2 with ⟨_, rfl, h2⟩ | ⟨_, rfl, h2⟩ | ⟨h, _⟩
    · rcases r3 with ⟨_, rfl, h3⟩ | ⟨_, rfl, h3⟩ | ⟨h, _⟩
      · exact .inr ⟨rfl, by rw [bindP_ok h1, bindP_ok h2, bindP_ok h3]⟩
      · exact .inl ⟨rfl, by rw [bindP_ok h1, bindP_ok h2, bindP_err h3]⟩
      · cases h
    · rcases r3 with ⟨h, _⟩ | ⟨h, _⟩ | ⟨_, rfl⟩
      · cases h
      · cases h
      · exact .inl ⟨rfl, by rw [bindP_ok h1, bindP_err h2]⟩
    · cases h
  · rcases r2 with ⟨h, _⟩ | ⟨h, _⟩ | ⟨_, rfl⟩
    · cases h
    · cases h
    rcases r3 with ⟨h, _⟩ | ⟨h, _⟩ | ⟨_, rfl⟩
    · cases h
    · cases h
    exact .inl ⟨rfl, bindP_err h1⟩
  · cases h
end
section
variable {a b k : Nat} {B : Nat → Nat} {T i : Nat}
theorem lens2_bad (h : ¬ (a ≤ 29 ∧ b ≤ 29)) : lens2 a b k B T i = .error 3 := by
  unfold lens2
  refine bindP_err ?_
  have e : (decide (a + 257 ≤ 286) && decide (b + 1 ≤ 30)) = false := by
    cases hh : (decide (a + 257 ≤ 286) && decide (b + 1 ≤ 30)) with
    | false => rfl
    | true =>
      rw [Bool.and_eq_true, decide_eq_true_eq, decide_eq_true_eq] at hh
      omega
  rw [e]
  rfl
theorem lens2_ok (h : a ≤ 29) (h2 : b ≤ 29) : lens2 a b k B T i = bindP (firstP (k + 4) 0 (List.replicate 19 0)) (lens3 a b) B T i := by
  unfold lens2
  rw [bindP_ok (a := ()) (j := i)]
  rw [decide_eq_true (show a + 257 ≤ 286 by omega), decide_eq_true (show b + 1 ≤ 30 by omega)]
  rfl
theorem lens3_bad {fl : List Nat} (h : goodB (fl.map fun (x : Nat) => (x : Int)) = false) : lens3 a b fl B T i = .error 4 := by
  unfold lens3
  refine bindP_err ?_
  rw [h]
  rfl
theorem lens3_ok {fl : List Nat} (h : goodB (fl.map fun (x : Nat) => (x : Int)) = true) : lens3 a b fl B T i = bindP (runsP fl (a + 257 + (b + 1)) 400 []) (lens4 a) B T i := by
  unfold lens3
  rw [bindP_ok (a := ()) (j := i)]
  rw [h]
  rfl
theorem lens4_bad {out : List Int} (h : out.getD 256 0 = 0) : lens4 a out B T i = .error 4 := by
  unfold lens4
  refine bindP_err ?_
  rw [decide_eq_false (fun g => g h)]
  rfl
theorem lens4_ok {out : List Int} (h : out.getD 256 0 ≠ 0) : lens4 a out B T i = .ok ((out.take (a + 257), out.drop (a + 257)), i) := by
  unfold lens4
  rw [bindP_ok (a := ()) (j := i)]
  · rfl
  · rw [decide_eq_true h]
    rfl
end

/-- The first lengths under way. -/
def FirstSt (s : ByteArray) (R0 : Except Int (List Nat × Nat)) (n j : Nat) (l : List Nat) (q : Nat) (bad : Bool) : Prop := (bad = false ∧ firstP (n - j) j l (srcB s) (8 * s.size) q = R0) ∨ (bad = true ∧ R0 = .error 2)
theorem FirstSt.next {s : ByteArray} {R0 : Except Int (List Nat × Nat)} {n j q q' x : Nat} {l : List Nat} {bad bad' : Bool} (h : FirstSt s R0 n j l q bad) (hj : j < n) (r : RdRel 3 q s bad x q' bad') : FirstSt s R0 n (j + 1) (l.set (orderL.getD j 0) x) q' bad' := by
  rcases h with ⟨rfl, h⟩ | ⟨rfl, h⟩
  · rw [show n - j = (n - (j + 1)) + 1 by omega] at h
    have h : bindP (rdP 3) (fun x => firstP (n - (j + 1)) (j + 1) (l.set (orderL.getD j 0) x)) (srcB s) (8 * s.size) q = R0 := h
    rcases r with ⟨_, rfl, e⟩ | ⟨_, rfl, e⟩ | ⟨e, _⟩
    · rw [bindP_ok e] at h
      exact .inl ⟨rfl, h⟩
    · rw [bindP_err e] at h
      exact .inr ⟨rfl, h.symm⟩
    · cases e
  · rcases r with ⟨e, _⟩ | ⟨e, _⟩ | ⟨_, rfl⟩
    · cases e
    · cases e
    · exact .inr ⟨rfl, h⟩
theorem FirstSt.done {s : ByteArray} {R0 : Except Int (List Nat × Nat)} {n q : Nat} {l : List Nat} (h : FirstSt s R0 n n l q false) : R0 = .ok (l, q) := by
  rcases h with ⟨_, h⟩ | ⟨h, _⟩
  · rw [Nat.sub_self] at h
    exact h.symm
  · cases h
theorem FirstSt.short {s : ByteArray} {R0 : Except Int (List Nat × Nat)} {n j q : Nat} {l : List Nat} (h : FirstSt s R0 n j l q true) : R0 = .error 2 := by
  rcases h with ⟨h, _⟩ | ⟨_, h⟩
  · cases h
  · exact h
theorem order_cell : ∀ j, j < 19 → orderCs[j]? = some (.int .i64 (orderL.getD j 0 : Nat)) ∧ orderL.getD j 0 < 19 := by
  intro j hj
  match j, hj with
  | 0, _ | 1, _ | 2, _ | 3, _ | 4, _ | 5, _ | 6, _ | 7, _ | 8, _ | 9, _ | 10, _ | 11, _ | 12, _ | 13, _ | 14, _ | 15, _ | 16, _ | 17, _ | 18, _ => exact ⟨rfl, by decide⟩
  | n + 19, hj => exact absurd hj (by omega)
theorem natCs_set (l : List Nat) (q x : Nat) : (natCs l).set q (.int .i64 (x : Nat)) = natCs (l.set q x) := by
  unfold natCs
  rw [List.map_set]
/-- The reader, the first lengths, their order. -/
structure FL (T : TypeId) (w W : World) (p : Nat) (s : ByteArray) (F O : Nat) (cs : List Value) (l : List Nat) (q : Nat) (bad : Bool) : Prop where
  rd : RdS T w p s q bad
  tn : Turn p W w
  fa : w.heap[F]? = some (.cells (natCs l).toArray 119 (0, 0))
  oa : w.heap[O]? = some (.cells cs.toArray 119 (0, 0))
  wf : W.heap.size ≤ F
  wo : W.heap.size ≤ O
  fo : F ≠ O
  wp : p < W.heap.size
  ln : l.length = 19
section
variable {T : TypeId} {w w' W : World} {p F O q q' : Nat} {s : ByteArray} {cs : List Value} {l : List Nat} {bad bad' : Bool}
theorem FL.read (h : FL T w W p s F O cs l q bad) (o : Only p w w') (r : RdS T w' p s q' bad') : FL T w' W p s F O cs l q' bad' := by
  have hF := (Array.getElem?_eq_some_iff.1 h.fa).1
  have hO := (Array.getElem?_eq_some_iff.1 h.oa).1
  have h1 := h.wf
  have h2 := h.wo
  have h3 := h.wp
  exact ⟨r, h.tn.trans o.turn, (o.block F (by omega)).trans h.fa, (o.block O (by omega)).trans h.oa, h1, h2, h.fo, h3, h.ln⟩
theorem FL.put (h : FL T w W p s F O cs l q bad) (z x : Nat) : FL T (w.setCell ⟨F, z, none⟩ (.int .i64 (x : Nat))) W p s F O cs (l.set z x) q bad := by
  have h1 := h.wf
  have h2 := h.wo
  have h3 := h.wp
  refine ⟨h.rd.same ?_, h.tn.belowT ((Below.refl F w).setCell (p := ⟨F, z, none⟩) (Nat.le_refl _) _) h1, ?_, ?_, h1, h2, h.fo, h3, by rw [List.length_set]; exact h.ln⟩
  · exact Below.heap_setCell _ _ _ _ (show p ≠ F by omega)
  · rw [heap_setCell_same _ _ _ _ _ _ _ h.fa, List.setIfInBounds_toArray, natCs_set]
  · rw [Below.heap_setCell _ _ _ _ (fun e => h.fo e.symm)]
    exact h.oa
theorem FL.cell (h : FL T w W p s F O cs l q bad) (z : Nat) (hz : z < 19) : w.cell? ⟨F, z, none⟩ = some (.int .i64 (l.getD z 0 : Nat)) ∧ w.frozen? ⟨F, z, none⟩ = false := by
  constructor
  · rw [cell_of_row _ _ z _ _ (0, 0) h.fa, List.getElem?_toArray]
    unfold natCs
    rw [List.getElem?_map, getD_some l z (by rw [h.ln]; exact hz)]
    rfl
  · simp [World.frozen?, h.fa]
theorem FL.ord (h : FL T w W p s F O cs l q bad) (z : Nat) (v : Value) (hz : cs[z]? = some v) : w.cell? ⟨O, z, none⟩ = some v := by
  rw [cell_of_row _ _ z _ _ (0, 0) h.oa, List.getElem?_toArray]
  exact hz
theorem FL.arg (h : FL T w W p s F O cs l q bad) : ArgZ w (some ⟨F, 0, none⟩) (l.map fun (x : Nat) => (x : Int)) := by
  intro j x hx
  rw [List.getElem?_map] at hx
  cases hl : l[j]? with
  | none => rw [hl] at hx; cases hx
  | some y =>
    rw [hl] at hx
    injection hx with hx
    subst hx
    refine ⟨F, 0, rfl, (Array.getElem?_eq_some_iff.1 h.fa).1, ?_⟩
    rw [Nat.zero_add, cell_of_row _ _ j _ _ (0, 0) h.fa, List.getElem?_toArray]
    unfold natCs
    rw [List.getElem?_map, hl]
    rfl
end

/-- Lengths under way: a reader, a row, a code. -/
structure LF (T : TypeId) (w W : World) (p : Nat) (s : ByteArray) (i : Nat) (out : List Int) (v : Value) (a : Option Addr) (Q : Nat) (cs : List Value) (S : List Nat) : Prop where
  rd : RdAt T w p s i false
  tn : Turn p W w
  own : w.ownsRow W.heap.size 3 1 v out.length (intCs out)
  ka : KN p v w a S
  qa : w.heap[Q]? = some (.cells cs.toArray 80 (0, 0))
  fq : FreeB p v w Q
  ne : v.ownBlock ≠ some p
section
variable {T : TypeId} {w w' W : World} {p i j : Nat} {s : ByteArray} {out o : List Int} {v v' : Value} {a : Option Addr} {Q : Nat} {cs : List Value} {S : List Nat}
theorem LF.read (h : LF T w W p s i out v a Q cs S) (t : Turn p w w') (r : RdAt T w' p s j false) : LF T w' W p s j out v a Q cs S := by
  refine ⟨r, h.tn.trans t, ?_, h.ka.step t.step, (t.block Q h.fq.1 h.fq.2.1).trans h.qa, h.fq.step t.step, h.ne⟩
  refine ⟨h.own.1, ?_⟩
  have hlt := h.own.lt
  rcases h.own.2 with h2 | ⟨g, cap, cur, e, hg, hh, r2⟩
  · exact .inl h2
  · have hgl := hlt g (by rw [e]; rfl)
    have hgp : g ≠ p := fun e2 => h.ne (by rw [e, ← e2]; rfl)
    exact .inr ⟨g, cap, cur, e, hg, (t.block g hgl.2 hgp).trans hh, r2⟩
theorem LF.alloc (h : LF T w W p s i out v a Q cs S) (ob : Obj) : LF T (w.alloc ob) W p s i out v a Q cs S := by
  have hp : p < w.heap.size := (Array.getElem?_eq_some_iff.1 h.rd).1
  have st : Step p v v w (w.alloc ob) := Step.ofBelow ((Below.refl _ w).alloc (Nat.le_refl _) ob)
  refine ⟨?_, h.tn.alloc ob, h.own.alloc ob, h.ka.step st, ?_, h.fq.step st, h.ne⟩
  · unfold RdAt
    rw [heap_alloc_old _ _ _ hp]
    exact h.rd
  · rw [heap_alloc_old _ _ _ h.fq.1]
    exact h.qa
theorem LF.grow (h : LF T w W p s i out v a Q cs S) (ho : w'.ownsRow W.heap.size 3 1 v' o.length (intCs o)) (hg : w.grownBy w' v.ownBlock) (hf : v'.ownBlock = v.ownBlock ∨ ∀ k, v'.ownBlock = some k → w.heap.size ≤ k) : LF T w' W p s i o v' a Q cs S := by
  have hp : p < w.heap.size := (Array.getElem?_eq_some_iff.1 h.rd).1
  have st : Step p v v' w w' := grown_step hg hf
  refine ⟨?_, h.tn.grown hg h.own (Nat.le_refl _), ho, h.ka.step st, (st.block Q h.fq.1 h.fq.2.1 (fun e => h.fq.2.2 e.symm)).trans h.qa, h.fq.step st, ?_⟩
  · unfold RdAt
    rw [hg.block p hp (fun e => h.ne e.symm)]
    exact h.rd
  · rcases hf with e | e
    · rw [e]; exact h.ne
    · intro e2
      have := e p e2
      omega
end
theorem LF.start {T : TypeId} {w w1 W : World} {p i : Nat} {s : ByteArray} {a : Option Addr} {S : List Nat} {cap n : Nat} (r : RdAt T w p s i false) (t : Turn p W w) (b : Below w.heap.size w w1) (ho : w1.ownsRow w.heap.size 3 1 (.slice a n cap) S.length (natCs S)) (hn : S.length = n) (cs : List Value) :
    LF T (w1.alloc (.cells cs.toArray 80)) W p s i [] (.slice none 0 0) a w1.heap.size cs S := by
  have hp : p < w.heap.size := (Array.getElem?_eq_some_iff.1 r).1
  have hsz := b.size
  have hal : (w1.alloc (.cells cs.toArray 80)).heap.size = w1.heap.size + 1 := by show (w1.heap.push _).size = _; simp
  have b2 : Below w.heap.size w (w1.alloc (.cells cs.toArray 80)) := b.alloc hsz _
  subst hn
  refine ⟨?_, t.belowT b2 t.size, World.ownsRow_nil _ _ _ _, ⟨?_, fun g off e => ?_⟩, heap_alloc_at _ _ rfl, ⟨by omega, by omega, fun e => by cases e⟩, fun e => by cases e⟩
  · unfold RdAt
    rw [b2.block p hp]
    exact r
  · exact (own_arg (ho.alloc _) rfl)
  · subst e
    have hg := ho.lt g
    rcases len_form ho with ⟨e1, _⟩ | ⟨g2, c2, e1⟩
    · cases e1
    · injection e1 with e1 _ _
      injection e1 with e1
      injection e1 with e1 e2
      subst e1
      subst e2
      have := hg rfl
      exact ⟨by omega, by omega, fun e => by cases e⟩

section
variable {hl : List Nat} {N f : Nat} {out : List Int} {B : Nat → Nat} {T i x j e j2 : Nat}
theorem runs_end (h : N ≤ out.length) : runsP hl N (f + 1) out B T i = .ok (out, i) := by
  unfold runsP
  rw [if_pos h]
  rfl
theorem runs_err {er : Int} (h : ¬ N ≤ out.length) (hs : symP hl B T i = .error er) : runsP hl N (f + 1) out B T i = .error er := by
  unfold runsP
  rw [if_neg h]
  exact bindP_err hs
theorem runs_short {er : Int} (h : ¬ N ≤ out.length) (hs : symP hl B T i = .ok (x, j)) (hr : rdP (xBits (x : Int)) B T j = .error er) : runsP hl N (f + 1) out B T i = .error er := by
  unfold runsP
  rw [if_neg h, bindP_ok hs]
  exact bindP_err hr
theorem runs_form (h : ¬ N ≤ out.length) (hs : symP hl B T i = .ok (x, j)) (hr : rdP (xBits (x : Int)) B T j = .ok (e, j2)) (hb : runB (N : Int) out ((x : Int), (e : Int)) = false) : runsP hl N (f + 1) out B T i = .error 3 := by
  unfold runsP
  rw [if_neg h, bindP_ok hs, bindP_ok hr, hb]
  rfl
theorem runs_next (h : ¬ N ≤ out.length) (hs : symP hl B T i = .ok (x, j)) (hr : rdP (xBits (x : Int)) B T j = .ok (e, j2)) (hb : runB (N : Int) out ((x : Int), (e : Int)) = true) (K : Nat) (hK : timesR ((x : Int), (e : Int)) = (K : Int)) (y : Int) (hy : valR out (x : Int) = y) :
    runsP hl N (f + 1) out B T i = runsP hl N f (out ++ List.replicate K y) B T j2 := by
  conv => lhs; unfold runsP
  rw [if_neg h, bindP_ok hs, bindP_ok hr, hb, hK, hy, Int.toNat_natCast]
  rfl
end
theorem runB_no (n : Int) (out : List Int) (r : Int × Int) (h : ¬ (¬ (r.1 = 16 ∧ out = []) ∧ 0 ≤ r.1 ∧ r.1 ≤ 18 ∧ 0 ≤ r.2 ∧ r.2 < ((2 ^ xBits r.1 : Nat) : Int) ∧ timesR r ≤ n - (out.length : Int))) : runB n out r = false := by
  cases hb : runB n out r with
  | false => rfl
  | true => exact absurd ((runB_iff n out r).1 hb) h
theorem lastI_at (out : List Int) (h : out ≠ []) : out[out.length - 1]? = some (out.getLastD 0) := by
  obtain ⟨o, x, rfl⟩ : ∃ o x, out = o ++ [x] := ⟨out.dropLast, out.getLast h, (List.dropLast_concat_getLast h).symm⟩
  simp
theorem argZ_take {w : World} {a : Option Addr} {l : List Int} (h : ArgZ w a l) (k : Nat) : ArgZ w a (l.take k) := by
  intro i x hx
  rw [List.getElem?_take] at hx
  split at hx
  · exact h i x hx
  · cases hx
theorem argZ_drop {w : World} {b off : Nat} {l : List Int} (h : ArgZ w (some ⟨b, off, none⟩) l) (i : Nat) : ArgZ w (some ⟨b, off + i, none⟩) (l.drop i) := by
  intro j x hx
  rw [List.getElem?_drop] at hx
  obtain ⟨b2, off2, e, h2, h3⟩ := h _ _ hx
  injection e with e
  injection e with e1 e2
  subst e1
  subst e2
  exact ⟨b, off + i, rfl, h2, by rw [Nat.add_assoc]; exact h3⟩
theorem Tryz.rowElem : Tryz.prog.elem 63 = 3 := by kernel_rfl
theorem Tryz.rowUnder : Tryz.prog.underlying 63 = some (.slice (Tryz.prog.elem 63)) := by rw [Tryz.rowElem]; exact Tryz.underlying63
theorem size_row (w : World) : (sizeOf (Tryz.prog.elem 63)).run Tryz.prog w = .ok 1 w := by
  obtain ⟨i1, ki, _, kz1, _⟩ := info_parts Tryz.infoInt
  rw [Tryz.rowElem]
  simp [sizeOf, typeInfo, ki, kz1]
theorem sliceZ_to (a : Option Addr) (n c k : Nat) (z : Int) (hz : z = (k : Nat)) (hk : k ≤ c) (w : World) : (Instr.slice 63 (.slice a n c) none (some (.int .i64 z)) none).run Tryz.prog w = .ok (.slice a k c) w := by
  subst hz
  rw [run_slice_h (P := Tryz.prog) w 63 a n c Tryz.rowUnder .i64 (k : Int) (by omega) (by omega), size_row]
  cases a with
  | none => simp [Result.andThen, sliced]
  | some x => simp [Result.andThen, sliced, Addr.add]
theorem sliceZ_from (g n c k : Nat) (z : Int) (hz : z = (k : Nat)) (hk : k ≤ n) (hkc : k < c) (w : World) : (Instr.slice 63 (.slice (some ⟨g, 0, none⟩) n c) (some (.int .i64 z)) none none).run Tryz.prog w = .ok (.slice (some ⟨g, 0 + k, none⟩) (n - k) (c - k)) w := by
  subst hz
  rw [run_slice_l (P := Tryz.prog) w 63 (some ⟨g, 0, none⟩) n c Tryz.rowUnder .i64 (k : Int) (by omega) (by omega), size_row]
  simp only [Result.andThen, sliced, Int.toNat_natCast]
  rw [if_neg (by omega)]
  simp [Addr.add]
  first | done | exact fun h => h.symm
/-- What lengths give: two rows, and a reader behind them; or an error. -/
def LensPost (T : TypeId) (R : Except Int ((List Int × List Int) × Nat)) (W : World) (p : Nat) (s : ByteArray) (e : Ending) (w' : World) : Prop := Turn p W w' ∧
  ((∃ x y j a1 c1 a2 c2, R = .ok ((x, y), j) ∧ e = .returned (.tuple #[.slice a1 x.length c1, .slice a2 y.length c2, .int .i64 0]) ∧ j ≤ 8 * s.size ∧ x.length ≤ 286 ∧ y.length ≤ 30 ∧ ArgZ w' a1 x ∧ ArgZ w' a2 y ∧ RdAt T w' p s j false) ∨
   (∃ er, R = .error er ∧ er ≠ 0 ∧ e = .returned (.tuple #[.slice none 0 0, .slice none 0 0, .int .i64 er])))

end Go.Proofs.YtaalbaiglkadlaaGreat

/- Contract of the document's 'lengths' of layer 11. -/
namespace Go.Proofs.YtaalbaiglkadlaaGreat
open Go.RowKit Go.Lib

theorem zero19 : natCs (List.replicate 19 0) = List.replicate 19 (Value.int .i64 0) := by
  unfold natCs
  rw [List.map_replicate]
  rfl
theorem Tryz.zeroFirst (w : World) : (zeroValue 119).run Tryz.prog w = .ok (.agg (natCs (List.replicate 19 0)).toArray) w := by
  rw [zero19]
  have h : (Tryz.prog.info? 119).map (·.zero) = some (some (.agg (List.replicate 19 (.int .i64 0)).toArray)) := by kernel_rfl
  cases hq : Tryz.prog.info? 119 with
  | none => rw [hq] at h; cases h
  | some i =>
    rw [hq] at h
    have hz : i.zero = some (.agg (List.replicate 19 (.int .i64 0)).toArray) := by simpa using h
    simp [zeroValue, typeInfo, hq, hz]
theorem maps_back (l : List Nat) : (l.map fun (x : Nat) => (x : Int)).map Int.toNat = l := by
  rw [List.map_map]
  exact (List.map_congr_left (fun x _ => Int.toNat_natCast x)).trans (List.map_id l)

end Go.Proofs.YtaalbaiglkadlaaGreat
