/- The code's 'taken' of layer 14: the fields of a central record, whatever stands between (printed by tools/mkcode14c.py). -/
import Derived.Test.YtbjjcjcobiokcaaOCodeA
import Derived.Test.YtbjjcjcobiokcaaOReadM
namespace Go.Proofs.Ytbjjcjcobiokcaa
open Go.RowKit Go.Lib

/-- What a central record begins with, field by field. -/
theorem CenAt.ver {s : ByteArray} {i : Nat} {r : Rec} (h : CenAt s i r) (hi : i ≤ s.size) :
    (textI s (i : Nat) 4 false = ((i + 4 : Nat) : Int) ∧ numW s (i : Nat) 4 false = false) ∧
    (numV (textV s ((i + 4 : Nat) : Int) 2 false) = verR r ∧ textI s ((i + 4 : Nat) : Int) 2 false = ((i + 6 : Nat) : Int) ∧ numW s ((i + 4 : Nat) : Int) 2 false = false) ∧
    (textI s ((i + 6 : Nat) : Int) 2 false = ((i + 8 : Nat) : Int) ∧ numW s ((i + 6 : Nat) : Int) 2 false = false) := by
  obtain ⟨hr, C, hc⟩ := h
  rw [cenS_list] at hc
  have hv : 0 ≤ verR r ∧ verR r ≤ 45 := by unfold verR; split <;> omega
  obtain ⟨_, b2, b3, d, hi⟩ := num_next (k := 4) (x := 33639248) (by rw [hc]; simp only [List.append_assoc]; rfl) hi (by decide) (by decide) (by decide)
  obtain ⟨c1, c2, c3, d, hi⟩ := num_next (k := 2) (x := verR r) d hi hv.1 (by omega) (by omega)
  obtain ⟨_, d2, d3, _, _⟩ := num_next (k := 2) (x := verR r) d hi hv.1 (by omega) (by omega)
  exact ⟨⟨b2, b3⟩, ⟨c1, c2, c3⟩, d2, d3⟩
/-- The extra field of one that is wide, number by number. -/
theorem CenAt.ext {s : ByteArray} {i : Nat} {r : Rec} (h : CenAt s i r) (hi : i ≤ s.size) (hw : r.wide = true) :
    (textI s ((i + 46 + r.name.size : Nat) : Int) 4 false = ((i + 46 + r.name.size + 4 : Nat) : Int) ∧ numW s ((i + 46 + r.name.size : Nat) : Int) 4 false = false) ∧
    (numV (textV s ((i + 46 + r.name.size + 4 : Nat) : Int) 8 false) = r.size ∧ textI s ((i + 46 + r.name.size + 4 : Nat) : Int) 8 false = ((i + 46 + r.name.size + 4 + 8 : Nat) : Int) ∧ numW s ((i + 46 + r.name.size + 4 : Nat) : Int) 8 false = false) ∧
    (numV (textV s ((i + 46 + r.name.size + 4 + 8 : Nat) : Int) 8 false) = r.packed ∧ textI s ((i + 46 + r.name.size + 4 + 8 : Nat) : Int) 8 false = ((i + 46 + r.name.size + 4 + 8 + 8 : Nat) : Int) ∧ numW s ((i + 46 + r.name.size + 4 + 8 : Nat) : Int) 8 false = false) ∧
    (numV (textV s ((i + 46 + r.name.size + 4 + 8 + 8 : Nat) : Int) 8 false) = r.at_ ∧ textI s ((i + 46 + r.name.size + 4 + 8 + 8 : Nat) : Int) 8 false = ((i + 46 + r.name.size + 4 + 8 + 8 + 8 : Nat) : Int) ∧ numW s ((i + 46 + r.name.size + 4 + 8 + 8 : Nat) : Int) 8 false = false) := by
  obtain ⟨hr, C, hc⟩ := h
  rw [cenS_list] at hc
  have hm : mostR r = 4611686018427387903 := by unfold mostR; rw [if_pos hw]
  have h1 := hr.size
  have h2 := hr.packed
  have h3 := hr.at_
  rw [hm] at h1 h2 h3
  have hx : (extraC r).data.toList = lowB 1572865 4 ++ (lowB r.size 8 ++ (lowB r.packed 8 ++ lowB r.at_ 8)) := by
    unfold extraC
    rw [if_pos hw]
    simp only [ba_append_list, lowS_list, List.append_assoc]
    rfl
  obtain ⟨_, _, _, d, hi⟩ := text_next (n := 46 + r.name.size) (B := (lowB 33639248 4 ++ (lowB (verR r) 2 ++ lowB (verR r) 2)) ++ (lowB r.flags 2 ++ (lowB r.method 2 ++ (lowB r.clock 2 ++ (lowB r.date 2 ++ (lowB r.sum 4 ++ (lowB (ownF r r.packed) 4 ++ (lowB (ownF r r.size) 4 ++ (lowB r.name.size 2 ++ (lowB (extraC r).size 2 ++ (lowB r.note.size 2 ++ ((lowB 0 2 ++ (lowB 0 2 ++ lowB 0 4)) ++ (lowB (ownF r r.at_) 4 ++ r.name.data.toList))))))))))))) (C := (extraC r).data.toList ++ (r.note.data.toList ++ C)) (by rw [hc]; simp only [List.append_assoc]) (by simp only [List.length_append, lowB_length, ba_size]; omega) hi
  rw [← Nat.add_assoc] at d hi
  rw [hx] at d
  simp only [List.append_assoc] at d
  obtain ⟨_, a2, a3, d, hi⟩ := num_next (k := 4) d hi (by decide) (by decide) (by decide)
  obtain ⟨b1, b2, b3, d, hi⟩ := num_next (k := 8) d hi h1.1 (by have := h1.2; omega) (by have := h1.2; omega)
  obtain ⟨c1, c2, c3, d, hi⟩ := num_next (k := 8) d hi h2.1 (by have := h2.2; omega) (by have := h2.2; omega)
  obtain ⟨e1, e2, e3, d, hi⟩ := num_next (k := 8) d hi h3.1 (by have := h3.2; omega) (by have := h3.2; omega)
  exact ⟨⟨a2, a3⟩, ⟨b1, b2, b3⟩, ⟨c1, c2, c3⟩, e1, e2, e3⟩

theorem results_one14 {fn : Func} {T : TypeId} {i : Tmp} (h : fn.results = #[.cell i T]) (tmps : Array Value) (P : Program) (w : World) (g : Nat) (cs : Array Value) {fs}
    (ht : tmps.getD i undef = .pointer (some ⟨g, 0, none⟩)) (hg : w.heap[g]? = some (.cells cs T (0, 0))) (hu : P.underlying T = some (.struct fs)) (hi : (P.info? T).map (·.size) = some cs.size) :
    (results fn tmps).run P w = .ok (.agg cs) w := by
  have hl := run_loadVar_row (P := P) w g T T cs (0, 0) _ hg hu rfl hi
  have ha : (asAddr (tmps.getD i undef)).run P w = .ok ⟨g, 0, none⟩ w := by rw [ht]; rfl
  rw [Array.getD_eq_getD_getElem?] at ha
  simp [results, h, ha, hl]
theorem set_eleven14 (w : World) (p : Nat) (b0 b1 b2 b3 b4 b5 b6 b7 b8 b9 b10 a0 a1 a2 a3 a4 a5 a6 a7 a8 a9 a10 : Value) (T : TypeId) (h : w.heap[p]? = some (.cells #[b0, b1, b2, b3, b4, b5, b6, b7, b8, b9, b10] T (0, 0))) :
    (((((((((((w.setCell ⟨p, 0, none⟩ a0).setCell ⟨p, 1, none⟩ a1).setCell ⟨p, 2, none⟩ a2).setCell ⟨p, 3, none⟩ a3).setCell ⟨p, 4, none⟩ a4).setCell ⟨p, 5, none⟩ a5).setCell ⟨p, 6, none⟩ a6).setCell ⟨p, 7, none⟩ a7).setCell ⟨p, 8, none⟩ a8).setCell ⟨p, 9, none⟩ a9).setCell ⟨p, 10, none⟩ a10).heap[p]? = some (.cells #[a0, a1, a2, a3, a4, a5, a6, a7, a8, a9, a10] T (0, 0)) := by
  simp [World.setCell, Array.getElem?_modify, h]
def put11 (w : World) (p : Nat) (a0 a1 a2 a3 a4 a5 a6 a7 a8 a9 a10 : Value) : World := (((((((((((w.setCell ⟨p, 0, none⟩ a0).setCell ⟨p, 1, none⟩ a1).setCell ⟨p, 2, none⟩ a2).setCell ⟨p, 3, none⟩ a3).setCell ⟨p, 4, none⟩ a4).setCell ⟨p, 5, none⟩ a5).setCell ⟨p, 6, none⟩ a6).setCell ⟨p, 7, none⟩ a7).setCell ⟨p, 8, none⟩ a8).setCell ⟨p, 9, none⟩ a9).setCell ⟨p, 10, none⟩ a10)
theorem put11_only (w : World) (p : Nat) (a0 a1 a2 a3 a4 a5 a6 a7 a8 a9 a10 : Value) : Only p w (put11 w p a0 a1 a2 a3 a4 a5 a6 a7 a8 a9 a10) :=
  ((((((((((Only.setCell p 0 w a0).trans (Only.setCell p 1 _ a1)).trans (Only.setCell p 2 _ a2)).trans (Only.setCell p 3 _ a3)).trans (Only.setCell p 4 _ a4)).trans (Only.setCell p 5 _ a5)).trans (Only.setCell p 6 _ a6)).trans (Only.setCell p 7 _ a7)).trans (Only.setCell p 8 _ a8)).trans (Only.setCell p 9 _ a9)).trans (Only.setCell p 10 _ a10)
theorem RW.swap {T : TypeId} {w w' W : World} {p Q R : Nat} {s : ByteArray} {i : Int} {b : Bool} {cs cs' : Array Value} (h : RW T w W p s i b Q R cs) (o : Only R w w') (hr : w'.heap[R]? = some (.cells cs' 23 (0, 0))) : RW T w' W p s i b Q R cs' := by
  have h2 := h.lr
  have h3 := h.pw
  exact ⟨h.cur.block (o.block p (by omega)), o.os.trans h.os, o.tape.trans h.tape, o.output.trans h.output, by rw [o.size]; exact h.size, fun q hq hp => (o.block q (by omega)).trans (h.blk q hq hp), (o.block Q h.qr).trans h.qa, hr, h.lq, h2, h.qr, h3⟩
theorem RW.start14 {T : TypeId} {W w1 : World} {p : Nat} {s : ByteArray} {i j : Int} {b : Bool} (cs : Array Value) (c : CurAt T W p s i false) (k : CurAt T w1 p s j b) (o : Only p (W.alloc (.cells (recCs zeroR) 23)) w1) : RW T (w1.alloc (.cells cs 23)) W p s j b W.heap.size w1.heap.size cs := by
  have hp := c.lt
  have s1 : (W.alloc (.cells (recCs zeroR) 23)).heap.size = W.heap.size + 1 := by show (W.heap.push _).size = _; simp
  have s2 := o.size
  have s3 : (w1.alloc (.cells cs 23)).heap.size = w1.heap.size + 1 := by show (w1.heap.push _).size = _; simp
  have bb : Below w1.heap.size w1 (w1.alloc (.cells cs 23)) := (Below.refl _ _).alloc (Nat.le_refl _) _
  have ba : Below W.heap.size W (W.alloc (.cells (recCs zeroR) 23)) := (Below.refl _ _).alloc (Nat.le_refl _) _
  refine ⟨k.alloc _, o.os, o.tape, o.output, by omega, fun q hq hne => ?_, ?_, rec_new _ _ _, Nat.le_refl _, by omega, by omega, hp⟩
  · rw [bb.block q (by omega), o.block q hne, ba.block q hq]
  · rw [bb.block _ (by omega), o.block _ (by omega)]
    exact rec_new _ _ _
/-- What is taken of the bytes: a record; of the one that comes, that one. -/
def TakenP (T : TypeId) (s : ByteArray) (p i : Nat) (W : World) (e : Ending) (w' : World) : Prop :=
  w'.os = W.os ∧ w'.tape = W.tape ∧ w'.output = W.output ∧ W.heap.size ≤ w'.heap.size ∧ (∀ k, k < W.heap.size → k ≠ p → w'.heap[k]? = W.heap[k]?) ∧
  ∃ (r : Rec) (q : Int) (b : Bool), e = .returned (recV r) ∧ CurAt T w' p s q b ∧ ((i : Int) ≤ q ∧ q ≤ s.size) ∧ ∀ r0, CenAt s i r0 → b = false ∧ r0 = r ∧ q = ((i + (cenS r0).size : Nat) : Int)
theorem RW.take {T : TypeId} {w w2 W : World} {p Q R i : Nat} {s : ByteArray} {q : Int} {b : Bool} {cs : Array Value} {r : Rec} (h : RW T w W p s q b Q R cs) (o : Only Q w w2) (hq : (i : Int) ≤ q ∧ q ≤ s.size)
    (he : ∀ r0, CenAt s i r0 → b = false ∧ r0 = r ∧ q = ((i + (cenS r0).size : Nat) : Int)) : TakenP T s p i W (.returned (recV r)) w2 := by
  have hl := h.lq
  have hp := h.pw
  refine ⟨o.os.trans h.os, o.tape.trans h.tape, o.output.trans h.output, ?_, fun k hk hne => ?_, r, q, b, rfl, h.cur.block (o.block p (by omega)), hq, he⟩
  · rw [o.size]
    exact h.size
  · rw [o.block k (by omega)]
    exact h.blk k hk hne

set_option maxRecDepth 20000 in
set_option maxHeartbeats 16000000 in
theorem taken14 (s : ByteArray) (p i : Nat) (W : World) (h : CurAt 29 W p s (i : Nat) false) (hi : i ≤ s.size) (hs : s.size ≤ 1000000000) : Calls Try.prog 37 #[.pointer (some ⟨p, 0, none⟩)] W fun e w' => TakenP 29 s p i W e w' := by
  have H := hide h
  have HS := hide (show s.size ≤ 1000000000000 by omega)
  have R0 := hide (show (0 : Int) ≤ (i : Int) ∧ (i : Int) ≤ s.size by omega)
  obtain ⟨q0, hq0⟩ : ∃ x : Int, (i : Int) = x := ⟨_, rfl⟩
  have Q0 := hide hq0
  obtain ⟨c0, hc0⟩ : ∃ x : Bool, false = x := ⟨_, rfl⟩
  have C0 := hide hc0
  rw [hq0] at R0
  have RZ := R0
  have R0 := hide (show q0 ≤ q0 ∧ q0 ≤ s.size from ⟨Int.le_refl _, RZ.out.2⟩)
  have H0 := hide (h.alloc (.cells (recCs zeroR) 23))
  rw [hq0, hc0] at H0
  have O0 := hide (Only.refl p (W.alloc (.cells (recCs zeroR) 23)))
  have HL := hide (show q0 ≤ 9223372036854775807 by have := R0.out; omega)
  clear h hq0 hc0 hs
  go_enter Try.func37, Try.ntmps37
  go_wp2_with fail
  refine (cu32_any p s _ q0 c0 H0.out HL.out HS.out).mono ?_
  rintro e w1 ⟨rfl, hc, ho⟩
  obtain ⟨q1, hq⟩ : ∃ x, textI s q0 4 c0 = x := ⟨_, rfl⟩
  obtain ⟨c1, hb⟩ : ∃ x, numW s q0 4 c0 = x := ⟨_, rfl⟩
  obtain ⟨d1, hv⟩ : ∃ x, numV (textV s q0 4 c0) = x := ⟨_, rfl⟩
  rw [hq, hb] at hc
  try simp only [hv]
  have R1 := hide (show q0 ≤ q1 ∧ q1 ≤ s.size by have h0 := RZ.out; have h1 := R0.out; have h2 := textI_in (i := q0) (n := 4) (bad := c0) (by omega) h1.2; rw [hq] at h2; omega)
  have HL := hide (show q1 ≤ 9223372036854775807 by have := R1.out; have := HS.out; omega)
  have Q1 := hide hq
  have C1 := hide hb
  have V1 := hide hv
  clear hq hb hv R0
  have H1 := hide hc
  have O1 := hide (O0.out.trans ho)
  clear hc ho H0 O0
  go_wp2_with fail
  refine (cu16_any p s _ q1 c1 H1.out HL.out HS.out).mono ?_
  rintro e w2 ⟨rfl, hc, ho⟩
  obtain ⟨q2, hq⟩ : ∃ x, textI s q1 2 c1 = x := ⟨_, rfl⟩
  obtain ⟨c2, hb⟩ : ∃ x, numW s q1 2 c1 = x := ⟨_, rfl⟩
  obtain ⟨v2, hv⟩ : ∃ x, numV (textV s q1 2 c1) = x := ⟨_, rfl⟩
  rw [hq, hb] at hc
  try simp only [hv]
  have R2 := hide (show q0 ≤ q2 ∧ q2 ≤ s.size by have h0 := RZ.out; have h1 := R1.out; have h2 := textI_in (i := q1) (n := 2) (bad := c1) (by omega) h1.2; rw [hq] at h2; omega)
  have HL := hide (show q2 ≤ 9223372036854775807 by have := R2.out; have := HS.out; omega)
  have Q2 := hide hq
  have C2 := hide hb
  have V2 := hide hv
  clear hq hb hv R1
  have H2 := hide hc
  have O2 := hide (O1.out.trans ho)
  clear hc ho H1 O1
  obtain ⟨wd, hwd⟩ : ∃ x : Bool, (v2 == 45) = x := ⟨_, rfl⟩
  have HWD := hide hwd
  go_wp2_with fail
  refine (cu16_any p s _ q2 c2 H2.out HL.out HS.out).mono ?_
  rintro e w3 ⟨rfl, hc, ho⟩
  obtain ⟨q3, hq⟩ : ∃ x, textI s q2 2 c2 = x := ⟨_, rfl⟩
  obtain ⟨c3, hb⟩ : ∃ x, numW s q2 2 c2 = x := ⟨_, rfl⟩
  obtain ⟨d3, hv⟩ : ∃ x, numV (textV s q2 2 c2) = x := ⟨_, rfl⟩
  rw [hq, hb] at hc
  try simp only [hv]
  have R3 := hide (show q0 ≤ q3 ∧ q3 ≤ s.size by have h0 := RZ.out; have h1 := R2.out; have h2 := textI_in (i := q2) (n := 2) (bad := c2) (by omega) h1.2; rw [hq] at h2; omega)
  have HL := hide (show q3 ≤ 9223372036854775807 by have := R3.out; have := HS.out; omega)
  have Q3 := hide hq
  have C3 := hide hb
  have V3 := hide hv
  clear hq hb hv R2
  have H3 := hide hc
  have O3 := hide (O2.out.trans ho)
  clear hc ho H2 O2
  go_wp2_with fail
  refine (cu16_any p s _ q3 c3 H3.out HL.out HS.out).mono ?_
  rintro e w4 ⟨rfl, hc, ho⟩
  obtain ⟨q4, hq⟩ : ∃ x, textI s q3 2 c3 = x := ⟨_, rfl⟩
  obtain ⟨c4, hb⟩ : ∃ x, numW s q3 2 c3 = x := ⟨_, rfl⟩
  obtain ⟨fl, hv⟩ : ∃ x, numV (textV s q3 2 c3) = x := ⟨_, rfl⟩
  rw [hq, hb] at hc
  try simp only [hv]
  have R4 := hide (show q0 ≤ q4 ∧ q4 ≤ s.size by have h0 := RZ.out; have h1 := R3.out; have h2 := textI_in (i := q3) (n := 2) (bad := c3) (by omega) h1.2; rw [hq] at h2; omega)
  have HL := hide (show q4 ≤ 9223372036854775807 by have := R4.out; have := HS.out; omega)
  have Q4 := hide hq
  have C4 := hide hb
  have V4 := hide hv
  clear hq hb hv R3
  have H4 := hide hc
  have O4 := hide (O3.out.trans ho)
  clear hc ho H3 O3
  go_wp2_with fail
  refine (cu16_any p s _ q4 c4 H4.out HL.out HS.out).mono ?_
  rintro e w5 ⟨rfl, hc, ho⟩
  obtain ⟨q5, hq⟩ : ∃ x, textI s q4 2 c4 = x := ⟨_, rfl⟩
  obtain ⟨c5, hb⟩ : ∃ x, numW s q4 2 c4 = x := ⟨_, rfl⟩
  obtain ⟨me, hv⟩ : ∃ x, numV (textV s q4 2 c4) = x := ⟨_, rfl⟩
  rw [hq, hb] at hc
  try simp only [hv]
  have R5 := hide (show q0 ≤ q5 ∧ q5 ≤ s.size by have h0 := RZ.out; have h1 := R4.out; have h2 := textI_in (i := q4) (n := 2) (bad := c4) (by omega) h1.2; rw [hq] at h2; omega)
  have HL := hide (show q5 ≤ 9223372036854775807 by have := R5.out; have := HS.out; omega)
  have Q5 := hide hq
  have C5 := hide hb
  have V5 := hide hv
  clear hq hb hv R4
  have H5 := hide hc
  have O5 := hide (O4.out.trans ho)
  clear hc ho H4 O4
  go_wp2_with fail
  refine (cu16_any p s _ q5 c5 H5.out HL.out HS.out).mono ?_
  rintro e w6 ⟨rfl, hc, ho⟩
  obtain ⟨q6, hq⟩ : ∃ x, textI s q5 2 c5 = x := ⟨_, rfl⟩
  obtain ⟨c6, hb⟩ : ∃ x, numW s q5 2 c5 = x := ⟨_, rfl⟩
  obtain ⟨ck, hv⟩ : ∃ x, numV (textV s q5 2 c5) = x := ⟨_, rfl⟩
  rw [hq, hb] at hc
  try simp only [hv]
  have R6 := hide (show q0 ≤ q6 ∧ q6 ≤ s.size by have h0 := RZ.out; have h1 := R5.out; have h2 := textI_in (i := q5) (n := 2) (bad := c5) (by omega) h1.2; rw [hq] at h2; omega)
  have HL := hide (show q6 ≤ 9223372036854775807 by have := R6.out; have := HS.out; omega)
  have Q6 := hide hq
  have C6 := hide hb
  have V6 := hide hv
  clear hq hb hv R5
  have H6 := hide hc
  have O6 := hide (O5.out.trans ho)
  clear hc ho H5 O5
  go_wp2_with fail
  refine (cu16_any p s _ q6 c6 H6.out HL.out HS.out).mono ?_
  rintro e w7 ⟨rfl, hc, ho⟩
  obtain ⟨q7, hq⟩ : ∃ x, textI s q6 2 c6 = x := ⟨_, rfl⟩
  obtain ⟨c7, hb⟩ : ∃ x, numW s q6 2 c6 = x := ⟨_, rfl⟩
  obtain ⟨da, hv⟩ : ∃ x, numV (textV s q6 2 c6) = x := ⟨_, rfl⟩
  rw [hq, hb] at hc
  try simp only [hv]
  have R7 := hide (show q0 ≤ q7 ∧ q7 ≤ s.size by have h0 := RZ.out; have h1 := R6.out; have h2 := textI_in (i := q6) (n := 2) (bad := c6) (by omega) h1.2; rw [hq] at h2; omega)
  have HL := hide (show q7 ≤ 9223372036854775807 by have := R7.out; have := HS.out; omega)
  have Q7 := hide hq
  have C7 := hide hb
  have V7 := hide hv
  clear hq hb hv R6
  have H7 := hide hc
  have O7 := hide (O6.out.trans ho)
  clear hc ho H6 O6
  have H7 := hide (RW.start14 #[.string ⟨#[]⟩, .string ⟨#[]⟩, .int .i64 fl, .int .i64 me, .int .i64 da, .int .i64 ck, .int .i64 0, .int .i64 0, .int .i64 0, .int .i64 0, .bool wd] H.out H7.out O7.out)
  obtain ⟨Q, hQ⟩ : ∃ x, W.heap.size = x := ⟨_, rfl⟩
  obtain ⟨R, hR⟩ : ∃ x, w7.heap.size = x := ⟨_, rfl⟩
  obtain ⟨v7, hv7⟩ : ∃ x, w7.alloc (.cells #[.string ⟨#[]⟩, .string ⟨#[]⟩, .int .i64 fl, .int .i64 me, .int .i64 da, .int .i64 ck, .int .i64 0, .int .i64 0, .int .i64 0, .int .i64 0, .bool wd] 23) = x := ⟨_, rfl⟩
  rw [hQ, hR, hv7] at H7
  go_wp2_with fail
  try simp only [hQ]
  try simp only [hR]
  try simp only [hv7]
  clear hQ hR hv7 O7
  refine (cu32_any p s _ q7 c7 H7.out.cur HL.out HS.out).mono ?_
  rintro e w8 ⟨rfl, hc, ho⟩
  obtain ⟨q8, hq⟩ : ∃ x, textI s q7 4 c7 = x := ⟨_, rfl⟩
  obtain ⟨c8, hb⟩ : ∃ x, numW s q7 4 c7 = x := ⟨_, rfl⟩
  obtain ⟨su, hv⟩ : ∃ x, numV (textV s q7 4 c7) = x := ⟨_, rfl⟩
  rw [hq, hb] at hc
  try simp only [hv]
  have R8 := hide (show q0 ≤ q8 ∧ q8 ≤ s.size by have h0 := RZ.out; have h1 := R7.out; have h2 := textI_in (i := q7) (n := 4) (bad := c7) (by omega) h1.2; rw [hq] at h2; omega)
  have HL := hide (show q8 ≤ 9223372036854775807 by have := R8.out; have := HS.out; omega)
  have Q8 := hide hq
  have C8 := hide hb
  have V8 := hide hv
  clear hq hb hv R7
  have H8 := hide (H7.out.only ho hc)
  clear hc ho H7
  go_wp2_with fail
  refine (cu32_any p s _ q8 c8 H8.out.cur HL.out HS.out).mono ?_
  rintro e w9 ⟨rfl, hc, ho⟩
  obtain ⟨q9, hq⟩ : ∃ x, textI s q8 4 c8 = x := ⟨_, rfl⟩
  obtain ⟨c9, hb⟩ : ∃ x, numW s q8 4 c8 = x := ⟨_, rfl⟩
  obtain ⟨pk, hv⟩ : ∃ x, numV (textV s q8 4 c8) = x := ⟨_, rfl⟩
  rw [hq, hb] at hc
  try simp only [hv]
  have R9 := hide (show q0 ≤ q9 ∧ q9 ≤ s.size by have h0 := RZ.out; have h1 := R8.out; have h2 := textI_in (i := q8) (n := 4) (bad := c8) (by omega) h1.2; rw [hq] at h2; omega)
  have HL := hide (show q9 ≤ 9223372036854775807 by have := R9.out; have := HS.out; omega)
  have Q9 := hide hq
  have C9 := hide hb
  have V9 := hide hv
  clear hq hb hv R8
  have H9 := hide (H8.out.only ho hc)
  clear hc ho H8
  go_wp2_with fail
  refine (cu32_any p s _ q9 c9 H9.out.cur HL.out HS.out).mono ?_
  rintro e w10 ⟨rfl, hc, ho⟩
  obtain ⟨q10, hq⟩ : ∃ x, textI s q9 4 c9 = x := ⟨_, rfl⟩
  obtain ⟨c10, hb⟩ : ∃ x, numW s q9 4 c9 = x := ⟨_, rfl⟩
  obtain ⟨sz, hv⟩ : ∃ x, numV (textV s q9 4 c9) = x := ⟨_, rfl⟩
  rw [hq, hb] at hc
  try simp only [hv]
  have R10 := hide (show q0 ≤ q10 ∧ q10 ≤ s.size by have h0 := RZ.out; have h1 := R9.out; have h2 := textI_in (i := q9) (n := 4) (bad := c9) (by omega) h1.2; rw [hq] at h2; omega)
  have HL := hide (show q10 ≤ 9223372036854775807 by have := R10.out; have := HS.out; omega)
  have Q10 := hide hq
  have C10 := hide hb
  have V10 := hide hv
  clear hq hb hv R9
  have H10 := hide (H9.out.only ho hc)
  clear hc ho H9
  obtain ⟨g0, g1, g2, g3, g4, g5, g6, g7, g8, g9, g10⟩ := rec_cells H10.out.ra
  have z6 := rec_frozen H10.out.ra 6
  have z8 := rec_frozen H10.out.ra 8
  have z7 := rec_frozen H10.out.ra 7
  have HN := hide (show RW 29 (((w10.setCell ⟨R, 6, none⟩ (.int .i64 su)).setCell ⟨R, 8, none⟩ (.int .i64 pk)).setCell ⟨R, 7, none⟩ (.int .i64 sz)) W p s q10 c10 Q R #[.string ⟨#[]⟩, .string ⟨#[]⟩, .int .i64 fl, .int .i64 me, .int .i64 da, .int .i64 ck, .int .i64 su, .int .i64 sz, .int .i64 pk, .int .i64 0, .bool wd] from (((H10.out.put 6 (.int .i64 su)).put 8 (.int .i64 pk)).put 7 (.int .i64 sz)))
  obtain ⟨v10, hvv⟩ : ∃ x, (((w10.setCell ⟨R, 6, none⟩ (.int .i64 su)).setCell ⟨R, 8, none⟩ (.int .i64 pk)).setCell ⟨R, 7, none⟩ (.int .i64 sz)) = x := ⟨_, rfl⟩
  rw [hvv] at HN
  go_wp2_with fail
  try simp only [hvv]
  have H10 := HN
  clear hvv HN g0 g1 g2 g3 g4 g5 g6 g7 g8 g9 g10 z6 z8 z7
  refine (cu16_any p s _ q10 c10 H10.out.cur HL.out HS.out).mono ?_
  rintro e w11 ⟨rfl, hc, ho⟩
  obtain ⟨q11, hq⟩ : ∃ x, textI s q10 2 c10 = x := ⟨_, rfl⟩
  obtain ⟨c11, hb⟩ : ∃ x, numW s q10 2 c10 = x := ⟨_, rfl⟩
  obtain ⟨nl, hv⟩ : ∃ x, numV (textV s q10 2 c10) = x := ⟨_, rfl⟩
  rw [hq, hb] at hc
  try simp only [hv]
  have R11 := hide (show q0 ≤ q11 ∧ q11 ≤ s.size by have h0 := RZ.out; have h1 := R10.out; have h2 := textI_in (i := q10) (n := 2) (bad := c10) (by omega) h1.2; rw [hq] at h2; omega)
  have HL := hide (show q11 ≤ 9223372036854775807 by have := R11.out; have := HS.out; omega)
  have Q11 := hide hq
  have C11 := hide hb
  have V11 := hide hv
  clear hq hb hv R10
  have H11 := hide (H10.out.only ho hc)
  clear hc ho H10
  go_wp2_with fail
  refine (cu16_any p s _ q11 c11 H11.out.cur HL.out HS.out).mono ?_
  rintro e w12 ⟨rfl, hc, ho⟩
  obtain ⟨q12, hq⟩ : ∃ x, textI s q11 2 c11 = x := ⟨_, rfl⟩
  obtain ⟨c12, hb⟩ : ∃ x, numW s q11 2 c11 = x := ⟨_, rfl⟩
  obtain ⟨d12, hv⟩ : ∃ x, numV (textV s q11 2 c11) = x := ⟨_, rfl⟩
  rw [hq, hb] at hc
  try simp only [hv]
  have R12 := hide (show q0 ≤ q12 ∧ q12 ≤ s.size by have h0 := RZ.out; have h1 := R11.out; have h2 := textI_in (i := q11) (n := 2) (bad := c11) (by omega) h1.2; rw [hq] at h2; omega)
  have HL := hide (show q12 ≤ 9223372036854775807 by have := R12.out; have := HS.out; omega)
  have Q12 := hide hq
  have C12 := hide hb
  have V12 := hide hv
  clear hq hb hv R11
  have H12 := hide (H11.out.only ho hc)
  clear hc ho H11
  go_wp2_with fail
  refine (cu16_any p s _ q12 c12 H12.out.cur HL.out HS.out).mono ?_
  rintro e w13 ⟨rfl, hc, ho⟩
  obtain ⟨q13, hq⟩ : ∃ x, textI s q12 2 c12 = x := ⟨_, rfl⟩
  obtain ⟨c13, hb⟩ : ∃ x, numW s q12 2 c12 = x := ⟨_, rfl⟩
  obtain ⟨tl, hv⟩ : ∃ x, numV (textV s q12 2 c12) = x := ⟨_, rfl⟩
  rw [hq, hb] at hc
  try simp only [hv]
  have R13 := hide (show q0 ≤ q13 ∧ q13 ≤ s.size by have h0 := RZ.out; have h1 := R12.out; have h2 := textI_in (i := q12) (n := 2) (bad := c12) (by omega) h1.2; rw [hq] at h2; omega)
  have HL := hide (show q13 ≤ 9223372036854775807 by have := R13.out; have := HS.out; omega)
  have Q13 := hide hq
  have C13 := hide hb
  have V13 := hide hv
  clear hq hb hv R12
  have H13 := hide (H12.out.only ho hc)
  clear hc ho H12
  go_wp2_with fail
  refine (ctext_any p s _ q13 c13 H13.out.cur HL.out HS.out 8).mono ?_
  rintro e w14 ⟨rfl, hc, ho⟩
  obtain ⟨q14, hq⟩ : ∃ x, textI s q13 8 c13 = x := ⟨_, rfl⟩
  obtain ⟨c14, hb⟩ : ∃ x, (!canT s q13 8 c13) = x := ⟨_, rfl⟩
  obtain ⟨d14, hv⟩ : ∃ x, textV s q13 8 c13 = x := ⟨_, rfl⟩
  rw [hq, hb] at hc
  try simp only [hv]
  have R14 := hide (show q0 ≤ q14 ∧ q14 ≤ s.size by have h0 := RZ.out; have h1 := R13.out; have h2 := textI_in (i := q13) (n := 8) (bad := c13) (by omega) h1.2; rw [hq] at h2; omega)
  have HL := hide (show q14 ≤ 9223372036854775807 by have := R14.out; have := HS.out; omega)
  have Q14 := hide hq
  have C14 := hide hb
  have V14 := hide hv
  clear hq hb hv R13
  have H14 := hide (H13.out.only ho hc)
  clear hc ho H13
  go_wp2_with fail
  refine (cu32_any p s _ q14 c14 H14.out.cur HL.out HS.out).mono ?_
  rintro e w15 ⟨rfl, hc, ho⟩
  obtain ⟨q15, hq⟩ : ∃ x, textI s q14 4 c14 = x := ⟨_, rfl⟩
  obtain ⟨c15, hb⟩ : ∃ x, numW s q14 4 c14 = x := ⟨_, rfl⟩
  obtain ⟨at_, hv⟩ : ∃ x, numV (textV s q14 4 c14) = x := ⟨_, rfl⟩
  rw [hq, hb] at hc
  try simp only [hv]
  have R15 := hide (show q0 ≤ q15 ∧ q15 ≤ s.size by have h0 := RZ.out; have h1 := R14.out; have h2 := textI_in (i := q14) (n := 4) (bad := c14) (by omega) h1.2; rw [hq] at h2; omega)
  have HL := hide (show q15 ≤ 9223372036854775807 by have := R15.out; have := HS.out; omega)
  have Q15 := hide hq
  have C15 := hide hb
  have V15 := hide hv
  clear hq hb hv R14
  have H15 := hide (H14.out.only ho hc)
  clear hc ho H14
  obtain ⟨g0, g1, g2, g3, g4, g5, g6, g7, g8, g9, g10⟩ := rec_cells H15.out.ra
  have z9 := rec_frozen H15.out.ra 9
  have HN := hide (show RW 29 (w15.setCell ⟨R, 9, none⟩ (.int .i64 at_)) W p s q15 c15 Q R #[.string ⟨#[]⟩, .string ⟨#[]⟩, .int .i64 fl, .int .i64 me, .int .i64 da, .int .i64 ck, .int .i64 su, .int .i64 sz, .int .i64 pk, .int .i64 at_, .bool wd] from (H15.out.put 9 (.int .i64 at_)))
  obtain ⟨v15, hvv⟩ : ∃ x, (w15.setCell ⟨R, 9, none⟩ (.int .i64 at_)) = x := ⟨_, rfl⟩
  rw [hvv] at HN
  go_wp2_with fail
  try simp only [hvv]
  have H15 := HN
  clear hvv HN g0 g1 g2 g3 g4 g5 g6 g7 g8 g9 g10 z9
  refine (ctext_any p s _ q15 c15 H15.out.cur HL.out HS.out nl).mono ?_
  rintro e w16 ⟨rfl, hc, ho⟩
  obtain ⟨q16, hq⟩ : ∃ x, textI s q15 nl c15 = x := ⟨_, rfl⟩
  obtain ⟨c16, hb⟩ : ∃ x, (!canT s q15 nl c15) = x := ⟨_, rfl⟩
  obtain ⟨nm, hv⟩ : ∃ x, textV s q15 nl c15 = x := ⟨_, rfl⟩
  rw [hq, hb] at hc
  try simp only [hv]
  have R16 := hide (show q0 ≤ q16 ∧ q16 ≤ s.size by have h0 := RZ.out; have h1 := R15.out; have h2 := textI_in (i := q15) (n := nl) (bad := c15) (by omega) h1.2; rw [hq] at h2; omega)
  have HL := hide (show q16 ≤ 9223372036854775807 by have := R16.out; have := HS.out; omega)
  have Q16 := hide hq
  have C16 := hide hb
  have V16 := hide hv
  clear hq hb hv R15
  have H16 := hide (H15.out.only ho hc)
  clear hc ho H15
  cases wd with
  | true =>
    obtain ⟨g0, g1, g2, g3, g4, g5, g6, g7, g8, g9, g10⟩ := rec_cells H16.out.ra
    have z0 := rec_frozen H16.out.ra 0
    have HN := hide (show RW 29 (w16.setCell ⟨R, 0, none⟩ (.string nm)) W p s q16 c16 Q R #[.string nm, .string ⟨#[]⟩, .int .i64 fl, .int .i64 me, .int .i64 da, .int .i64 ck, .int .i64 su, .int .i64 sz, .int .i64 pk, .int .i64 at_, .bool true] from (H16.out.put 0 (.string nm)))
    obtain ⟨v16, hvv⟩ : ∃ x, (w16.setCell ⟨R, 0, none⟩ (.string nm)) = x := ⟨_, rfl⟩
    rw [hvv] at HN
    go_wp2_with fail
    try simp only [hvv]
    have H16 := HN
    clear hvv HN g0 g1 g2 g3 g4 g5 g6 g7 g8 g9 g10 z0
    refine (cu32_any p s _ q16 c16 H16.out.cur HL.out HS.out).mono ?_
    rintro e w17 ⟨rfl, hc, ho⟩
    obtain ⟨q17, hq⟩ : ∃ x, textI s q16 4 c16 = x := ⟨_, rfl⟩
    obtain ⟨c17, hb⟩ : ∃ x, numW s q16 4 c16 = x := ⟨_, rfl⟩
    obtain ⟨d17, hv⟩ : ∃ x, numV (textV s q16 4 c16) = x := ⟨_, rfl⟩
    rw [hq, hb] at hc
    try simp only [hv]
    have R17 := hide (show q0 ≤ q17 ∧ q17 ≤ s.size by have h0 := RZ.out; have h1 := R16.out; have h2 := textI_in (i := q16) (n := 4) (bad := c16) (by omega) h1.2; rw [hq] at h2; omega)
    have HL := hide (show q17 ≤ 9223372036854775807 by have := R17.out; have := HS.out; omega)
    have Q17 := hide hq
    have C17 := hide hb
    have V17 := hide hv
    clear hq hb hv R16
    have H17 := hide (H16.out.only ho hc)
    clear hc ho H16
    go_wp2_with fail
    refine (cu64_any p s _ q17 c17 H17.out.cur HL.out HS.out).mono ?_
    rintro e w18 ⟨rfl, hc, ho⟩
    obtain ⟨q18, hq⟩ : ∃ x, textI s q17 8 c17 = x := ⟨_, rfl⟩
    obtain ⟨c18, hb⟩ : ∃ x, numW s q17 8 c17 = x := ⟨_, rfl⟩
    obtain ⟨vs, hv⟩ : ∃ x, numV (textV s q17 8 c17) = x := ⟨_, rfl⟩
    rw [hq, hb] at hc
    try simp only [hv]
    have R18 := hide (show q0 ≤ q18 ∧ q18 ≤ s.size by have h0 := RZ.out; have h1 := R17.out; have h2 := textI_in (i := q17) (n := 8) (bad := c17) (by omega) h1.2; rw [hq] at h2; omega)
    have HL := hide (show q18 ≤ 9223372036854775807 by have := R18.out; have := HS.out; omega)
    have Q18 := hide hq
    have C18 := hide hb
    have V18 := hide hv
    clear hq hb hv R17
    have H18 := hide (H17.out.only ho hc)
    clear hc ho H17
    go_wp2_with fail
    refine (cu64_any p s _ q18 c18 H18.out.cur HL.out HS.out).mono ?_
    rintro e w19 ⟨rfl, hc, ho⟩
    obtain ⟨q19, hq⟩ : ∃ x, textI s q18 8 c18 = x := ⟨_, rfl⟩
    obtain ⟨c19, hb⟩ : ∃ x, numW s q18 8 c18 = x := ⟨_, rfl⟩
    obtain ⟨vp, hv⟩ : ∃ x, numV (textV s q18 8 c18) = x := ⟨_, rfl⟩
    rw [hq, hb] at hc
    try simp only [hv]
    have R19 := hide (show q0 ≤ q19 ∧ q19 ≤ s.size by have h0 := RZ.out; have h1 := R18.out; have h2 := textI_in (i := q18) (n := 8) (bad := c18) (by omega) h1.2; rw [hq] at h2; omega)
    have HL := hide (show q19 ≤ 9223372036854775807 by have := R19.out; have := HS.out; omega)
    have Q19 := hide hq
    have C19 := hide hb
    have V19 := hide hv
    clear hq hb hv R18
    have H19 := hide (H18.out.only ho hc)
    clear hc ho H18
    go_wp2_with fail
    refine (cu64_any p s _ q19 c19 H19.out.cur HL.out HS.out).mono ?_
    rintro e w20 ⟨rfl, hc, ho⟩
    obtain ⟨q20, hq⟩ : ∃ x, textI s q19 8 c19 = x := ⟨_, rfl⟩
    obtain ⟨c20, hb⟩ : ∃ x, numW s q19 8 c19 = x := ⟨_, rfl⟩
    obtain ⟨va, hv⟩ : ∃ x, numV (textV s q19 8 c19) = x := ⟨_, rfl⟩
    rw [hq, hb] at hc
    try simp only [hv]
    have R20 := hide (show q0 ≤ q20 ∧ q20 ≤ s.size by have h0 := RZ.out; have h1 := R19.out; have h2 := textI_in (i := q19) (n := 8) (bad := c19) (by omega) h1.2; rw [hq] at h2; omega)
    have HL := hide (show q20 ≤ 9223372036854775807 by have := R20.out; have := HS.out; omega)
    have Q20 := hide hq
    have C20 := hide hb
    have V20 := hide hv
    clear hq hb hv R19
    have H20 := hide (H19.out.only ho hc)
    clear hc ho H19
    obtain ⟨g0, g1, g2, g3, g4, g5, g6, g7, g8, g9, g10⟩ := rec_cells H20.out.ra
    have z7 := rec_frozen H20.out.ra 7
    have z8 := rec_frozen H20.out.ra 8
    have z9 := rec_frozen H20.out.ra 9
    have HN := hide (show RW 29 (((w20.setCell ⟨R, 7, none⟩ (.int .i64 vs)).setCell ⟨R, 8, none⟩ (.int .i64 vp)).setCell ⟨R, 9, none⟩ (.int .i64 va)) W p s q20 c20 Q R #[.string nm, .string ⟨#[]⟩, .int .i64 fl, .int .i64 me, .int .i64 da, .int .i64 ck, .int .i64 su, .int .i64 vs, .int .i64 vp, .int .i64 va, .bool true] from (((H20.out.put 7 (.int .i64 vs)).put 8 (.int .i64 vp)).put 9 (.int .i64 va)))
    obtain ⟨v20, hvv⟩ : ∃ x, (((w20.setCell ⟨R, 7, none⟩ (.int .i64 vs)).setCell ⟨R, 8, none⟩ (.int .i64 vp)).setCell ⟨R, 9, none⟩ (.int .i64 va)) = x := ⟨_, rfl⟩
    rw [hvv] at HN
    go_wp2_with fail
    try simp only [hvv]
    have H20 := HN
    clear hvv HN g0 g1 g2 g3 g4 g5 g6 g7 g8 g9 g10 z7 z8 z9
    refine (ctext_any p s _ q20 c20 H20.out.cur HL.out HS.out tl).mono ?_
    rintro e w21 ⟨rfl, hc, ho⟩
    obtain ⟨q21, hq⟩ : ∃ x, textI s q20 tl c20 = x := ⟨_, rfl⟩
    obtain ⟨c21, hb⟩ : ∃ x, (!canT s q20 tl c20) = x := ⟨_, rfl⟩
    obtain ⟨nt, hv⟩ : ∃ x, textV s q20 tl c20 = x := ⟨_, rfl⟩
    rw [hq, hb] at hc
    try simp only [hv]
    have R21 := hide (show q0 ≤ q21 ∧ q21 ≤ s.size by have h0 := RZ.out; have h1 := R20.out; have h2 := textI_in (i := q20) (n := tl) (bad := c20) (by omega) h1.2; rw [hq] at h2; omega)
    have HL := hide (show q21 ≤ 9223372036854775807 by have := R21.out; have := HS.out; omega)
    have Q21 := hide hq
    have C21 := hide hb
    have V21 := hide hv
    clear hq hb hv R20
    have H21 := hide (H20.out.only ho hc)
    clear hc ho H20
    obtain ⟨g0, g1, g2, g3, g4, g5, g6, g7, g8, g9, g10⟩ := rec_cells H21.out.ra
    have z1 := rec_frozen H21.out.ra 1
    have HN := hide (show RW 29 (w21.setCell ⟨R, 1, none⟩ (.string nt)) W p s q21 c21 Q R #[.string nm, .string nt, .int .i64 fl, .int .i64 me, .int .i64 da, .int .i64 ck, .int .i64 su, .int .i64 vs, .int .i64 vp, .int .i64 va, .bool true] from (H21.out.put 1 (.string nt)))
    have HRR := hide (show (i : Int) ≤ q21 ∧ q21 ≤ s.size by have h1 := R21.out; have h2 := Q0.out; omega)
    have HEQ := hide (show ∀ r0, CenAt s i r0 → c21 = false ∧ r0 = (⟨nm, nt, fl, me, da, ck, su, vs, vp, va, true⟩ : Rec) ∧ q21 = ((i + (cenS r0).size : Nat) : Int) from fun r0 hr0 => by
      have st := hr0.st hi
      obtain ⟨u1, u2, u3⟩ := hr0.ver hi
      have a := Q0.out
      subst a
      have a := C0.out
      subst a
      have hw : r0.wide = true := by
        have a := Q1.out
        rw [u1.1] at a
        have b := C1.out
        rw [u1.2] at b
        have d := V2.out
        rw [← a, ← b, u2.1] at d
        have f := HWD.out
        rw [← d] at f
        unfold verR at f
        cases hw : r0.wide with
        | true => rfl
        | false => rw [hw] at f; exact absurd f (by decide)
      have hx := extraC_size r0
      rw [hw] at hx
      have hx : (extraC r0).size = 28 := hx
      obtain ⟨e1, e2, e3, e4⟩ := hr0.ext hi hw
      have s15 := st.s15
      rw [hx] at s15
      have a := Q1.out
      have b := C1.out
      rw [u1.1] at a
      subst a
      rw [u1.2] at b
      subst b
      have a := Q2.out
      have b := C2.out
      have d := V2.out
      rw [u2.2.1] at a
      subst a
      rw [u2.2.2] at b
      subst b
      rw [u2.1] at d
      subst d
      have a := Q3.out
      have b := C3.out
      rw [u3.1] at a
      subst a
      rw [u3.2] at b
      subst b
      have a := Q4.out
      have b := C4.out
      have d := V4.out
      rw [st.s1.2.1] at a
      subst a
      rw [st.s1.2.2] at b
      subst b
      rw [st.s1.1] at d
      subst d
      have a := Q5.out
      have b := C5.out
      have d := V5.out
      rw [st.s2.2.1] at a
      subst a
      rw [st.s2.2.2] at b
      subst b
      rw [st.s2.1] at d
      subst d
      have a := Q6.out
      have b := C6.out
      have d := V6.out
      rw [st.s3.2.1] at a
      subst a
      rw [st.s3.2.2] at b
      subst b
      rw [st.s3.1] at d
      subst d
      have a := Q7.out
      have b := C7.out
      have d := V7.out
      rw [st.s4.2.1] at a
      subst a
      rw [st.s4.2.2] at b
      subst b
      rw [st.s4.1] at d
      subst d
      have a := Q8.out
      have b := C8.out
      have d := V8.out
      rw [st.s5.2.1] at a
      subst a
      rw [st.s5.2.2] at b
      subst b
      rw [st.s5.1] at d
      subst d
      have a := Q9.out
      have b := C9.out
      have d := V9.out
      rw [st.s6.2.1] at a
      subst a
      rw [st.s6.2.2] at b
      subst b
      rw [st.s6.1] at d
      subst d
      have a := Q10.out
      have b := C10.out
      have d := V10.out
      rw [st.s7.2.1] at a
      subst a
      rw [st.s7.2.2] at b
      subst b
      rw [st.s7.1] at d
      subst d
      have a := Q11.out
      have b := C11.out
      have d := V11.out
      rw [st.s8.2.1] at a
      subst a
      rw [st.s8.2.2] at b
      subst b
      rw [st.s8.1] at d
      subst d
      have a := Q12.out
      have b := C12.out
      rw [st.s9.2.1] at a
      subst a
      rw [st.s9.2.2] at b
      subst b
      have a := Q13.out
      have b := C13.out
      have d := V13.out
      rw [st.s10.2.1] at a
      subst a
      rw [st.s10.2.2] at b
      subst b
      rw [st.s10.1] at d
      subst d
      have a := Q14.out
      have b := C14.out
      rw [st.s11.1] at a
      subst a
      rw [st.s11.2] at b
      have b : false = c14 := b
      subst b
      have a := Q15.out
      have b := C15.out
      have d := V15.out
      rw [st.s12.2.1] at a
      subst a
      rw [st.s12.2.2] at b
      subst b
      rw [st.s12.1] at d
      subst d
      have a := Q16.out
      have b := C16.out
      have d := V16.out
      rw [st.s13.2.1] at a
      subst a
      rw [st.s13.2.2] at b
      have b : false = c16 := b
      subst b
      rw [st.s13.1] at d
      subst d
      have a := Q17.out
      have b := C17.out
      rw [e1.1] at a
      subst a
      rw [e1.2] at b
      subst b
      have a := Q18.out
      have b := C18.out
      have d := V18.out
      rw [e2.2.1] at a
      subst a
      rw [e2.2.2] at b
      subst b
      rw [e2.1] at d
      subst d
      have a := Q19.out
      have b := C19.out
      have d := V19.out
      rw [e3.2.1] at a
      subst a
      rw [e3.2.2] at b
      subst b
      rw [e3.1] at d
      subst d
      have a := Q20.out
      have b := C20.out
      have d := V20.out
      rw [e4.2.1] at a
      subst a
      rw [e4.2.2] at b
      subst b
      rw [e4.1] at d
      subst d
      have a := Q21.out
      have b := C21.out
      have d := V21.out
      rw [s15.2.1] at a
      subst a
      rw [s15.2.2] at b
      have b : false = c21 := b
      subst b
      rw [s15.1] at d
      subst d
      refine ⟨rfl, ?_, rfl⟩
      cases r0
      dsimp only at hw
      subst hw
      rfl)
    clear Q1 C1 V1 Q2 C2 V2 Q3 C3 V3 Q4 C4 V4 Q5 C5 V5 Q6 C6 V6 Q7 C7 V7 Q8 C8 V8 Q9 C9 V9 Q10 C10 V10 Q11 C11 V11 Q12 C12 V12 Q13 C13 V13 Q14 C14 V14 Q15 C15 V15 Q16 C16 V16 Q17 C17 V17 Q18 C18 V18 Q19 C19 V19 Q20 C20 V20 Q21 C21 V21 R21 HL RZ Q0 C0 HWD
    have HQP := hide (show _ from HN.out.qa)
    obtain ⟨m0, m1, m2, m3, m4, m5, m6, m7, m8, m9, m10⟩ := rec_cells (show (w21.setCell ⟨R, 1, none⟩ (.string nt)).heap[Q]? = some (.cells #[.string ⟨#[]⟩, .string ⟨#[]⟩, .int .i64 0, .int .i64 0, .int .i64 0, .int .i64 0, .int .i64 0, .int .i64 0, .int .i64 0, .int .i64 0, .bool false] 23 (0, 0)) from HN.out.qa)
    obtain ⟨l0, l1, l2, l3, l4, l5, l6, l7, l8, l9, l10⟩ := rec_cells HN.out.ra
    have zq0 := rec_frozen HN.out.qa 0
    have zq1 := rec_frozen HN.out.qa 1
    have zq2 := rec_frozen HN.out.qa 2
    have zq3 := rec_frozen HN.out.qa 3
    have zq4 := rec_frozen HN.out.qa 4
    have zq5 := rec_frozen HN.out.qa 5
    have zq6 := rec_frozen HN.out.qa 6
    have zq7 := rec_frozen HN.out.qa 7
    have zq8 := rec_frozen HN.out.qa 8
    have zq9 := rec_frozen HN.out.qa 9
    have zq10 := rec_frozen HN.out.qa 10
    obtain ⟨n0, n1, n2, n3, n4, n5, n6, n7, n8, n9, n10⟩ := rec_cells (show w21.heap[Q]? = some (.cells #[.string ⟨#[]⟩, .string ⟨#[]⟩, .int .i64 0, .int .i64 0, .int .i64 0, .int .i64 0, .int .i64 0, .int .i64 0, .int .i64 0, .int .i64 0, .bool false] 23 (0, 0)) from H21.out.qa)
    have zr0 := rec_frozen H21.out.qa 0
    have zr1 := rec_frozen H21.out.qa 1
    have zr2 := rec_frozen H21.out.qa 2
    have zr3 := rec_frozen H21.out.qa 3
    have zr4 := rec_frozen H21.out.qa 4
    have zr5 := rec_frozen H21.out.qa 5
    have zr6 := rec_frozen H21.out.qa 6
    have zr7 := rec_frozen H21.out.qa 7
    have zr8 := rec_frozen H21.out.qa 8
    have zr9 := rec_frozen H21.out.qa 9
    have zr10 := rec_frozen H21.out.qa 10
    go_wp2
    (try simp only [Exit.inBlock, Exit.then])
    refine bodyPost_ret (results_one14 rfl _ _ _ _ _ rfl (set_eleven14 _ _ _ _ _ _ _ _ _ _ _ _ _ _ _ _ _ _ _ _ _ _ _ _ _ (show (w21.setCell ⟨R, 1, none⟩ (.string nt)).heap[Q]? = some (.cells #[.string ⟨#[]⟩, .string ⟨#[]⟩, .int .i64 0, .int .i64 0, .int .i64 0, .int .i64 0, .int .i64 0, .int .i64 0, .int .i64 0, .int .i64 0, .bool false] 23 (0, 0)) from HN.out.qa)) Try.underlying23 rfl) rfl ?_
    exact HN.out.take (r := ⟨nm, nt, fl, me, da, ck, su, vs, vp, va, true⟩) (put11_only _ _ _ _ _ _ _ _ _ _ _ _ _) HRR.out HEQ.out
  | false =>
    obtain ⟨g0, g1, g2, g3, g4, g5, g6, g7, g8, g9, g10⟩ := rec_cells H16.out.ra
    have z0 := rec_frozen H16.out.ra 0
    have HN := hide (show RW 29 (w16.setCell ⟨R, 0, none⟩ (.string nm)) W p s q16 c16 Q R #[.string nm, .string ⟨#[]⟩, .int .i64 fl, .int .i64 me, .int .i64 da, .int .i64 ck, .int .i64 su, .int .i64 sz, .int .i64 pk, .int .i64 at_, .bool false] from (H16.out.put 0 (.string nm)))
    obtain ⟨v16, hvv⟩ : ∃ x, (w16.setCell ⟨R, 0, none⟩ (.string nm)) = x := ⟨_, rfl⟩
    rw [hvv] at HN
    go_wp2_with fail
    try simp only [hvv]
    have H16 := HN
    clear hvv HN g0 g1 g2 g3 g4 g5 g6 g7 g8 g9 g10 z0
    refine (ctext_any p s _ q16 c16 H16.out.cur HL.out HS.out tl).mono ?_
    rintro e w17 ⟨rfl, hc, ho⟩
    obtain ⟨q17, hq⟩ : ∃ x, textI s q16 tl c16 = x := ⟨_, rfl⟩
    obtain ⟨c17, hb⟩ : ∃ x, (!canT s q16 tl c16) = x := ⟨_, rfl⟩
    obtain ⟨nt, hv⟩ : ∃ x, textV s q16 tl c16 = x := ⟨_, rfl⟩
    rw [hq, hb] at hc
    try simp only [hv]
    have R17 := hide (show q0 ≤ q17 ∧ q17 ≤ s.size by have h0 := RZ.out; have h1 := R16.out; have h2 := textI_in (i := q16) (n := tl) (bad := c16) (by omega) h1.2; rw [hq] at h2; omega)
    have HL := hide (show q17 ≤ 9223372036854775807 by have := R17.out; have := HS.out; omega)
    have Q17 := hide hq
    have C17 := hide hb
    have V17 := hide hv
    clear hq hb hv R16
    have H17 := hide (H16.out.only ho hc)
    clear hc ho H16
    obtain ⟨g0, g1, g2, g3, g4, g5, g6, g7, g8, g9, g10⟩ := rec_cells H17.out.ra
    have z1 := rec_frozen H17.out.ra 1
    have HN := hide (show RW 29 (w17.setCell ⟨R, 1, none⟩ (.string nt)) W p s q17 c17 Q R #[.string nm, .string nt, .int .i64 fl, .int .i64 me, .int .i64 da, .int .i64 ck, .int .i64 su, .int .i64 sz, .int .i64 pk, .int .i64 at_, .bool false] from (H17.out.put 1 (.string nt)))
    have HRR := hide (show (i : Int) ≤ q17 ∧ q17 ≤ s.size by have h1 := R17.out; have h2 := Q0.out; omega)
    have HEQ := hide (show ∀ r0, CenAt s i r0 → c17 = false ∧ r0 = (⟨nm, nt, fl, me, da, ck, su, sz, pk, at_, false⟩ : Rec) ∧ q17 = ((i + (cenS r0).size : Nat) : Int) from fun r0 hr0 => by
      have st := hr0.st hi
      obtain ⟨u1, u2, u3⟩ := hr0.ver hi
      have a := Q0.out
      subst a
      have a := C0.out
      subst a
      have hw : r0.wide = false := by
        have a := Q1.out
        rw [u1.1] at a
        have b := C1.out
        rw [u1.2] at b
        have d := V2.out
        rw [← a, ← b, u2.1] at d
        have f := HWD.out
        rw [← d] at f
        unfold verR at f
        cases hw : r0.wide with
        | true => rw [hw] at f; exact absurd f (by decide)
        | false => rfl
      have hx := extraC_size r0
      rw [hw] at hx
      have hx : (extraC r0).size = 0 := hx
      have s15 := st.s15
      rw [hx, Nat.add_zero] at s15
      have a := Q1.out
      have b := C1.out
      rw [u1.1] at a
      subst a
      rw [u1.2] at b
      subst b
      have a := Q2.out
      have b := C2.out
      have d := V2.out
      rw [u2.2.1] at a
      subst a
      rw [u2.2.2] at b
      subst b
      rw [u2.1] at d
      subst d
      have a := Q3.out
      have b := C3.out
      rw [u3.1] at a
      subst a
      rw [u3.2] at b
      subst b
      have a := Q4.out
      have b := C4.out
      have d := V4.out
      rw [st.s1.2.1] at a
      subst a
      rw [st.s1.2.2] at b
      subst b
      rw [st.s1.1] at d
      subst d
      have a := Q5.out
      have b := C5.out
      have d := V5.out
      rw [st.s2.2.1] at a
      subst a
      rw [st.s2.2.2] at b
      subst b
      rw [st.s2.1] at d
      subst d
      have a := Q6.out
      have b := C6.out
      have d := V6.out
      rw [st.s3.2.1] at a
      subst a
      rw [st.s3.2.2] at b
      subst b
      rw [st.s3.1] at d
      subst d
      have a := Q7.out
      have b := C7.out
      have d := V7.out
      rw [st.s4.2.1] at a
      subst a
      rw [st.s4.2.2] at b
      subst b
      rw [st.s4.1] at d
      subst d
      have a := Q8.out
      have b := C8.out
      have d := V8.out
      rw [st.s5.2.1] at a
      subst a
      rw [st.s5.2.2] at b
      subst b
      rw [st.s5.1] at d
      subst d
      have a := Q9.out
      have b := C9.out
      have d := V9.out
      rw [st.s6.2.1] at a
      subst a
      rw [st.s6.2.2] at b
      subst b
      rw [st.s6.1] at d
      subst d
      have a := Q10.out
      have b := C10.out
      have d := V10.out
      rw [st.s7.2.1] at a
      subst a
      rw [st.s7.2.2] at b
      subst b
      rw [st.s7.1] at d
      subst d
      have a := Q11.out
      have b := C11.out
      have d := V11.out
      rw [st.s8.2.1] at a
      subst a
      rw [st.s8.2.2] at b
      subst b
      rw [st.s8.1] at d
      subst d
      have a := Q12.out
      have b := C12.out
      rw [st.s9.2.1] at a
      subst a
      rw [st.s9.2.2] at b
      subst b
      have a := Q13.out
      have b := C13.out
      have d := V13.out
      rw [st.s10.2.1] at a
      subst a
      rw [st.s10.2.2] at b
      subst b
      rw [st.s10.1] at d
      subst d
      have a := Q14.out
      have b := C14.out
      rw [st.s11.1] at a
      subst a
      rw [st.s11.2] at b
      have b : false = c14 := b
      subst b
      have a := Q15.out
      have b := C15.out
      have d := V15.out
      rw [st.s12.2.1] at a
      subst a
      rw [st.s12.2.2] at b
      subst b
      rw [st.s12.1] at d
      subst d
      have a := Q16.out
      have b := C16.out
      have d := V16.out
      rw [st.s13.2.1] at a
      subst a
      rw [st.s13.2.2] at b
      have b : false = c16 := b
      subst b
      rw [st.s13.1] at d
      subst d
      have a := Q17.out
      have b := C17.out
      have d := V17.out
      rw [s15.2.1] at a
      subst a
      rw [s15.2.2] at b
      have b : false = c17 := b
      subst b
      rw [s15.1] at d
      subst d
      refine ⟨rfl, ?_, rfl⟩
      have ho : ∀ x, ownF r0 x = x := fun x => by unfold ownF; rw [if_neg (by rw [hw]; decide)]
      rw [ho, ho, ho]
      cases r0
      dsimp only at hw
      subst hw
      rfl)
    clear Q1 C1 V1 Q2 C2 V2 Q3 C3 V3 Q4 C4 V4 Q5 C5 V5 Q6 C6 V6 Q7 C7 V7 Q8 C8 V8 Q9 C9 V9 Q10 C10 V10 Q11 C11 V11 Q12 C12 V12 Q13 C13 V13 Q14 C14 V14 Q15 C15 V15 Q16 C16 V16 Q17 C17 V17 R17 HL RZ Q0 C0 HWD
    have HQP := hide (show _ from HN.out.qa)
    obtain ⟨m0, m1, m2, m3, m4, m5, m6, m7, m8, m9, m10⟩ := rec_cells (show (w17.setCell ⟨R, 1, none⟩ (.string nt)).heap[Q]? = some (.cells #[.string ⟨#[]⟩, .string ⟨#[]⟩, .int .i64 0, .int .i64 0, .int .i64 0, .int .i64 0, .int .i64 0, .int .i64 0, .int .i64 0, .int .i64 0, .bool false] 23 (0, 0)) from HN.out.qa)
    obtain ⟨l0, l1, l2, l3, l4, l5, l6, l7, l8, l9, l10⟩ := rec_cells HN.out.ra
    have zq0 := rec_frozen HN.out.qa 0
    have zq1 := rec_frozen HN.out.qa 1
    have zq2 := rec_frozen HN.out.qa 2
    have zq3 := rec_frozen HN.out.qa 3
    have zq4 := rec_frozen HN.out.qa 4
    have zq5 := rec_frozen HN.out.qa 5
    have zq6 := rec_frozen HN.out.qa 6
    have zq7 := rec_frozen HN.out.qa 7
    have zq8 := rec_frozen HN.out.qa 8
    have zq9 := rec_frozen HN.out.qa 9
    have zq10 := rec_frozen HN.out.qa 10
    obtain ⟨n0, n1, n2, n3, n4, n5, n6, n7, n8, n9, n10⟩ := rec_cells (show w17.heap[Q]? = some (.cells #[.string ⟨#[]⟩, .string ⟨#[]⟩, .int .i64 0, .int .i64 0, .int .i64 0, .int .i64 0, .int .i64 0, .int .i64 0, .int .i64 0, .int .i64 0, .bool false] 23 (0, 0)) from H17.out.qa)
    have zr0 := rec_frozen H17.out.qa 0
    have zr1 := rec_frozen H17.out.qa 1
    have zr2 := rec_frozen H17.out.qa 2
    have zr3 := rec_frozen H17.out.qa 3
    have zr4 := rec_frozen H17.out.qa 4
    have zr5 := rec_frozen H17.out.qa 5
    have zr6 := rec_frozen H17.out.qa 6
    have zr7 := rec_frozen H17.out.qa 7
    have zr8 := rec_frozen H17.out.qa 8
    have zr9 := rec_frozen H17.out.qa 9
    have zr10 := rec_frozen H17.out.qa 10
    go_wp2
    (try simp only [Exit.inBlock, Exit.then])
    refine bodyPost_ret (results_one14 rfl _ _ _ _ _ rfl (set_eleven14 _ _ _ _ _ _ _ _ _ _ _ _ _ _ _ _ _ _ _ _ _ _ _ _ _ (show (w17.setCell ⟨R, 1, none⟩ (.string nt)).heap[Q]? = some (.cells #[.string ⟨#[]⟩, .string ⟨#[]⟩, .int .i64 0, .int .i64 0, .int .i64 0, .int .i64 0, .int .i64 0, .int .i64 0, .int .i64 0, .int .i64 0, .bool false] 23 (0, 0)) from HN.out.qa)) Try.underlying23 rfl) rfl ?_
    exact HN.out.take (r := ⟨nm, nt, fl, me, da, ck, su, sz, pk, at_, false⟩) (put11_only _ _ _ _ _ _ _ _ _ _ _ _ _) HRR.out HEQ.out

end Go.Proofs.Ytbjjcjcobiokcaa
