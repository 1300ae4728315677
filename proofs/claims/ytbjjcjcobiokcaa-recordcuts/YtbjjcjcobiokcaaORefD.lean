/- Contract of the document's ReadCentral of layer 14 (printed by tools/mkread.py). -/
import Derived.Test.YtbjjcjcobiokcaaOReadM
namespace Go.Proofs.Ytbjjcjcobiokcaa
open Go.RowKit Go.Lib

theorem results_boxO {fn : Func} {T : TypeId} {i j : Tmp} (h : fn.results = #[.cell i T, .tmp j]) (tmps : Array Value) (P : Program) (w : World) (g : Nat) (cs : Array Value) {fs}
    (ht : tmps.getD i undef = .pointer (some ⟨g, 0, none⟩)) (hg : w.heap[g]? = some (.cells cs T (0, 0))) (hu : P.underlying T = some (.struct fs)) (hi : (P.info? T).map (·.size) = some cs.size) :
    (results fn tmps).run P w = .ok (.tuple #[.agg cs, tmps.getD j undef]) w := by
  have hl := run_loadVar_row (P := P) w g T T cs (0, 0) _ hg hu rfl hi
  have ha : (asAddr (tmps.getD i undef)).run P w = .ok ⟨g, 0, none⟩ w := by rw [ht]; rfl
  rw [Array.getD_eq_getD_getElem?] at ha
  simp [results, h, ha, hl]
theorem set_eleven (w : World) (p : Nat) (b0 b1 b2 b3 b4 b5 b6 b7 b8 b9 b10 a0 a1 a2 a3 a4 a5 a6 a7 a8 a9 a10 : Value) (T : TypeId) (h : w.heap[p]? = some (.cells #[b0, b1, b2, b3, b4, b5, b6, b7, b8, b9, b10] T (0, 0))) :
    (((((((((((w.setCell ⟨p, 0, none⟩ a0).setCell ⟨p, 1, none⟩ a1).setCell ⟨p, 2, none⟩ a2).setCell ⟨p, 3, none⟩ a3).setCell ⟨p, 4, none⟩ a4).setCell ⟨p, 5, none⟩ a5).setCell ⟨p, 6, none⟩ a6).setCell ⟨p, 7, none⟩ a7).setCell ⟨p, 8, none⟩ a8).setCell ⟨p, 9, none⟩ a9).setCell ⟨p, 10, none⟩ a10).heap[p]? = some (.cells #[a0, a1, a2, a3, a4, a5, a6, a7, a8, a9, a10] T (0, 0)) := by
  simp [World.setCell, Array.getElem?_modify, h]
def set11 (w : World) (p : Nat) (a0 a1 a2 a3 a4 a5 a6 a7 a8 a9 a10 : Value) : World := (((((((((((w.setCell ⟨p, 0, none⟩ a0).setCell ⟨p, 1, none⟩ a1).setCell ⟨p, 2, none⟩ a2).setCell ⟨p, 3, none⟩ a3).setCell ⟨p, 4, none⟩ a4).setCell ⟨p, 5, none⟩ a5).setCell ⟨p, 6, none⟩ a6).setCell ⟨p, 7, none⟩ a7).setCell ⟨p, 8, none⟩ a8).setCell ⟨p, 9, none⟩ a9).setCell ⟨p, 10, none⟩ a10)
theorem set11_only (w : World) (p : Nat) (a0 a1 a2 a3 a4 a5 a6 a7 a8 a9 a10 : Value) : Only p w (set11 w p a0 a1 a2 a3 a4 a5 a6 a7 a8 a9 a10) :=
  ((((((((((Only.setCell p 0 w a0).trans (Only.setCell p 1 _ a1)).trans (Only.setCell p 2 _ a2)).trans (Only.setCell p 3 _ a3)).trans (Only.setCell p 4 _ a4)).trans (Only.setCell p 5 _ a5)).trans (Only.setCell p 6 _ a6)).trans (Only.setCell p 7 _ a7)).trans (Only.setCell p 8 _ a8)).trans (Only.setCell p 9 _ a9)).trans (Only.setCell p 10 _ a10)
theorem RW.no {T : TypeId} {w w1 w2 W : World} {p Q R i : Nat} {s : ByteArray} {q : Int} {b : Bool} {cs : Array Value} (h : RW T w W p s q b Q R cs) (hno : ∀ r, ¬ CenAt s i r) (h1 : w1 = w.setCell ⟨p, 2, none⟩ (.bool true)) (o : Only Q w1 w2) :
    ReadCP T s p i W (.returned (.tuple #[recV zeroR, .bool false])) w2 := by
  have hl := h.lq
  have hp := h.pw
  have o1 : Only p w w1 := h1 ▸ Only.setCell p 2 w (.bool true)
  have hc : CurAt T w1 p s q true := h1 ▸ h.cur.setBad0
  refine ⟨o.os.trans (o1.os.trans h.os), o.tape.trans (o1.tape.trans h.tape), o.output.trans (o1.output.trans h.output), ?_, fun k hk hne => ?_, .inr ⟨hno, rfl, q, hc.block (o.block p (by omega))⟩⟩
  · rw [o.size, o1.size]
    exact h.size
  · rw [o.block k (by omega), o1.block k hne]
    exact h.blk k hk hne
theorem RW.yes {T : TypeId} {w w2 W : World} {p Q R i : Nat} {s : ByteArray} {cs : Array Value} {r : Rec} (h : RW T w W p s ((i + (cenS r).size : Nat) : Int) false Q R cs) (hr : CenAt s i r) (o : Only Q w w2) :
    ReadCP T s p i W (.returned (.tuple #[recV r, .bool true])) w2 := by
  have hl := h.lq
  have hp := h.pw
  refine ⟨o.os.trans h.os, o.tape.trans h.tape, o.output.trans h.output, ?_, fun k hk hne => ?_, .inl ⟨r, hr, rfl, h.cur.block (o.block p (by omega))⟩⟩
  · rw [o.size]
    exact h.size
  · rw [o.block k (by omega)]
    exact h.blk k hk hne
theorem textV_le (s : ByteArray) (i n : Int) (b : Bool) : (textV s i n b).size ≤ s.size := by
  unfold textV
  split
  · rw [ByteArray.size_extract]
    omega
  · exact Nat.zero_le _

set_option maxRecDepth 20000 in
set_option maxHeartbeats 16000000 in
theorem qreadC_any (s : ByteArray) (p i : Nat) (W : World) (h : CurAt 31 W p s (i : Nat) false) (hi : i ≤ s.size) (hs : s.size ≤ 1000000000) : Calls Try.prog 19 #[.pointer (some ⟨p, 0, none⟩)] W fun e w' => ReadCP 31 s p i W e w' := by
  have H := hide h
  have HS := hide (show s.size ≤ 1000000000000 by omega)
  have R0 := hide (show (0 : Int) ≤ (i : Int) ∧ (i : Int) ≤ s.size by omega)
  obtain ⟨q0, hq0⟩ : ∃ x : Int, (i : Int) = x := ⟨_, rfl⟩
  have Q0 := hide hq0
  obtain ⟨c0, hc0⟩ : ∃ x : Bool, false = x := ⟨_, rfl⟩
  have C0 := hide hc0
  rw [hq0] at R0
  have RZ := R0
  have R0 := hide (show q0 ≤ q0 ∧ q0 ≤ s.size from ⟨Int.le_refl _, RZ.out.2⟩)
  have HA := hide (h.alloc (.cells (recCs zeroR) 23))
  rw [hq0, hc0] at HA
  have _c1 : (W.alloc (.cells #[.string ⟨#[]⟩, .string ⟨#[]⟩, .int .i64 0, .int .i64 0, .int .i64 0, .int .i64 0, .int .i64 0, .int .i64 0, .int .i64 0, .int .i64 0, .bool false] 23)).cell? ⟨p, 1, none⟩ = some (.int .i64 q0) := HA.out.c1
  have HL := hide (show q0 ≤ 9223372036854775807 by have := R0.out; omega)
  have T1 := hide (qtext_any p s (W.alloc (.cells #[.string ⟨#[]⟩, .string ⟨#[]⟩, .int .i64 0, .int .i64 0, .int .i64 0, .int .i64 0, .int .i64 0, .int .i64 0, .int .i64 0, .int .i64 0, .bool false] 23)) q0 c0 HA.out HL.out HS.out 8)
  clear h hq0 hc0 hs
  go_enter Try.func19, Try.ntmps19
  go_wp2_with fail
  refine T1.out.mono ?_
  rintro e w1 ⟨rfl, hc, ho⟩
  obtain ⟨q1, hq⟩ : ∃ x, textI s q0 8 c0 = x := ⟨_, rfl⟩
  obtain ⟨c1, hb⟩ : ∃ x, (!canT s q0 8 c0) = x := ⟨_, rfl⟩
  obtain ⟨d1, hv⟩ : ∃ x, textV s q0 8 c0 = x := ⟨_, rfl⟩
  rw [hq, hb] at hc
  try simp only [hv]
  have R1 := hide (show q0 ≤ q1 ∧ q1 ≤ s.size by have h0 := RZ.out; have h1 := R0.out; have h2 := textI_in (i := q0) (n := 8) (bad := c0) (by omega) h1.2; rw [hq] at h2; omega)
  have HL := hide (show q1 ≤ 9223372036854775807 by have := R1.out; have := HS.out; omega)
  have Q1 := hide hq
  have C1 := hide hb
  have V1 := hide hv
  clear hq hb hv R0
  have H1 := hide (show RW 31 (w1.alloc (.cells #[.string ⟨#[]⟩, .string ⟨#[]⟩, .int .i64 0, .int .i64 0, .int .i64 0, .int .i64 0, .int .i64 0, .int .i64 0, .int .i64 0, .int .i64 0, .bool false] 23)) W p s q1 c1 W.heap.size w1.heap.size #[.string ⟨#[]⟩, .string ⟨#[]⟩, .int .i64 0, .int .i64 0, .int .i64 0, .int .i64 0, .int .i64 0, .int .i64 0, .int .i64 0, .int .i64 0, .bool false] from RW.start 31 W p s _ w1 H.out hc ho)
  obtain ⟨Q, hQ⟩ : ∃ x, W.heap.size = x := ⟨_, rfl⟩
  obtain ⟨R, hR⟩ : ∃ x, w1.heap.size = x := ⟨_, rfl⟩
  obtain ⟨v1, hv1⟩ : ∃ x, w1.alloc (.cells #[.string ⟨#[]⟩, .string ⟨#[]⟩, .int .i64 0, .int .i64 0, .int .i64 0, .int .i64 0, .int .i64 0, .int .i64 0, .int .i64 0, .int .i64 0, .bool false] 23) = x := ⟨_, rfl⟩
  have HQW := hide hQ
  rw [hQ, hR, hv1] at H1
  clear hc ho H T1 HA _c1
  go_wp2_with fail
  try simp only [hQ]
  try simp only [hR]
  try simp only [hv1]
  clear hQ hR hv1
  refine (qu16_any p s v1 q1 c1 H1.out.cur HL.out HS.out).mono ?_
  rintro e w2 ⟨rfl, hc, ho⟩
  obtain ⟨q2, hq⟩ : ∃ x, textI s q1 2 c1 = x := ⟨_, rfl⟩
  obtain ⟨c2, hb⟩ : ∃ x, numW s q1 2 c1 = x := ⟨_, rfl⟩
  obtain ⟨fl, hv⟩ : ∃ x, numV (textV s q1 2 c1) = x := ⟨_, rfl⟩
  rw [hq, hb] at hc
  try simp only [hv]
  have R2 := hide (show q0 ≤ q2 ∧ q2 ≤ s.size by have h0 := RZ.out; have h1 := R1.out; have h2 := textI_in (i := q1) (n := 2) (bad := c1) (by omega) h1.2; rw [hq] at h2; omega)
  have HL := hide (show q2 ≤ 9223372036854775807 by have := R2.out; have := HS.out; omega)
  have Q2 := hide hq
  have C2 := hide hb
  have V2 := hide hv
  clear hq hb hv R1
  have H2 := hide (H1.out.only ho hc)
  clear hc ho H1
  go_wp2_with fail
  refine (qu16_any p s w2 q2 c2 H2.out.cur HL.out HS.out).mono ?_
  rintro e w3 ⟨rfl, hc, ho⟩
  obtain ⟨q3, hq⟩ : ∃ x, textI s q2 2 c2 = x := ⟨_, rfl⟩
  obtain ⟨c3, hb⟩ : ∃ x, numW s q2 2 c2 = x := ⟨_, rfl⟩
  obtain ⟨me, hv⟩ : ∃ x, numV (textV s q2 2 c2) = x := ⟨_, rfl⟩
  rw [hq, hb] at hc
  try simp only [hv]
  have R3 := hide (show q0 ≤ q3 ∧ q3 ≤ s.size by have h0 := RZ.out; have h1 := R2.out; have h2 := textI_in (i := q2) (n := 2) (bad := c2) (by omega) h1.2; rw [hq] at h2; omega)
  have HL := hide (show q3 ≤ 9223372036854775807 by have := R3.out; have := HS.out; omega)
  have Q3 := hide hq
  have C3 := hide hb
  have V3 := hide hv
  clear hq hb hv R2
  have H3 := hide (H2.out.only ho hc)
  clear hc ho H2
  go_wp2_with fail
  refine (qu16_any p s w3 q3 c3 H3.out.cur HL.out HS.out).mono ?_
  rintro e w4 ⟨rfl, hc, ho⟩
  obtain ⟨q4, hq⟩ : ∃ x, textI s q3 2 c3 = x := ⟨_, rfl⟩
  obtain ⟨c4, hb⟩ : ∃ x, numW s q3 2 c3 = x := ⟨_, rfl⟩
  obtain ⟨ck, hv⟩ : ∃ x, numV (textV s q3 2 c3) = x := ⟨_, rfl⟩
  rw [hq, hb] at hc
  try simp only [hv]
  have R4 := hide (show q0 ≤ q4 ∧ q4 ≤ s.size by have h0 := RZ.out; have h1 := R3.out; have h2 := textI_in (i := q3) (n := 2) (bad := c3) (by omega) h1.2; rw [hq] at h2; omega)
  have HL := hide (show q4 ≤ 9223372036854775807 by have := R4.out; have := HS.out; omega)
  have Q4 := hide hq
  have C4 := hide hb
  have V4 := hide hv
  clear hq hb hv R3
  have H4 := hide (H3.out.only ho hc)
  clear hc ho H3
  go_wp2_with fail
  refine (qu16_any p s w4 q4 c4 H4.out.cur HL.out HS.out).mono ?_
  rintro e w5 ⟨rfl, hc, ho⟩
  obtain ⟨q5, hq⟩ : ∃ x, textI s q4 2 c4 = x := ⟨_, rfl⟩
  obtain ⟨c5, hb⟩ : ∃ x, numW s q4 2 c4 = x := ⟨_, rfl⟩
  obtain ⟨da, hv⟩ : ∃ x, numV (textV s q4 2 c4) = x := ⟨_, rfl⟩
  rw [hq, hb] at hc
  try simp only [hv]
  have R5 := hide (show q0 ≤ q5 ∧ q5 ≤ s.size by have h0 := RZ.out; have h1 := R4.out; have h2 := textI_in (i := q4) (n := 2) (bad := c4) (by omega) h1.2; rw [hq] at h2; omega)
  have HL := hide (show q5 ≤ 9223372036854775807 by have := R5.out; have := HS.out; omega)
  have Q5 := hide hq
  have C5 := hide hb
  have V5 := hide hv
  clear hq hb hv R4
  have H5 := hide (H4.out.only ho hc)
  clear hc ho H4
  obtain ⟨g0, g1, g2, g3, g4, g5, g6, g7, g8, g9, g10⟩ := rec_cells H5.out.ra
  have z2 := rec_frozen H5.out.ra 2
  have z3 := rec_frozen H5.out.ra 3
  have z5 := rec_frozen H5.out.ra 5
  have z4 := rec_frozen H5.out.ra 4
  have HN := hide (show RW 31 ((((w5.setCell ⟨R, 2, none⟩ (.int .i64 fl)).setCell ⟨R, 3, none⟩ (.int .i64 me)).setCell ⟨R, 5, none⟩ (.int .i64 ck)).setCell ⟨R, 4, none⟩ (.int .i64 da)) W p s q5 c5 Q R #[.string ⟨#[]⟩, .string ⟨#[]⟩, .int .i64 fl, .int .i64 me, .int .i64 da, .int .i64 ck, .int .i64 0, .int .i64 0, .int .i64 0, .int .i64 0, .bool false] from ((((H5.out.put 2 (.int .i64 fl)).put 3 (.int .i64 me)).put 5 (.int .i64 ck)).put 4 (.int .i64 da)))
  obtain ⟨v5, hv⟩ : ∃ x, ((((w5.setCell ⟨R, 2, none⟩ (.int .i64 fl)).setCell ⟨R, 3, none⟩ (.int .i64 me)).setCell ⟨R, 5, none⟩ (.int .i64 ck)).setCell ⟨R, 4, none⟩ (.int .i64 da)) = x := ⟨_, rfl⟩
  rw [hv] at HN
  go_wp2_with fail
  try simp only [hv]
  have H5 := HN
  clear hv HN g0 g1 g2 g3 g4 g5 g6 g7 g8 g9 g10 z2 z3 z5 z4
  refine (qu32_any p s v5 q5 c5 H5.out.cur HL.out HS.out).mono ?_
  rintro e w6 ⟨rfl, hc, ho⟩
  obtain ⟨q6, hq⟩ : ∃ x, textI s q5 4 c5 = x := ⟨_, rfl⟩
  obtain ⟨c6, hb⟩ : ∃ x, numW s q5 4 c5 = x := ⟨_, rfl⟩
  obtain ⟨su, hv⟩ : ∃ x, numV (textV s q5 4 c5) = x := ⟨_, rfl⟩
  rw [hq, hb] at hc
  try simp only [hv]
  have R6 := hide (show q0 ≤ q6 ∧ q6 ≤ s.size by have h0 := RZ.out; have h1 := R5.out; have h2 := textI_in (i := q5) (n := 4) (bad := c5) (by omega) h1.2; rw [hq] at h2; omega)
  have HL := hide (show q6 ≤ 9223372036854775807 by have := R6.out; have := HS.out; omega)
  have Q6 := hide hq
  have C6 := hide hb
  have V6 := hide hv
  clear hq hb hv R5
  have H6 := hide (H5.out.only ho hc)
  clear hc ho H5
  go_wp2_with fail
  refine (qu32_any p s w6 q6 c6 H6.out.cur HL.out HS.out).mono ?_
  rintro e w7 ⟨rfl, hc, ho⟩
  obtain ⟨q7, hq⟩ : ∃ x, textI s q6 4 c6 = x := ⟨_, rfl⟩
  obtain ⟨c7, hb⟩ : ∃ x, numW s q6 4 c6 = x := ⟨_, rfl⟩
  obtain ⟨pk, hv⟩ : ∃ x, numV (textV s q6 4 c6) = x := ⟨_, rfl⟩
  rw [hq, hb] at hc
  try simp only [hv]
  have R7 := hide (show q0 ≤ q7 ∧ q7 ≤ s.size by have h0 := RZ.out; have h1 := R6.out; have h2 := textI_in (i := q6) (n := 4) (bad := c6) (by omega) h1.2; rw [hq] at h2; omega)
  have HL := hide (show q7 ≤ 9223372036854775807 by have := R7.out; have := HS.out; omega)
  have Q7 := hide hq
  have C7 := hide hb
  have V7 := hide hv
  clear hq hb hv R6
  have H7 := hide (H6.out.only ho hc)
  clear hc ho H6
  go_wp2_with fail
  refine (qu32_any p s w7 q7 c7 H7.out.cur HL.out HS.out).mono ?_
  rintro e w8 ⟨rfl, hc, ho⟩
  obtain ⟨q8, hq⟩ : ∃ x, textI s q7 4 c7 = x := ⟨_, rfl⟩
  obtain ⟨c8, hb⟩ : ∃ x, numW s q7 4 c7 = x := ⟨_, rfl⟩
  obtain ⟨sz, hv⟩ : ∃ x, numV (textV s q7 4 c7) = x := ⟨_, rfl⟩
  rw [hq, hb] at hc
  try simp only [hv]
  have R8 := hide (show q0 ≤ q8 ∧ q8 ≤ s.size by have h0 := RZ.out; have h1 := R7.out; have h2 := textI_in (i := q7) (n := 4) (bad := c7) (by omega) h1.2; rw [hq] at h2; omega)
  have HL := hide (show q8 ≤ 9223372036854775807 by have := R8.out; have := HS.out; omega)
  have Q8 := hide hq
  have C8 := hide hb
  have V8 := hide hv
  clear hq hb hv R7
  have H8 := hide (H7.out.only ho hc)
  clear hc ho H7
  obtain ⟨g0, g1, g2, g3, g4, g5, g6, g7, g8, g9, g10⟩ := rec_cells H8.out.ra
  have z6 := rec_frozen H8.out.ra 6
  have z8 := rec_frozen H8.out.ra 8
  have z7 := rec_frozen H8.out.ra 7
  have HN := hide (show RW 31 (((w8.setCell ⟨R, 6, none⟩ (.int .i64 su)).setCell ⟨R, 8, none⟩ (.int .i64 pk)).setCell ⟨R, 7, none⟩ (.int .i64 sz)) W p s q8 c8 Q R #[.string ⟨#[]⟩, .string ⟨#[]⟩, .int .i64 fl, .int .i64 me, .int .i64 da, .int .i64 ck, .int .i64 su, .int .i64 sz, .int .i64 pk, .int .i64 0, .bool false] from (((H8.out.put 6 (.int .i64 su)).put 8 (.int .i64 pk)).put 7 (.int .i64 sz)))
  obtain ⟨v8, hv⟩ : ∃ x, (((w8.setCell ⟨R, 6, none⟩ (.int .i64 su)).setCell ⟨R, 8, none⟩ (.int .i64 pk)).setCell ⟨R, 7, none⟩ (.int .i64 sz)) = x := ⟨_, rfl⟩
  rw [hv] at HN
  go_wp2_with fail
  try simp only [hv]
  have H8 := HN
  clear hv HN g0 g1 g2 g3 g4 g5 g6 g7 g8 g9 g10 z6 z8 z7
  refine (qu16_any p s v8 q8 c8 H8.out.cur HL.out HS.out).mono ?_
  rintro e w9 ⟨rfl, hc, ho⟩
  obtain ⟨q9, hq⟩ : ∃ x, textI s q8 2 c8 = x := ⟨_, rfl⟩
  obtain ⟨c9, hb⟩ : ∃ x, numW s q8 2 c8 = x := ⟨_, rfl⟩
  obtain ⟨nl, hv⟩ : ∃ x, numV (textV s q8 2 c8) = x := ⟨_, rfl⟩
  rw [hq, hb] at hc
  try simp only [hv]
  have R9 := hide (show q0 ≤ q9 ∧ q9 ≤ s.size by have h0 := RZ.out; have h1 := R8.out; have h2 := textI_in (i := q8) (n := 2) (bad := c8) (by omega) h1.2; rw [hq] at h2; omega)
  have HL := hide (show q9 ≤ 9223372036854775807 by have := R9.out; have := HS.out; omega)
  have Q9 := hide hq
  have C9 := hide hb
  have V9 := hide hv
  clear hq hb hv R8
  have H9 := hide (H8.out.only ho hc)
  clear hc ho H8
  go_wp2_with fail
  refine (qu16_any p s w9 q9 c9 H9.out.cur HL.out HS.out).mono ?_
  rintro e w10 ⟨rfl, hc, ho⟩
  obtain ⟨q10, hq⟩ : ∃ x, textI s q9 2 c9 = x := ⟨_, rfl⟩
  obtain ⟨c10, hb⟩ : ∃ x, numW s q9 2 c9 = x := ⟨_, rfl⟩
  obtain ⟨xl, hv⟩ : ∃ x, numV (textV s q9 2 c9) = x := ⟨_, rfl⟩
  rw [hq, hb] at hc
  try simp only [hv]
  have R10 := hide (show q0 ≤ q10 ∧ q10 ≤ s.size by have h0 := RZ.out; have h1 := R9.out; have h2 := textI_in (i := q9) (n := 2) (bad := c9) (by omega) h1.2; rw [hq] at h2; omega)
  have HL := hide (show q10 ≤ 9223372036854775807 by have := R10.out; have := HS.out; omega)
  have Q10 := hide hq
  have C10 := hide hb
  have V10 := hide hv
  clear hq hb hv R9
  have H10 := hide (H9.out.only ho hc)
  clear hc ho H9
  go_wp2_with fail
  refine (qu16_any p s w10 q10 c10 H10.out.cur HL.out HS.out).mono ?_
  rintro e w11 ⟨rfl, hc, ho⟩
  obtain ⟨q11, hq⟩ : ∃ x, textI s q10 2 c10 = x := ⟨_, rfl⟩
  obtain ⟨c11, hb⟩ : ∃ x, numW s q10 2 c10 = x := ⟨_, rfl⟩
  obtain ⟨tl, hv⟩ : ∃ x, numV (textV s q10 2 c10) = x := ⟨_, rfl⟩
  rw [hq, hb] at hc
  try simp only [hv]
  have R11 := hide (show q0 ≤ q11 ∧ q11 ≤ s.size by have h0 := RZ.out; have h1 := R10.out; have h2 := textI_in (i := q10) (n := 2) (bad := c10) (by omega) h1.2; rw [hq] at h2; omega)
  have HL := hide (show q11 ≤ 9223372036854775807 by have := R11.out; have := HS.out; omega)
  have Q11 := hide hq
  have C11 := hide hb
  have V11 := hide hv
  clear hq hb hv R10
  have H11 := hide (H10.out.only ho hc)
  clear hc ho H10
  go_wp2_with fail
  refine (qtext_any p s w11 q11 c11 H11.out.cur HL.out HS.out 8).mono ?_
  rintro e w12 ⟨rfl, hc, ho⟩
  obtain ⟨q12, hq⟩ : ∃ x, textI s q11 8 c11 = x := ⟨_, rfl⟩
  obtain ⟨c12, hb⟩ : ∃ x, (!canT s q11 8 c11) = x := ⟨_, rfl⟩
  obtain ⟨d2, hv⟩ : ∃ x, textV s q11 8 c11 = x := ⟨_, rfl⟩
  rw [hq, hb] at hc
  try simp only [hv]
  have R12 := hide (show q0 ≤ q12 ∧ q12 ≤ s.size by have h0 := RZ.out; have h1 := R11.out; have h2 := textI_in (i := q11) (n := 8) (bad := c11) (by omega) h1.2; rw [hq] at h2; omega)
  have HL := hide (show q12 ≤ 9223372036854775807 by have := R12.out; have := HS.out; omega)
  have Q12 := hide hq
  have C12 := hide hb
  have V12 := hide hv
  clear hq hb hv R11
  have H12 := hide (H11.out.only ho hc)
  clear hc ho H11
  go_wp2_with fail
  refine (qu32_any p s w12 q12 c12 H12.out.cur HL.out HS.out).mono ?_
  rintro e w13 ⟨rfl, hc, ho⟩
  obtain ⟨q13, hq⟩ : ∃ x, textI s q12 4 c12 = x := ⟨_, rfl⟩
  obtain ⟨c13, hb⟩ : ∃ x, numW s q12 4 c12 = x := ⟨_, rfl⟩
  obtain ⟨at_, hv⟩ : ∃ x, numV (textV s q12 4 c12) = x := ⟨_, rfl⟩
  rw [hq, hb] at hc
  try simp only [hv]
  have R13 := hide (show q0 ≤ q13 ∧ q13 ≤ s.size by have h0 := RZ.out; have h1 := R12.out; have h2 := textI_in (i := q12) (n := 4) (bad := c12) (by omega) h1.2; rw [hq] at h2; omega)
  have HL := hide (show q13 ≤ 9223372036854775807 by have := R13.out; have := HS.out; omega)
  have Q13 := hide hq
  have C13 := hide hb
  have V13 := hide hv
  clear hq hb hv R12
  have H13 := hide (H12.out.only ho hc)
  clear hc ho H12
  obtain ⟨g0, g1, g2, g3, g4, g5, g6, g7, g8, g9, g10⟩ := rec_cells H13.out.ra
  have z9 := rec_frozen H13.out.ra 9
  have HN := hide (show RW 31 (w13.setCell ⟨R, 9, none⟩ (.int .i64 at_)) W p s q13 c13 Q R #[.string ⟨#[]⟩, .string ⟨#[]⟩, .int .i64 fl, .int .i64 me, .int .i64 da, .int .i64 ck, .int .i64 su, .int .i64 sz, .int .i64 pk, .int .i64 at_, .bool false] from (H13.out.put 9 (.int .i64 at_)))
  obtain ⟨v13, hv⟩ : ∃ x, (w13.setCell ⟨R, 9, none⟩ (.int .i64 at_)) = x := ⟨_, rfl⟩
  rw [hv] at HN
  go_wp2_with fail
  try simp only [hv]
  have H13 := HN
  clear hv HN g0 g1 g2 g3 g4 g5 g6 g7 g8 g9 g10 z9
  refine (qtext_any p s v13 q13 c13 H13.out.cur HL.out HS.out nl).mono ?_
  rintro e w14 ⟨rfl, hc, ho⟩
  obtain ⟨q14, hq⟩ : ∃ x, textI s q13 nl c13 = x := ⟨_, rfl⟩
  obtain ⟨c14, hb⟩ : ∃ x, (!canT s q13 nl c13) = x := ⟨_, rfl⟩
  obtain ⟨nm, hv⟩ : ∃ x, textV s q13 nl c13 = x := ⟨_, rfl⟩
  rw [hq, hb] at hc
  try simp only [hv]
  have R14 := hide (show q0 ≤ q14 ∧ q14 ≤ s.size by have h0 := RZ.out; have h1 := R13.out; have h2 := textI_in (i := q13) (n := nl) (bad := c13) (by omega) h1.2; rw [hq] at h2; omega)
  have HL := hide (show q14 ≤ 9223372036854775807 by have := R14.out; have := HS.out; omega)
  have Q14 := hide hq
  have C14 := hide hb
  have V14 := hide hv
  clear hq hb hv R13
  have H14 := hide (H13.out.only ho hc)
  clear hc ho H13
  obtain ⟨g0, g1, g2, g3, g4, g5, g6, g7, g8, g9, g10⟩ := rec_cells H14.out.ra
  have z0 := rec_frozen H14.out.ra 0
  have HN := hide (show RW 31 (w14.setCell ⟨R, 0, none⟩ (.string nm)) W p s q14 c14 Q R #[.string nm, .string ⟨#[]⟩, .int .i64 fl, .int .i64 me, .int .i64 da, .int .i64 ck, .int .i64 su, .int .i64 sz, .int .i64 pk, .int .i64 at_, .bool false] from (H14.out.put 0 (.string nm)))
  obtain ⟨v14, hv⟩ : ∃ x, (w14.setCell ⟨R, 0, none⟩ (.string nm)) = x := ⟨_, rfl⟩
  rw [hv] at HN
  go_wp2_with fail
  try simp only [hv]
  have H14 := HN
  clear hv HN g0 g1 g2 g3 g4 g5 g6 g7 g8 g9 g10 z0
  refine (qtext_any p s v14 q14 c14 H14.out.cur HL.out HS.out xl).mono ?_
  rintro e w15 ⟨rfl, hc, ho⟩
  obtain ⟨q15, hq⟩ : ∃ x, textI s q14 xl c14 = x := ⟨_, rfl⟩
  obtain ⟨c15, hb⟩ : ∃ x, (!canT s q14 xl c14) = x := ⟨_, rfl⟩
  obtain ⟨tx, hv⟩ : ∃ x, textV s q14 xl c14 = x := ⟨_, rfl⟩
  rw [hq, hb] at hc
  try simp only [hv]
  have R15 := hide (show q0 ≤ q15 ∧ q15 ≤ s.size by have h0 := RZ.out; have h1 := R14.out; have h2 := textI_in (i := q14) (n := xl) (bad := c14) (by omega) h1.2; rw [hq] at h2; omega)
  have HL := hide (show q15 ≤ 9223372036854775807 by have := R15.out; have := HS.out; omega)
  have Q15 := hide hq
  have C15 := hide hb
  have V15 := hide hv
  have hts : tx.size ≤ s.size := by rw [← hv]; exact textV_le _ _ _ _
  clear hq hb hv R14
  have H15 := hide (H14.out.only ho hc)
  clear hc ho H14
  have hb9 : Below w15.heap.size w15 (w15.alloc (.cells #[.string tx, .int .i64 0, .bool false] 31)) := (Below.refl _ _).alloc (Nat.le_refl _) _
  have HN := hide (H15.out.below hb9)
  have HX := hide (CurAt.made 31 w15 tx 0)
  have HXR := hide (show R ≠ w15.heap.size ∧ Q ≠ w15.heap.size ∧ W.heap.size ≤ w15.heap.size ∧ p ≠ w15.heap.size by
    have h1 := (Array.getElem?_eq_some_iff.1 H15.out.ra).1
    have h2 := (Array.getElem?_eq_some_iff.1 H15.out.qa).1
    have h3 := H15.out.cur.lt
    have h4 := H15.out.size
    omega)
  obtain ⟨v15, hv⟩ : ∃ x, w15.alloc (.cells #[.string tx, .int .i64 0, .bool false] 31) = x := ⟨_, rfl⟩
  obtain ⟨X, hX⟩ : ∃ x, w15.heap.size = x := ⟨_, rfl⟩
  rw [hv] at HN
  rw [hv, hX] at HX
  rw [hX] at HXR
  go_wp2_with fail
  try simp only [hv, hX]
  have H15 := HN
  clear hv hX HN hb9
  refine (qtext_any p s v15 q15 c15 H15.out.cur HL.out HS.out tl).mono ?_
  rintro e w16 ⟨rfl, hc, ho⟩
  obtain ⟨q16, hq⟩ : ∃ x, textI s q15 tl c15 = x := ⟨_, rfl⟩
  obtain ⟨c16, hb⟩ : ∃ x, (!canT s q15 tl c15) = x := ⟨_, rfl⟩
  obtain ⟨nt, hv⟩ : ∃ x, textV s q15 tl c15 = x := ⟨_, rfl⟩
  rw [hq, hb] at hc
  try simp only [hv]
  have R16 := hide (show q0 ≤ q16 ∧ q16 ≤ s.size by have h0 := RZ.out; have h1 := R15.out; have h2 := textI_in (i := q15) (n := tl) (bad := c15) (by omega) h1.2; rw [hq] at h2; omega)
  have HL := hide (show q16 ≤ 9223372036854775807 by have := R16.out; have := HS.out; omega)
  have Q16 := hide hq
  have C16 := hide hb
  have V16 := hide hv
  clear hq hb hv R15
  have H16 := hide (H15.out.only ho hc)
  have HX := hide (HX.out.only ho (fun e => HXR.out.2.2.2 e.symm))
  clear hc ho H15
  by_cases x0 : 0 < xl
  · have x0d : decide (0 < xl) = true := decide_eq_true x0
    obtain ⟨g0, g1, g2, g3, g4, g5, g6, g7, g8, g9, g10⟩ := rec_cells H16.out.ra
    have z1 := rec_frozen H16.out.ra 1
    have HN := hide (show RW 31 (w16.setCell ⟨R, 1, none⟩ (.string nt)) W p s q16 c16 Q R #[.string nm, .string nt, .int .i64 fl, .int .i64 me, .int .i64 da, .int .i64 ck, .int .i64 su, .int .i64 sz, .int .i64 pk, .int .i64 at_, .bool false] from (H16.out.put 1 (.string nt)))
    obtain ⟨v16, hv⟩ : ∃ x, (w16.setCell ⟨R, 1, none⟩ (.string nt)) = x := ⟨_, rfl⟩
    rw [hv] at HN
    have HX := hide (HX.out.block (show v16.heap[X]? = w16.heap[X]? by rw [← hv]; exact Below.heap_setCell _ _ _ _ (show X ≠ R from fun e => HXR.out.1 e.symm)))
    go_wp2_with fail
    try simp only [hv]
    have H16 := HN
    clear hv HN g0 g1 g2 g3 g4 g5 g6 g7 g8 g9 g10 z1
    have hts2 : tx.size ≤ 1000000000000 := Nat.le_trans hts HS.out
    refine (qtext_any X tx v16 0 false HX.out (by decide) hts2 4).mono ?_
    rintro e w17 ⟨rfl, hc, ho⟩
    obtain ⟨y1, hq⟩ : ∃ x, textI tx 0 4 false = x := ⟨_, rfl⟩
    obtain ⟨e1, hb⟩ : ∃ x, (!canT tx 0 4 false) = x := ⟨_, rfl⟩
    obtain ⟨d3, hv⟩ : ∃ x, textV tx 0 4 false = x := ⟨_, rfl⟩
    rw [hq, hb] at hc
    try simp only [hv]
    have RY := hide (show 0 ≤ y1 ∧ y1 ≤ tx.size by have h2 := textI_in (s := tx) (i := 0) (n := 4) (bad := false) (by decide) (by omega); rw [hq] at h2; omega)
    have Y1 := hide hq
    have E1 := hide hb
    have H16 := hide (H16.out.other ho HXR.out.2.2.1 HXR.out.2.1 HXR.out.1)
    have HX := hide hc
    clear hq hb hv hc ho
    obtain ⟨g0, g1, g2, g3, g4, g5, g6, g7, g8, g9, g10⟩ := rec_cells H16.out.ra
    have z10 := rec_frozen H16.out.ra 10
    have HN := hide (show RW 31 (w17.setCell ⟨R, 10, none⟩ (.bool true)) W p s q16 c16 Q R #[.string nm, .string nt, .int .i64 fl, .int .i64 me, .int .i64 da, .int .i64 ck, .int .i64 su, .int .i64 sz, .int .i64 pk, .int .i64 at_, .bool true] from (H16.out.put 10 (.bool true)))
    obtain ⟨v17, hv⟩ : ∃ x, (w17.setCell ⟨R, 10, none⟩ (.bool true)) = x := ⟨_, rfl⟩
    rw [hv] at HN
    have HX := hide (HX.out.block (show v17.heap[X]? = w17.heap[X]? by rw [← hv]; exact Below.heap_setCell _ _ _ _ (show X ≠ R from fun e => HXR.out.1 e.symm)))
    go_wp2_with fail
    try simp only [hv]
    have H16 := HN
    clear hv HN g0 g1 g2 g3 g4 g5 g6 g7 g8 g9 g10 z10
    refine (qu64_any X tx v17 y1 e1 HX.out (by have := RY.out; omega) hts2).mono ?_
    rintro e u2 ⟨rfl, hc, ho⟩
    obtain ⟨y2, hq⟩ : ∃ x, textI tx y1 8 e1 = x := ⟨_, rfl⟩
    obtain ⟨e2, hb⟩ : ∃ x, numW tx y1 8 e1 = x := ⟨_, rfl⟩
    obtain ⟨vs, hv⟩ : ∃ x, numV (textV tx y1 8 e1) = x := ⟨_, rfl⟩
    rw [hq, hb] at hc
    try simp only [hv]
    have RY := hide (show 0 ≤ y2 ∧ y2 ≤ tx.size by have h1 := RY.out; have h2 := textI_in (n := 8) (bad := e1) h1.1 h1.2; rw [hq] at h2; omega)
    have Y2 := hide hq
    have E2 := hide hb
    have D2 := hide hv
    have H16 := hide (H16.out.other ho HXR.out.2.2.1 HXR.out.2.1 HXR.out.1)
    have HX := hide hc
    clear hq hb hv hc ho
    go_wp2_with fail
    refine (qu64_any X tx u2 y2 e2 HX.out (by have := RY.out; omega) hts2).mono ?_
    rintro e u3 ⟨rfl, hc, ho⟩
    obtain ⟨y3, hq⟩ : ∃ x, textI tx y2 8 e2 = x := ⟨_, rfl⟩
    obtain ⟨e3, hb⟩ : ∃ x, numW tx y2 8 e2 = x := ⟨_, rfl⟩
    obtain ⟨vp, hv⟩ : ∃ x, numV (textV tx y2 8 e2) = x := ⟨_, rfl⟩
    rw [hq, hb] at hc
    try simp only [hv]
    have RY := hide (show 0 ≤ y3 ∧ y3 ≤ tx.size by have h1 := RY.out; have h2 := textI_in (n := 8) (bad := e2) h1.1 h1.2; rw [hq] at h2; omega)
    have Y3 := hide hq
    have E3 := hide hb
    have D3 := hide hv
    have H16 := hide (H16.out.other ho HXR.out.2.2.1 HXR.out.2.1 HXR.out.1)
    have HX := hide hc
    clear hq hb hv hc ho
    go_wp2_with fail
    refine (qu64_any X tx u3 y3 e3 HX.out (by have := RY.out; omega) hts2).mono ?_
    rintro e u4 ⟨rfl, hc, ho⟩
    obtain ⟨y4, hq⟩ : ∃ x, textI tx y3 8 e3 = x := ⟨_, rfl⟩
    obtain ⟨e4, hb⟩ : ∃ x, numW tx y3 8 e3 = x := ⟨_, rfl⟩
    obtain ⟨va, hv⟩ : ∃ x, numV (textV tx y3 8 e3) = x := ⟨_, rfl⟩
    rw [hq, hb] at hc
    try simp only [hv]
    have RY := hide (show 0 ≤ y4 ∧ y4 ≤ tx.size by have h1 := RY.out; have h2 := textI_in (n := 8) (bad := e3) h1.1 h1.2; rw [hq] at h2; omega)
    have Y4 := hide hq
    have E4 := hide hb
    have D4 := hide hv
    have H16 := hide (H16.out.other ho HXR.out.2.2.1 HXR.out.2.1 HXR.out.1)
    have HX := hide hc
    clear hq hb hv hc ho
    obtain ⟨g0, g1, g2, g3, g4, g5, g6, g7, g8, g9, g10⟩ := rec_cells H16.out.ra
    have z7 := rec_frozen H16.out.ra 7
    have z8 := rec_frozen H16.out.ra 8
    have z9 := rec_frozen H16.out.ra 9
    have HN := hide (show RW 31 (((u4.setCell ⟨R, 7, none⟩ (.int .i64 vs)).setCell ⟨R, 8, none⟩ (.int .i64 vp)).setCell ⟨R, 9, none⟩ (.int .i64 va)) W p s q16 c16 Q R #[.string nm, .string nt, .int .i64 fl, .int .i64 me, .int .i64 da, .int .i64 ck, .int .i64 su, .int .i64 vs, .int .i64 vp, .int .i64 va, .bool true] from (((H16.out.put 7 (.int .i64 vs)).put 8 (.int .i64 vp)).put 9 (.int .i64 va)))
    obtain ⟨v20, hv⟩ : ∃ x, (((u4.setCell ⟨R, 7, none⟩ (.int .i64 vs)).setCell ⟨R, 8, none⟩ (.int .i64 vp)).setCell ⟨R, 9, none⟩ (.int .i64 va)) = x := ⟨_, rfl⟩
    rw [hv] at HN
    have HX := hide (HX.out.block (show v20.heap[X]? = u4.heap[X]? by rw [← hv]; simp [World.setCell, Array.getElem?_modify, HXR.out.1]))
    go_wp2_with fail
    try simp only [hv]
    have H16 := HN
    clear hv HN g0 g1 g2 g3 g4 g5 g6 g7 g8 g9 g10 z7 z8 z9
    have HEQ := hide (show ∀ r0, CenAt s i r0 → c16 = false ∧ e4 = false ∧ r0 = (⟨nm, nt, fl, me, da, ck, su, vs, vp, va, true⟩ : Rec) ∧ q16 = ((i + (cenS r0).size : Nat) : Int) from fun r0 hr0 => by
      have st := hr0.st hi
      have a := Q0.out
      subst a
      have a := C0.out
      subst a
      have a := Q1.out
      have b := C1.out
      rw [st.s0.1] at a
      subst a
      rw [st.s0.2] at b
      have b : false = c1 := b
      subst b
      have a := Q2.out
      have b := C2.out
      have d := V2.out
      rw [st.s1.2.1] at a
      subst a
      rw [st.s1.2.2] at b
      subst b
      rw [st.s1.1] at d
      subst d
      have a := Q3.out
      have b := C3.out
      have d := V3.out
      rw [st.s2.2.1] at a
      subst a
      rw [st.s2.2.2] at b
      subst b
      rw [st.s2.1] at d
      subst d
      have a := Q4.out
      have b := C4.out
      have d := V4.out
      rw [st.s3.2.1] at a
      subst a
      rw [st.s3.2.2] at b
      subst b
      rw [st.s3.1] at d
      subst d
      have a := Q5.out
      have b := C5.out
      have d := V5.out
      rw [st.s4.2.1] at a
      subst a
      rw [st.s4.2.2] at b
      subst b
      rw [st.s4.1] at d
      subst d
      have a := Q6.out
      have b := C6.out
      have d := V6.out
      rw [st.s5.2.1] at a
      subst a
      rw [st.s5.2.2] at b
      subst b
      rw [st.s5.1] at d
      subst d
      have a := Q7.out
      have b := C7.out
      have d := V7.out
      rw [st.s6.2.1] at a
      subst a
      rw [st.s6.2.2] at b
      subst b
      rw [st.s6.1] at d
      subst d
      have a := Q8.out
      have b := C8.out
      have d := V8.out
      rw [st.s7.2.1] at a
      subst a
      rw [st.s7.2.2] at b
      subst b
      rw [st.s7.1] at d
      subst d
      have a := Q9.out
      have b := C9.out
      have d := V9.out
      rw [st.s8.2.1] at a
      subst a
      rw [st.s8.2.2] at b
      subst b
      rw [st.s8.1] at d
      subst d
      have a := Q10.out
      have b := C10.out
      have d := V10.out
      rw [st.s9.2.1] at a
      subst a
      rw [st.s9.2.2] at b
      subst b
      rw [st.s9.1] at d
      subst d
      have a := Q11.out
      have b := C11.out
      have d := V11.out
      rw [st.s10.2.1] at a
      subst a
      rw [st.s10.2.2] at b
      subst b
      rw [st.s10.1] at d
      subst d
      have a := Q12.out
      have b := C12.out
      rw [st.s11.1] at a
      subst a
      rw [st.s11.2] at b
      have b : false = c12 := b
      subst b
      have a := Q13.out
      have b := C13.out
      have d := V13.out
      rw [st.s12.2.1] at a
      subst a
      rw [st.s12.2.2] at b
      subst b
      rw [st.s12.1] at d
      subst d
      have a := Q14.out
      have b := C14.out
      have d := V14.out
      rw [st.s13.2.1] at a
      subst a
      rw [st.s13.2.2] at b
      have b : false = c14 := b
      subst b
      rw [st.s13.1] at d
      subst d
      have a := Q15.out
      have b := C15.out
      have d := V15.out
      rw [st.s14.2.1] at a
      subst a
      rw [st.s14.2.2] at b
      have b : false = c15 := b
      subst b
      rw [st.s14.1] at d
      subst d
      have a := Q16.out
      have b := C16.out
      have d := V16.out
      rw [st.s15.2.1] at a
      subst a
      rw [st.s15.2.2] at b
      have b : false = c16 := b
      subst b
      rw [st.s15.1] at d
      subst d
      have hx := extraC_size r0
      have hw : r0.wide = true := by
        cases hw : r0.wide with
        | true => rfl
        | false => rw [hw] at hx; have hx : (extraC r0).size = 0 := hx; omega
      obtain ⟨x1, x2, x3, x4⟩ := extra_st hr0.1 hw
      have a := Y1.out
      have b := E1.out
      rw [x1.1] at a
      subst a
      rw [x1.2] at b
      have b : false = e1 := b
      subst b
      have a := Y2.out
      have b := E2.out
      have d := D2.out
      rw [x2.2.1] at a
      subst a
      rw [x2.2.2] at b
      subst b
      rw [x2.1] at d
      subst d
      have a := Y3.out
      have b := E3.out
      have d := D3.out
      rw [x3.2.1] at a
      subst a
      rw [x3.2.2] at b
      subst b
      rw [x3.1] at d
      subst d
      have a := Y4.out
      have b := E4.out
      have d := D4.out
      rw [x4.2.1] at a
      subst a
      rw [x4.2.2] at b
      subst b
      rw [x4.1] at d
      subst d
      refine ⟨rfl, rfl, ?_, rfl⟩
      cases r0
      dsimp only at hw
      subst hw
      rfl)
    have hQ0 : (i : Int) = q0 := Q0.out
    have hR16 := R16.out
    have hRZ := RZ.out
    clear Q1 C1 Q2 C2 Q3 C3 Q4 C4 Q5 C5 Q6 C6 Q7 C7 Q8 C8 Q9 C9 Q10 C10 Q11 C11 Q12 C12 Q13 C13 Q14 C14 Q15 C15 Q16 C16 V1 V2 V3 V4 V5 V6 V7 V8 V9 V10 V11 V12 V13 V14 V15 V16 Y1 Y2 Y3 Y4 E1 E2 E3 E4 D2 D3 D4 RY hts2 HL hts R16 RZ Q0 C0 x0 x0d
    by_cases hA : c16 = true
    · subst hA
      have HC := hide (rec_since H16.out.ra)
      have hu0 := fun u : Since0 v20 => (HC.out u).1
      have hu1 := fun u : Since0 v20 => (HC.out u).2.1
      have hu2 := fun u : Since0 v20 => (HC.out u).2.2.1
      have hu3 := fun u : Since0 v20 => (HC.out u).2.2.2.1
      have hu4 := fun u : Since0 v20 => (HC.out u).2.2.2.2.1
      have hu5 := fun u : Since0 v20 => (HC.out u).2.2.2.2.2.1
      have hu6 := fun u : Since0 v20 => (HC.out u).2.2.2.2.2.2.1
      have hu7 := fun u : Since0 v20 => (HC.out u).2.2.2.2.2.2.2.1
      have hu8 := fun u : Since0 v20 => (HC.out u).2.2.2.2.2.2.2.2.1
      have hu9 := fun u : Since0 v20 => (HC.out u).2.2.2.2.2.2.2.2.2.1
      have hu10 := fun u : Since0 v20 => (HC.out u).2.2.2.2.2.2.2.2.2.2
      have hp0 := fun u : Since0 v20 => (u.2.cell (p := ⟨p, 0, none⟩) H16.out.cur.lt).trans H16.out.cur.c0
      have hp1 := fun u : Since0 v20 => (u.2.cell (p := ⟨p, 1, none⟩) H16.out.cur.lt).trans H16.out.cur.c1
      have hp2 := fun u : Since0 v20 => (u.2.cell (p := ⟨p, 2, none⟩) H16.out.cur.lt).trans H16.out.cur.c2
      have hx2 := fun u : Since0 v20 => (u.2.cell (p := ⟨X, 2, none⟩) HX.out.lt).trans HX.out.c2
      have hne : Nonempty (Since0 v20) := ⟨⟨v20, Below.refl _ _⟩⟩
      try simp only [List.append]
      refine wp_region_below v20 (Below.refl _ _) (by kernel_rfl) (by kernel_rfl) ?_
      repeat (go_big_quiet_step (fail))
      refine wpQuiet_nil ?_
      intro _ hw'
      obtain ⟨u, rfl⟩ := hw'
      clear hu0 hu1 hu2 hu3 hu4 hu5 hu6 hu7 hu8 hu9 hu10 hp0 hp1 hp2 hx2 hne
      have HU := hide (H16.out.below u.2)
      have HNO := hide (show ∀ r, ¬ CenAt s i r from fun r hr => Bool.noConfusion ((HEQ.out r hr).1 : true = false))
      obtain ⟨u5, hu5⟩ : ∃ x, u.1 = x := ⟨_, rfl⟩
      rw [hu5] at HU
      simp only [hu5]
      clear hu5 HC u
      have hcb := HU.out.cur.c2
      have hfb := HU.out.cur.fz 2
      have hqz : u5.heap[Q]? = some (.cells #[.string ⟨#[]⟩, .string ⟨#[]⟩, .int .i64 0, .int .i64 0, .int .i64 0, .int .i64 0, .int .i64 0, .int .i64 0, .int .i64 0, .int .i64 0, .bool false] 23 (0, 0)) := HU.out.qa
      have hqp : (u5.setCell ⟨p, 2, none⟩ (.bool true)).heap[Q]? = some (.cells #[.string ⟨#[]⟩, .string ⟨#[]⟩, .int .i64 0, .int .i64 0, .int .i64 0, .int .i64 0, .int .i64 0, .int .i64 0, .int .i64 0, .int .i64 0, .bool false] 23 (0, 0)) := by rw [Below.heap_setCell _ _ _ _ (show Q ≠ p by have := HU.out.lq; have := HU.out.pw; omega)]; exact hqz
      have HQP := hide hqp
      obtain ⟨g0, g1, g2, g3, g4, g5, g6, g7, g8, g9, g10⟩ := rec_cells hqp
      have z0 := rec_frozen hqp 0
      have z1 := rec_frozen hqp 1
      have z2 := rec_frozen hqp 2
      have z3 := rec_frozen hqp 3
      have z4 := rec_frozen hqp 4
      have z5 := rec_frozen hqp 5
      have z6 := rec_frozen hqp 6
      have z7 := rec_frozen hqp 7
      have z8 := rec_frozen hqp 8
      have z9 := rec_frozen hqp 9
      have z10 := rec_frozen hqp 10
      clear hqz hqp
      go_wp2
      (try simp only [Exit.inBlock, Exit.then])
      refine bodyPost_ret (results_boxO rfl _ _ _ _ _ rfl (set_eleven _ _ _ _ _ _ _ _ _ _ _ _ _ _ _ _ _ _ _ _ _ _ _ _ _ HQP.out) Try.underlying23 rfl) rfl ?_
      exact HU.out.no HNO.out rfl (set11_only _ _ _ _ _ _ _ _ _ _ _ _ _)
    obtain rfl : c16 = false := by cases c16 with | false => rfl | true => exact absurd rfl hA
    clear hA
    by_cases hB : e4 = true
    · subst hB
      have HC := hide (rec_since H16.out.ra)
      have hu0 := fun u : Since0 v20 => (HC.out u).1
      have hu1 := fun u : Since0 v20 => (HC.out u).2.1
      have hu2 := fun u : Since0 v20 => (HC.out u).2.2.1
      have hu3 := fun u : Since0 v20 => (HC.out u).2.2.2.1
      have hu4 := fun u : Since0 v20 => (HC.out u).2.2.2.2.1
      have hu5 := fun u : Since0 v20 => (HC.out u).2.2.2.2.2.1
      have hu6 := fun u : Since0 v20 => (HC.out u).2.2.2.2.2.2.1
      have hu7 := fun u : Since0 v20 => (HC.out u).2.2.2.2.2.2.2.1
      have hu8 := fun u : Since0 v20 => (HC.out u).2.2.2.2.2.2.2.2.1
      have hu9 := fun u : Since0 v20 => (HC.out u).2.2.2.2.2.2.2.2.2.1
      have hu10 := fun u : Since0 v20 => (HC.out u).2.2.2.2.2.2.2.2.2.2
      have hp0 := fun u : Since0 v20 => (u.2.cell (p := ⟨p, 0, none⟩) H16.out.cur.lt).trans H16.out.cur.c0
      have hp1 := fun u : Since0 v20 => (u.2.cell (p := ⟨p, 1, none⟩) H16.out.cur.lt).trans H16.out.cur.c1
      have hp2 := fun u : Since0 v20 => (u.2.cell (p := ⟨p, 2, none⟩) H16.out.cur.lt).trans H16.out.cur.c2
      have hx2 := fun u : Since0 v20 => (u.2.cell (p := ⟨X, 2, none⟩) HX.out.lt).trans HX.out.c2
      have hne : Nonempty (Since0 v20) := ⟨⟨v20, Below.refl _ _⟩⟩
      try simp only [List.append]
      refine wp_region_below v20 (Below.refl _ _) (by kernel_rfl) (by kernel_rfl) ?_
      repeat (go_big_quiet_step (fail))
      refine wpQuiet_nil ?_
      intro _ hw'
      obtain ⟨u, rfl⟩ := hw'
      clear hu0 hu1 hu2 hu3 hu4 hu5 hu6 hu7 hu8 hu9 hu10 hp0 hp1 hp2 hx2 hne
      have HU := hide (H16.out.below u.2)
      have HNO := hide (show ∀ r, ¬ CenAt s i r from fun r hr => Bool.noConfusion ((HEQ.out r hr).2.1 : true = false))
      obtain ⟨u5, hu5⟩ : ∃ x, u.1 = x := ⟨_, rfl⟩
      rw [hu5] at HU
      simp only [hu5]
      clear hu5 HC u
      have hcb := HU.out.cur.c2
      have hfb := HU.out.cur.fz 2
      have hqz : u5.heap[Q]? = some (.cells #[.string ⟨#[]⟩, .string ⟨#[]⟩, .int .i64 0, .int .i64 0, .int .i64 0, .int .i64 0, .int .i64 0, .int .i64 0, .int .i64 0, .int .i64 0, .bool false] 23 (0, 0)) := HU.out.qa
      have hqp : (u5.setCell ⟨p, 2, none⟩ (.bool true)).heap[Q]? = some (.cells #[.string ⟨#[]⟩, .string ⟨#[]⟩, .int .i64 0, .int .i64 0, .int .i64 0, .int .i64 0, .int .i64 0, .int .i64 0, .int .i64 0, .int .i64 0, .bool false] 23 (0, 0)) := by rw [Below.heap_setCell _ _ _ _ (show Q ≠ p by have := HU.out.lq; have := HU.out.pw; omega)]; exact hqz
      have HQP := hide hqp
      obtain ⟨g0, g1, g2, g3, g4, g5, g6, g7, g8, g9, g10⟩ := rec_cells hqp
      have z0 := rec_frozen hqp 0
      have z1 := rec_frozen hqp 1
      have z2 := rec_frozen hqp 2
      have z3 := rec_frozen hqp 3
      have z4 := rec_frozen hqp 4
      have z5 := rec_frozen hqp 5
      have z6 := rec_frozen hqp 6
      have z7 := rec_frozen hqp 7
      have z8 := rec_frozen hqp 8
      have z9 := rec_frozen hqp 9
      have z10 := rec_frozen hqp 10
      clear hqz hqp
      go_wp2
      (try simp only [Exit.inBlock, Exit.then])
      refine bodyPost_ret (results_boxO rfl _ _ _ _ _ rfl (set_eleven _ _ _ _ _ _ _ _ _ _ _ _ _ _ _ _ _ _ _ _ _ _ _ _ _ HQP.out) Try.underlying23 rfl) rfl ?_
      exact HU.out.no HNO.out rfl (set11_only _ _ _ _ _ _ _ _ _ _ _ _ _)
    obtain rfl : e4 = false := by cases e4 with | false => rfl | true => exact absurd rfl hB
    clear hB
    by_cases hR : RightR (⟨nm, nt, fl, me, da, ck, su, vs, vp, va, true⟩ : Rec)
    case neg =>
      have HRT := hide (fun w => show Calls Try.prog 11 #[.agg #[.string nm, .string nt, .int .i64 fl, .int .i64 me, .int .i64 da, .int .i64 ck, .int .i64 su, .int .i64 vs, .int .i64 vp, .int .i64 va, .bool true]] w fun e w' => e = .returned (.bool false) ∧ Below w.heap.size w w' from by
        have hq := qright_any (⟨nm, nt, fl, me, da, ck, su, vs, vp, va, true⟩ : Rec) w
        rw [rightR_no hR] at hq
        exact hq)
      have HC := hide (rec_since H16.out.ra)
      have hu0 := fun u : Since0 v20 => (HC.out u).1
      have hu1 := fun u : Since0 v20 => (HC.out u).2.1
      have hu2 := fun u : Since0 v20 => (HC.out u).2.2.1
      have hu3 := fun u : Since0 v20 => (HC.out u).2.2.2.1
      have hu4 := fun u : Since0 v20 => (HC.out u).2.2.2.2.1
      have hu5 := fun u : Since0 v20 => (HC.out u).2.2.2.2.2.1
      have hu6 := fun u : Since0 v20 => (HC.out u).2.2.2.2.2.2.1
      have hu7 := fun u : Since0 v20 => (HC.out u).2.2.2.2.2.2.2.1
      have hu8 := fun u : Since0 v20 => (HC.out u).2.2.2.2.2.2.2.2.1
      have hu9 := fun u : Since0 v20 => (HC.out u).2.2.2.2.2.2.2.2.2.1
      have hu10 := fun u : Since0 v20 => (HC.out u).2.2.2.2.2.2.2.2.2.2
      have hp0 := fun u : Since0 v20 => (u.2.cell (p := ⟨p, 0, none⟩) H16.out.cur.lt).trans H16.out.cur.c0
      have hp1 := fun u : Since0 v20 => (u.2.cell (p := ⟨p, 1, none⟩) H16.out.cur.lt).trans H16.out.cur.c1
      have hp2 := fun u : Since0 v20 => (u.2.cell (p := ⟨p, 2, none⟩) H16.out.cur.lt).trans H16.out.cur.c2
      have hx2 := fun u : Since0 v20 => (u.2.cell (p := ⟨X, 2, none⟩) HX.out.lt).trans HX.out.c2
      have hne : Nonempty (Since0 v20) := ⟨⟨v20, Below.refl _ _⟩⟩
      try simp only [List.append]
      refine wp_region_below v20 (Below.refl _ _) (by kernel_rfl) (by kernel_rfl) ?_
      repeat (go_big_quiet_step ((rename_i u; first | exact calls_since u (HRT.out u.1))))
      refine wpQuiet_nil ?_
      intro _ hw'
      obtain ⟨u, rfl⟩ := hw'
      clear hu0 hu1 hu2 hu3 hu4 hu5 hu6 hu7 hu8 hu9 hu10 hp0 hp1 hp2 hx2 hne
      have HU := hide (H16.out.below u.2)
      have HNO := hide (show ∀ r, ¬ CenAt s i r from fun r hr => hR ((HEQ.out r hr).2.2.1 ▸ hr.1))
      obtain ⟨u5, hu5⟩ : ∃ x, u.1 = x := ⟨_, rfl⟩
      rw [hu5] at HU
      simp only [hu5]
      clear hu5 HC u
      have hcb := HU.out.cur.c2
      have hfb := HU.out.cur.fz 2
      have hqz : u5.heap[Q]? = some (.cells #[.string ⟨#[]⟩, .string ⟨#[]⟩, .int .i64 0, .int .i64 0, .int .i64 0, .int .i64 0, .int .i64 0, .int .i64 0, .int .i64 0, .int .i64 0, .bool false] 23 (0, 0)) := HU.out.qa
      have hqp : (u5.setCell ⟨p, 2, none⟩ (.bool true)).heap[Q]? = some (.cells #[.string ⟨#[]⟩, .string ⟨#[]⟩, .int .i64 0, .int .i64 0, .int .i64 0, .int .i64 0, .int .i64 0, .int .i64 0, .int .i64 0, .int .i64 0, .bool false] 23 (0, 0)) := by rw [Below.heap_setCell _ _ _ _ (show Q ≠ p by have := HU.out.lq; have := HU.out.pw; omega)]; exact hqz
      have HQP := hide hqp
      obtain ⟨g0, g1, g2, g3, g4, g5, g6, g7, g8, g9, g10⟩ := rec_cells hqp
      have z0 := rec_frozen hqp 0
      have z1 := rec_frozen hqp 1
      have z2 := rec_frozen hqp 2
      have z3 := rec_frozen hqp 3
      have z4 := rec_frozen hqp 4
      have z5 := rec_frozen hqp 5
      have z6 := rec_frozen hqp 6
      have z7 := rec_frozen hqp 7
      have z8 := rec_frozen hqp 8
      have z9 := rec_frozen hqp 9
      have z10 := rec_frozen hqp 10
      clear hqz hqp
      go_wp2
      (try simp only [Exit.inBlock, Exit.then])
      refine bodyPost_ret (results_boxO rfl _ _ _ _ _ rfl (set_eleven _ _ _ _ _ _ _ _ _ _ _ _ _ _ _ _ _ _ _ _ _ _ _ _ _ HQP.out) Try.underlying23 rfl) rfl ?_
      exact HU.out.no HNO.out rfl (set11_only _ _ _ _ _ _ _ _ _ _ _ _ _)
    have HRT := hide (fun w => show Calls Try.prog 11 #[.agg #[.string nm, .string nt, .int .i64 fl, .int .i64 me, .int .i64 da, .int .i64 ck, .int .i64 su, .int .i64 vs, .int .i64 vp, .int .i64 va, .bool true]] w fun e w' => e = .returned (.bool true) ∧ Below w.heap.size w w' from by
      have hq := qright_any (⟨nm, nt, fl, me, da, ck, su, vs, vp, va, true⟩ : Rec) w
      rw [(rightR_iff _).2 hR] at hq
      exact hq)
    have HCN := hide (fun w => show Calls Try.prog 15 #[.agg #[.string nm, .string nt, .int .i64 fl, .int .i64 me, .int .i64 da, .int .i64 ck, .int .i64 su, .int .i64 vs, .int .i64 vp, .int .i64 va, .bool true]] w fun e w' => e = .returned (.string (cenS (⟨nm, nt, fl, me, da, ck, su, vs, vp, va, true⟩ : Rec))) ∧ Below w.heap.size w w' from qcentral_any (⟨nm, nt, fl, me, da, ck, su, vs, vp, va, true⟩ : Rec) hR w)
    obtain ⟨j, rfl⟩ : ∃ j : Nat, q16 = (j : Int) := ⟨q16.toNat, by omega⟩
    subst hQ0
    have hsl : ∀ w, (Instr.slice 9 (.string s) (some (.int .i64 (i : Int))) (some (.int .i64 (j : Int))) none).run Try.prog w = .ok (.string (s.extract i j)) w := fun w => by
      rw [run_slice_string (P := Try.prog) w 9 s .i64 .i64 (i : Int) (j : Int) Try.underlying9 (by omega) (by omega) (by omega)]
      first | rfl | simp
    by_cases hE : s.extract i j = cenS (⟨nm, nt, fl, me, da, ck, su, vs, vp, va, true⟩ : Rec)
    case neg =>
      have HEN := hide hE
      have HIN := hide (fun r (hr : CenAt s i r) => show False by
        have h1 := (HEQ.out r hr).2.2.1
        have h2 := (HEQ.out r hr).2.2.2
        subst h1
        have st := hr.st hi
        have h3 : j = i + (cenS ⟨nm, nt, fl, me, da, ck, su, vs, vp, va, true⟩).size := by omega
        rw [h3] at hE
        exact hE st.ext)
      generalize cenS (⟨nm, nt, fl, me, da, ck, su, vs, vp, va, true⟩ : Rec) = cz at *
      generalize s.extract i j = ez at *
      have n1 : (cz.toList == ez.toList) = false := by rw [ByteArray.toList_eq, ByteArray.toList_eq]; exact beq_eq_false_iff_ne.2 (fun h => hE (ba_ext h.symm))
      have HC := hide (rec_since H16.out.ra)
      have hu0 := fun u : Since0 v20 => (HC.out u).1
      have hu1 := fun u : Since0 v20 => (HC.out u).2.1
      have hu2 := fun u : Since0 v20 => (HC.out u).2.2.1
      have hu3 := fun u : Since0 v20 => (HC.out u).2.2.2.1
      have hu4 := fun u : Since0 v20 => (HC.out u).2.2.2.2.1
      have hu5 := fun u : Since0 v20 => (HC.out u).2.2.2.2.2.1
      have hu6 := fun u : Since0 v20 => (HC.out u).2.2.2.2.2.2.1
      have hu7 := fun u : Since0 v20 => (HC.out u).2.2.2.2.2.2.2.1
      have hu8 := fun u : Since0 v20 => (HC.out u).2.2.2.2.2.2.2.2.1
      have hu9 := fun u : Since0 v20 => (HC.out u).2.2.2.2.2.2.2.2.2.1
      have hu10 := fun u : Since0 v20 => (HC.out u).2.2.2.2.2.2.2.2.2.2
      have hp0 := fun u : Since0 v20 => (u.2.cell (p := ⟨p, 0, none⟩) H16.out.cur.lt).trans H16.out.cur.c0
      have hp1 := fun u : Since0 v20 => (u.2.cell (p := ⟨p, 1, none⟩) H16.out.cur.lt).trans H16.out.cur.c1
      have hp2 := fun u : Since0 v20 => (u.2.cell (p := ⟨p, 2, none⟩) H16.out.cur.lt).trans H16.out.cur.c2
      have hx2 := fun u : Since0 v20 => (u.2.cell (p := ⟨X, 2, none⟩) HX.out.lt).trans HX.out.c2
      have hne : Nonempty (Since0 v20) := ⟨⟨v20, Below.refl _ _⟩⟩
      try simp only [List.append]
      refine wp_region_below v20 (Below.refl _ _) (by kernel_rfl) (by kernel_rfl) ?_
      repeat (go_big_quiet_step ((rename_i u; first | exact calls_since u (HRT.out u.1) | exact calls_since u (HCN.out u.1))))
      refine wpQuiet_nil ?_
      intro _ hw'
      obtain ⟨u, rfl⟩ := hw'
      clear hu0 hu1 hu2 hu3 hu4 hu5 hu6 hu7 hu8 hu9 hu10 hp0 hp1 hp2 hx2 hne
      have HU := hide (H16.out.below u.2)
      have HNO := hide (show ∀ r, ¬ CenAt s i r from fun r hr => HIN.out r hr)
      obtain ⟨u5, hu5⟩ : ∃ x, u.1 = x := ⟨_, rfl⟩
      rw [hu5] at HU
      simp only [hu5]
      clear hu5 HC u
      have hcb := HU.out.cur.c2
      have hfb := HU.out.cur.fz 2
      have hqz : u5.heap[Q]? = some (.cells #[.string ⟨#[]⟩, .string ⟨#[]⟩, .int .i64 0, .int .i64 0, .int .i64 0, .int .i64 0, .int .i64 0, .int .i64 0, .int .i64 0, .int .i64 0, .bool false] 23 (0, 0)) := HU.out.qa
      have hqp : (u5.setCell ⟨p, 2, none⟩ (.bool true)).heap[Q]? = some (.cells #[.string ⟨#[]⟩, .string ⟨#[]⟩, .int .i64 0, .int .i64 0, .int .i64 0, .int .i64 0, .int .i64 0, .int .i64 0, .int .i64 0, .int .i64 0, .bool false] 23 (0, 0)) := by rw [Below.heap_setCell _ _ _ _ (show Q ≠ p by have := HU.out.lq; have := HU.out.pw; omega)]; exact hqz
      have HQP := hide hqp
      obtain ⟨g0, g1, g2, g3, g4, g5, g6, g7, g8, g9, g10⟩ := rec_cells hqp
      have z0 := rec_frozen hqp 0
      have z1 := rec_frozen hqp 1
      have z2 := rec_frozen hqp 2
      have z3 := rec_frozen hqp 3
      have z4 := rec_frozen hqp 4
      have z5 := rec_frozen hqp 5
      have z6 := rec_frozen hqp 6
      have z7 := rec_frozen hqp 7
      have z8 := rec_frozen hqp 8
      have z9 := rec_frozen hqp 9
      have z10 := rec_frozen hqp 10
      clear hqz hqp
      go_wp2
      (try simp only [Exit.inBlock, Exit.then])
      refine bodyPost_ret (results_boxO rfl _ _ _ _ _ rfl (set_eleven _ _ _ _ _ _ _ _ _ _ _ _ _ _ _ _ _ _ _ _ _ _ _ _ _ HQP.out) Try.underlying23 rfl) rfl ?_
      exact HU.out.no HNO.out rfl (set11_only _ _ _ _ _ _ _ _ _ _ _ _ _)
    obtain ⟨hcen, hj⟩ := cen_of hR (by omega) (by omega) hE
    have HCEN := hide hcen
    have HJ := hide hj
    rw [hE] at hsl
    have HY := hide (fun w2 w3 (hu : RW 31 w2 W p s (j : Int) false Q R #[.string nm, .string nt, .int .i64 fl, .int .i64 me, .int .i64 da, .int .i64 ck, .int .i64 su, .int .i64 vs, .int .i64 vp, .int .i64 va, .bool true]) (o : Only Q w2 w3) => (show ReadCP 31 s p i W (.returned (.tuple #[.agg #[.string nm, .string nt, .int .i64 fl, .int .i64 me, .int .i64 da, .int .i64 ck, .int .i64 su, .int .i64 vs, .int .i64 vp, .int .i64 va, .bool true], .bool true])) w3 from RW.yes (r := (⟨nm, nt, fl, me, da, ck, su, vs, vp, va, true⟩ : Rec)) (by rw [← hj]; exact hu) hcen o))
    clear hcen hj hE HEQ
    generalize cenS (⟨nm, nt, fl, me, da, ck, su, vs, vp, va, true⟩ : Rec) = cz at *
    have HC := hide (rec_since H16.out.ra)
    have hu0 := fun u : Since0 v20 => (HC.out u).1
    have hu1 := fun u : Since0 v20 => (HC.out u).2.1
    have hu2 := fun u : Since0 v20 => (HC.out u).2.2.1
    have hu3 := fun u : Since0 v20 => (HC.out u).2.2.2.1
    have hu4 := fun u : Since0 v20 => (HC.out u).2.2.2.2.1
    have hu5 := fun u : Since0 v20 => (HC.out u).2.2.2.2.2.1
    have hu6 := fun u : Since0 v20 => (HC.out u).2.2.2.2.2.2.1
    have hu7 := fun u : Since0 v20 => (HC.out u).2.2.2.2.2.2.2.1
    have hu8 := fun u : Since0 v20 => (HC.out u).2.2.2.2.2.2.2.2.1
    have hu9 := fun u : Since0 v20 => (HC.out u).2.2.2.2.2.2.2.2.2.1
    have hu10 := fun u : Since0 v20 => (HC.out u).2.2.2.2.2.2.2.2.2.2
    have hp0 := fun u : Since0 v20 => (u.2.cell (p := ⟨p, 0, none⟩) H16.out.cur.lt).trans H16.out.cur.c0
    have hp1 := fun u : Since0 v20 => (u.2.cell (p := ⟨p, 1, none⟩) H16.out.cur.lt).trans H16.out.cur.c1
    have hp2 := fun u : Since0 v20 => (u.2.cell (p := ⟨p, 2, none⟩) H16.out.cur.lt).trans H16.out.cur.c2
    have hx2 := fun u : Since0 v20 => (u.2.cell (p := ⟨X, 2, none⟩) HX.out.lt).trans HX.out.c2
    have hne : Nonempty (Since0 v20) := ⟨⟨v20, Below.refl _ _⟩⟩
    try simp only [List.append]
    refine wp_region_below v20 (Below.refl _ _) (by kernel_rfl) (by kernel_rfl) ?_
    repeat (go_big_quiet_step ((rename_i u; first | exact calls_since u (HRT.out u.1) | exact calls_since u (HCN.out u.1))))
    refine wpQuiet_nil ?_
    intro _ hw'
    obtain ⟨u, rfl⟩ := hw'
    clear hu0 hu1 hu2 hu3 hu4 hu5 hu6 hu7 hu8 hu9 hu10 hp0 hp1 hp2 hx2 hne
    have HU := hide (H16.out.below u.2)
    obtain ⟨u5, hu5⟩ : ∃ x, u.1 = x := ⟨_, rfl⟩
    rw [hu5] at HU
    simp only [hu5]
    clear hu5 HC u
    have hqz : u5.heap[Q]? = some (.cells #[.string ⟨#[]⟩, .string ⟨#[]⟩, .int .i64 0, .int .i64 0, .int .i64 0, .int .i64 0, .int .i64 0, .int .i64 0, .int .i64 0, .int .i64 0, .bool false] 23 (0, 0)) := HU.out.qa
    have HQP := hide hqz
    obtain ⟨g0, g1, g2, g3, g4, g5, g6, g7, g8, g9, g10⟩ := rec_cells hqz
    obtain ⟨l0, l1, l2, l3, l4, l5, l6, l7, l8, l9, l10⟩ := rec_cells HU.out.ra
    have z0 := rec_frozen hqz 0
    have z1 := rec_frozen hqz 1
    have z2 := rec_frozen hqz 2
    have z3 := rec_frozen hqz 3
    have z4 := rec_frozen hqz 4
    have z5 := rec_frozen hqz 5
    have z6 := rec_frozen hqz 6
    have z7 := rec_frozen hqz 7
    have z8 := rec_frozen hqz 8
    have z9 := rec_frozen hqz 9
    have z10 := rec_frozen hqz 10
    clear hqz
    go_wp2
    (try simp only [Exit.inBlock, Exit.then])
    refine bodyPost_ret (results_boxO rfl _ _ _ _ _ rfl (set_eleven _ _ _ _ _ _ _ _ _ _ _ _ _ _ _ _ _ _ _ _ _ _ _ _ _ HQP.out) Try.underlying23 rfl) rfl ?_
    exact HY.out _ _ HU.out (set11_only _ _ _ _ _ _ _ _ _ _ _ _ _)
  · have x0d : decide (0 < xl) = false := decide_eq_false x0
    obtain ⟨g0, g1, g2, g3, g4, g5, g6, g7, g8, g9, g10⟩ := rec_cells H16.out.ra
    have z1 := rec_frozen H16.out.ra 1
    have HN := hide (show RW 31 (w16.setCell ⟨R, 1, none⟩ (.string nt)) W p s q16 c16 Q R #[.string nm, .string nt, .int .i64 fl, .int .i64 me, .int .i64 da, .int .i64 ck, .int .i64 su, .int .i64 sz, .int .i64 pk, .int .i64 at_, .bool false] from (H16.out.put 1 (.string nt)))
    obtain ⟨v16, hv⟩ : ∃ x, (w16.setCell ⟨R, 1, none⟩ (.string nt)) = x := ⟨_, rfl⟩
    rw [hv] at HN
    have HX := hide (HX.out.block (show v16.heap[X]? = w16.heap[X]? by rw [← hv]; exact Below.heap_setCell _ _ _ _ (show X ≠ R from fun e => HXR.out.1 e.symm)))
    go_wp2_with fail
    try simp only [hv]
    have H16 := HN
    clear hv HN g0 g1 g2 g3 g4 g5 g6 g7 g8 g9 g10 z1
    have HEQ := hide (show ∀ r0, CenAt s i r0 → c16 = false ∧ r0 = (⟨nm, nt, fl, me, da, ck, su, sz, pk, at_, false⟩ : Rec) ∧ q16 = ((i + (cenS r0).size : Nat) : Int) from fun r0 hr0 => by
      have st := hr0.st hi
      have a := Q0.out
      subst a
      have a := C0.out
      subst a
      have a := Q1.out
      have b := C1.out
      rw [st.s0.1] at a
      subst a
      rw [st.s0.2] at b
      have b : false = c1 := b
      subst b
      have a := Q2.out
      have b := C2.out
      have d := V2.out
      rw [st.s1.2.1] at a
      subst a
      rw [st.s1.2.2] at b
      subst b
      rw [st.s1.1] at d
      subst d
      have a := Q3.out
      have b := C3.out
      have d := V3.out
      rw [st.s2.2.1] at a
      subst a
      rw [st.s2.2.2] at b
      subst b
      rw [st.s2.1] at d
      subst d
      have a := Q4.out
      have b := C4.out
      have d := V4.out
      rw [st.s3.2.1] at a
      subst a
      rw [st.s3.2.2] at b
      subst b
      rw [st.s3.1] at d
      subst d
      have a := Q5.out
      have b := C5.out
      have d := V5.out
      rw [st.s4.2.1] at a
      subst a
      rw [st.s4.2.2] at b
      subst b
      rw [st.s4.1] at d
      subst d
      have a := Q6.out
      have b := C6.out
      have d := V6.out
      rw [st.s5.2.1] at a
      subst a
      rw [st.s5.2.2] at b
      subst b
      rw [st.s5.1] at d
      subst d
      have a := Q7.out
      have b := C7.out
      have d := V7.out
      rw [st.s6.2.1] at a
      subst a
      rw [st.s6.2.2] at b
      subst b
      rw [st.s6.1] at d
      subst d
      have a := Q8.out
      have b := C8.out
      have d := V8.out
      rw [st.s7.2.1] at a
      subst a
      rw [st.s7.2.2] at b
      subst b
      rw [st.s7.1] at d
      subst d
      have a := Q9.out
      have b := C9.out
      have d := V9.out
      rw [st.s8.2.1] at a
      subst a
      rw [st.s8.2.2] at b
      subst b
      rw [st.s8.1] at d
      subst d
      have a := Q10.out
      have b := C10.out
      have d := V10.out
      rw [st.s9.2.1] at a
      subst a
      rw [st.s9.2.2] at b
      subst b
      rw [st.s9.1] at d
      subst d
      have a := Q11.out
      have b := C11.out
      have d := V11.out
      rw [st.s10.2.1] at a
      subst a
      rw [st.s10.2.2] at b
      subst b
      rw [st.s10.1] at d
      subst d
      have a := Q12.out
      have b := C12.out
      rw [st.s11.1] at a
      subst a
      rw [st.s11.2] at b
      have b : false = c12 := b
      subst b
      have a := Q13.out
      have b := C13.out
      have d := V13.out
      rw [st.s12.2.1] at a
      subst a
      rw [st.s12.2.2] at b
      subst b
      rw [st.s12.1] at d
      subst d
      have a := Q14.out
      have b := C14.out
      have d := V14.out
      rw [st.s13.2.1] at a
      subst a
      rw [st.s13.2.2] at b
      have b : false = c14 := b
      subst b
      rw [st.s13.1] at d
      subst d
      have a := Q15.out
      have b := C15.out
      have d := V15.out
      rw [st.s14.2.1] at a
      subst a
      rw [st.s14.2.2] at b
      have b : false = c15 := b
      subst b
      rw [st.s14.1] at d
      subst d
      have a := Q16.out
      have b := C16.out
      have d := V16.out
      rw [st.s15.2.1] at a
      subst a
      rw [st.s15.2.2] at b
      have b : false = c16 := b
      subst b
      rw [st.s15.1] at d
      subst d
      have hx := extraC_size r0
      have hw : r0.wide = false := by
        cases hw : r0.wide with
        | false => rfl
        | true => rw [hw] at hx; have hx : (extraC r0).size = 28 := hx; omega
      have ho : ∀ x, ownF r0 x = x := fun x => by unfold ownF; rw [if_neg (by rw [hw]; decide)]
      refine ⟨rfl, ?_, rfl⟩
      rw [ho, ho, ho]
      cases r0
      dsimp only at hw
      subst hw
      rfl)
    have hQ0 : (i : Int) = q0 := Q0.out
    have hR16 := R16.out
    have hRZ := RZ.out
    clear Q1 C1 Q2 C2 Q3 C3 Q4 C4 Q5 C5 Q6 C6 Q7 C7 Q8 C8 Q9 C9 Q10 C10 Q11 C11 Q12 C12 Q13 C13 Q14 C14 Q15 C15 Q16 C16 V1 V2 V3 V4 V5 V6 V7 V8 V9 V10 V11 V12 V13 V14 V15 V16 HL hts R16 RZ Q0 C0 x0 x0d
    by_cases hA : c16 = true
    · subst hA
      have HC := hide (rec_since H16.out.ra)
      have hu0 := fun u : Since0 v16 => (HC.out u).1
      have hu1 := fun u : Since0 v16 => (HC.out u).2.1
      have hu2 := fun u : Since0 v16 => (HC.out u).2.2.1
      have hu3 := fun u : Since0 v16 => (HC.out u).2.2.2.1
      have hu4 := fun u : Since0 v16 => (HC.out u).2.2.2.2.1
      have hu5 := fun u : Since0 v16 => (HC.out u).2.2.2.2.2.1
      have hu6 := fun u : Since0 v16 => (HC.out u).2.2.2.2.2.2.1
      have hu7 := fun u : Since0 v16 => (HC.out u).2.2.2.2.2.2.2.1
      have hu8 := fun u : Since0 v16 => (HC.out u).2.2.2.2.2.2.2.2.1
      have hu9 := fun u : Since0 v16 => (HC.out u).2.2.2.2.2.2.2.2.2.1
      have hu10 := fun u : Since0 v16 => (HC.out u).2.2.2.2.2.2.2.2.2.2
      have hp0 := fun u : Since0 v16 => (u.2.cell (p := ⟨p, 0, none⟩) H16.out.cur.lt).trans H16.out.cur.c0
      have hp1 := fun u : Since0 v16 => (u.2.cell (p := ⟨p, 1, none⟩) H16.out.cur.lt).trans H16.out.cur.c1
      have hp2 := fun u : Since0 v16 => (u.2.cell (p := ⟨p, 2, none⟩) H16.out.cur.lt).trans H16.out.cur.c2
      have hx2 := fun u : Since0 v16 => (u.2.cell (p := ⟨X, 2, none⟩) HX.out.lt).trans HX.out.c2
      have hne : Nonempty (Since0 v16) := ⟨⟨v16, Below.refl _ _⟩⟩
      try simp only [List.append]
      refine wp_region_below v16 (Below.refl _ _) (by kernel_rfl) (by kernel_rfl) ?_
      repeat (go_big_quiet_step (fail))
      refine wpQuiet_nil ?_
      intro _ hw'
      obtain ⟨u, rfl⟩ := hw'
      clear hu0 hu1 hu2 hu3 hu4 hu5 hu6 hu7 hu8 hu9 hu10 hp0 hp1 hp2 hx2 hne
      have HU := hide (H16.out.below u.2)
      have HNO := hide (show ∀ r, ¬ CenAt s i r from fun r hr => Bool.noConfusion ((HEQ.out r hr).1 : true = false))
      obtain ⟨u5, hu5⟩ : ∃ x, u.1 = x := ⟨_, rfl⟩
      rw [hu5] at HU
      simp only [hu5]
      clear hu5 HC u
      have hcb := HU.out.cur.c2
      have hfb := HU.out.cur.fz 2
      have hqz : u5.heap[Q]? = some (.cells #[.string ⟨#[]⟩, .string ⟨#[]⟩, .int .i64 0, .int .i64 0, .int .i64 0, .int .i64 0, .int .i64 0, .int .i64 0, .int .i64 0, .int .i64 0, .bool false] 23 (0, 0)) := HU.out.qa
      have hqp : (u5.setCell ⟨p, 2, none⟩ (.bool true)).heap[Q]? = some (.cells #[.string ⟨#[]⟩, .string ⟨#[]⟩, .int .i64 0, .int .i64 0, .int .i64 0, .int .i64 0, .int .i64 0, .int .i64 0, .int .i64 0, .int .i64 0, .bool false] 23 (0, 0)) := by rw [Below.heap_setCell _ _ _ _ (show Q ≠ p by have := HU.out.lq; have := HU.out.pw; omega)]; exact hqz
      have HQP := hide hqp
      obtain ⟨g0, g1, g2, g3, g4, g5, g6, g7, g8, g9, g10⟩ := rec_cells hqp
      have z0 := rec_frozen hqp 0
      have z1 := rec_frozen hqp 1
      have z2 := rec_frozen hqp 2
      have z3 := rec_frozen hqp 3
      have z4 := rec_frozen hqp 4
      have z5 := rec_frozen hqp 5
      have z6 := rec_frozen hqp 6
      have z7 := rec_frozen hqp 7
      have z8 := rec_frozen hqp 8
      have z9 := rec_frozen hqp 9
      have z10 := rec_frozen hqp 10
      clear hqz hqp
      go_wp2
      (try simp only [Exit.inBlock, Exit.then])
      refine bodyPost_ret (results_boxO rfl _ _ _ _ _ rfl (set_eleven _ _ _ _ _ _ _ _ _ _ _ _ _ _ _ _ _ _ _ _ _ _ _ _ _ HQP.out) Try.underlying23 rfl) rfl ?_
      exact HU.out.no HNO.out rfl (set11_only _ _ _ _ _ _ _ _ _ _ _ _ _)
    obtain rfl : c16 = false := by cases c16 with | false => rfl | true => exact absurd rfl hA
    clear hA
    by_cases hR : RightR (⟨nm, nt, fl, me, da, ck, su, sz, pk, at_, false⟩ : Rec)
    case neg =>
      have HRT := hide (fun w => show Calls Try.prog 11 #[.agg #[.string nm, .string nt, .int .i64 fl, .int .i64 me, .int .i64 da, .int .i64 ck, .int .i64 su, .int .i64 sz, .int .i64 pk, .int .i64 at_, .bool false]] w fun e w' => e = .returned (.bool false) ∧ Below w.heap.size w w' from by
        have hq := qright_any (⟨nm, nt, fl, me, da, ck, su, sz, pk, at_, false⟩ : Rec) w
        rw [rightR_no hR] at hq
        exact hq)
      have HC := hide (rec_since H16.out.ra)
      have hu0 := fun u : Since0 v16 => (HC.out u).1
      have hu1 := fun u : Since0 v16 => (HC.out u).2.1
      have hu2 := fun u : Since0 v16 => (HC.out u).2.2.1
      have hu3 := fun u : Since0 v16 => (HC.out u).2.2.2.1
      have hu4 := fun u : Since0 v16 => (HC.out u).2.2.2.2.1
      have hu5 := fun u : Since0 v16 => (HC.out u).2.2.2.2.2.1
      have hu6 := fun u : Since0 v16 => (HC.out u).2.2.2.2.2.2.1
      have hu7 := fun u : Since0 v16 => (HC.out u).2.2.2.2.2.2.2.1
      have hu8 := fun u : Since0 v16 => (HC.out u).2.2.2.2.2.2.2.2.1
      have hu9 := fun u : Since0 v16 => (HC.out u).2.2.2.2.2.2.2.2.2.1
      have hu10 := fun u : Since0 v16 => (HC.out u).2.2.2.2.2.2.2.2.2.2
      have hp0 := fun u : Since0 v16 => (u.2.cell (p := ⟨p, 0, none⟩) H16.out.cur.lt).trans H16.out.cur.c0
      have hp1 := fun u : Since0 v16 => (u.2.cell (p := ⟨p, 1, none⟩) H16.out.cur.lt).trans H16.out.cur.c1
      have hp2 := fun u : Since0 v16 => (u.2.cell (p := ⟨p, 2, none⟩) H16.out.cur.lt).trans H16.out.cur.c2
      have hx2 := fun u : Since0 v16 => (u.2.cell (p := ⟨X, 2, none⟩) HX.out.lt).trans HX.out.c2
      have hne : Nonempty (Since0 v16) := ⟨⟨v16, Below.refl _ _⟩⟩
      try simp only [List.append]
      refine wp_region_below v16 (Below.refl _ _) (by kernel_rfl) (by kernel_rfl) ?_
      repeat (go_big_quiet_step ((rename_i u; first | exact calls_since u (HRT.out u.1))))
      refine wpQuiet_nil ?_
      intro _ hw'
      obtain ⟨u, rfl⟩ := hw'
      clear hu0 hu1 hu2 hu3 hu4 hu5 hu6 hu7 hu8 hu9 hu10 hp0 hp1 hp2 hx2 hne
      have HU := hide (H16.out.below u.2)
      have HNO := hide (show ∀ r, ¬ CenAt s i r from fun r hr => hR ((HEQ.out r hr).2.1 ▸ hr.1))
      obtain ⟨u5, hu5⟩ : ∃ x, u.1 = x := ⟨_, rfl⟩
      rw [hu5] at HU
      simp only [hu5]
      clear hu5 HC u
      have hcb := HU.out.cur.c2
      have hfb := HU.out.cur.fz 2
      have hqz : u5.heap[Q]? = some (.cells #[.string ⟨#[]⟩, .string ⟨#[]⟩, .int .i64 0, .int .i64 0, .int .i64 0, .int .i64 0, .int .i64 0, .int .i64 0, .int .i64 0, .int .i64 0, .bool false] 23 (0, 0)) := HU.out.qa
      have hqp : (u5.setCell ⟨p, 2, none⟩ (.bool true)).heap[Q]? = some (.cells #[.string ⟨#[]⟩, .string ⟨#[]⟩, .int .i64 0, .int .i64 0, .int .i64 0, .int .i64 0, .int .i64 0, .int .i64 0, .int .i64 0, .int .i64 0, .bool false] 23 (0, 0)) := by rw [Below.heap_setCell _ _ _ _ (show Q ≠ p by have := HU.out.lq; have := HU.out.pw; omega)]; exact hqz
      have HQP := hide hqp
      obtain ⟨g0, g1, g2, g3, g4, g5, g6, g7, g8, g9, g10⟩ := rec_cells hqp
      have z0 := rec_frozen hqp 0
      have z1 := rec_frozen hqp 1
      have z2 := rec_frozen hqp 2
      have z3 := rec_frozen hqp 3
      have z4 := rec_frozen hqp 4
      have z5 := rec_frozen hqp 5
      have z6 := rec_frozen hqp 6
      have z7 := rec_frozen hqp 7
      have z8 := rec_frozen hqp 8
      have z9 := rec_frozen hqp 9
      have z10 := rec_frozen hqp 10
      clear hqz hqp
      go_wp2
      (try simp only [Exit.inBlock, Exit.then])
      refine bodyPost_ret (results_boxO rfl _ _ _ _ _ rfl (set_eleven _ _ _ _ _ _ _ _ _ _ _ _ _ _ _ _ _ _ _ _ _ _ _ _ _ HQP.out) Try.underlying23 rfl) rfl ?_
      exact HU.out.no HNO.out rfl (set11_only _ _ _ _ _ _ _ _ _ _ _ _ _)
    have HRT := hide (fun w => show Calls Try.prog 11 #[.agg #[.string nm, .string nt, .int .i64 fl, .int .i64 me, .int .i64 da, .int .i64 ck, .int .i64 su, .int .i64 sz, .int .i64 pk, .int .i64 at_, .bool false]] w fun e w' => e = .returned (.bool true) ∧ Below w.heap.size w w' from by
      have hq := qright_any (⟨nm, nt, fl, me, da, ck, su, sz, pk, at_, false⟩ : Rec) w
      rw [(rightR_iff _).2 hR] at hq
      exact hq)
    have HCN := hide (fun w => show Calls Try.prog 15 #[.agg #[.string nm, .string nt, .int .i64 fl, .int .i64 me, .int .i64 da, .int .i64 ck, .int .i64 su, .int .i64 sz, .int .i64 pk, .int .i64 at_, .bool false]] w fun e w' => e = .returned (.string (cenS (⟨nm, nt, fl, me, da, ck, su, sz, pk, at_, false⟩ : Rec))) ∧ Below w.heap.size w w' from qcentral_any (⟨nm, nt, fl, me, da, ck, su, sz, pk, at_, false⟩ : Rec) hR w)
    obtain ⟨j, rfl⟩ : ∃ j : Nat, q16 = (j : Int) := ⟨q16.toNat, by omega⟩
    subst hQ0
    have hsl : ∀ w, (Instr.slice 9 (.string s) (some (.int .i64 (i : Int))) (some (.int .i64 (j : Int))) none).run Try.prog w = .ok (.string (s.extract i j)) w := fun w => by
      rw [run_slice_string (P := Try.prog) w 9 s .i64 .i64 (i : Int) (j : Int) Try.underlying9 (by omega) (by omega) (by omega)]
      first | rfl | simp
    by_cases hE : s.extract i j = cenS (⟨nm, nt, fl, me, da, ck, su, sz, pk, at_, false⟩ : Rec)
    case neg =>
      have HEN := hide hE
      have HIN := hide (fun r (hr : CenAt s i r) => show False by
        have h1 := (HEQ.out r hr).2.1
        have h2 := (HEQ.out r hr).2.2
        subst h1
        have st := hr.st hi
        have h3 : j = i + (cenS ⟨nm, nt, fl, me, da, ck, su, sz, pk, at_, false⟩).size := by omega
        rw [h3] at hE
        exact hE st.ext)
      generalize cenS (⟨nm, nt, fl, me, da, ck, su, sz, pk, at_, false⟩ : Rec) = cz at *
      generalize s.extract i j = ez at *
      have n1 : (cz.toList == ez.toList) = false := by rw [ByteArray.toList_eq, ByteArray.toList_eq]; exact beq_eq_false_iff_ne.2 (fun h => hE (ba_ext h.symm))
      have HC := hide (rec_since H16.out.ra)
      have hu0 := fun u : Since0 v16 => (HC.out u).1
      have hu1 := fun u : Since0 v16 => (HC.out u).2.1
      have hu2 := fun u : Since0 v16 => (HC.out u).2.2.1
      have hu3 := fun u : Since0 v16 => (HC.out u).2.2.2.1
      have hu4 := fun u : Since0 v16 => (HC.out u).2.2.2.2.1
      have hu5 := fun u : Since0 v16 => (HC.out u).2.2.2.2.2.1
      have hu6 := fun u : Since0 v16 => (HC.out u).2.2.2.2.2.2.1
      have hu7 := fun u : Since0 v16 => (HC.out u).2.2.2.2.2.2.2.1
      have hu8 := fun u : Since0 v16 => (HC.out u).2.2.2.2.2.2.2.2.1
      have hu9 := fun u : Since0 v16 => (HC.out u).2.2.2.2.2.2.2.2.2.1
      have hu10 := fun u : Since0 v16 => (HC.out u).2.2.2.2.2.2.2.2.2.2
      have hp0 := fun u : Since0 v16 => (u.2.cell (p := ⟨p, 0, none⟩) H16.out.cur.lt).trans H16.out.cur.c0
      have hp1 := fun u : Since0 v16 => (u.2.cell (p := ⟨p, 1, none⟩) H16.out.cur.lt).trans H16.out.cur.c1
      have hp2 := fun u : Since0 v16 => (u.2.cell (p := ⟨p, 2, none⟩) H16.out.cur.lt).trans H16.out.cur.c2
      have hx2 := fun u : Since0 v16 => (u.2.cell (p := ⟨X, 2, none⟩) HX.out.lt).trans HX.out.c2
      have hne : Nonempty (Since0 v16) := ⟨⟨v16, Below.refl _ _⟩⟩
      try simp only [List.append]
      refine wp_region_below v16 (Below.refl _ _) (by kernel_rfl) (by kernel_rfl) ?_
      repeat (go_big_quiet_step ((rename_i u; first | exact calls_since u (HRT.out u.1) | exact calls_since u (HCN.out u.1))))
      refine wpQuiet_nil ?_
      intro _ hw'
      obtain ⟨u, rfl⟩ := hw'
      clear hu0 hu1 hu2 hu3 hu4 hu5 hu6 hu7 hu8 hu9 hu10 hp0 hp1 hp2 hx2 hne
      have HU := hide (H16.out.below u.2)
      have HNO := hide (show ∀ r, ¬ CenAt s i r from fun r hr => HIN.out r hr)
      obtain ⟨u5, hu5⟩ : ∃ x, u.1 = x := ⟨_, rfl⟩
      rw [hu5] at HU
      simp only [hu5]
      clear hu5 HC u
      have hcb := HU.out.cur.c2
      have hfb := HU.out.cur.fz 2
      have hqz : u5.heap[Q]? = some (.cells #[.string ⟨#[]⟩, .string ⟨#[]⟩, .int .i64 0, .int .i64 0, .int .i64 0, .int .i64 0, .int .i64 0, .int .i64 0, .int .i64 0, .int .i64 0, .bool false] 23 (0, 0)) := HU.out.qa
      have hqp : (u5.setCell ⟨p, 2, none⟩ (.bool true)).heap[Q]? = some (.cells #[.string ⟨#[]⟩, .string ⟨#[]⟩, .int .i64 0, .int .i64 0, .int .i64 0, .int .i64 0, .int .i64 0, .int .i64 0, .int .i64 0, .int .i64 0, .bool false] 23 (0, 0)) := by rw [Below.heap_setCell _ _ _ _ (show Q ≠ p by have := HU.out.lq; have := HU.out.pw; omega)]; exact hqz
      have HQP := hide hqp
      obtain ⟨g0, g1, g2, g3, g4, g5, g6, g7, g8, g9, g10⟩ := rec_cells hqp
      have z0 := rec_frozen hqp 0
      have z1 := rec_frozen hqp 1
      have z2 := rec_frozen hqp 2
      have z3 := rec_frozen hqp 3
      have z4 := rec_frozen hqp 4
      have z5 := rec_frozen hqp 5
      have z6 := rec_frozen hqp 6
      have z7 := rec_frozen hqp 7
      have z8 := rec_frozen hqp 8
      have z9 := rec_frozen hqp 9
      have z10 := rec_frozen hqp 10
      clear hqz hqp
      go_wp2
      (try simp only [Exit.inBlock, Exit.then])
      refine bodyPost_ret (results_boxO rfl _ _ _ _ _ rfl (set_eleven _ _ _ _ _ _ _ _ _ _ _ _ _ _ _ _ _ _ _ _ _ _ _ _ _ HQP.out) Try.underlying23 rfl) rfl ?_
      exact HU.out.no HNO.out rfl (set11_only _ _ _ _ _ _ _ _ _ _ _ _ _)
    obtain ⟨hcen, hj⟩ := cen_of hR (by omega) (by omega) hE
    have HCEN := hide hcen
    have HJ := hide hj
    rw [hE] at hsl
    have HY := hide (fun w2 w3 (hu : RW 31 w2 W p s (j : Int) false Q R #[.string nm, .string nt, .int .i64 fl, .int .i64 me, .int .i64 da, .int .i64 ck, .int .i64 su, .int .i64 sz, .int .i64 pk, .int .i64 at_, .bool false]) (o : Only Q w2 w3) => (show ReadCP 31 s p i W (.returned (.tuple #[.agg #[.string nm, .string nt, .int .i64 fl, .int .i64 me, .int .i64 da, .int .i64 ck, .int .i64 su, .int .i64 sz, .int .i64 pk, .int .i64 at_, .bool false], .bool true])) w3 from RW.yes (r := (⟨nm, nt, fl, me, da, ck, su, sz, pk, at_, false⟩ : Rec)) (by rw [← hj]; exact hu) hcen o))
    clear hcen hj hE HEQ
    generalize cenS (⟨nm, nt, fl, me, da, ck, su, sz, pk, at_, false⟩ : Rec) = cz at *
    have HC := hide (rec_since H16.out.ra)
    have hu0 := fun u : Since0 v16 => (HC.out u).1
    have hu1 := fun u : Since0 v16 => (HC.out u).2.1
    have hu2 := fun u : Since0 v16 => (HC.out u).2.2.1
    have hu3 := fun u : Since0 v16 => (HC.out u).2.2.2.1
    have hu4 := fun u : Since0 v16 => (HC.out u).2.2.2.2.1
    have hu5 := fun u : Since0 v16 => (HC.out u).2.2.2.2.2.1
    have hu6 := fun u : Since0 v16 => (HC.out u).2.2.2.2.2.2.1
    have hu7 := fun u : Since0 v16 => (HC.out u).2.2.2.2.2.2.2.1
    have hu8 := fun u : Since0 v16 => (HC.out u).2.2.2.2.2.2.2.2.1
    have hu9 := fun u : Since0 v16 => (HC.out u).2.2.2.2.2.2.2.2.2.1
    have hu10 := fun u : Since0 v16 => (HC.out u).2.2.2.2.2.2.2.2.2.2
    have hp0 := fun u : Since0 v16 => (u.2.cell (p := ⟨p, 0, none⟩) H16.out.cur.lt).trans H16.out.cur.c0
    have hp1 := fun u : Since0 v16 => (u.2.cell (p := ⟨p, 1, none⟩) H16.out.cur.lt).trans H16.out.cur.c1
    have hp2 := fun u : Since0 v16 => (u.2.cell (p := ⟨p, 2, none⟩) H16.out.cur.lt).trans H16.out.cur.c2
    have hx2 := fun u : Since0 v16 => (u.2.cell (p := ⟨X, 2, none⟩) HX.out.lt).trans HX.out.c2
    have hne : Nonempty (Since0 v16) := ⟨⟨v16, Below.refl _ _⟩⟩
    try simp only [List.append]
    refine wp_region_below v16 (Below.refl _ _) (by kernel_rfl) (by kernel_rfl) ?_
    repeat (go_big_quiet_step ((rename_i u; first | exact calls_since u (HRT.out u.1) | exact calls_since u (HCN.out u.1))))
    refine wpQuiet_nil ?_
    intro _ hw'
    obtain ⟨u, rfl⟩ := hw'
    clear hu0 hu1 hu2 hu3 hu4 hu5 hu6 hu7 hu8 hu9 hu10 hp0 hp1 hp2 hx2 hne
    have HU := hide (H16.out.below u.2)
    obtain ⟨u5, hu5⟩ : ∃ x, u.1 = x := ⟨_, rfl⟩
    rw [hu5] at HU
    simp only [hu5]
    clear hu5 HC u
    have hqz : u5.heap[Q]? = some (.cells #[.string ⟨#[]⟩, .string ⟨#[]⟩, .int .i64 0, .int .i64 0, .int .i64 0, .int .i64 0, .int .i64 0, .int .i64 0, .int .i64 0, .int .i64 0, .bool false] 23 (0, 0)) := HU.out.qa
    have HQP := hide hqz
    obtain ⟨g0, g1, g2, g3, g4, g5, g6, g7, g8, g9, g10⟩ := rec_cells hqz
    obtain ⟨l0, l1, l2, l3, l4, l5, l6, l7, l8, l9, l10⟩ := rec_cells HU.out.ra
    have z0 := rec_frozen hqz 0
    have z1 := rec_frozen hqz 1
    have z2 := rec_frozen hqz 2
    have z3 := rec_frozen hqz 3
    have z4 := rec_frozen hqz 4
    have z5 := rec_frozen hqz 5
    have z6 := rec_frozen hqz 6
    have z7 := rec_frozen hqz 7
    have z8 := rec_frozen hqz 8
    have z9 := rec_frozen hqz 9
    have z10 := rec_frozen hqz 10
    clear hqz
    go_wp2
    (try simp only [Exit.inBlock, Exit.then])
    refine bodyPost_ret (results_boxO rfl _ _ _ _ _ rfl (set_eleven _ _ _ _ _ _ _ _ _ _ _ _ _ _ _ _ _ _ _ _ _ _ _ _ _ HQP.out) Try.underlying23 rfl) rfl ?_
    exact HY.out _ _ HU.out (set11_only _ _ _ _ _ _ _ _ _ _ _ _ _)

end Go.Proofs.Ytbjjcjcobiokcaa
