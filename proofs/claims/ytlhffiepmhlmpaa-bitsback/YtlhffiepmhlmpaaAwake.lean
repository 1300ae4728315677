/- The document's examples hold: 'awake' answers true, and touches nothing that was there. -/
import Derived.Test.YtlhffiepmhlmpaaBitsW3
import Derived.Test.YtlhffiepmhlmpaaBitsR2
namespace Go.Proofs.Ytlhffiepmhlmpaa
open Go.RowKit Go.Lib

theorem Packs.ofBytes (l : List UInt8) : Packs (bytesBits l) l := ⟨by rw [bytesBits_length]; omega, fun i => (bytesBits_getD l i).symm⟩

/-- A new writer. -/
theorem Wr.made (w : World) : Wr (w.alloc (.cells #[.slice none 0 0, .int .i64 0] 39)) w.heap.size (.slice none 0 0) [] := by
  refine ⟨[], ⟨?_, World.ownsRow_nil _ _ _ _, by simp [Value.ownBlock]⟩, Packs.nil⟩
  show (w.heap.push _)[w.heap.size]? = _
  simp

theorem RdAt.made (T : TypeId) (w : World) (s : ByteArray) (i : Nat) : RdAt T (w.alloc (.cells #[.string s, .int .i64 (i : Int), .bool false] T)) w.heap.size s i false := by
  show (w.heap.push _)[w.heap.size]? = _
  simp

theorem Wr.lt {w : World} {p : Nat} {v : Value} {bs : List Bool} (h : Wr w p v bs) : p < w.heap.size := by
  obtain ⟨out, hw, _⟩ := h
  exact (Array.getElem?_eq_some_iff.1 hw.box).1

theorem Wr.ownLt {w : World} {p : Nat} {v : Value} {bs : List Bool} (h : Wr w p v bs) : v.ownBlock ≠ some w.heap.size := by
  obtain ⟨out, hw, _⟩ := h
  intro e
  have := (hw.own.lt _ e).2
  omega

theorem WrAt.kept2 {w w' : World} {p : Nat} {v : Value} {out : List UInt8} {N : Nat} (hw : WrAt w p v out N) (hb : ∀ k, k < w.heap.size → k = p ∨ v.ownBlock = some k → w'.heap[k]? = w.heap[k]?) : WrAt w' p v out N := by
  refine ⟨(hb p (Array.getElem?_eq_some_iff.1 hw.box).1 (.inl rfl)).trans hw.box, ?_, hw.ne⟩
  refine ⟨hw.own.1, ?_⟩
  rcases hw.own.2 with h2 | ⟨g, cap, cur, hv, hg, hh, r⟩
  · exact .inl h2
  · exact .inr ⟨g, cap, cur, hv, hg, (hb g (Array.getElem?_eq_some_iff.1 hh).1 (.inr (by rw [hv]; rfl))).trans hh, r⟩

/-- A writer stays, while neither its box nor its row turns. -/
theorem Wr.kept {w w' : World} {p : Nat} {v : Value} {bs : List Bool} (h : Wr w p v bs) (hb : ∀ k, k < w.heap.size → k = p ∨ v.ownBlock = some k → w'.heap[k]? = w.heap[k]?) : Wr w' p v bs := by
  have hp := h.lt
  obtain ⟨out, hw, hp2⟩ := h
  refine ⟨out, ⟨(hb p hp (.inl rfl)).trans hw.box, ?_, hw.ne⟩, hp2⟩
  refine ⟨hw.own.1, ?_⟩
  rcases hw.own.2 with h2 | ⟨g, cap, cur, hv, hg, hh, r⟩
  · exact .inl h2
  · exact .inr ⟨g, cap, cur, hv, hg, (hb g (Array.getElem?_eq_some_iff.1 hh).1 (.inr (by rw [hv]; rfl))).trans hh, r⟩

theorem Wr.alloc {w : World} {p : Nat} {v : Value} {bs : List Bool} (h : Wr w p v bs) (o : Obj) : Wr (w.alloc o) p v bs := h.kept fun _ hk _ => Below.heap_alloc _ _ _ hk

theorem Wr.only {w w' : World} {p q : Nat} {v : Value} {bs : List Bool} (h : Wr w p v bs) (ho : Only q w w') (hq : q ≠ p) (hq2 : v.ownBlock ≠ some q) : Wr w' p v bs :=
  h.kept fun k _ hk => ho.block k (fun e => by subst e; rcases hk with rfl | hk <;> contradiction)

theorem Wr.N {w : World} {p : Nat} {v : Value} {bs : List Bool} (h : Wr w p v bs) : w.cell? ⟨p, 1, none⟩ = some (.int .i64 (bs.length : Nat)) := by
  obtain ⟨out, hw, _⟩ := h
  exact hw.c1

theorem Only.below {p B : Nat} {w w' : World} (h : Only p w w') (hp : B ≤ p) : Below B w w' := ⟨h.os, h.tape, h.output, Nat.le_of_eq h.size.symm, fun k hk => h.block k (by omega)⟩

/-- Below B nothing turns by a writer's step, if its box and its row lie from B on. -/
theorem Step.below {p B : Nat} {v v' : Value} {w w' : World} (h : Step p v v' w w') (hp : B ≤ p) (hv : ∀ k, v.ownBlock = some k → B ≤ k) (hB : B ≤ w.heap.size) : Below B w w' ∧ ∀ k, v'.ownBlock = some k → B ≤ k := by
  refine ⟨⟨h.os, h.tape, h.output, h.size, fun k hk => h.block k (by omega) (by omega) (fun e => by have := hv k e.symm; omega)⟩, fun k hk => ?_⟩
  rcases h.own with e | e
  · exact hv k (by rw [← e]; exact hk)
  · have := e k hk; omega

def exBits : List Bool := alignBits ([] ++ lowBits 5 3 ++ highBits 1 2) ++ bytesBits [97]
theorem exBits_eq : exBits = bytesBits [21, 97] := by decide +kernel

set_option maxHeartbeats 1000000 in
theorem awake_any (w : World) : Calls Try.prog 7 #[] w fun e w' => e = .returned (.bool true) ∧ Below w.heap.size w w' := by
  go_enter Try.func7, Try.ntmps7
  have H0 := hide (Wr.made w)
  go_wp2_with fail
  refine (wput_any _ _ [] 5 3 _ 3 (by decide) H0.out (by decide)).mono ?_
  rintro e w1 ⟨rfl, v1, h1, s1⟩
  have H1 := hide h1
  have S1 := hide s1
  clear h1 s1
  go_wp2_with fail
  refine (wturn_any _ _ _ 1 2 _ 2 (by decide) H1.out (by simp [lowBits_length])).mono ?_
  rintro e w2 ⟨rfl, v2, h2, s2⟩
  have H2 := hide h2
  have S2 := hide s2
  clear h2 s2
  go_wp2_with fail
  refine (wtext_any _ _ _ _ _ H2.out (by simp [lowBits_length, highBits]) (by decide)).mono ?_
  rintro e w3 ⟨rfl, v3, h3, s3⟩
  have hb3 := ((S1.out.trans S2.out).trans s3).below (B := w.heap.size) (Nat.le_refl _) (by simp [Value.ownBlock]) (by simp)
  have B3 := hide (((Below.refl _ w).alloc (Nat.le_refl _) _).trans hb3.1)
  have lt3 := h3.lt
  have V3 := hide (show v3.ownBlock ≠ some w3.heap.size from h3.ownLt)
  have H3 := hide (show Wr w3 w.heap.size v3 exBits from h3)
  clear h3 s3 hb3
  go_wp2_with fail
  refine (wbytes_any _ _ _ _ H3.out).mono ?_
  rintro e w4 ⟨⟨out, rfl, hpk⟩, rfl⟩
  rw [exBits_eq] at hpk
  have ho := hpk.uniq (Packs.ofBytes _)
  clear hpk
  subst ho
  have R0 := hide (RdAt.made 26 w3 ⟨#[21, 97]⟩ 0)
  go_wp2_with fail
  refine (rbits_ok w3.heap.size ⟨#[21, 97]⟩ 0 3 _ 3 (by decide) R0.out (by decide) (by decide)).mono ?_
  rintro e w5 ⟨rfl, h5, o5⟩
  have H5 := hide h5
  have O5 := hide o5
  clear h5 o5
  go_wp2_with fail
  refine (rbit_ok w3.heap.size ⟨#[21, 97]⟩ 3 _ H5.out (by decide) (by decide)).mono ?_
  rintro e w6 ⟨rfl, h6, o6⟩
  have H6 := hide h6
  have O6 := hide (O5.out.trans o6)
  clear h6 o6
  go_wp2_with fail
  refine (rbit_ok w3.heap.size ⟨#[21, 97]⟩ 4 _ H6.out (by decide) (by decide)).mono ?_
  rintro e w7 ⟨rfl, h7, o7⟩
  have H7 := hide h7
  have O7 := hide (O6.out.trans o7)
  clear h7 o7
  go_wp2_with fail
  refine (rtext_ok w3.heap.size ⟨#[21, 97]⟩ 5 1 _ H7.out (by decide) (by decide)).mono ?_
  rintro e w8 ⟨rfl, h8, o8⟩
  have e4 : (⟨#[21, 97]⟩ : ByteArray).extract ((5 + 7) / 8) ((5 + 7) / 8 + 1) = ⟨#[97]⟩ := by decide +kernel
  rw [e4]
  clear e4
  have H8 := hide h8
  have O8 := hide (O7.out.trans o8)
  have W8 := hide ((H3.out.alloc _).only O8.out (by omega) V3.out)
  clear h8 o8
  go_wp2_with fail
  refine (wbytes_any _ _ _ _ W8.out).mono ?_
  rintro e w9 ⟨⟨out, rfl, hpk⟩, rfl⟩
  rw [exBits_eq] at hpk
  have ho := hpk.uniq (Packs.ofBytes _)
  clear hpk
  subst ho
  have hN := W8.out.N
  rw [show exBits.length = 16 by decide +kernel] at hN
  have e1 : numI ⟨#[21, 97]⟩ 0 3 = 5 := by decide +kernel
  have e2 : bitI ⟨#[21, 97]⟩ 3 = 0 := by decide +kernel
  have e3 : bitI ⟨#[21, 97]⟩ 4 = 1 := by decide +kernel
  rw [e1, e2, e3]
  clear e1 e2 e3
  go_wp2_with fail
  refine (rused_any w3.heap.size ⟨#[21, 97]⟩ _ _ _ H8.out (by decide) (by decide)).mono ?_
  rintro e w10 ⟨rfl, rfl⟩
  go_wp2_with fail
  refine (rbits_no w3.heap.size ⟨#[21, 97]⟩ _ _ 1 _ 1 (by decide) H8.out (by decide) (.inr (by decide)) (by decide)).mono ?_
  rintro e w11 ⟨rfl, ⟨i', _, h11⟩, o11⟩
  have _c2 := h11.c2
  have B11 := hide (B3.out.trans ((((Below.refl _ w3).alloc (by omega) _).trans ((O8.out.trans o11).below (by omega)))))
  clear h11 o11
  go_wp2
  go_ret
  exact ⟨rfl, B11.out⟩

end Go.Proofs.Ytlhffiepmhlmpaa
