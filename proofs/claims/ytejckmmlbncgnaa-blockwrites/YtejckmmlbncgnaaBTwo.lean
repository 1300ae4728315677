/- The program's writer and the document's, side by side. -/
import Derived.Test.YtejckmmlbncgnaaBAwake
namespace Go.Proofs.Ytejckmmlbncgnaa
open Go.RowKit Go.Lib

structure Both (W w : World) (p q : Nat) (v u : Value) (bs cs : List Bool) : Prop where
  wr : Wr w p v bs
  wq : Wq w q u cs
  bel : Below W.heap.size W w
  hp : W.heap.size ≤ p
  hq : W.heap.size ≤ q
  hv : ∀ k, v.ownBlock = some k → W.heap.size ≤ k
  hu : ∀ k, u.ownBlock = some k → W.heap.size ≤ k
  a1 : FreeB p v w q
  a2 : ∀ k, u.ownBlock = some k → FreeB p v w k
  b1 : FreeB q u w p
  b2 : ∀ k, v.ownBlock = some k → FreeB q u w k

theorem Wq.other {w w' : World} {p q : Nat} {v u u' : Value} {bs : List Bool} (h : Wq w p v bs) (s : Step q u u' w w') (hp : FreeB q u w p) (hv : ∀ k, v.ownBlock = some k → FreeB q u w k) : Wq w' p v bs := by
  obtain ⟨out, hw, hpk⟩ := h
  have hb : ∀ k, FreeB q u w k → w'.heap[k]? = w.heap[k]? := fun k hk => s.block k hk.1 hk.2.1 (fun e => hk.2.2 e.symm)
  refine ⟨out, ⟨(hb p hp).trans hw.box, ?_, hw.ne⟩, hpk⟩
  refine ⟨hw.own.1, ?_⟩
  rcases hw.own.2 with h2 | ⟨g, cap, cur, e, hg, hh, r⟩
  · exact .inl h2
  · exact .inr ⟨g, cap, cur, e, hg, (hb g (hv g (by rw [e]; rfl))).trans hh, r⟩

section
variable {W w w' : World} {p q : Nat} {v u v' u' : Value} {bs cs ds : List Bool}
theorem Both.stepA (h : Both W w p q v u bs cs) (s : Step p v v' w w') (hw : Wr w' p v' ds) : Both W w' p q v' u ds cs := by
  have hz := s.size
  have hbz := h.bel.size
  refine ⟨hw, h.wq.other s h.a1 h.a2, s.new h.bel h.hp h.hv, h.hp, h.hq, fun k hk => ?_, h.hu, h.a1.step s, fun k hk => (h.a2 k hk).step s, ⟨Nat.lt_of_lt_of_le h.b1.1 hz, h.b1.2⟩, fun k hk => ?_⟩
  · rcases s.own with e | e
    · exact h.hv k (by rw [← e]; exact hk)
    · have := e k hk; omega
  · rcases s.own with e | e
    · have g := h.b2 k (by rw [← e]; exact hk)
      exact ⟨Nat.lt_of_lt_of_le g.1 hz, g.2⟩
    · have g := e k hk
      have g2 := h.a1.1
      refine ⟨(hw.old).2 k hk, by omega, fun e2 => ?_⟩
      have := (h.a2 k e2).1
      omega
theorem Both.stepB (h : Both W w p q v u bs cs) (s : Step q u u' w w') (hw : Wq w' q u' ds) : Both W w' p q v u' bs ds := by
  have hz := s.size
  have hbz := h.bel.size
  refine ⟨h.wr.other s h.b1 h.b2, hw, s.new h.bel h.hq h.hu, h.hp, h.hq, h.hv, fun k hk => ?_, ⟨Nat.lt_of_lt_of_le h.a1.1 hz, h.a1.2⟩, fun k hk => ?_, h.b1.step s, fun k hk => (h.b2 k hk).step s⟩
  · rcases s.own with e | e
    · exact h.hu k (by rw [← e]; exact hk)
    · have := e k hk; omega
  · rcases s.own with e | e
    · have g := h.a2 k (by rw [← e]; exact hk)
      exact ⟨Nat.lt_of_lt_of_le g.1 hz, g.2⟩
    · have g := e k hk
      have g2 := h.b1.1
      refine ⟨(hw.old).2 k hk, by omega, fun e2 => ?_⟩
      have := (h.b2 k e2).1
      omega
theorem Both.made (w : World) (hW : Below W.heap.size W w) : Both W ((w.alloc (.cells #[.slice none 0 0, .int .i64 0] 29)).alloc (.cells #[.slice none 0 0, .int .i64 0] 31)) w.heap.size (w.heap.size + 1) (.slice none 0 0) (.slice none 0 0) [] [] := by
  have hs : (w.alloc (.cells #[.slice none 0 0, .int .i64 0] 29)).heap.size = w.heap.size + 1 := by simp
  have h1 := new_wq (w.alloc (.cells #[.slice none 0 0, .int .i64 0] 29))
  rw [hs] at h1
  have hz := hW.size
  refine ⟨(new_wr w).below ((Below.refl _ _).alloc (Nat.le_refl _) _), h1, (hW.alloc hz _).alloc (size_alloc_le hz) _, hz, by omega, (fun k hk => by cases hk), (fun k hk => by cases hk), ⟨?_, by omega, (fun e => by cases e)⟩, (fun k hk => by cases hk), ⟨?_, by omega, (fun e => by cases e)⟩, (fun k hk => by cases hk)⟩
  · show _ < ((w.heap.push _).push _).size; simp
  · show _ < ((w.heap.push _).push _).size; simp; omega
end

theorem qwbytes_at (p : Nat) (v : Value) (out : List UInt8) (N : Nat) (w : World) (hw : WqAt w p v out N) :
    Calls Try.prog 17 #[.pointer (some ⟨p, 0, none⟩)] w fun e w' => e = .returned (.string ⟨out.toArray⟩) ∧ w' = w := by
  have _c0 := hw.c0
  have hcv := hw.str
  clear hw
  go_enter Try.func17, Try.ntmps17
  go_wp2
  go_ret
  exact ⟨rfl, rfl⟩
/-- Two writers of the same bits: the same bytes. -/
theorem Both.same {W w : World} {p q : Nat} {v u : Value} {bs : List Bool} (h : Both W w p q v u bs bs) : ∃ out, WrAt w p v out bs.length ∧ WqAt w q u out bs.length := by
  obtain ⟨o1, h1, p1⟩ := h.wr
  obtain ⟨o2, h2, p2⟩ := h.wq
  have e := p1.uniq p2
  subst e
  exact ⟨o1, h1, h2⟩

end Go.Proofs.Ytejckmmlbncgnaa
