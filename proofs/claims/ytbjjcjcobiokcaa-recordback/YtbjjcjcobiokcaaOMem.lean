/- Reading records, for the walks of layer 14: what a reading leaves, in one form; boxes that stay. -/
import Derived.Test.YtbjjcjcobiokcaaOAwake
import Derived.Test.YtbjjcjcobiokcaaORefD
import Derived.Test.YtbjjcjcobiokcaaORefE
namespace Go.Proofs.Ytbjjcjcobiokcaa
open Go.RowKit Go.Lib

/-- All but one box is as it was. -/
structure ButP (p : Nat) (w w' : World) : Prop where
  os : w'.os = w.os
  tape : w'.tape = w.tape
  output : w'.output = w.output
  size : w.heap.size ≤ w'.heap.size
  blk : ∀ k, k < w.heap.size → k ≠ p → w'.heap[k]? = w.heap[k]?
theorem ButP.keep {p k : Nat} {w w' : World} {o : Obj} (h : ButP p w w') (h0 : w.heap[k]? = some o) (hp : k ≠ p) : w'.heap[k]? = some o := by
  rw [h.blk k (Array.getElem?_eq_some_iff.1 h0).1 hp]
  exact h0
theorem ButP.bel {p : Nat} {W w w' : World} (h : ButP p w w') (b : Below W.heap.size W w) (hp : W.heap.size ≤ p) : Below W.heap.size W w' := keep_cur b hp h.os h.tape h.output h.size h.blk
/-- What a reading answers. -/
def RdC (T : TypeId) (p : Nat) (s : ByteArray) (q : Rec) (bo : Bool) (iq : Int) (W : World) (e : Ending) (w' : World) : Prop :=
  ButP p W w' ∧ e = .returned (.tuple #[recV q, .bool bo]) ∧ ∃ i : Int, CurAt T w' p s i (!bo) ∧ (bo = true → i = iq)
def RdL (p : Nat) (bl : Bool) (W : World) (e : Ending) (w' : World) : Prop := ButP p W w' ∧ e = .returned (.bool bl)
theorem rdC_yes {T : TypeId} {p i : Nat} {s : ByteArray} {q : Rec} {W w' : World} {e : Ending} (h : ReadCP T s p i W e w') (hq : CenAt s i q) (hi : i ≤ s.size) : RdC T p s q true ((i + (cenS q).size : Nat) : Int) W e w' := by
  obtain ⟨k1, k2, k3, k4, k5, ⟨r, hr, he, hc⟩ | ⟨hno, _⟩⟩ := h
  · obtain rfl : r = q := hr.uniq hq hi
    exact ⟨⟨k1, k2, k3, k4, k5⟩, he, _, hc, fun _ => rfl⟩
  · exact absurd hq (hno q)
theorem rdC_no {T : TypeId} {p i : Nat} {s : ByteArray} {W w' : World} {e : Ending} (h : ReadCP T s p i W e w') (hq : ∀ r, ¬ CenAt s i r) : RdC T p s zeroR false 0 W e w' := by
  obtain ⟨k1, k2, k3, k4, k5, ⟨r, hr, _⟩ | ⟨_, he, i', hc⟩⟩ := h
  · exact absurd hr (hq r)
  · exact ⟨⟨k1, k2, k3, k4, k5⟩, he, i', hc, fun h => by cases h⟩
theorem rdL_yes {T : TypeId} {p i : Nat} {s : ByteArray} {r : Rec} {W w' : World} {e : Ending} (h : ReadLP T s p i r W e w') (hl : LocAt s i r) : RdL p true W e w' ∧ CurAt T w' p s ((i + (locS r).size : Nat) : Int) false := by
  obtain ⟨k1, k2, k3, k4, k5, ⟨_, he, hc⟩ | ⟨hno, _⟩⟩ := h
  · exact ⟨⟨⟨k1, k2, k3, k4, k5⟩, he⟩, hc⟩
  · exact absurd hl hno
theorem rdL_no {T : TypeId} {p i : Nat} {s : ByteArray} {r : Rec} {W w' : World} {e : Ending} (h : ReadLP T s p i r W e w') (hl : ¬ LocAt s i r) : RdL p false W e w' := by
  obtain ⟨k1, k2, k3, k4, k5, ⟨hy, _⟩ | ⟨_, he, _⟩⟩ := h
  · exact absurd hy hl
  · exact ⟨⟨k1, k2, k3, k4, k5⟩, he⟩
/-- The program's reading and the document's, side by side. -/
theorem readC_two (S : OSpec) (s : ByteArray) (hs : s.size ≤ 1000000000) : ∃ (q : Rec) (bo : Bool) (iq : Int),
    (∀ p w, CurAt 29 w p s (0 : Nat) false → Calls Try.prog 18 #[.pointer (some ⟨p, 0, none⟩)] w fun e w' => RdC 29 p s q bo iq w e w') ∧
    (∀ p w, CurAt 31 w p s (0 : Nat) false → Calls Try.prog 19 #[.pointer (some ⟨p, 0, none⟩)] w fun e w' => RdC 31 p s q bo iq w e w') := by
  by_cases h : ∃ q, CenAt s 0 q
  · obtain ⟨q, hq⟩ := h
    exact ⟨q, true, _, fun p w hc => (S.readC s p 0 w hc (Nat.zero_le _) hs).mono fun e w' g => rdC_yes g hq (Nat.zero_le _), fun p w hc => (qreadC_any s p 0 w hc (Nat.zero_le _) hs).mono fun e w' g => rdC_yes g hq (Nat.zero_le _)⟩
  · have hno : ∀ r, ¬ CenAt s 0 r := fun r hr => h ⟨r, hr⟩
    exact ⟨zeroR, false, 0, fun p w hc => (S.readC s p 0 w hc (Nat.zero_le _) hs).mono fun e w' g => rdC_no g hno, fun p w hc => (qreadC_any s p 0 w hc (Nat.zero_le _) hs).mono fun e w' g => rdC_no g hno⟩
theorem readL_two (S : OSpec) (s : ByteArray) (r : Rec) (hr : RightR r) (hs : s.size ≤ 1000000000) : ∃ bl : Bool,
    (∀ p w, CurAt 29 w p s (0 : Nat) false → Calls Try.prog 20 #[.pointer (some ⟨p, 0, none⟩), recV r] w fun e w' => RdL p bl w e w') ∧
    (∀ p w, CurAt 31 w p s (0 : Nat) false → Calls Try.prog 21 #[.pointer (some ⟨p, 0, none⟩), recV r] w fun e w' => RdL p bl w e w') := by
  by_cases h : LocAt s 0 r
  · exact ⟨true, fun p w hc => (S.readL s p 0 r w hc (Nat.zero_le _) hs hr).mono fun e w' g => (rdL_yes g h).1, fun p w hc => (qreadL_any s p 0 r w hc (Nat.zero_le _) hs hr).mono fun e w' g => (rdL_yes g h).1⟩
  · exact ⟨false, fun p w hc => (S.readL s p 0 r w hc (Nat.zero_le _) hs hr).mono fun e w' g => rdL_no g h, fun p w hc => (qreadL_any s p 0 r w hc (Nat.zero_le _) hs hr).mono fun e w' g => rdL_no g h⟩

theorem range_of {w : World} {k : Nat} {cs : Array Value} {T : TypeId} (h : w.heap[k]? = some (.cells cs T (0, 0))) : w.rangeAt k 0 cs.toList := by
  intro j v hv
  rw [Nat.zero_add, cell_of_row _ _ _ _ _ (0, 0) h, ← Array.getElem?_toList]
  exact hv
/-- Two like records are equal. -/
theorem rec_eql (q : Rec) (w : World) : (Op.equalIn 10000 23 (recV q) (recV q)).run Try.prog w = .ok true w := by
  obtain ⟨nm, nt, fl, me, da, ck, su, sz, pk, at_, wd⟩ := q
  unfold recV recCs
  go_simp
theorem recV_list (q : Rec) : recV q = .agg (recCs q).toList.toArray := by
  unfold recV
  rw [Array.toArray_toList]
theorem recCs_length (q : Rec) : (recCs q).toList.length = 11 := rfl
theorem Try.recSize : (Try.prog.info? 23).map (·.size) = some 11 := by kernel_rfl

end Go.Proofs.Ytbjjcjcobiokcaa
