/- Contract of the document's ReadLocal of layer 14. -/
import Derived.Test.YtbjjcjcobiokcaaORefD
namespace Go.Proofs.Ytbjjcjcobiokcaa
open Go.RowKit Go.Lib

theorem loc_no {s : ByteArray} {i : Nat} {r : Rec} (h : ¬ LocAt s i r) : textV s (i : Nat) ((locS r).size : Int) false ≠ locS r := by
  intro e
  cases hc : canT s (i : Nat) ((locS r).size : Int) false with
  | false =>
    have h0 : textV s (i : Nat) ((locS r).size : Int) false = ByteArray.empty := by
      unfold textV
      rw [if_neg (by rw [hc]; decide)]
    rw [h0] at e
    have h1 := congrArg ByteArray.size e
    rw [locS_size] at h1
    have h2 : ByteArray.empty.size = 0 := rfl
    omega
  | true =>
    obtain ⟨_, _, _, h4⟩ := canT_true hc
    have h0 : textV s (i : Nat) ((locS r).size : Int) false = s.extract i (i + (locS r).size) := by
      unfold textV
      rw [if_pos hc, Int.toNat_natCast, Int.toNat_natCast]
    rw [h0] at e
    refine h ⟨(s.data.toList.drop i).drop (locS r).size, ?_⟩
    have e2 : (s.extract i (i + (locS r).size)).data.toList = (locS r).data.toList := by rw [e]
    rw [extract_list, show i + (locS r).size - i = (locS r).size by omega] at e2
    rw [← e2, List.take_append_drop]

set_option maxRecDepth 20000 in
set_option maxHeartbeats 8000000 in
theorem qreadL_any (s : ByteArray) (p i : Nat) (r : Rec) (W : World) (h : CurAt 31 W p s (i : Nat) false) (hi : i ≤ s.size) (hs : s.size ≤ 1000000000) (hr : RightR r) :
    Calls Try.prog 21 #[.pointer (some ⟨p, 0, none⟩), recV r] W fun e w' => ReadLP 31 s p i r W e w' := by
  have HLO := hide (fun w => qlocal_any r hr w)
  have HL0 := hide (loc_no (s := s) (i := i) (r := r))
  have HLE := hide (fun (hl : LocAt s i r) => show textV s (i : Nat) ((locS r).size : Int) false = locS r ∧ textI s (i : Nat) ((locS r).size : Int) false = ((i + (locS r).size : Nat) : Int) ∧ canT s (i : Nat) ((locS r).size : Int) false = true by
    obtain ⟨C, hC⟩ := hl
    obtain ⟨a1, a2, a3, _, _⟩ := text_next hC (ba_size (locS r)) hi
    exact ⟨a1.trans (ba_eta _), a2, a3⟩)
  have bW := (Below.refl W.heap.size W).alloc (Nat.le_refl _) (.cells (recCs r) 23)
  have HCU := hide (h.below bW h.lt)
  have HQ := hide (rec_new W (recCs r) 23)
  have B0 := hide bW
  have HPW := hide h.lt
  have HLI := hide (show ((i : Nat) : Int) ≤ 9223372036854775807 by omega)
  have HS := hide (show s.size ≤ 1000000000000 by omega)
  have HP : Hid (∀ (b : Bool) (q : Int) (w1 w2 : World), Below W.heap.size W w1 → (∀ k, k ≠ p → w2.heap[k]? = w1.heap[k]?) → w2.os = w1.os → w2.tape = w1.tape → w2.output = w1.output → w2.heap.size = w1.heap.size → CurAt 31 w2 p s q b →
      ((LocAt s i r ∧ b = false ∧ q = ((i + (locS r).size : Nat) : Int)) ∨ (¬ LocAt s i r ∧ b = true)) → ReadLP 31 s p i r W (.returned (.bool (!b))) w2) := hide (fun b q w1 w2 b1 hk h1 h2 h3 h4 hc hd => by
    refine ⟨h1.trans b1.os, h2.trans b1.tape, h3.trans b1.output, by rw [h4]; exact b1.size, fun k hk2 hne => (hk k hne).trans (b1.block k hk2), ?_⟩
    rcases hd with ⟨d1, rfl, rfl⟩ | ⟨d1, rfl⟩
    · exact .inl ⟨d1, rfl, hc⟩
    · exact .inr ⟨d1, rfl, q, hc⟩)
  clear h bW hs
  generalize hlr : LocAt s i r = LR at *
  generalize locS r = L at *
  clear hlr hr
  obtain ⟨nm, nt, fl, me, da, ck, su, sz, pk, at_, wd⟩ := r
  unfold recV at *
  unfold recCs at *
  dsimp only at HLO HCU HQ B0 ⊢
  go_enter Try.func21, Try.ntmps21
  go_wp2_with fail
  refine (HLO.out _).mono ?_
  rintro e w1 ⟨rfl, b⟩
  have HC1 := hide (HCU.out.below b HCU.out.lt)
  have B1 := hide (B0.out.trans (b.mono B0.out.size))
  clear b HCU B0 HQ HLO
  go_wp2_with fail
  refine (qtext_any p s w1 (i : Nat) false HC1.out HLI.out HS.out (L.size : Int)).mono ?_
  rintro e w2 ⟨rfl, hc, ho⟩
  have HO := hide ho
  have HC := hide hc
  clear hc ho HC1
  by_cases hl : LR
  · obtain ⟨a1, a2, a3⟩ := HLE.out hl
    have HC2 := hide (show CurAt 31 w2 p s ((i + L.size : Nat) : Int) false by have h := HC.out; rw [a2, a3] at h; exact h)
    rw [a1]
    have _c2 := HC2.out.c2
    have HG := hide (HP.out false _ w1 w2 B1.out HO.out.block HO.out.os HO.out.tape HO.out.output HO.out.size HC2.out (.inl ⟨hl, rfl, rfl⟩))
    clear HC a1 a2 a3
    go_wp2
    go_ret
    exact HG.out
  · have hne := HL0.out hl
    generalize textV s (i : Nat) (L.size : Int) false = tv at *
    have n1 : (tv.toList == L.toList) = false := by rw [ByteArray.toList_eq, ByteArray.toList_eq]; exact beq_eq_false_iff_ne.2 (fun h => hne (ba_ext h))
    have _c2 := HC.out.c2
    have _f2 := HC.out.fz 2
    have HO2 := hide (HO.out.trans (Only.setCell p 2 w2 (.bool true)))
    have HC2 := hide (HC.out.setBad0)
    have _d2 := HC2.out.c2
    have HG := hide (HP.out true _ w1 (w2.setCell ⟨p, 2, none⟩ (.bool true)) B1.out HO2.out.block HO2.out.os HO2.out.tape HO2.out.output HO2.out.size HC2.out (.inr ⟨hl, rfl⟩))
    clear hne
    go_wp2
    go_ret
    exact HG.out

end Go.Proofs.Ytbjjcjcobiokcaa
