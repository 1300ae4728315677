/- Whatever steps come in: up to a whole byte bits 0 come, fewer than eight, and a writer has just so many bytes as its bits need: 'BitsAligned' answers true. No condition. -/
import Derived.Test.YtlhffiepmhlmpaaActs
import Derived.Deep.RegionHeld3
namespace Go.Proofs.Ytlhffiepmhlmpaa
open Go.RowKit Go.Lib Go.Deep

theorem bitI_packs {bs : List Bool} {out : List UInt8} (h : Packs bs out) (i : Nat) : bitI ⟨out.toArray⟩ i = ((bs.getD i false).toNat : Int) := by
  unfold bitI
  rw [← h.bit i, Nat.testBit_eq_decide_div_mod_eq]
  show (((out.getD (i / 8) 0).toNat / 2 ^ (i % 8) % 2 : Nat) : Int) = _
  have := Nat.mod_two_eq_zero_or_one ((out.getD (i / 8) 0).toNat / 2 ^ (i % 8))
  rcases this with e | e <;> rw [e] <;> rfl

/-- Bits that are all 0 make 0. -/
theorem numI_zero {bs : List Bool} {out : List UInt8} (h : Packs bs out) (i k : Nat) (hz : ∀ j, i ≤ j → bs.getD j false = false) : numI ⟨out.toArray⟩ i k = 0 := by
  induction k with
  | zero => rfl
  | succ k ih => unfold numI; rw [ih, bitI_packs h, hz _ (by omega)]; simp

set_option maxRecDepth 100000 in
set_option maxHeartbeats 1000000 in
theorem aligned_walk (a : Option Addr) (len cap : Nat) (l : List ActV) (w : World) (h : ActsAt w a len cap l) :
    Calls Try.prog 5 #[.slice a len cap] w fun e w' => e = .returned (.bool true) ∧ Below w.heap.size w w' := by
  have H := hide h
  clear h
  go_enter Try.func5, Try.ntmps5
  go_wp2_with fail
  refine (few_any a len cap l _ H.out).mono ?_
  rintro e w' ⟨⟨r, rfl, hr⟩, rfl⟩
  cases r
  · go_wp2_with (first | (go_at_call 7; refine (awake_any _).mono ?_; rintro e wa ⟨rfl, ba⟩; have BA := hide ba; clear ba))
    go_ret
    exact ⟨rfl, BA.out⟩
  · obtain ⟨h100, _⟩ := hr rfl
    go_wp2
    have H0 := hide (Wr.made w)
    have B0 := hide ((Below.refl _ w).alloc (Nat.le_refl _) (.cells #[.slice none 0 0, .int .i64 0] 39))
    go_loopw [4] (fun i wr => ∃ (k : Nat) (v : Value) (bs : List Bool), k ≤ len ∧ i = .int .i64 k ∧ bs.length ≤ 8 * k ∧ Hid (Wr wr w.heap.size v bs) ∧ Hid (∀ k, v.ownBlock = some k → w.heap.size ≤ k) ∧ Hid (Below w.heap.size w wr)) (fun i _ => len - (intOf i).toNat)
    case atStart => exact ⟨0, _, [], Nat.zero_le _, rfl, Nat.le_refl _, H0, by simp [Hid, Value.ownBlock], B0⟩
    case round =>
      obtain ⟨k, v, bs, hk, rfl, hbs, HW, HV, HB⟩ := hrel
      by_cases hlt : k < len
      · have hl := H.out.lenEq
        obtain ⟨x, hx⟩ : ∃ x, l[k]? = some x := ⟨l[k]'(by omega), List.getElem?_eq_getElem (by omega)⟩
        obtain ⟨b, off, rfl, hbl, hc, _⟩ := H.out.cells k x hx
        have _ck : wr.cell? ⟨b, off + k * 4, none⟩ = some (.int .i64 x.kind) := (HB.out.cell (p := ⟨b, off + k * 4, none⟩) hbl).trans hc.kind
        have _cv : wr.cell? ⟨b, off + k * 4 + 1, none⟩ = some (.int .i64 x.v) := (HB.out.cell (p := ⟨b, off + k * 4 + 1, none⟩) hbl).trans hc.v
        have _cn := HW.out.N
        clear hx hc hl
        by_cases hkind : x.kind = 0
        · have HK := hide hkind
          have hkb : (x.kind == 0) = true := by simp [hkind]
          clear hkind
          go_wp2_with fail
          refine (wbit_any _ _ _ _ _ HW.out (by omega)).mono ?_
          rintro e w1 ⟨rfl, v1, h1, s1⟩
          have c1 := h1.N
          obtain ⟨out, hw1, hp1⟩ := h1
          have HW1 := hide hw1
          have HP1 := hide hp1
          have HS1 := hide s1
          have HOL : Hid (out.length = (bs.length + 1 + 7) / 8) := hide (by have := hp1.len; simpa using this)
          clear hw1 hp1 s1
          have hte : ((out.length : Int) != ((bs.length : Int) + 1 + 7) / 8) = false := by have := HOL.out; simp; omega
          have bel := HS1.out.below (B := w.heap.size) (Nat.le_refl _) HV.out HB.out.size
          have HB1 := hide (HB.out.trans bel.1)
          have HV1 := hide bel.2
          clear bel
          go_wp2_with fail
          go_quiet ((go_at_call 24; exact Calls.quiet_of_same (wbytes_at _ _ out _ _ (HW1.out.drewN _))))
          go_wp2
          go_roundw
          case rel => exact ⟨k + 1, v1, _, by omega, by go_num, by simp; omega, ⟨out, HW1.out.drewN _, HP1.out⟩, HV1.out, ⟨HB1.out.os, HB1.out.tape, HB1.out.output, HB1.out.size, HB1.out.block⟩⟩
          case measure => simp [intOf]; omega
        · have hkb : (x.kind == 0) = false := by simp [hkind]
          clear hkind
          go_wp2_with fail
          refine (walign_any _ _ _ _ HW.out (by omega)).mono ?_
          rintro e w1 ⟨rfl, ⟨out, hw1, hp1⟩, o1⟩
          have c1 := hw1.c1
          rw [alignBits_length] at c1
          have HW1 := hide hw1
          have HP1 := hide hp1
          have HO1 := hide o1
          have HOL : Hid (out.length = (bs.length + 7) / 8) := hide (by have := hp1.len; rw [alignBits_length] at this; omega)
          obtain ⟨M, hM, HM⟩ : ∃ M : Nat, bs.length ≤ M ∧ Hid ((bs.length + 7) / 8 * 8 = M) := ⟨_, by omega, hide rfl⟩
          rw [HM.out] at c1
          have hM7 : M ≤ bs.length + 7 := by have := HM.out; omega
          have hM8 : (((M : Int) % 8) != 0) = false := by have := HM.out; simp; omega
          have hMs : M = bs.length + (M - bs.length) := by omega
          have HK : Hid (takenI ((M : Int) - (bs.length : Int)) = ((M - bs.length : Nat) : Int)) := hide (by unfold takenI; rw [if_neg (by omega), if_neg (by omega)]; omega)
          have hlt1 : w.heap.size < w1.heap.size := (Array.getElem?_eq_some_iff.1 hw1.box).1
          clear hw1 hp1 o1 hMs
          go_wp2_with fail
          refine (wbytes_at _ _ out _ _ HW1.out).mono ?_
          rintro e w2 ⟨rfl, hw2⟩
          obtain rfl := hw2.symm
          clear hw2
          have R0 := hide (RdAt.made 26 w1 ⟨out.toArray⟩ bs.length)
          have hsz : (⟨out.toArray⟩ : ByteArray).size = out.length := by simp [ByteArray.size]
          have HSZ := hide hsz
          clear hsz
          go_wp2_with fail
          refine (rbits_ok w1.heap.size ⟨out.toArray⟩ bs.length _ _ (M - bs.length) HK.out R0.out (by rw [HSZ.out, HOL.out]; have := HM.out; omega) (by rw [HSZ.out, HOL.out]; omega)).mono ?_
          rintro e w3 ⟨rfl, h3, o3⟩
          rw [numI_zero HP1.out _ _ (fun j hj => by rw [alignBits_getD, List.getD_eq_getElem?_getD, List.getElem?_eq_none hj]; rfl)]
          have _c2 := h3.c2
          have W3 : WrAt w3 w.heap.size v out (alignBits bs).length := WrAt.kept2 HW1.out fun k hk _ => (o3.block k (by omega)).trans (Below.heap_alloc _ _ _ hk)
          have cN := W3.c1
          rw [alignBits_length, HM.out] at cN
          have HW3 := hide W3
          have HB3 := hide ((HB.out.trans (HO1.out.below (Nat.le_refl _))).trans (((Below.refl _ w1).alloc (Nat.le_of_lt hlt1) _).trans (o3.below (Nat.le_of_lt hlt1))))
          have hte : ((out.length : Int) != ((M : Int) + 7) / 8) = false := by have := HOL.out; have := HM.out; simp; omega
          clear h3 o3 W3 c1
          go_wp2_with fail
          go_quiet ((go_at_call 24; exact Calls.quiet_of_same (wbytes_at _ _ out _ _ (HW3.out.drewN _))))
          go_wp2
          go_roundw
          case rel => exact ⟨k + 1, v, alignBits bs, by omega, by go_num, by rw [alignBits_length]; have := HM.out; omega, ⟨out, HW3.out.drewN _, HP1.out⟩, HV, ⟨HB3.out.os, HB3.out.tape, HB3.out.output, HB3.out.size, HB3.out.block⟩⟩
          case measure => simp [intOf]; omega
      · have hkl : k = len := by omega
        subst hkl
        go_wp2_with (first | (go_at_call 7; refine (awake_any _).mono ?_; rintro e wa ⟨rfl, ba⟩; have BA := hide ba; clear ba))
        go_ret
        exact ⟨rfl, HB.out.trans (BA.out.mono HB.out.size)⟩

theorem aligned_law {H : Type} {enc : TypeId × Value → H} {d : DataW H} {p : List MemPlace} {base : Nat} (w : World) (v : Value) (hv : Value.okWide Try.prog w .any base 22 v) (h : DataW.Trod enc Try.prog w 0 (fun _ => true) true 22 v d p) :
    Calls Try.prog 5 #[v] w fun e w' => e = .returned (.bool true) ∧ Below w.heap.size w w' := by
  obtain ⟨a, len, cap, l, rfl, hl⟩ := open_acts hv h
  exact aligned_walk a len cap l w hl

end Go.Proofs.Ytlhffiepmhlmpaa
