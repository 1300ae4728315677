/- Whatever texts come in: each behind its length, they are read as they were; what is too short goes wrong, and stays so: 'FieldRow' answers true. No condition. -/
import Derived.Test.YtaflncfghphkgaaFArgs
import Derived.Test.YtaflncfghphkgaaFRowT
import Derived.Deep.RegionHeld3
namespace Go.Proofs.Ytaflncfghphkgaa
open Go.RowKit Go.Lib Go.Deep

theorem bel_drewB {B : Nat} {w w' : World} (h : Below B w.drew w') : Below B w w' := ⟨h.os, h.tape, h.output, h.size, h.block⟩
theorem only_drewB {p : Nat} {w w' : World} (h : Only p w.drew w') : Only p w w' := ⟨h.os, h.tape, h.output, h.size, h.block⟩

theorem cell_bel {w w' : World} {b o : Nat} {v : Value} (hb : Below w.heap.size w w') (hlt : b < w.heap.size) (h : w.cell? ⟨b, o, none⟩ = some v) : w'.cell? ⟨b, o, none⟩ = some v ∧ b < w'.heap.size :=
  ⟨(hb.cell (p := ⟨b, o, none⟩) hlt).trans h, Nat.lt_of_lt_of_le hlt hb.size⟩

/-- The first k texts are short. -/
def Short (l : List ByteArray) (k : Nat) : Prop := (∀ j x, j < k → l[j]? = some x → x.size ≤ 200) ∧ (rowT l k).size ≤ 204 * k

theorem Short.zero (l : List ByteArray) : Short l 0 := ⟨fun j _ h => by omega, by rw [rowT_size]; simp [offR, rowR]⟩
theorem Short.succ {l : List ByteArray} {k : Nat} (h : Short l k) {x : ByteArray} (hx : l[k]? = some x) (h2 : x.size ≤ 200) : Short l (k + 1) := by
  refine ⟨fun j y hj hy => ?_, ?_⟩
  · by_cases e : j = k
    · subst e; rw [hx] at hy; injection hy with hy; rw [← hy]; exact h2
    · exact h.1 j y (by omega) hy
  · have := h.2
    rw [rowT_size] at this ⊢
    rw [offR_succ l k x hx]; omega

set_option maxRecDepth 100000 in
set_option maxHeartbeats 4000000 in
theorem frow_walk (a : Option Addr) (len cap : Nat) (l : List ByteArray) (c : Int) (hc0 : 0 ≤ c) (hc1 : c ≤ 65535) (w : World) (h : RowAt w StrC 1 a len l) :
    Calls Try.prog 7 #[.slice a len cap, .int .u16 c] w fun e w' => e = .returned (.bool true) ∧ Below w.heap.size w w' := by
  have H := hide h
  have hm := h.lenMax
  unfold maxLen at hm
  clear h
  by_cases hbig : 20 < len
  · go_enter Try.func7, Try.ntmps7
    go_wp2_with (first | (go_at_call 8; refine (fawake_any _).mono ?_; rintro e wa ⟨rfl, ba⟩; have BA := hide ba; clear ba))
    go_ret
    exact ⟨rfl, BA.out⟩
  go_enter Try.func7, Try.ntmps7
  go_wp2
  go_loopw [5, 6] (fun t i wr => ∃ k : Nat, k ≤ len ∧ i = .int .i64 k ∧ t = .string (rowT l k) ∧ Hid (Short l k) ∧ Hid (Below w.heap.size w wr)) (fun _ i _ => len - (intOf i).toNat)
  case atStart => exact ⟨0, Nat.zero_le _, rfl, rfl, Short.zero l, Below.refl _ _⟩
  case round =>
    obtain ⟨k, hk, rfl, rfl, HS, HB⟩ := hrel
    have HL := hide H.out.lenEq
    by_cases hlt : k < len
    · obtain ⟨x, hx⟩ : ∃ x, l[k]? = some x := ⟨l[k]'(by have := HL.out; omega), List.getElem?_eq_getElem (by have := HL.out; omega)⟩
      obtain ⟨b, off, rfl, hbl, hc, hxm⟩ := H.out.cells k x hx
      unfold maxLen at hxm
      rw [Nat.mul_one] at hc
      have _ck : wr.cell? ⟨b, off + k, none⟩ = some (.string x) := (HB.out.cell (p := ⟨b, off + k, none⟩) hbl).trans hc
      by_cases hlong : 200 < x.size
      · clear hx hc
        go_wp2_with (first | (go_at_call 8; refine (fawake_any _).mono ?_; rintro e wa ⟨rfl, ba⟩; have BA := hide ba; clear ba))
        go_ret
        exact ⟨rfl, HB.out.trans (BA.out.mono HB.out.size)⟩
      · have HN := hide (HS.out.succ hx (by omega))
        have HT := hide (rowT_succ l k x hx)
        have hb0 : b < wr.heap.size := Nat.lt_of_lt_of_le hbl HB.out.size
        have s4 := lowS_size x.size 4
        have q0 := HS.out.2
        clear hx hc
        go_wp2_with fail
        have q1 : (9223372036854775807 < (rowT l k).size + 4) = False := eq_false (by omega)
        have q2 : (9223372036854775807 < (rowT l k).size + 4 + x.size) = False := eq_false (by omega)
        go_region_held3 (fun w' => w'.cell? ⟨b, off + k, none⟩ = some (.string x)) (go_keep) (first
          | (go_at_call 11; refine (u32_any x.size _).mono ?_; rintro e w1 ⟨rfl, b1⟩; obtain ⟨c1, l1⟩ := cell_bel (bel_drewB b1) hb0 _ck; have B1 := hide (HB.out.trans ((bel_drewB b1).mono HB.out.size)); clear b1))
        go_wp2
        go_roundw
        case rel => exact ⟨k + 1, by omega, by go_num, by rw [HT.out], HN, B1⟩
        case measure => simp [intOf]; omega
    · have hkl : len = k := by omega
      subst hkl
      have hl := HL.out
      subst hl
      clear HL
      go_wp2
      rename World => wm
      have C0 := hide (CurAt.made 28 wm (rowT l l.length) 0)
      have B0 := hide (HB.out.alloc HB.out.size (.cells #[.string (rowT l l.length), .int .i64 0, .bool false] 28))
      have hwm := HB.out.size
      have q0 := HS.out.2
      have hsz := hide (show (rowT l l.length).size = (rowR l).length by rw [rowT_size, offR_all])
      have hT : (rowT l l.length).size ≤ 1000000000000 := by omega
      have HO : Hid (∀ k, k ≤ l.length → offR l k ≤ (rowR l).length) := hide (fun k hk => by
        unfold offR
        have e : rowR l = rowR (l.take k) ++ rowR (l.drop k) := by rw [← rowR_append, List.take_append_drop]
        rw [e, List.length_append]; omega)
      go_loopw [8] (fun i wr => ∃ k : Nat, k ≤ l.length ∧ i = .int .i64 k ∧ Hid (CurAt 28 wr wm.heap.size (rowT l l.length) (offR l k : Nat) false) ∧ Hid (Below w.heap.size w wr)) (fun i _ => l.length - (intOf i).toNat)
      case atStart => exact ⟨0, Nat.zero_le _, rfl, C0, B0⟩
      case round =>
        obtain ⟨k, hk, rfl, HC, HB⟩ := hrel
        have hle0 : ((offR l k : Nat) : Int) ≤ 9223372036854775807 := by have := HO.out k hk; have := hsz.out; omega
        by_cases hlt : k < l.length
        · obtain ⟨x, hx⟩ : ∃ x, l[k]? = some x := ⟨l[k], List.getElem?_eq_getElem hlt⟩
          obtain ⟨b, off, rfl, hbl, hc, hxm⟩ := H.out.cells k x hx
          unfold maxLen at hxm
          rw [Nat.mul_one] at hc
          have _ck : wr.cell? ⟨b, off + k, none⟩ = some (.string x) := (HB.out.cell (p := ⟨b, off + k, none⟩) hbl).trans hc
          have hbp : b ≠ wm.heap.size := by omega
          have RL := hide (read_len _ _ _ x (offR l k) rfl (HS.out.1 k x hlt hx) (row_list l k x hx))
          have RS := hide (read_str _ _ _ x (offR l k) rfl (row_list l k x hx))
          have HE := hide (offR_succ l k x hx)
          have hle1 : ((offR l k + 4 : Nat) : Int) ≤ 9223372036854775807 := by have := HO.out k hk; have := hsz.out; omega
          clear hx hc
          go_wp2_with fail
          go_region_held3 (fun w' => w'.cell? ⟨b, off + k, none⟩ = some (.string x)) (go_keep) (first
            | (go_at_call 17; refine (cu32_any wm.heap.size (rowT l l.length) _ (offR l k : Nat) false ?_ hle0 hT).mono ?_; exact HC.out; rintro e w1 ⟨rfl, h1, o1⟩; rw [RL.out.1]; rw [RL.out.2.1, RL.out.2.2] at h1; have c1 : w1.cell? ⟨b, off + k, none⟩ = some (.string x) := (World.cell?_of_block (w := wr) (o1.block b hbp)).trans _ck; have H1 := hide h1; have O1 := hide (only_drewB o1); clear h1 o1)
            | (go_at_call 21; refine (ctext_any wm.heap.size (rowT l l.length) _ (offR l k + 4 : Nat) false ?_ hle1 hT x.size).mono ?_; exact H1.out; rintro e w2 ⟨rfl, h2, o2⟩; rw [RS.out.1]; rw [RS.out.2.1, RS.out.2.2] at h2; have c2 : w2.cell? ⟨b, off + k, none⟩ = some (.string x) := (World.cell?_of_block (o2.block b hbp)).trans c1; have H2 := hide h2; have O2 := hide (O1.out.trans o2); clear h2 o2))
          go_wp2
          go_roundw
          case rel => exact ⟨k + 1, by omega, by go_num, by rw [HE.out]; exact H2, HB.out.trans (O2.out.below hwm)⟩
          case measure => simp [intOf]; omega
        · have hkl : k = l.length := by omega
          subst hkl
          obtain ⟨m, HM, hmle⟩ : ∃ m : Nat, Hid (c % (((rowT l l.length).size : Int) + 1) = (m : Int)) ∧ m ≤ (rowT l l.length).size := by
            have h1 := Int.emod_nonneg c (show ((rowT l l.length).size : Int) + 1 ≠ 0 by omega)
            have h2 := Int.emod_lt_of_pos c (show (0 : Int) < ((rowT l l.length).size : Int) + 1 by omega)
            exact ⟨(c % (((rowT l l.length).size : Int) + 1)).toNat, hide (by omega), by omega⟩
          go_wp2_with fail
          refine (cdone_any wm.heap.size (rowT l l.length) _ _ false HC.out).mono ?_
          rintro e w4 ⟨rfl, m4, rfl⟩
          rw [show doneB (rowT l l.length) (offR l l.length : Nat) false = true by rw [← rowT_size]; exact doneB_end _]
          have B4 := hide (HB.out.trans ((Only.drewN wm.heap.size wr m4).below hwm))
          have hwr : w.heap.size ≤ (wr.drewN m4).heap.size := B4.out.size
          generalize wr.drewN m4 = w4 at *
          have hme := HM.out
          go_wp2
          rw [hme]
          clear hme HC HB
          obtain ⟨Tm, hTm⟩ : ∃ Tm, Tm = (rowT l l.length).extract 0 m := ⟨_, rfl⟩
          rw [← hTm]
          have HTM := hide hTm
          have hTs : Tm.size ≤ 1000000000000 := by rw [hTm, cut_size l m (by have := hsz.out; omega)]; omega
          have D0 := hide (CurAt.made 28 w4 Tm 0)
          have E0 := hide (B4.out.alloc hwr (.cells #[.string Tm, .int .i64 0, .bool false] 28))
          have K0 : Hid (CutOk l m 0 0 false) := hide ⟨by decide, .inl ⟨rfl, by simp [offR, rowR], by simp [offR, rowR]⟩⟩
          clear hTm
          go_loopw [11] (fun j wz => ∃ (k : Nat) (i : Int) (bad : Bool), k ≤ l.length ∧ j = .int .i64 k ∧ Hid (CurAt 28 wz w4.heap.size Tm i bad) ∧ Hid (CutOk l m k i bad) ∧ Hid (Below w.heap.size w wz)) (fun j _ => l.length - (intOf j).toNat)
          case atStart => exact ⟨0, 0, false, Nat.zero_le _, rfl, D0, K0, E0⟩
          case round =>
            rename World => wz
            obtain ⟨k, i, bad, hk, rfl, HC, HK, HB⟩ := hrel
            by_cases hlt : k < l.length
            · obtain ⟨x, hx⟩ : ∃ x, l[k]? = some x := ⟨l[k], List.getElem?_eq_getElem hlt⟩
              obtain ⟨n, i1, bad1, e1, e2, e3, hi1, HK2⟩ := CutOk.step l m k x hx (HS.out.1 k x hlt hx) (by have := hsz.out; omega) i bad HK.out Tm HTM.out (by omega)
              have E1 := hide e1
              have E2 := hide e2
              have E3 := hide e3
              have HK3 := hide HK2
              have HI1 := hide hi1
              clear e1 e2 e3 HK2 hx hi1
              go_wp2_with fail
              refine (cu32_any w4.heap.size Tm _ i bad HC.out HK.out.1 hTs).mono ?_
              rintro e w5 ⟨rfl, h5, o5⟩
              rw [E1.out]
              rw [E2.out, E3.out] at h5
              have H5 := hide h5
              have O5 := hide o5
              clear h5 o5
              go_wp2_with fail
              refine (ctext_any w4.heap.size Tm _ i1 bad1 H5.out HI1.out hTs n).mono ?_
              rintro e w6 ⟨rfl, h6, o6⟩
              have H6 := hide h6
              have B6 := hide (HB.out.trans ((O5.out.trans o6).below hwr))
              clear h6 o6
              go_wp2
              go_roundw
              case rel => exact ⟨k + 1, _, _, by omega, by go_num, H6, HK3, B6⟩
              case measure => simp [intOf]; omega
            · have hkl : k = l.length := by omega
              subst hkl
              have hp := HC.out.lt
              obtain ⟨hi, hcase⟩ := HK.out
              have HI := hide hi
              have HCS := hide hcase
              clear hi hcase
              go_wp2_with fail
              refine (fawake_any _).mono ?_
              rintro e w5 ⟨rfl, b5⟩
              have h5 := HC.out.below b5 hp
              have _d2 := h5.c2
              have H5 := hide h5
              have B5 := hide (HB.out.trans (b5.mono HB.out.size))
              clear b5 h5
              rcases HCS.out with ⟨hbad, hi, ho⟩ | ⟨hbad, ho⟩
              · have hmz : (m < (rowT l l.length).size) = False := eq_false (by
                  have h1 := offR_all l
                  have h2 := hsz.out
                  omega)
                subst hbad
                clear hi ho
                go_wp2
                go_ret
                exact ⟨rfl, B5.out⟩
              · have hmz : (m < (rowT l l.length).size) = True := eq_true (by
                  have h2 := hsz.out
                  omega)
                subst hbad
                clear ho
                obtain ⟨t1, t2, t3⟩ := textV_bad Tm i 2
                obtain ⟨u1, u2, u3⟩ := textV_bad Tm i 0
                have T1 := hide t1
                have T2 := hide t2
                have T3 := hide (show numW Tm i 2 true = true by unfold numW; rw [t3]; rfl)
                have U1 := hide u1
                clear t1 t2 t3 u1 u2 u3
                go_wp2_with fail
                refine (cu16_any w4.heap.size Tm _ i true H5.out HI.out hTs).mono ?_
                rintro e w6 ⟨rfl, h6, o6⟩
                rw [T1.out, numV_empty]
                rw [T2.out, T3.out] at h6
                have H6 := hide h6
                have O6 := hide o6
                clear h6 o6
                go_wp2_with fail
                refine (ctext_any w4.heap.size Tm _ i true H6.out HI.out hTs 0).mono ?_
                rintro e w7 ⟨rfl, h7, o7⟩
                rw [U1.out]
                have B7 := hide (B5.out.trans ((O6.out.trans o7).below hwr))
                clear h7 o7
                go_wp2
                go_ret
                exact ⟨rfl, B7.out⟩

theorem frow_law {H : Type} {enc : TypeId × Value → H} {d : DataW H} {p : List MemPlace} {base : Nat} (w : World) (v : Value) (hv : Value.okWide Try.prog w .any base 37 v) (h : DataW.Trod enc Try.prog w 0 (fun _ => true) true 37 v d p) (c : Int) (hc : (Lit.int .u16 c).wf = true) :
    Calls Try.prog 7 #[v, .int .u16 c] w fun e w' => e = .returned (.bool true) ∧ Below w.heap.size w w' := by
  obtain ⟨a, len, cap, l, rfl, hl⟩ := open_strs hv h
  have hb : 0 ≤ c ∧ c ≤ 65535 := by
    simp only [Lit.wf, IntKind.min, IntKind.max, IntKind.signed, IntKind.bits, Bool.and_eq_true] at hc; simpa using hc
  exact frow_walk a len cap l c hb.1 hb.2 w hl

end Go.Proofs.Ytaflncfghphkgaa
