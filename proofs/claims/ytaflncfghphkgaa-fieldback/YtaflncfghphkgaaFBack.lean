/- Whatever numbers and text come in: numbers are read as they were, as far as they fit, and the text behind them: 'FieldBack' answers true. No condition. -/
import Derived.Test.YtaflncfghphkgaaFArgs
import Derived.Test.YtaflncfghphkgaaFText
import Derived.Deep.RegionHeld3
namespace Go.Proofs.Ytaflncfghphkgaa
open Go.RowKit Go.Lib Go.Deep

theorem bel_drewB {B : Nat} {w w' : World} (h : Below B w.drew w') : Below B w w' := ⟨h.os, h.tape, h.output, h.size, h.block⟩
theorem only_drewB {p : Nat} {w w' : World} (h : Only p w.drew w') : Only p w w' := ⟨h.os, h.tape, h.output, h.size, h.block⟩

/-- An old cell behind a call that touched nothing old. -/
theorem cell_bel {w w' : World} {b o : Nat} {v : Value} (hb : Below w.heap.size w w') (hlt : b < w.heap.size) (h : w.cell? ⟨b, o, none⟩ = some v) : w'.cell? ⟨b, o, none⟩ = some v ∧ b < w'.heap.size :=
  ⟨(hb.cell (p := ⟨b, o, none⟩) hlt).trans h, Nat.lt_of_lt_of_le hlt hb.size⟩

theorem and16 (x : Int) : bits .and .i64 x 65535 = x % 65536 := and_mask_i64 x 16 (by decide)
theorem and32 (x : Int) : bits .and .i64 x 4294967295 = x % 4294967296 := and_mask_i64 x 32 (by decide)

set_option maxRecDepth 100000 in
set_option maxHeartbeats 4000000 in
theorem fback_walk (a : Option Addr) (len cap : Nat) (l : List Int) (s : ByteArray) (w : World) (h : RowAt w IntC 1 a len l) (hsm : s.size ≤ maxLen) :
    Calls Try.prog 5 #[.slice a len cap, .string s] w fun e w' => e = .returned (.bool true) ∧ Below w.heap.size w w' := by
  have H := hide h
  have hm := h.lenMax
  unfold maxLen at hm hsm
  clear h
  by_cases hbig : 50 < len
  · go_enter Try.func5, Try.ntmps5
    go_wp2_with (first | (go_at_call 8; refine (fawake_any _).mono ?_; rintro e wa ⟨rfl, ba⟩; have BA := hide ba; clear ba))
    go_ret
    exact ⟨rfl, BA.out⟩
  by_cases hbig2 : 1000 < s.size
  · go_enter Try.func5, Try.ntmps5
    go_wp2_with (first | (go_at_call 8; refine (fawake_any _).mono ?_; rintro e wa ⟨rfl, ba⟩; have BA := hide ba; clear ba))
    go_ret
    exact ⟨rfl, BA.out⟩
  go_enter Try.func5, Try.ntmps5
  go_wp2
  go_loopw [5, 6] (fun t c wr => ∃ k : Nat, k ≤ len ∧ c = .int .i64 k ∧ t = .string (backT l k) ∧ Hid (Below w.heap.size w wr)) (fun _ c _ => len - (intOf c).toNat)
  case atStart => exact ⟨0, Nat.zero_le _, rfl, rfl, Below.refl _ _⟩
  case round =>
    obtain ⟨k, hk, rfl, rfl, HB⟩ := hrel
    have hl := H.out.lenEq
    have sz := backT_size l k (by omega)
    have HL := hide hl
    clear hl
    by_cases hlt : k < len
    · obtain ⟨x, hx⟩ : ∃ x, l[k]? = some x := ⟨l[k]'(by have := HL.out; omega), List.getElem?_eq_getElem (by have := HL.out; omega)⟩
      obtain ⟨b, off, rfl, hbl, hc, _⟩ := H.out.cells k x hx
      have HS := hide (backT_succ l k x hx)
      rw [Nat.mul_one] at hc
      have _ck : wr.cell? ⟨b, off + k, none⟩ = some (.int .i64 x) := (HB.out.cell (p := ⟨b, off + k, none⟩) hbl).trans hc
      have hb0 : b < wr.heap.size := Nat.lt_of_lt_of_le hbl HB.out.size
      have s2 := lowS_size x 2
      have s4 := lowS_size x 4
      have s8 := lowS_size x 8
      clear hx hc
      go_wp2_with fail
      have q1 : (9223372036854775807 < 14 * k + 2) = False := eq_false (by omega)
      have q2 : (9223372036854775807 < 14 * k + 2 + 4) = False := eq_false (by omega)
      have q3 : (9223372036854775807 < 14 * k + 2 + 4 + 8) = False := eq_false (by omega)
      go_region_held3 (fun w' => w'.cell? ⟨b, off + k, none⟩ = some (.int .i64 x)) (go_keep) (first
        | (go_at_call 9; refine (u16_any x _).mono ?_; rintro e w1 ⟨rfl, b1⟩; obtain ⟨c1, l1⟩ := cell_bel (bel_drewB b1) hb0 _ck; have B1 := hide (HB.out.trans ((bel_drewB b1).mono HB.out.size)); clear b1)
        | (go_at_call 11; refine (u32_any x _).mono ?_; rintro e w2 ⟨rfl, b2⟩; obtain ⟨c2, l2⟩ := cell_bel b2 l1 c1; have B2 := hide (B1.out.trans (b2.mono B1.out.size)); clear b2)
        | (go_at_call 13; refine (u64_any x _).mono ?_; rintro e w3 ⟨rfl, b3⟩; obtain ⟨c3, l3⟩ := cell_bel b3 l2 c2; have B3 := hide (B2.out.trans (b3.mono B2.out.size)); clear b3))
      go_wp2
      go_roundw
      case rel => exact ⟨k + 1, by omega, by go_num, by rw [HS.out], B3⟩
      case measure => simp [intOf]; omega
    · have hkl : len = k := by omega
      subst hkl
      have hl := HL.out
      subst hl
      clear HL
      go_wp2
      rename World => wm
      have C0 := hide (CurAt.made 28 wm (backT l l.length ++ s) 0)
      have B0 := hide (HB.out.alloc HB.out.size (.cells #[.string (backT l l.length ++ s), .int .i64 0, .bool false] 28))
      have hwm := HB.out.size
      have hT : (backT l l.length ++ s).size ≤ 1000000000000 := by rw [ByteArray.size_append]; omega
      clear sz
      go_loopw [8] (fun c wr => ∃ k : Nat, k ≤ l.length ∧ c = .int .i64 k ∧ Hid (CurAt 28 wr wm.heap.size (backT l l.length ++ s) ((14 * k : Nat) : Int) false) ∧ Hid (Below w.heap.size w wr)) (fun c _ => l.length - (intOf c).toNat)
      case atStart => exact ⟨0, Nat.zero_le _, rfl, C0, B0⟩
      case round =>
        obtain ⟨k, hk, rfl, HC, HB⟩ := hrel
        by_cases hlt : k < l.length
        · obtain ⟨x, hx⟩ : ∃ x, l[k]? = some x := ⟨l[k], List.getElem?_eq_getElem hlt⟩
          obtain ⟨b, off, rfl, hbl, hc, hwf⟩ := H.out.cells k x hx
          obtain ⟨hx0, hx1⟩ := bounds_i64 hwf
          rw [Nat.mul_one] at hc
          have _ck : wr.cell? ⟨b, off + k, none⟩ = some (.int .i64 x) := (HB.out.cell (p := ⟨b, off + k, none⟩) hbl).trans hc
          have hbp : b ≠ wm.heap.size := by omega
          have R16 := hide (read16 l s k x hx)
          have R32 := hide (read32 l s k x hx)
          have R64 := hide (read64 l s k x hx)
          have m16 := and16 x
          have m32 := and32 x
          have hle1 : ((14 * k : Nat) : Int) ≤ 9223372036854775807 := by omega
          have hle2 : ((14 * k + 2 : Nat) : Int) ≤ 9223372036854775807 := by omega
          have hle3 : ((14 * k + 6 : Nat) : Int) ≤ 9223372036854775807 := by omega
          clear hx hc
          go_wp2_with fail
          go_region_held3 (fun w' => w'.cell? ⟨b, off + k, none⟩ = some (.int .i64 x)) (go_keep) (first
            | (go_at_call 15; refine (cu16_any wm.heap.size (backT l l.length ++ s) _ ((14 * k : Nat) : Int) false ?_ hle1 hT).mono ?_; exact HC.out; rintro e w1 ⟨rfl, h1, o1⟩; rw [R16.out.1]; rw [R16.out.2.1, R16.out.2.2] at h1; have c1 : w1.cell? ⟨b, off + k, none⟩ = some (.int .i64 x) := (World.cell?_of_block (w := wr) (o1.block b hbp)).trans _ck; have H1 := hide h1; have O1 := hide (only_drewB o1); clear h1 o1)
            | (go_at_call 17; refine (cu32_any wm.heap.size (backT l l.length ++ s) _ ((14 * k + 2 : Nat) : Int) false ?_ hle2 hT).mono ?_; exact H1.out; rintro e w2 ⟨rfl, h2, o2⟩; rw [R32.out.1]; rw [R32.out.2.1, R32.out.2.2] at h2; have c2 : w2.cell? ⟨b, off + k, none⟩ = some (.int .i64 x) := (World.cell?_of_block (o2.block b hbp)).trans c1; have H2 := hide h2; have O2 := hide (O1.out.trans o2); clear h2 o2))
          clear m16 m32
          go_wp2_with fail
          refine (cu64_any wm.heap.size (backT l l.length ++ s) _ ((14 * k + 6 : Nat) : Int) false H2.out hle3 hT).mono ?_
          rintro e w3 ⟨rfl, h3, o3⟩
          rw [R64.out.1]
          rw [R64.out.2.1, R64.out.2.2] at h3
          have c3 : w3.cell? ⟨b, off + k, none⟩ = some (.int .i64 x) := (World.cell?_of_block (o3.block b hbp)).trans c2
          have O3 := hide (O2.out.trans o3)
          have B3 := hide (HB.out.trans (O3.out.below hwm))
          by_cases hneg : x < 0
          · obtain ⟨e1, e2⟩ := read64_no x hneg hx0
            rw [e1]
            rw [e2] at h3
            have H3 := hide h3
            have hp3 := h3.lt
            clear h3 o3 e1 e2
            go_wp2_with fail
            refine (fawake_any _).mono ?_
            rintro e w4 ⟨rfl, b4⟩
            have h4 := H3.out.below b4 hp3
            have _c2 := h4.c2
            have H4 := hide h4
            have B4 := hide (B3.out.trans (b4.mono B3.out.size))
            clear b4 h4
            go_wp2_with fail
            refine (cu16_any wm.heap.size (backT l l.length ++ s) _ _ true H4.out (by omega) hT).mono ?_
            rintro e w5 ⟨rfl, h5, o5⟩
            obtain ⟨t1, t2, t3⟩ := textV_bad (backT l l.length ++ s) ((14 * (k + 1) : Nat) : Int) 2
            have hw5 : numW (backT l l.length ++ s) ((14 * (k + 1) : Nat) : Int) 2 true = true := by unfold numW; rw [t3]; rfl
            rw [t1, numV_empty]
            rw [t2, hw5] at h5
            have H5 := hide h5
            have B5 := hide (B4.out.trans (o5.below hwm))
            clear h5 o5 t1 t2 t3 hw5
            go_wp2_with fail
            refine (ctext_any wm.heap.size (backT l l.length ++ s) _ _ true H5.out (by omega) hT 0).mono ?_
            rintro e w6 ⟨rfl, h6, o6⟩
            obtain ⟨t1, t2, t3⟩ := textV_bad (backT l l.length ++ s) ((14 * (k + 1) : Nat) : Int) 0
            rw [t1]
            rw [t2, t3] at h6
            have H6 := hide h6
            have B6 := hide (B5.out.trans (o6.below hwm))
            clear h6 o6 t1 t2 t3
            go_wp2_with fail
            refine (cdone_any wm.heap.size (backT l l.length ++ s) _ _ true H6.out).mono ?_
            rintro e w7 ⟨rfl, m, rfl⟩
            rw [doneB_bad]
            go_wp2
            go_ret
            exact ⟨rfl, B6.out.trans ((Only.drewN wm.heap.size w6 m).below hwm)⟩
          · obtain ⟨e1, e2⟩ := read64_ok x (by omega) hx1
            rw [e1]
            rw [e2] at h3
            have H3 := hide h3
            clear h3 o3 e1 e2 hx0 hx1 hle1 hle2 hle3 hwf
            go_wp2
            go_roundw
            case rel => exact ⟨k + 1, by omega, by go_num, H3, B3⟩
            case measure => simp [intOf]; omega
        · have hkl : k = l.length := by omega
          subst hkl
          have hp := HC.out.lt
          have RE := hide (read_end l s)
          go_wp2_with fail
          refine (fawake_any _).mono ?_
          rintro e w4 ⟨rfl, b4⟩
          have H4 := hide (HC.out.below b4 hp)
          have B4 := hide (HB.out.trans (b4.mono HB.out.size))
          clear b4
          go_wp2_with fail
          refine (ctext_any wm.heap.size (backT l l.length ++ s) _ _ false H4.out (by omega) hT s.size).mono ?_
          rintro e w5 ⟨rfl, h5, o5⟩
          rw [RE.out.1]
          rw [RE.out.2.1, RE.out.2.2] at h5
          have H5 := hide h5
          have B5 := hide (B4.out.trans (o5.below hwm))
          clear h5 o5
          go_wp2_with fail
          refine (cdone_any wm.heap.size (backT l l.length ++ s) _ _ false H5.out).mono ?_
          rintro e w6 ⟨rfl, m, rfl⟩
          rw [doneB_end]
          go_wp2
          go_ret
          exact ⟨rfl, B5.out.trans ((Only.drewN wm.heap.size w5 m).below hwm)⟩

theorem fback_law {H : Type} {enc : TypeId × Value → H} {d : DataW H} {p : List MemPlace} {base : Nat} (w : World) (v : Value) (hv : Value.okWide Try.prog w .any base 34 v) (h : DataW.Trod enc Try.prog w 0 (fun _ => true) true 34 v d p) (s : ByteArray) (hs : s.size ≤ maxLen) :
    Calls Try.prog 5 #[v, .string s] w fun e w' => e = .returned (.bool true) ∧ Below w.heap.size w w' := by
  obtain ⟨a, len, cap, l, rfl, hl⟩ := open_ints hv h
  exact fback_walk a len cap l s w hl hs

end Go.Proofs.Ytaflncfghphkgaa
