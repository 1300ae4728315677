/- Whatever steps come in: what was written is read as it was: 'BitsBack' answers true. No condition. -/
import Derived.Test.YtlhffiepmhlmpaaBackMath
import Derived.Deep.RegionHeld3
import Derived.Deep.DeepCutAuto
import Derived.Deep.CutBlock
namespace Go.Proofs.Ytlhffiepmhlmpaa
open Go.RowKit Go.Lib Go.Deep

theorem retBool {r : Bool} (h : r = true) : Ending.returned (.bool r) = .returned (.bool true) := by rw [h]

theorem only_drew {p : Nat} {w w' : World} (h : Only p w.drew w') : Only p w w' := ⟨h.os, h.tape, h.output, h.size, h.block⟩
theorem step_drew {p : Nat} {v v' : Value} {w w' : World} (h : Step p v v' w.drew w') : Step p v v' w w' := ⟨h.os, h.tape, h.output, h.size, h.block, h.own⟩
theorem Wr.drew1 {w : World} {p : Nat} {v : Value} {bs : List Bool} (h : Wr w p v bs) : Wr w.drew p v bs := by
  obtain ⟨out, hw, hp⟩ := h
  exact ⟨out, ⟨hw.box, hw.own, hw.ne⟩, hp⟩

/-- The writer, while it writes. -/
structure Writes (w0 w : World) (p : Nat) (v : Value) (bs : List Bool) : Prop where
  wr : Wr w p v bs
  own : ∀ k, v.ownBlock = some k → w0.heap.size ≤ k
  bel : Below w0.heap.size w0 w

theorem Writes.step {w0 w w' : World} {v v' : Value} {bs bs' : List Bool} (h : Writes w0 w w0.heap.size v bs) (hw : Wr w' w0.heap.size v' bs') (hs : Step w0.heap.size v v' w w') : Writes w0 w' w0.heap.size v' bs' := by
  have hb := hs.below (B := w0.heap.size) (Nat.le_refl _) h.own h.bel.size
  exact ⟨hw, hb.2, h.bel.trans hb.1⟩

/-- The reader, while it reads; the writer lies beside it. -/
structure Reads (w0 w : World) (q : Nat) (v : Value) (out : List UInt8) (bs : List Bool) (i : Nat) : Prop where
  rd : RdAt 26 w q ⟨out.toArray⟩ i false
  wr : WrAt w w0.heap.size v out bs.length
  bel : Below w0.heap.size w0 w
  own : ∀ k, v.ownBlock = some k → k ≠ q

theorem Reads.step {w0 w w' : World} {q : Nat} {v : Value} {out : List UInt8} {bs : List Bool} {i j : Nat} (h : Reads w0 w q v out bs i) (hr : RdAt 26 w' q ⟨out.toArray⟩ j false) (ho : Only q w w') (hq : w0.heap.size ≠ q) (hq2 : w0.heap.size ≤ q) : Reads w0 w' q v out bs j :=
  ⟨hr, WrAt.kept2 h.wr fun k _ hk => ho.block k (fun e => by subst e; rcases hk with e | e; exact hq e.symm; exact h.own _ e rfl), h.bel.trans (ho.below hq2), h.own⟩

theorem Reads.after {w0 w w' : World} {q : Nat} {v : Value} {out : List UInt8} {bs : List Bool} {i : Nat} (h : Reads w0 w q v out bs i) (hb : Below w.drew.heap.size w.drew w') (hq : q < w.heap.size) : Reads w0 w' q v out bs i :=
  ⟨by have := h.rd; unfold RdAt at this ⊢; rw [hb.block q hq]; exact this, WrAt.kept2 h.wr fun k hk _ => hb.block k hk, h.bel.trans ⟨hb.os, hb.tape, hb.output, hb.size, fun k hk => hb.block k (Nat.lt_of_lt_of_le hk h.bel.size)⟩, h.own⟩

theorem cell_step {w0 w w' : World} {v v' : Value} {bs : List Bool} {b o : Nat} (h : Writes w0 w w0.heap.size v bs) (hs : Step w0.heap.size v v' w.drew w') (hb : b < w0.heap.size) : w'.cell? ⟨b, o, none⟩ = w.cell? ⟨b, o, none⟩ :=
  World.cell?_of_block (w := w) (hs.block b (Nat.lt_of_lt_of_le hb h.bel.size) (by omega) (fun e => by have := h.own b e.symm; omega))

set_option maxRecDepth 100000 in
set_option maxHeartbeats 4000000 in
theorem back_walk (a : Option Addr) (len cap : Nat) (l : List ActV) (w : World) (h : ActsAt w a len cap l) :
    Calls Try.prog 4 #[.slice a len cap] w fun e w' => e = .returned (.bool true) ∧ Below w.heap.size w w' := by
  have H := hide h
  clear h
  go_enter Try.func4, Try.ntmps4
  go_wp2_with fail
  refine (few_any a len cap l _ H.out).mono ?_
  rintro e w' ⟨⟨r, rfl, hr⟩, rfl⟩
  cases r
  · go_wp2_with (first | (go_at_call 7; refine (awake_any _).mono ?_; rintro e wa ⟨rfl, ba⟩; have BA := hide ba; clear ba))
    go_ret
    exact ⟨rfl, BA.out⟩
  · obtain ⟨h100, h1000⟩ := hr rfl
    have H1000 := hide h1000
    have HL : Hid (∀ k, k ≤ len → (bitsTo l k).length ≤ 12000) := hide (fun k hk => by
      have h1 := bitsTo_len l k (by have := H.out.lenEq; omega)
      have h2 := totS_le l k
      omega)
    clear hr h1000
    go_wp2
    have W0 : Hid (Writes w (w.alloc (.cells #[.slice none 0 0, .int .i64 0] 39)) w.heap.size (.slice none 0 0) (bitsTo l 0)) :=
      hide ⟨Wr.made w, by simp [Value.ownBlock], (Below.refl _ w).alloc (Nat.le_refl _) _⟩
    go_loopw [4] (fun i wr => ∃ (k : Nat) (v : Value), k ≤ len ∧ i = .int .i64 k ∧ Hid (Writes w wr w.heap.size v (bitsTo l k))) (fun i _ => len - (intOf i).toNat)
    case atStart => exact ⟨0, _, Nat.zero_le _, rfl, W0⟩
    case round =>
      obtain ⟨k, v, hk, rfl, HW⟩ := hrel
      by_cases hlt : k < len
      · have hl := H.out.lenEq
        obtain ⟨x, hx⟩ : ∃ x, l[k]? = some x := ⟨l[k]'(by omega), List.getElem?_eq_getElem (by omega)⟩
        obtain ⟨b, off, rfl, hbl, hc, hss, _⟩ := H.out.cells k x hx
        have HX := hide (bitsTo_succ l k x hx)
        have HB := hide (HL.out k hk)
        have hsz : x.s.size ≤ 1000 := by
          have h1 := totS_take l k x hx
          have h2 := totS_le l (k + 1)
          have := H1000.out
          omega
        have _ck : wr.cell? ⟨b, off + k * 4, none⟩ = some (.int .i64 x.kind) := (HW.out.bel.cell (p := ⟨b, off + k * 4, none⟩) hbl).trans hc.kind
        have _cv : wr.cell? ⟨b, off + k * 4 + 1, none⟩ = some (.int .i64 x.v) := (HW.out.bel.cell (p := ⟨b, off + k * 4 + 1, none⟩) hbl).trans hc.v
        have _cn : wr.cell? ⟨b, off + k * 4 + 2, none⟩ = some (.int .i64 x.n) := (HW.out.bel.cell (p := ⟨b, off + k * 4 + 2, none⟩) hbl).trans hc.n
        have _cs : wr.cell? ⟨b, off + k * 4 + 3, none⟩ = some (.string x.s) := (HW.out.bel.cell (p := ⟨b, off + k * 4 + 3, none⟩) hbl).trans hc.s
        clear hx hc hl hss
        by_cases k0 : x.kind = 0
        · have kb : (x.kind == 0) = true := by simp [k0]
          have HS : Hid (bitsTo l (k + 1) = bitsTo l k ++ [decide (x.v % 2 = 1)]) := hide (by rw [HX.out]; unfold stepBits; rw [if_pos k0])
          clear k0
          go_wp2_with fail
          refine (wbit_any _ _ _ _ _ HW.out.wr (by have := HB.out; omega)).mono ?_
          rintro e w1 ⟨rfl, v1, h1, s1⟩
          have N1 := hide (HW.out.step h1 s1)
          clear h1 s1
          go_wp2
          go_roundw
          case rel => exact ⟨k + 1, v1, by omega, by go_num, by rw [HS.out]; exact N1⟩
          case measure => simp [intOf]; omega
        have kb0 : (x.kind == 0) = false := by simp [k0]
        by_cases k1 : x.kind = 1
        · have kb : (x.kind == 1) = true := by simp [k1]
          have HS : Hid (bitsTo l (k + 1) = bitsTo l k ++ lowBits x.v (m31 x.n)) := hide (by rw [HX.out]; unfold stepBits; rw [if_neg k0, if_pos k1])
          clear k0 k1
          go_wp2_with fail
          go_region_held3 (fun w' => w'.cell? ⟨b, off + k * 4 + 1, none⟩ = some (.int .i64 x.v) ∧ w'.cell? ⟨b, off + k * 4 + 2, none⟩ = some (.int .i64 x.n)) (go_keep) (first
            | (go_at_call 20; rw [m31_code]; refine (wput_any _ _ _ x.v _ _ (m31 x.n) (takenI_m31 x.n) HW.out.wr.drew1 ?_).mono ?_; (exact Nat.le_trans HB.out (by decide)); rintro e w1 ⟨rfl, v1, h1, s1⟩; have cV : w1.cell? ⟨b, off + k * 4 + 1, none⟩ = some (.int .i64 x.v) := (cell_step HW.out s1 hbl).trans _cv; have cN : w1.cell? ⟨b, off + k * 4 + 2, none⟩ = some (.int .i64 x.n) := (cell_step HW.out s1 hbl).trans _cn; have N1 := hide (HW.out.step h1 (step_drew s1)); clear h1 s1))
          go_wp2
          go_roundw
          case rel => exact ⟨k + 1, v1, by omega, by go_num, by rw [HS.out]; exact N1⟩
          case measure => simp [intOf]; omega
        have kb1 : (x.kind == 1) = false := by simp [k1]
        by_cases k2 : x.kind = 2
        · have kb : (x.kind == 2) = true := by simp [k2]
          have HS : Hid (bitsTo l (k + 1) = bitsTo l k ++ highBits x.v (m31 x.n)) := hide (by rw [HX.out]; unfold stepBits; rw [if_neg k0, if_neg k1, if_pos k2])
          clear k0 k1 k2
          go_wp2_with fail
          go_region_held3 (fun w' => w'.cell? ⟨b, off + k * 4 + 1, none⟩ = some (.int .i64 x.v) ∧ w'.cell? ⟨b, off + k * 4 + 2, none⟩ = some (.int .i64 x.n)) (go_keep) (first
            | (go_at_call 21; rw [m31_code]; refine (wturn_any _ _ _ x.v _ _ (m31 x.n) (takenI_m31 x.n) HW.out.wr.drew1 ?_).mono ?_; (exact Nat.le_trans HB.out (by decide)); rintro e w1 ⟨rfl, v1, h1, s1⟩; have cV : w1.cell? ⟨b, off + k * 4 + 1, none⟩ = some (.int .i64 x.v) := (cell_step HW.out s1 hbl).trans _cv; have cN : w1.cell? ⟨b, off + k * 4 + 2, none⟩ = some (.int .i64 x.n) := (cell_step HW.out s1 hbl).trans _cn; have N1 := hide (HW.out.step h1 (step_drew s1)); clear h1 s1))
          go_wp2
          go_roundw
          case rel => exact ⟨k + 1, v1, by omega, by go_num, by rw [HS.out]; exact N1⟩
          case measure => simp [intOf]; omega
        have kb2 : (x.kind == 2) = false := by simp [k2]
        by_cases k3 : x.kind = 3
        · have kb : (x.kind == 3) = true := by simp [k3]
          have HS : Hid (bitsTo l (k + 1) = alignBits (bitsTo l k)) := hide (by rw [HX.out]; unfold stepBits; rw [if_neg k0, if_neg k1, if_neg k2, if_pos k3])
          clear k0 k1 k2 k3
          go_wp2_with fail
          refine (walign_any _ _ _ _ HW.out.wr (by have := HB.out; omega)).mono ?_
          rintro e w1 ⟨rfl, h1, o1⟩
          have N1 := hide (HW.out.step h1 (Step.ofOnly o1))
          clear h1 o1
          go_wp2
          go_roundw
          case rel => exact ⟨k + 1, v, by omega, by go_num, by rw [HS.out]; exact N1⟩
          case measure => simp [intOf]; omega
        have kb3 : (x.kind == 3) = false := by simp [k3]
        by_cases k4 : x.kind = 4
        · have kb : (x.kind == 4) = true := by simp [k4]
          have HS : Hid (bitsTo l (k + 1) = alignBits (bitsTo l k) ++ bytesBits x.s.data.toList) := hide (by rw [HX.out]; unfold stepBits; rw [if_neg k0, if_neg k1, if_neg k2, if_neg k3, if_pos k4])
          clear k0 k1 k2 k3 k4
          go_wp2_with fail
          refine (wtext_any _ _ _ _ _ HW.out.wr (by have := HB.out; omega) (by omega)).mono ?_
          rintro e w1 ⟨rfl, v1, h1, s1⟩
          have N1 := hide (HW.out.step h1 s1)
          clear h1 s1
          go_wp2
          go_roundw
          case rel => exact ⟨k + 1, v1, by omega, by go_num, by rw [HS.out]; exact N1⟩
          case measure => simp [intOf]; omega
        · have kb4 : (x.kind == 4) = false := by simp [k4]
          have HS : Hid (bitsTo l (k + 1) = bitsTo l k) := hide (by rw [HX.out]; unfold stepBits; rw [if_neg k0, if_neg k1, if_neg k2, if_neg k3, if_neg k4])
          clear k0 k1 k2 k3 k4
          go_wp2
          go_roundw
          case rel => exact ⟨k + 1, v, by omega, by go_num, by rw [HS.out]; exact HW⟩
          case measure => simp [intOf]; omega
      · have hkl : k = len := by omega
        subst hkl
        rename World => wm
        obtain ⟨out, hw1, hp1⟩ := HW.out.wr
        have HP := hide hp1
        have HW1 := hide hw1
        have HSZ : Hid ((⟨out.toArray⟩ : ByteArray).size = ((bitsTo l k).length + 7) / 8) := hide (by rw [← hp1.len]; simp [ByteArray.size])
        have hltp : w.heap.size < wm.heap.size := (Array.getElem?_eq_some_iff.1 hw1.box).1
        have HL12 := hide (HL.out k (Nat.le_refl _))
        clear hw1 hp1
        go_wp2_with fail
        refine (wbytes_at _ _ out _ _ HW1.out).mono ?_
        rintro e w2 ⟨rfl, hw2⟩
        obtain rfl := hw2.symm
        clear hw2
        have R0 : Hid (Reads w (wm.alloc (.cells #[.string ⟨out.toArray⟩, .int .i64 0, .bool false] 26)) wm.heap.size v out (bitsTo l k) (bitsTo l 0).length) :=
          hide ⟨RdAt.made 26 wm ⟨out.toArray⟩ 0, WrAt.kept2 HW1.out fun k hk _ => Below.heap_alloc _ _ _ hk, HW.out.bel.trans ((Below.refl _ wm).alloc (Nat.le_of_lt hltp) _), by
            intro k hk
            have := (HW1.out.own.lt k hk).2
            omega⟩
        go_wp2
        go_loopw [6] (fun i wq => ∃ (n : Nat), n ≤ k ∧ i = .int .i64 n ∧ Hid (Reads w wq wm.heap.size v out (bitsTo l k) (bitsTo l n).length)) (fun i _ => k - (intOf i).toNat)
        case atStart => exact ⟨0, Nat.zero_le _, rfl, R0⟩
        case round =>
          obtain ⟨n, hn, rfl, HR⟩ := hrel
          by_cases hlt2 : n < k
          · have hl := H.out.lenEq
            obtain ⟨x, hx⟩ : ∃ x, l[n]? = some x := ⟨l[n]'(by omega), List.getElem?_eq_getElem (by omega)⟩
            obtain ⟨b, off, rfl, hbl, hc, hss, _⟩ := H.out.cells n x hx
            have HX := hide (bitsTo_succ l n x hx)
            have HAT := hide (bits_at l n k x hx hl.symm)
            have _ck : wr.cell? ⟨b, off + n * 4, none⟩ = some (.int .i64 x.kind) := (HR.out.bel.cell (p := ⟨b, off + n * 4, none⟩) hbl).trans hc.kind
            have _cv : wr.cell? ⟨b, off + n * 4 + 1, none⟩ = some (.int .i64 x.v) := (HR.out.bel.cell (p := ⟨b, off + n * 4 + 1, none⟩) hbl).trans hc.v
            have _cn : wr.cell? ⟨b, off + n * 4 + 2, none⟩ = some (.int .i64 x.n) := (HR.out.bel.cell (p := ⟨b, off + n * 4 + 2, none⟩) hbl).trans hc.n
            have _cs : wr.cell? ⟨b, off + n * 4 + 3, none⟩ = some (.string x.s) := (HR.out.bel.cell (p := ⟨b, off + n * 4 + 3, none⟩) hbl).trans hc.s
            have hbq : b ≠ wm.heap.size := by omega
            have hpq : w.heap.size ≠ wm.heap.size := by omega
            have hxs : x.s.size ≤ 1000 := by
              have h1 := totS_take l n x hx
              have h2 := totS_le l (n + 1)
              have := H1000.out
              omega
            have hs12 : (⟨out.toArray⟩ : ByteArray).size ≤ 1000000000000 := by rw [HSZ.out]; have := HL12.out; omega
            obtain ⟨m, hm30, HM⟩ : ∃ m : Nat, m ≤ 30 ∧ Hid (m31 x.n = m) := ⟨_, m31_le x.n, hide rfl⟩
            have HTK : Hid (takenI (m : Int) = (m : Int)) := hide (by rw [← HM.out]; exact takenI_m31 x.n)
            have hm31 : wrap64 ((IntKind.u64.wrap x.n).tmod 31) = (m : Int) := by rw [← HM.out]; exact m31_code2 x.n
            have ha := and1_i64 x.v
            have hltp2 : w.heap.size ≤ wm.heap.size := Nat.le_of_lt hltp
            have HC := hide hc
            clear hx hc hl hss
            by_cases k0 : x.kind = 0
            · have kb : (x.kind == 0) = true := by simp [k0]
              have HE : Hid (stepBits (bitsTo l n) x = bitsTo l n ++ [decide (x.v % 2 = 1)]) := hide (by unfold stepBits; rw [if_pos k0])
              have HA := hide (HAT.out _ HE.out)
              have HV : Hid (bitI ⟨out.toArray⟩ (bitsTo l n).length = x.v % 2) := hide (by
                have e := HA.out.2 0 (by simp)
                rw [Nat.add_zero] at e
                rw [bitI_packs HP.out, e]
                rcases Int.emod_two_eq x.v with e | e <;> simp [e])
              have hroom : (bitsTo l n).length / 8 < (⟨out.toArray⟩ : ByteArray).size := by
                rw [HSZ.out]; have := HA.out.1; simp at this; omega
              clear k0
              go_wp2_with fail
              go_region_held3 (fun w' => w'.cell? ⟨b, off + n * 4 + 1, none⟩ = some (.int .i64 x.v)) (go_keep) (first
                | (go_at_call 8; refine (rbit_ok _ _ _ _ ?_ hroom hs12).mono ?_; exact HR.out.rd; rintro e w1 ⟨rfl, h1, o1⟩; rw [HV.out]; have cV : w1.cell? ⟨b, off + n * 4 + 1, none⟩ = some (.int .i64 x.v) := (World.cell?_of_block (w := wr) (o1.block b hbq)).trans _cv; have N1 := hide (HR.out.step h1 (only_drew o1) hpq hltp2); clear h1 o1))
              go_wp2
              go_roundw
              case rel => exact ⟨n + 1, by omega, by go_num, by rw [HX.out, HE.out, List.length_append]; exact N1⟩
              case measure => simp [intOf]; omega
            have kb0 : (x.kind == 0) = false := by simp [k0]
            by_cases k1 : x.kind = 1
            · have kb : (x.kind == 1) = true := by simp [k1]
              have hmask := mask_and x.v m hm30
              have HE : Hid (stepBits (bitsTo l n) x = bitsTo l n ++ lowBits x.v m) := hide (by unfold stepBits; rw [if_neg k0, if_pos k1, HM.out])
              have HA := hide (HAT.out _ HE.out)
              have HV : Hid (numI ⟨out.toArray⟩ (bitsTo l n).length m = x.v % 2 ^ m) := hide (numI_low _ _ _ _ fun t ht => by
                have e := HA.out.2 t (by rw [lowBits_length]; exact ht)
                rw [bitI_packs HP.out, e, List.getD_eq_getElem?_getD, lowBits_get _ _ _ ht]
                rcases Int.emod_two_eq (x.v / 2 ^ t) with e | e <;> simp [e])
              have hroom : (bitsTo l n).length + m ≤ 8 * (⟨out.toArray⟩ : ByteArray).size := by
                rw [HSZ.out]; have := HA.out.1; rw [lowBits_length] at this; omega
              clear k0 k1
              go_wp2_with fail
              go_region_held3 (fun w' => w'.cell? ⟨b, off + n * 4 + 1, none⟩ = some (.int .i64 x.v)) (go_keep) (first
                | (go_at_call 10; refine (rbits_ok _ _ _ _ _ m HTK.out ?_ hroom hs12).mono ?_; exact HR.out.rd; rintro e w1 ⟨rfl, h1, o1⟩; rw [HV.out]; have cV : w1.cell? ⟨b, off + n * 4 + 1, none⟩ = some (.int .i64 x.v) := (World.cell?_of_block (w := wr) (o1.block b hbq)).trans _cv; have N1 := hide (HR.out.step h1 (only_drew o1) hpq hltp2); clear h1 o1))
              go_wp2
              go_roundw
              case rel => exact ⟨n + 1, by omega, by go_num, by rw [HX.out, HE.out, List.length_append, lowBits_length]; exact N1⟩
              case measure => simp [intOf]; omega
            have kb1 : (x.kind == 1) = false := by simp [k1]
            by_cases k2 : x.kind = 2
            · have kb : (x.kind == 2) = true := by simp [k2]
              have HE : Hid (stepBits (bitsTo l n) x = bitsTo l n ++ highBits x.v m) := hide (by unfold stepBits; rw [if_neg k0, if_neg k1, if_pos k2, HM.out])
              have hhl : (highBits x.v m).length = m := by rw [highBits, List.length_reverse, lowBits_length]
              have HA := hide (HAT.out _ HE.out)
              have HBIT : Hid (∀ t, t < m → bitI ⟨out.toArray⟩ ((bitsTo l n).length + t) = x.v / 2 ^ (m - (t + 1)) % 2) := hide (fun t ht => by
                have e := HA.out.2 t (by rw [hhl]; exact ht)
                rw [bitI_packs HP.out, e, highBits_getD _ _ _ ht, bool_emod])
              have hroom : (bitsTo l n).length + m ≤ 8 * (⟨out.toArray⟩ : ByteArray).size := by
                rw [HSZ.out]; have := HA.out.1; rw [hhl] at this; omega
              have HHL := hide hhl
              clear k0 k1 k2 hhl
              go_wp2_with fail
              rename World => wk
              rw [hm31]
              clear hm31
              go_loopw [8, 9] (fun u c wz => ∃ t : Nat, t ≤ m ∧ c = .int .i64 t ∧ u = .int .i64 (x.v / 2 ^ (m - t) % 2 ^ t) ∧ Hid (Reads w wz wm.heap.size v out (bitsTo l k) ((bitsTo l n).length + t))) (fun _ c _ => m - (intOf c).toNat)
              case atStart => exact ⟨0, Nat.zero_le _, rfl, by simp, HR⟩
              case round =>
                obtain ⟨t, ht, rfl, rfl, HR2⟩ := hrel
                have hb1 : 0 ≤ x.v / 2 ^ (m - t) % 2 ^ t := Int.emod_nonneg _ (by have := two_pow_pos t; omega)
                have hb2 : x.v / 2 ^ (m - t) % 2 ^ t < 1073741825 := by
                  have h1 := Int.emod_lt_of_pos (x.v / 2 ^ (m - t)) (two_pow_pos t)
                  have h2 := pow_le30 t (by omega)
                  omega
                by_cases hlt3 : t < m
                · have HBT := hide (HBIT.out t hlt3)
                  have HST := hide (high_step x.v m t hlt3)
                  have hbb := Int.emod_two_eq (x.v / 2 ^ (m - (t + 1)))
                  have HBB := hide hbb
                  clear hbb
                  go_wp2_with fail
                  refine (rbit_ok _ _ _ _ HR2.out.rd (by omega) hs12).mono ?_
                  rintro e w1 ⟨rfl, h1, o1⟩
                  rw [HBT.out]
                  have hc0 : 0 ≤ x.v / 2 ^ (m - (t + 1)) % 2 := Int.emod_nonneg _ (by decide)
                  have hc1 : x.v / 2 ^ (m - (t + 1)) % 2 < 2 := Int.emod_lt_of_pos _ (by decide)
                  have N1 := hide (HR2.out.step h1 o1 hpq hltp2)
                  clear h1 o1
                  go_wp2
                  go_roundw
                  case rel => first | exact ⟨t + 1, by omega, by go_num, by rw [HST.out], N1⟩ | ((repeat apply Exists.intro); exact ⟨⟨t + 1, by omega, by go_num, by rw [HST.out], N1⟩, rfl⟩)
                  case measure => simp [intOf]; omega
                · have htm : t = m := by omega
                  subst htm
                  have hv0 : x.v / 2 ^ (t - t) % 2 ^ t = x.v % 2 ^ t := by simp
                  rw [hv0]
                  rw [hv0] at hb1 hb2
                  clear hv0
                  have _cv2 : wr.cell? ⟨b, off + n * 4 + 1, none⟩ = some (.int .i64 x.v) := (HR2.out.bel.cell (p := ⟨b, off + n * 4 + 1, none⟩) hbl).trans HC.out.v
                  have hmask2 := mask_and2 x.v t hm30
                  go_wp2
                  go_roundw
                  case rel => exact ⟨n + 1, by omega, by go_num, by rw [HX.out, HE.out, List.length_append, HHL.out]; exact HR2⟩
                  case measure => simp [intOf]; omega
            have kb2 : (x.kind == 2) = false := by simp [k2]
            by_cases k3 : x.kind = 3
            · have kb : (x.kind == 3) = true := by simp [k3]
              have HE : Hid (stepBits (bitsTo l n) x = alignBits (bitsTo l n)) := hide (by unfold stepBits; rw [if_neg k0, if_neg k1, if_neg k2, if_pos k3])
              have HA := hide (HAT.out _ HE.out)
              have hfit : (bitsTo l n).length ≤ 8 * (⟨out.toArray⟩ : ByteArray).size := by
                rw [HSZ.out]; have := HA.out.1; omega
              clear k0 k1 k2 k3
              go_wp2_with fail
              refine (ralign_any _ _ _ _ _ HR.out.rd hfit (by rw [HSZ.out]; have := HL12.out; omega)).mono ?_
              rintro e w1 ⟨rfl, h1, o1⟩
              have N1 := hide (HR.out.step h1 o1 hpq hltp2)
              clear h1 o1
              go_wp2
              go_roundw
              case rel => exact ⟨n + 1, by omega, by go_num, by rw [HX.out, HE.out, alignBits_length]; exact N1⟩
              case measure => simp [intOf]; omega
            have kb3 : (x.kind == 3) = false := by simp [k3]
            by_cases k4 : x.kind = 4
            · have kb : (x.kind == 4) = true := by simp [k4]
              have HE0 : Hid (stepBits (bitsTo l n) x = alignBits (bitsTo l n) ++ bytesBits x.s.data.toList) := hide (by unfold stepBits; rw [if_neg k0, if_neg k1, if_neg k2, if_neg k3, if_pos k4])
              have HE : Hid (stepBits (bitsTo l n) x = bitsTo l n ++ (List.replicate (((bitsTo l n).length + 7) / 8 * 8 - (bitsTo l n).length) false ++ bytesBits x.s.data.toList)) := hide (by rw [HE0.out]; unfold alignBits; rw [List.append_assoc])
              have HA := hide (HAT.out _ HE.out)
              have hxl : x.s.data.toList.length = x.s.size := Array.length_toList
              have HFIT : Hid (((bitsTo l n).length + 7) / 8 + x.s.size ≤ (⟨out.toArray⟩ : ByteArray).size) := hide (by
                rw [HSZ.out]; have := HA.out.1
                rw [List.length_append, List.length_replicate, bytesBits_length, hxl] at this
                omega)
              have HCUT : Hid ((⟨out.toArray⟩ : ByteArray).extract (((bitsTo l n).length + 7) / 8) (((bitsTo l n).length + 7) / 8 + x.s.size) = x.s) := hide (by
                apply cut_text HP.out
                · have := HFIT.out
                  rw [HSZ.out] at this
                  rw [HP.out.len]
                  exact this
                · intro t ht
                  have e := HA.out.2 (((bitsTo l n).length + 7) / 8 * 8 - (bitsTo l n).length + t) (by rw [List.length_append, List.length_replicate, bytesBits_length, hxl]; omega)
                  rw [show (bitsTo l n).length + (((bitsTo l n).length + 7) / 8 * 8 - (bitsTo l n).length + t) = 8 * (((bitsTo l n).length + 7) / 8) + t by omega] at e
                  rw [e]
                  have := getD_suf (a := List.replicate (((bitsTo l n).length + 7) / 8 * 8 - (bitsTo l n).length) false) (b := bytesBits x.s.data.toList) t
                  rw [List.length_replicate] at this
                  exact this)
              have HBY := hide hxl
              clear k0 k1 k2 k3 k4 hxl
              go_wp2_with fail
              go_region_held3 (fun w' => w'.cell? ⟨b, off + n * 4 + 3, none⟩ = some (.string x.s)) (go_keep) (first
                | (go_at_call 14; refine (rtext_ok _ _ _ x.s.size _ ?_ HFIT.out ?_).mono ?_; exact HR.out.rd; (rw [HSZ.out]; have := HL12.out; omega); rintro e w1 ⟨rfl, h1, o1⟩; rw [HCUT.out]; have cS : w1.cell? ⟨b, off + n * 4 + 3, none⟩ = some (.string x.s) := (World.cell?_of_block (w := wr) (o1.block b hbq)).trans _cs; have N1 := hide (HR.out.step h1 (only_drew o1) hpq hltp2); clear h1 o1))
              go_wp2
              go_roundw
              case rel => exact ⟨n + 1, by omega, by go_num, by rw [HX.out, HE0.out, List.length_append, alignBits_length, bytesBits_length, HBY.out, show ((bitsTo l n).length + 7) / 8 * 8 + 8 * x.s.size = (((bitsTo l n).length + 7) / 8 + x.s.size) * 8 by omega]; exact N1⟩
              case measure => simp [intOf]; omega
            · have kb4 : (x.kind == 4) = false := by simp [k4]
              have HE : Hid (stepBits (bitsTo l n) x = bitsTo l n) := hide (by unfold stepBits; rw [if_neg k0, if_neg k1, if_neg k2, if_neg k3, if_neg k4])
              clear k0 k1 k2 k3 k4
              go_wp2
              go_roundw
              case rel => exact ⟨n + 1, by omega, by go_num, by rw [HX.out, HE.out]; exact HR⟩
              case measure => simp [intOf]; omega
          · have hnk : n = k := by omega
            subst hnk
            have q1 := HR.out.rd.c1
            have q2 := HR.out.rd.c2
            have p1 := HR.out.wr.c1
            have HTE : Hid ((((((bitsTo l n).length : Nat) : Int) + 7) / 8 == (out.length : Int)) = true) := hide (by have := HP.out.len; simp; omega)
            have hqs : wm.heap.size < wr.heap.size := (Array.getElem?_eq_some_iff.1 HR.out.rd).1
            have hps : w.heap.size < wr.heap.size := by omega
            go_wp2_with fail
            go_region_held3 (fun w' => w'.cell? ⟨wm.heap.size, 1, none⟩ = some (.int .i64 ((bitsTo l n).length : Nat)) ∧ w'.cell? ⟨wm.heap.size, 2, none⟩ = some (.bool false) ∧ w'.cell? ⟨w.heap.size, 1, none⟩ = some (.int .i64 ((bitsTo l n).length : Nat))) (go_keep) (first
              | (go_at_call 7; refine (awake_any _).mono ?_; rintro e wa ⟨rfl, ba⟩; have NA := hide (HR.out.after ba hqs); have q1a := NA.out.rd.c1; have q2a := NA.out.rd.c2; have p1a := NA.out.wr.c1; clear ba)
              | (go_at_call 16; refine (rused_q _ _ _ _ _ NA.out.rd ?_ ?_).mono ?_; (rw [HSZ.out]; omega); (rw [HSZ.out]; have := HL12.out; omega); rintro e wu ⟨rfl, rfl⟩)
              | (go_at_call 24; refine (wbytes_at _ _ out _ _ NA.out.wr).mono ?_; rintro e wu ⟨rfl, rfl⟩))
            go_wp2
            go_ret
            exact ⟨retBool HTE.out, NA.out.bel⟩

theorem back_law {H : Type} {enc : TypeId × Value → H} {d : DataW H} {p : List MemPlace} {base : Nat} (w : World) (v : Value) (hv : Value.okWide Try.prog w .any base 22 v) (h : DataW.Trod enc Try.prog w 0 (fun _ => true) true 22 v d p) :
    Calls Try.prog 4 #[v] w fun e w' => e = .returned (.bool true) ∧ Below w.heap.size w w' := by
  obtain ⟨a, len, cap, l, rfl, hl⟩ := open_acts hv h
  exact back_walk a len cap l w hl

end Go.Proofs.Ytlhffiepmhlmpaa
