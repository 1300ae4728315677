/- Contracts of the document's layer 14: Right, and its texts of any record that may be written (printed by tools/mkrec2.py). -/
import Derived.Test.YtbjjcjcobiokcaaORefB
import Derived.ChangeKeysEq
import Derived.Deep.MidRow
namespace Go.Proofs.Ytbjjcjcobiokcaa
open Go.RowKit Go.Lib

theorem qlocal_any (r : Rec) (hr : RightR r) (W : World) : Calls Try.prog 13 #[recV r] W fun e w' => e = .returned (.string (locS r)) ∧ Below W.heap.size W w' := by
  cases hf : flag8 r.flags with
  | false => cases hw : r.wide with
    | false => exact qlocal_ff r hr hf hw W
    | true => exact qlocal_ft r hr hf hw W
  | true => cases hw : r.wide with
    | false => exact qlocal_tf r hr hf hw W
    | true => exact qlocal_tt r hr hf hw W
theorem qcentral_any (r : Rec) (hr : RightR r) (W : World) : Calls Try.prog 15 #[recV r] W fun e w' => e = .returned (.string (cenS r)) ∧ Below W.heap.size W w' := by
  cases hw : r.wide with
  | false => exact qcentral_f r hr hw W
  | true => exact qcentral_t r hr hw W
theorem qtail_any (r : Rec) (hr : RightR r) (W : World) : Calls Try.prog 17 #[recV r] W fun e w' => e = .returned (.string (tailS r)) ∧ Below W.heap.size W w' := by
  cases hf : flag8 r.flags with
  | false => exact qtail_f r hr hf W
  | true => cases hw : r.wide with
    | false => exact qtail_tf r hr hf hw W
    | true => exact qtail_tt r hr hf hw W

theorem Try.plainIntO : Try.prog.plainKey 3 = true := by kernel_rfl
theorem idx_four (a b c d z : Int) (k : Nat) (hk : k < 4) (hx : [Value.int .i64 a, Value.int .i64 b, Value.int .i64 c, Value.int .i64 d][k]? = some (.int .i64 z)) (w : World) : (Instr.index 43 (.agg #[.int .i64 a, .int .i64 b, .int .i64 c, .int .i64 d]) (.int .i64 (k : Nat))).run Try.prog w = .ok (.int .i64 z) w := by
  have h := run_part_plain (P := Try.prog) (w := w) Try.plainIntO (xs := #[Value.int .i64 a, Value.int .i64 b, Value.int .i64 c, Value.int .i64 d]) (off := k) (v := .int .i64 z) (by simpa using hx)
  simp [Instr.index, asIntOf, run_underlying Try.underlying43, h]
  intro h3
  omega
theorem idx_three (a b c z : Int) (k : Nat) (hk : k < 3) (hx : [Value.int .i64 a, Value.int .i64 b, Value.int .i64 c][k]? = some (.int .i64 z)) (w : World) : (Instr.index 44 (.agg #[.int .i64 a, .int .i64 b, .int .i64 c]) (.int .i64 (k : Nat))).run Try.prog w = .ok (.int .i64 z) w := by
  have h := run_part_plain (P := Try.prog) (w := w) Try.plainIntO (xs := #[Value.int .i64 a, Value.int .i64 b, Value.int .i64 c]) (off := k) (v := .int .i64 z) (by simpa using hx)
  simp [Instr.index, asIntOf, run_underlying Try.underlying44, h]
  intro h3
  omega

/-- The first of some numbers are within bounds. -/
def okL (m : Int) (l : List Int) (j : Nat) : Prop := ∀ x ∈ l.take j, 0 ≤ x ∧ x ≤ m

set_option maxRecDepth 20000 in
set_option maxHeartbeats 16000000 in
theorem qright_any (r : Rec) (W : World) : Calls Try.prog 11 #[recV r] W fun e w' => e = .returned (.bool (rightR r)) ∧ Below W.heap.size W w' := by
  have B0 := hide ((Below.refl W.heap.size W).alloc (Nat.le_refl _) (.cells (recCs r) 23))
  have HNO := hide (fun (h : ¬ RightR r) w' (b : Below W.heap.size W w') => (show Ending.returned (.bool false) = Ending.returned (.bool (rightR r)) ∧ Below W.heap.size W w' from ⟨by rw [rightR_no h], b⟩))
  have HYES := hide (fun (h : RightR r) w' (b : Below W.heap.size W w') => (show Ending.returned (.bool true) = Ending.returned (.bool (rightR r)) ∧ Below W.heap.size W w' from ⟨by rw [(rightR_iff r).2 h], b⟩))
  obtain ⟨mo, hmo⟩ : ∃ mo, mostR r = mo := ⟨_, rfl⟩
  have hrr := rightR r
  have HMK := hide (fun (h1 : okL 65535 [r.flags, r.method, r.date, r.clock] 4) (h2 : okL mo [r.size, r.packed, r.at_] 3) (h3 : 0 ≤ r.sum ∧ r.sum ≤ 4294967295) (h4 : r.name.size ≤ 65535) (h5 : r.note.size ≤ 65535) => (show RightR r from
    ⟨h1 _ (by simp), h1 _ (by simp), h1 _ (by simp), h1 _ (by simp), by rw [hmo]; exact h2 _ (by simp), by rw [hmo]; exact h2 _ (by simp), by rw [hmo]; exact h2 _ (by simp), h3, h4, h5⟩))
  have HB := hide (show (∀ x ∈ [r.flags, r.method, r.date, r.clock], RightR r → 0 ≤ x ∧ x ≤ 65535) ∧ (∀ x ∈ [r.size, r.packed, r.at_], RightR r → 0 ≤ x ∧ x ≤ mo) from ⟨fun x hx h => by
      simp at hx
      rcases hx with rfl | rfl | rfl | rfl
      · exact h.flags
      · exact h.method
      · exact h.date
      · exact h.clock, fun x hx h => by
      simp at hx
      rcases hx with rfl | rfl | rfl
      · rw [← hmo]; exact h.size
      · rw [← hmo]; exact h.packed
      · rw [← hmo]; exact h.at_⟩)
  have HS := hide (fun (h : RightR r) => And.intro h.sum (And.intro h.name h.note))
  have HMO := hide hmo
  generalize rightR r = rr at *
  generalize hRR : RightR r = RR at *
  obtain ⟨nm, nt, fl, me, da, ck, su, sz, pk, at_, wd⟩ := r
  unfold recV
  unfold recCs at *
  unfold mostR at HMO
  dsimp only at B0 HMK HB HS HMO ⊢
  clear hRR hmo hrr
  have hi0 : ∀ w, (Instr.index 43 (.agg #[.int .i64 fl, .int .i64 me, .int .i64 da, .int .i64 ck]) (.int .i64 0)).run Try.prog w = .ok (.int .i64 fl) w := idx_four fl me da ck fl 0 (by decide) rfl
  have hi1 : ∀ w, (Instr.index 43 (.agg #[.int .i64 fl, .int .i64 me, .int .i64 da, .int .i64 ck]) (.int .i64 1)).run Try.prog w = .ok (.int .i64 me) w := idx_four fl me da ck me 1 (by decide) rfl
  have hi2 : ∀ w, (Instr.index 43 (.agg #[.int .i64 fl, .int .i64 me, .int .i64 da, .int .i64 ck]) (.int .i64 2)).run Try.prog w = .ok (.int .i64 da) w := idx_four fl me da ck da 2 (by decide) rfl
  have hi3 : ∀ w, (Instr.index 43 (.agg #[.int .i64 fl, .int .i64 me, .int .i64 da, .int .i64 ck]) (.int .i64 3)).run Try.prog w = .ok (.int .i64 ck) w := idx_four fl me da ck ck 3 (by decide) rfl
  have hj0 : ∀ w, (Instr.index 44 (.agg #[.int .i64 sz, .int .i64 pk, .int .i64 at_]) (.int .i64 0)).run Try.prog w = .ok (.int .i64 sz) w := idx_three sz pk at_ sz 0 (by decide) rfl
  have hj1 : ∀ w, (Instr.index 44 (.agg #[.int .i64 sz, .int .i64 pk, .int .i64 at_]) (.int .i64 1)).run Try.prog w = .ok (.int .i64 pk) w := idx_three sz pk at_ pk 1 (by decide) rfl
  have hj2 : ∀ w, (Instr.index 44 (.agg #[.int .i64 sz, .int .i64 pk, .int .i64 at_]) (.int .i64 2)).run Try.prog w = .ok (.int .i64 at_) w := idx_three sz pk at_ at_ 2 (by decide) rfl
  cases wd with
  | true =>
    have hmo : mo = 4611686018427387903 := by rw [← HMO.out]; rfl
    subst hmo
    clear HMO
    go_enter Try.func11, Try.ntmps11
    go_wp2
    generalize hw5 : W.alloc (.cells #[.string nm, .string nt, .int .i64 fl, .int .i64 me, .int .i64 da, .int .i64 ck, .int .i64 su, .int .i64 sz, .int .i64 pk, .int .i64 at_, .bool true] 23) = w5 at *
    have HQ := hide (show w5.heap[W.heap.size]? = some (.cells #[.string nm, .string nt, .int .i64 fl, .int .i64 me, .int .i64 da, .int .i64 ck, .int .i64 su, .int .i64 sz, .int .i64 pk, .int .i64 at_, .bool true] 23 (0, 0)) by rw [← hw5]; exact rec_new _ _ _)
    clear hw5
    obtain ⟨g0, g1, g2, g3, g4, g5, g6, g7, g8, g9, g10⟩ := rec_cells HQ.out
    go_loop [19] (fun iv => ∃ j : Nat, j ≤ 4 ∧ iv = .int .i64 (j : Nat) ∧ Hid (okL 65535 [fl, me, da, ck] j)) (fun iv => 4 - (intOf iv).toNat)
    case atStart => exact ⟨0, Nat.zero_le _, rfl, hide (fun x hx => by simp at hx)⟩
    case round =>
      obtain ⟨j, hj, rfl, HE⟩ := hrel
      by_cases hlt : j < 4
      · rcases (show j = 0 ∨ j = 1 ∨ j = 2 ∨ j = 3 by omega) with rfl | rfl | rfl | rfl
        · by_cases x1 : fl < 0
          · have HG := hide (HNO.out (fun h => by have := HB.out.1 fl (by simp) h; omega) w5 B0.out)
            go_wp2
            go_ret
            exact HG.out
          have z1 : decide (fl < 0) = false := decide_eq_false x1
          by_cases x2 : 65535 < fl
          · have z2 : decide (65535 < fl) = true := decide_eq_true x2
            have HG := hide (HNO.out (fun h => by have := HB.out.1 fl (by simp) h; omega) w5 B0.out)
            clear x1 x2
            go_wp2
            go_ret
            exact HG.out
          have z2 : decide (65535 < fl) = false := decide_eq_false x2
          have HE2 := hide (show okL 65535 [fl, me, da, ck] 1 from fun x hx => by
            simp at hx
            subst hx
            omega)
          clear x1 x2
          go_wp2
          go_round
          case rel => exact ⟨1, by decide, by go_num, HE2⟩
          case measure => decide
        · by_cases x1 : me < 0
          · have HG := hide (HNO.out (fun h => by have := HB.out.1 me (by simp) h; omega) w5 B0.out)
            go_wp2
            go_ret
            exact HG.out
          have z1 : decide (me < 0) = false := decide_eq_false x1
          by_cases x2 : 65535 < me
          · have z2 : decide (65535 < me) = true := decide_eq_true x2
            have HG := hide (HNO.out (fun h => by have := HB.out.1 me (by simp) h; omega) w5 B0.out)
            clear x1 x2
            go_wp2
            go_ret
            exact HG.out
          have z2 : decide (65535 < me) = false := decide_eq_false x2
          have HE2 := hide (show okL 65535 [fl, me, da, ck] 2 from fun x hx => by
            simp at hx
            rcases hx with hx | hx
            · exact HE.out x (by simp [hx])
            · subst hx; omega)
          clear x1 x2
          go_wp2
          go_round
          case rel => exact ⟨2, by decide, by go_num, HE2⟩
          case measure => decide
        · by_cases x1 : da < 0
          · have HG := hide (HNO.out (fun h => by have := HB.out.1 da (by simp) h; omega) w5 B0.out)
            go_wp2
            go_ret
            exact HG.out
          have z1 : decide (da < 0) = false := decide_eq_false x1
          by_cases x2 : 65535 < da
          · have z2 : decide (65535 < da) = true := decide_eq_true x2
            have HG := hide (HNO.out (fun h => by have := HB.out.1 da (by simp) h; omega) w5 B0.out)
            clear x1 x2
            go_wp2
            go_ret
            exact HG.out
          have z2 : decide (65535 < da) = false := decide_eq_false x2
          have HE2 := hide (show okL 65535 [fl, me, da, ck] 3 from fun x hx => by
            simp at hx
            rcases hx with hx | hx | hx
            · exact HE.out x (by simp [hx])
            · exact HE.out x (by simp [hx])
            · subst hx; omega)
          clear x1 x2
          go_wp2
          go_round
          case rel => exact ⟨3, by decide, by go_num, HE2⟩
          case measure => decide
        · by_cases x1 : ck < 0
          · have HG := hide (HNO.out (fun h => by have := HB.out.1 ck (by simp) h; omega) w5 B0.out)
            go_wp2
            go_ret
            exact HG.out
          have z1 : decide (ck < 0) = false := decide_eq_false x1
          by_cases x2 : 65535 < ck
          · have z2 : decide (65535 < ck) = true := decide_eq_true x2
            have HG := hide (HNO.out (fun h => by have := HB.out.1 ck (by simp) h; omega) w5 B0.out)
            clear x1 x2
            go_wp2
            go_ret
            exact HG.out
          have z2 : decide (65535 < ck) = false := decide_eq_false x2
          have HE2 := hide (show okL 65535 [fl, me, da, ck] 4 from fun x hx => by
            simp at hx
            rcases hx with hx | hx | hx | hx
            · exact HE.out x (by simp [hx])
            · exact HE.out x (by simp [hx])
            · exact HE.out x (by simp [hx])
            · subst hx; omega)
          clear x1 x2
          go_wp2
          go_round
          case rel => exact ⟨4, by decide, by go_num, HE2⟩
          case measure => decide
      · obtain rfl : j = 4 := by omega
        have HF := HE
        clear HE hlt hj
        go_wp2
        go_loop [36] (fun iv => ∃ j : Nat, j ≤ 3 ∧ iv = .int .i64 (j : Nat) ∧ Hid (okL 4611686018427387903 [sz, pk, at_] j)) (fun iv => 3 - (intOf iv).toNat)
        case atStart => exact ⟨0, Nat.zero_le _, rfl, hide (fun x hx => by simp at hx)⟩
        case round =>
          obtain ⟨j, hj, rfl, HE⟩ := hrel
          by_cases hlt : j < 3
          · rcases (show j = 0 ∨ j = 1 ∨ j = 2 by omega) with rfl | rfl | rfl
            · by_cases x1 : sz < 0
              · have HG := hide (HNO.out (fun h => by have := HB.out.2 sz (by simp) h; omega) w5 B0.out)
                go_wp2
                go_ret
                exact HG.out
              have z1 : decide (sz < 0) = false := decide_eq_false x1
              by_cases x2 : 4611686018427387903 < sz
              · have z2 : decide (4611686018427387903 < sz) = true := decide_eq_true x2
                have HG := hide (HNO.out (fun h => by have := HB.out.2 sz (by simp) h; omega) w5 B0.out)
                clear x1 x2
                go_wp2
                go_ret
                exact HG.out
              have z2 : decide (4611686018427387903 < sz) = false := decide_eq_false x2
              have HE2 := hide (show okL 4611686018427387903 [sz, pk, at_] 1 from fun x hx => by
                simp at hx
                subst hx
                omega)
              clear x1 x2
              go_wp2
              go_round
              case rel => exact ⟨1, by decide, by go_num, HE2⟩
              case measure => decide
            · by_cases x1 : pk < 0
              · have HG := hide (HNO.out (fun h => by have := HB.out.2 pk (by simp) h; omega) w5 B0.out)
                go_wp2
                go_ret
                exact HG.out
              have z1 : decide (pk < 0) = false := decide_eq_false x1
              by_cases x2 : 4611686018427387903 < pk
              · have z2 : decide (4611686018427387903 < pk) = true := decide_eq_true x2
                have HG := hide (HNO.out (fun h => by have := HB.out.2 pk (by simp) h; omega) w5 B0.out)
                clear x1 x2
                go_wp2
                go_ret
                exact HG.out
              have z2 : decide (4611686018427387903 < pk) = false := decide_eq_false x2
              have HE2 := hide (show okL 4611686018427387903 [sz, pk, at_] 2 from fun x hx => by
                simp at hx
                rcases hx with hx | hx
                · exact HE.out x (by simp [hx])
                · subst hx; omega)
              clear x1 x2
              go_wp2
              go_round
              case rel => exact ⟨2, by decide, by go_num, HE2⟩
              case measure => decide
            · by_cases x1 : at_ < 0
              · have HG := hide (HNO.out (fun h => by have := HB.out.2 at_ (by simp) h; omega) w5 B0.out)
                go_wp2
                go_ret
                exact HG.out
              have z1 : decide (at_ < 0) = false := decide_eq_false x1
              by_cases x2 : 4611686018427387903 < at_
              · have z2 : decide (4611686018427387903 < at_) = true := decide_eq_true x2
                have HG := hide (HNO.out (fun h => by have := HB.out.2 at_ (by simp) h; omega) w5 B0.out)
                clear x1 x2
                go_wp2
                go_ret
                exact HG.out
              have z2 : decide (4611686018427387903 < at_) = false := decide_eq_false x2
              have HE2 := hide (show okL 4611686018427387903 [sz, pk, at_] 3 from fun x hx => by
                simp at hx
                rcases hx with hx | hx | hx
                · exact HE.out x (by simp [hx])
                · exact HE.out x (by simp [hx])
                · subst hx; omega)
              clear x1 x2
              go_wp2
              go_round
              case rel => exact ⟨3, by decide, by go_num, HE2⟩
              case measure => decide
          · obtain rfl : j = 3 := by omega
            by_cases y1 : 0 ≤ su
            case neg =>
              have HG := hide (HNO.out (fun h => y1 (HS.out h).1.1) w5 B0.out)
              have k1 : decide (su < 0) = true := decide_eq_true (by omega)
              go_wp2
              go_ret
              exact HG.out
            by_cases y2 : su ≤ 4294967295
            case neg =>
              have HG := hide (HNO.out (fun h => y2 (HS.out h).1.2) w5 B0.out)
              go_wp2
              go_ret
              exact HG.out
            by_cases y3 : (nm.size : Int) ≤ 65535
            case neg =>
              have HG := hide (HNO.out (fun h => y3 (by have := (HS.out h).2.1; omega)) w5 B0.out)
              go_wp2
              go_ret
              exact HG.out
            by_cases y4 : (nt.size : Int) ≤ 65535
            case neg =>
              have HG := hide (HNO.out (fun h => y4 (by have := (HS.out h).2.2; omega)) w5 B0.out)
              go_wp2
              go_ret
              exact HG.out
            have HG := hide (HYES.out (HMK.out HF.out HE.out ⟨y1, y2⟩ (by omega) (by omega)) w5 B0.out)
            go_wp2
            go_ret
            exact HG.out
  | false =>
    have hmo : mo = 4294967294 := by rw [← HMO.out]; rfl
    subst hmo
    clear HMO
    go_enter Try.func11, Try.ntmps11
    go_wp2
    generalize hw5 : W.alloc (.cells #[.string nm, .string nt, .int .i64 fl, .int .i64 me, .int .i64 da, .int .i64 ck, .int .i64 su, .int .i64 sz, .int .i64 pk, .int .i64 at_, .bool false] 23) = w5 at *
    have HQ := hide (show w5.heap[W.heap.size]? = some (.cells #[.string nm, .string nt, .int .i64 fl, .int .i64 me, .int .i64 da, .int .i64 ck, .int .i64 su, .int .i64 sz, .int .i64 pk, .int .i64 at_, .bool false] 23 (0, 0)) by rw [← hw5]; exact rec_new _ _ _)
    clear hw5
    obtain ⟨g0, g1, g2, g3, g4, g5, g6, g7, g8, g9, g10⟩ := rec_cells HQ.out
    go_loop [19] (fun iv => ∃ j : Nat, j ≤ 4 ∧ iv = .int .i64 (j : Nat) ∧ Hid (okL 65535 [fl, me, da, ck] j)) (fun iv => 4 - (intOf iv).toNat)
    case atStart => exact ⟨0, Nat.zero_le _, rfl, hide (fun x hx => by simp at hx)⟩
    case round =>
      obtain ⟨j, hj, rfl, HE⟩ := hrel
      by_cases hlt : j < 4
      · rcases (show j = 0 ∨ j = 1 ∨ j = 2 ∨ j = 3 by omega) with rfl | rfl | rfl | rfl
        · by_cases x1 : fl < 0
          · have HG := hide (HNO.out (fun h => by have := HB.out.1 fl (by simp) h; omega) w5 B0.out)
            go_wp2
            go_ret
            exact HG.out
          have z1 : decide (fl < 0) = false := decide_eq_false x1
          by_cases x2 : 65535 < fl
          · have z2 : decide (65535 < fl) = true := decide_eq_true x2
            have HG := hide (HNO.out (fun h => by have := HB.out.1 fl (by simp) h; omega) w5 B0.out)
            clear x1 x2
            go_wp2
            go_ret
            exact HG.out
          have z2 : decide (65535 < fl) = false := decide_eq_false x2
          have HE2 := hide (show okL 65535 [fl, me, da, ck] 1 from fun x hx => by
            simp at hx
            subst hx
            omega)
          clear x1 x2
          go_wp2
          go_round
          case rel => exact ⟨1, by decide, by go_num, HE2⟩
          case measure => decide
        · by_cases x1 : me < 0
          · have HG := hide (HNO.out (fun h => by have := HB.out.1 me (by simp) h; omega) w5 B0.out)
            go_wp2
            go_ret
            exact HG.out
          have z1 : decide (me < 0) = false := decide_eq_false x1
          by_cases x2 : 65535 < me
          · have z2 : decide (65535 < me) = true := decide_eq_true x2
            have HG := hide (HNO.out (fun h => by have := HB.out.1 me (by simp) h; omega) w5 B0.out)
            clear x1 x2
            go_wp2
            go_ret
            exact HG.out
          have z2 : decide (65535 < me) = false := decide_eq_false x2
          have HE2 := hide (show okL 65535 [fl, me, da, ck] 2 from fun x hx => by
            simp at hx
            rcases hx with hx | hx
            · exact HE.out x (by simp [hx])
            · subst hx; omega)
          clear x1 x2
          go_wp2
          go_round
          case rel => exact ⟨2, by decide, by go_num, HE2⟩
          case measure => decide
        · by_cases x1 : da < 0
          · have HG := hide (HNO.out (fun h => by have := HB.out.1 da (by simp) h; omega) w5 B0.out)
            go_wp2
            go_ret
            exact HG.out
          have z1 : decide (da < 0) = false := decide_eq_false x1
          by_cases x2 : 65535 < da
          · have z2 : decide (65535 < da) = true := decide_eq_true x2
            have HG := hide (HNO.out (fun h => by have := HB.out.1 da (by simp) h; omega) w5 B0.out)
            clear x1 x2
            go_wp2
            go_ret
            exact HG.out
          have z2 : decide (65535 < da) = false := decide_eq_false x2
          have HE2 := hide (show okL 65535 [fl, me, da, ck] 3 from fun x hx => by
            simp at hx
            rcases hx with hx | hx | hx
            · exact HE.out x (by simp [hx])
            · exact HE.out x (by simp [hx])
            · subst hx; omega)
          clear x1 x2
          go_wp2
          go_round
          case rel => exact ⟨3, by decide, by go_num, HE2⟩
          case measure => decide
        · by_cases x1 : ck < 0
          · have HG := hide (HNO.out (fun h => by have := HB.out.1 ck (by simp) h; omega) w5 B0.out)
            go_wp2
            go_ret
            exact HG.out
          have z1 : decide (ck < 0) = false := decide_eq_false x1
          by_cases x2 : 65535 < ck
          · have z2 : decide (65535 < ck) = true := decide_eq_true x2
            have HG := hide (HNO.out (fun h => by have := HB.out.1 ck (by simp) h; omega) w5 B0.out)
            clear x1 x2
            go_wp2
            go_ret
            exact HG.out
          have z2 : decide (65535 < ck) = false := decide_eq_false x2
          have HE2 := hide (show okL 65535 [fl, me, da, ck] 4 from fun x hx => by
            simp at hx
            rcases hx with hx | hx | hx | hx
            · exact HE.out x (by simp [hx])
            · exact HE.out x (by simp [hx])
            · exact HE.out x (by simp [hx])
            · subst hx; omega)
          clear x1 x2
          go_wp2
          go_round
          case rel => exact ⟨4, by decide, by go_num, HE2⟩
          case measure => decide
      · obtain rfl : j = 4 := by omega
        have HF := HE
        clear HE hlt hj
        go_wp2
        go_loop [36] (fun iv => ∃ j : Nat, j ≤ 3 ∧ iv = .int .i64 (j : Nat) ∧ Hid (okL 4294967294 [sz, pk, at_] j)) (fun iv => 3 - (intOf iv).toNat)
        case atStart => exact ⟨0, Nat.zero_le _, rfl, hide (fun x hx => by simp at hx)⟩
        case round =>
          obtain ⟨j, hj, rfl, HE⟩ := hrel
          by_cases hlt : j < 3
          · rcases (show j = 0 ∨ j = 1 ∨ j = 2 by omega) with rfl | rfl | rfl
            · by_cases x1 : sz < 0
              · have HG := hide (HNO.out (fun h => by have := HB.out.2 sz (by simp) h; omega) w5 B0.out)
                go_wp2
                go_ret
                exact HG.out
              have z1 : decide (sz < 0) = false := decide_eq_false x1
              by_cases x2 : 4294967294 < sz
              · have z2 : decide (4294967294 < sz) = true := decide_eq_true x2
                have HG := hide (HNO.out (fun h => by have := HB.out.2 sz (by simp) h; omega) w5 B0.out)
                clear x1 x2
                go_wp2
                go_ret
                exact HG.out
              have z2 : decide (4294967294 < sz) = false := decide_eq_false x2
              have HE2 := hide (show okL 4294967294 [sz, pk, at_] 1 from fun x hx => by
                simp at hx
                subst hx
                omega)
              clear x1 x2
              go_wp2
              go_round
              case rel => exact ⟨1, by decide, by go_num, HE2⟩
              case measure => decide
            · by_cases x1 : pk < 0
              · have HG := hide (HNO.out (fun h => by have := HB.out.2 pk (by simp) h; omega) w5 B0.out)
                go_wp2
                go_ret
                exact HG.out
              have z1 : decide (pk < 0) = false := decide_eq_false x1
              by_cases x2 : 4294967294 < pk
              · have z2 : decide (4294967294 < pk) = true := decide_eq_true x2
                have HG := hide (HNO.out (fun h => by have := HB.out.2 pk (by simp) h; omega) w5 B0.out)
                clear x1 x2
                go_wp2
                go_ret
                exact HG.out
              have z2 : decide (4294967294 < pk) = false := decide_eq_false x2
              have HE2 := hide (show okL 4294967294 [sz, pk, at_] 2 from fun x hx => by
                simp at hx
                rcases hx with hx | hx
                · exact HE.out x (by simp [hx])
                · subst hx; omega)
              clear x1 x2
              go_wp2
              go_round
              case rel => exact ⟨2, by decide, by go_num, HE2⟩
              case measure => decide
            · by_cases x1 : at_ < 0
              · have HG := hide (HNO.out (fun h => by have := HB.out.2 at_ (by simp) h; omega) w5 B0.out)
                go_wp2
                go_ret
                exact HG.out
              have z1 : decide (at_ < 0) = false := decide_eq_false x1
              by_cases x2 : 4294967294 < at_
              · have z2 : decide (4294967294 < at_) = true := decide_eq_true x2
                have HG := hide (HNO.out (fun h => by have := HB.out.2 at_ (by simp) h; omega) w5 B0.out)
                clear x1 x2
                go_wp2
                go_ret
                exact HG.out
              have z2 : decide (4294967294 < at_) = false := decide_eq_false x2
              have HE2 := hide (show okL 4294967294 [sz, pk, at_] 3 from fun x hx => by
                simp at hx
                rcases hx with hx | hx | hx
                · exact HE.out x (by simp [hx])
                · exact HE.out x (by simp [hx])
                · subst hx; omega)
              clear x1 x2
              go_wp2
              go_round
              case rel => exact ⟨3, by decide, by go_num, HE2⟩
              case measure => decide
          · obtain rfl : j = 3 := by omega
            by_cases y1 : 0 ≤ su
            case neg =>
              have HG := hide (HNO.out (fun h => y1 (HS.out h).1.1) w5 B0.out)
              have k1 : decide (su < 0) = true := decide_eq_true (by omega)
              go_wp2
              go_ret
              exact HG.out
            by_cases y2 : su ≤ 4294967295
            case neg =>
              have HG := hide (HNO.out (fun h => y2 (HS.out h).1.2) w5 B0.out)
              go_wp2
              go_ret
              exact HG.out
            by_cases y3 : (nm.size : Int) ≤ 65535
            case neg =>
              have HG := hide (HNO.out (fun h => y3 (by have := (HS.out h).2.1; omega)) w5 B0.out)
              go_wp2
              go_ret
              exact HG.out
            by_cases y4 : (nt.size : Int) ≤ 65535
            case neg =>
              have HG := hide (HNO.out (fun h => y4 (by have := (HS.out h).2.2; omega)) w5 B0.out)
              go_wp2
              go_ret
              exact HG.out
            have HG := hide (HYES.out (HMK.out HF.out HE.out ⟨y1, y2⟩ (by omega) (by omega)) w5 B0.out)
            go_wp2
            go_ret
            exact HG.out

end Go.Proofs.Ytbjjcjcobiokcaa
