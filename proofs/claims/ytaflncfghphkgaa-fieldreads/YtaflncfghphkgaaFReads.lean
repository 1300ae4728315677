/- Whatever is read of any bytes, from any place on, is the document's: 'FieldReads' answers true. No condition. -/
import Derived.Test.YtaflncfghphkgaaFArgs
import Derived.Deep.RegionHeld3
import Derived.Deep.DeepCutAuto
import Derived.Deep.CutBlock
namespace Go.Proofs.Ytaflncfghphkgaa
open Go.RowKit Go.Lib Go.Deep

theorem bel_drew {B : Nat} {w w' : World} (h : Below B w w') (n : Nat) : Below B w (w'.drewN n) := ⟨h.os, h.tape, h.output, h.size, h.block⟩

theorem only_below {B : Nat} {w w' : World} (h : Only B w.drew w') : Below B w w' := ⟨h.os, h.tape, h.output, Nat.le_of_eq h.size.symm, fun k hk => h.block k (by omega)⟩

theorem cur_drew {T : TypeId} {w w' : World} {p q : Nat} {s : ByteArray} {i : Int} {bad : Bool} (h : CurAt T w p s i bad) (ho : Only q w.drew w') (hq : p ≠ q) : CurAt T w' p s i bad := h.block (ho.block p hq)

/-- Two cursors of one text, side by side. -/
structure Two (w : World) (p q : Nat) (s : ByteArray) (i : Int) (bad : Bool) : Prop where
  a : CurAt 28 w p s i bad
  b : CurAt 30 w q s i bad
  le : i ≤ 9223372036854775807

set_option maxRecDepth 100000 in
set_option maxHeartbeats 4000000 in
theorem freads_walk (s : ByteArray) (at' : Int) (hat : at' ≤ 9223372036854775807) (a : Option Addr) (len cap : Nat) (l : List (Int × Int)) (w : World) (h : RowAt w PairC 2 a len l) (hsm : s.size ≤ maxLen) :
    Calls Try.prog 4 #[.string s, .int .i64 at', .slice a len cap] w fun e w' => e = .returned (.bool true) ∧ Below w.heap.size w w' := by
  have H := hide h
  have HAT := hide hat
  have hm := h.lenMax
  unfold maxLen at hm hsm
  clear h hat
  by_cases hbig : 1000 < s.size
  · go_enter Try.func4, Try.ntmps4
    go_wp2_with (first | (go_at_call 8; refine (fawake_any _).mono ?_; rintro e wa ⟨rfl, ba⟩; have BA := hide ba; clear ba))
    go_ret
    exact ⟨rfl, BA.out⟩
  by_cases hbig2 : 100 < len
  · go_enter Try.func4, Try.ntmps4
    go_wp2_with (first | (go_at_call 8; refine (fawake_any _).mono ?_; rintro e wa ⟨rfl, ba⟩; have BA := hide ba; clear ba))
    go_ret
    exact ⟨rfl, BA.out⟩
  have hs12 : s.size ≤ 1000000000000 := by omega
  go_enter Try.func4, Try.ntmps4
  go_wp2
  have P0 : Hid (Two ((w.alloc (.cells #[.string s, .int .i64 at', .bool false] 28)).alloc (.cells #[.string s, .int .i64 at', .bool false] 30)) w.heap.size (w.heap.size + 1) s at' false) := by
    have h1 := CurAt.made 28 w s at'
    have h2 := CurAt.made 30 (w.alloc (.cells #[.string s, .int .i64 at', .bool false] 28)) s at'
    exact hide ⟨(Below.heap_alloc _ _ _ (by simp)).trans h1, by simpa using h2, HAT.out⟩
  have B0 := hide (((Below.refl _ w).alloc (Nat.le_refl _) (.cells #[.string s, .int .i64 at', .bool false] 28)).alloc (by simp) (.cells #[.string s, .int .i64 at', .bool false] 30))
  go_loopw [9] (fun c wr => ∃ (k : Nat) (i : Int) (bad : Bool), k ≤ len ∧ c = .int .i64 k ∧ Hid (Two wr w.heap.size (w.heap.size + 1) s i bad) ∧ Hid (Below w.heap.size w wr)) (fun c _ => len - (intOf c).toNat)
  case atStart => exact ⟨0, at', false, Nat.zero_le _, rfl, P0, B0⟩
  case round =>
    obtain ⟨k, i, bad, hk, rfl, HP, HB⟩ := hrel
    by_cases hlt : k < len
    · have hl := H.out.lenEq
      obtain ⟨x, hx⟩ : ∃ x, l[k]? = some x := ⟨l[k]'(by omega), List.getElem?_eq_getElem (by omega)⟩
      obtain ⟨b, off, rfl, hbl, hc⟩ := H.out.cells k x hx
      obtain ⟨kd, n⟩ := x
      have _ck : wr.cell? ⟨b, off + k * 2, none⟩ = some (.int .i64 kd) := (HB.out.cell (p := ⟨b, off + k * 2, none⟩) hbl).trans hc.1
      have _cn : wr.cell? ⟨b, off + k * 2 + 1, none⟩ = some (.int .i64 n) := (HB.out.cell (p := ⟨b, off + k * 2 + 1, none⟩) hbl).trans hc.2.1
      clear hx hc hl
      go_upto_block 2 with fail
      go_cut [] (fun wx => ∃ (i : Int) (bad : Bool), Hid (Two wx w.heap.size (w.heap.size + 1) s i bad) ∧ Hid (Below w.heap.size w wx))
      case first =>
        have hpb : w.heap.size ≠ w.heap.size + 1 := by omega
        have hba : b ≠ w.heap.size := by omega
        have hbb : b ≠ w.heap.size + 1 := by omega
        by_cases k0 : kd = 0
        · have kb : (kd == 0) = true := by simp [k0]
          clear k0
          go_wp2_with fail
          refine (cu16_any _ s _ i bad HP.out.a HP.out.le hs12).mono ?_
          rintro e w1 ⟨rfl, ha, oa⟩
          have HA := hide ha
          have OA := hide oa
          clear ha oa
          go_wp2_with fail
          refine (qu16_any _ s _ i bad (HP.out.b.only OA.out (by omega)) HP.out.le hs12).mono ?_
          rintro e w2 ⟨rfl, hb, ob⟩
          have HA2 := hide (HA.out.only ob (by omega))
          have HB2 := hide hb
          have BB := hide ((HB.out.trans (OA.out.below (Nat.le_refl _))).trans (ob.below (by omega)))
          clear hb ob
          go_wp2
          go_meet
          exact ⟨_, _, ⟨HA2.out, HB2.out, textI_le _ _ _ _ HP.out.le hs12⟩, BB⟩
        have kb0 : (kd == 0) = false := by simp [k0]
        clear k0
        by_cases k1 : kd = 1
        · have kb : (kd == 1) = true := by simp [k1]
          clear k1
          go_wp2_with fail
          refine (cu32_any _ s _ i bad HP.out.a HP.out.le hs12).mono ?_
          rintro e w1 ⟨rfl, ha, oa⟩
          have HA := hide ha
          have OA := hide oa
          clear ha oa
          go_wp2_with fail
          refine (qu32_any _ s _ i bad (HP.out.b.only OA.out (by omega)) HP.out.le hs12).mono ?_
          rintro e w2 ⟨rfl, hb, ob⟩
          have HA2 := hide (HA.out.only ob (by omega))
          have HB2 := hide hb
          have BB := hide ((HB.out.trans (OA.out.below (Nat.le_refl _))).trans (ob.below (by omega)))
          clear hb ob
          go_wp2
          go_meet
          exact ⟨_, _, ⟨HA2.out, HB2.out, textI_le _ _ _ _ HP.out.le hs12⟩, BB⟩
        have kb1 : (kd == 1) = false := by simp [k1]
        clear k1
        by_cases k2 : kd = 2
        · have kb : (kd == 2) = true := by simp [k2]
          clear k2
          go_wp2_with fail
          refine (cu64_any _ s _ i bad HP.out.a HP.out.le hs12).mono ?_
          rintro e w1 ⟨rfl, ha, oa⟩
          have HA := hide ha
          have OA := hide oa
          clear ha oa
          go_wp2_with fail
          refine (qu64_any _ s _ i bad (HP.out.b.only OA.out (by omega)) HP.out.le hs12).mono ?_
          rintro e w2 ⟨rfl, hb, ob⟩
          have HA2 := hide (HA.out.only ob (by omega))
          have HB2 := hide hb
          have BB := hide ((HB.out.trans (OA.out.below (Nat.le_refl _))).trans (ob.below (by omega)))
          clear hb ob
          go_wp2
          go_meet
          exact ⟨_, _, ⟨HA2.out, HB2.out, textI_le _ _ _ _ HP.out.le hs12⟩, BB⟩
        have kb2 : (kd == 2) = false := by simp [k2]
        clear k2
        by_cases k3 : kd = 3
        · have kb : (kd == 3) = true := by simp [k3]
          clear k3
          go_wp2_with fail
          go_region_held3 (fun w' => w'.cell? ⟨b, off + k * 2 + 1, none⟩ = some (.int .i64 n)) (go_keep) (first
            | (go_at_call 21; refine (ctext_any _ s _ i bad ?_ HP.out.le hs12 n).mono ?_; exact HP.out.a; rintro e w1 ⟨rfl, ha, oa⟩; have cA : w1.cell? ⟨b, off + k * 2 + 1, none⟩ = some (.int .i64 n) := (World.cell?_of_block (w := wr) (oa.block b hba)).trans _cn; have HA := hide ha; have OA := hide oa; clear ha oa)
            | (go_at_call 22; refine (qtext_any _ s _ i bad ?_ HP.out.le hs12 n).mono ?_; exact cur_drew HP.out.b OA.out hpb.symm; rintro e w2 ⟨rfl, hb, ob⟩; have cB : w2.cell? ⟨b, off + k * 2 + 1, none⟩ = some (.int .i64 n) := (World.cell?_of_block (ob.block b hbb)).trans cA; have HB2 := hide hb; have OB := hide ob; clear hb ob))
          have HA2 := hide (HA.out.only OB.out hpb)
          have BB := hide ((HB.out.trans (only_below OA.out)).trans (OB.out.below (Nat.le_succ _)))
          go_wp2
          go_meet
          exact ⟨_, _, ⟨HA2.out, HB2.out, textI_le _ _ _ _ HP.out.le hs12⟩, BB⟩
        · have kb3 : (kd == 3) = false := by simp [k3]
          clear k3
          go_wp2
          go_meet
          exact ⟨i, bad, HP, HB⟩
      case rest =>
        obtain ⟨i, bad, HP, HB⟩ := hcut
        have _a1 := HP.out.a.c1
        have _b1 := HP.out.b.c1
        have _a2 := HP.out.a.c2
        have _b2 := HP.out.b.c2
        cases bad
        all_goals
          go_wp2_with fail
          go_quiet ((first | (go_at_call 23; exact Calls.quiet_of (cdone_any _ s _ i _ (HP.out.a.drew2 _))) | (go_at_call 24; exact Calls.quiet_of (qdone_any _ s _ i _ (HP.out.b.drew2 _)))))
          go_wp2
          go_roundw
          case rel => exact ⟨k + 1, i, _, by omega, by go_num, ⟨HP.out.a.drew2 _, HP.out.b.drew2 _, HP.out.le⟩, bel_drew HB.out _⟩
          case measure => simp [intOf]; omega
    · have hkl : k = len := by omega
      subst hkl
      go_wp2_with (first | (go_at_call 8; refine (fawake_any _).mono ?_; rintro e wa ⟨rfl, ba⟩; have BA := hide ba; clear ba))
      go_ret
      exact ⟨rfl, HB.out.trans (BA.out.mono HB.out.size)⟩

theorem freads_law {H : Type} {enc : TypeId × Value → H} {d : DataW H} {p : List MemPlace} {base : Nat} (w : World) (s : ByteArray) (hs : s.size ≤ maxLen) (n : Int) (hn : (Lit.int .i64 n).wf = true) (v : Value) (hv : Value.okWide Try.prog w .any base 25 v) (h : DataW.Trod enc Try.prog w 0 (fun _ => true) true 25 v d p) :
    Calls Try.prog 4 #[.string s, .int .i64 n, v] w fun e w' => e = .returned (.bool true) ∧ Below w.heap.size w w' := by
  obtain ⟨a, len, cap, l, rfl, hl⟩ := open_pairs hv h
  exact freads_walk s n (bounds_i64 hn).2 a len cap l w hl hs

end Go.Proofs.Ytaflncfghphkgaa
