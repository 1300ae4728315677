/- Whatever is read of any bytes is the document's: 'BitsReads' answers true. No condition. -/
import Derived.Test.YtlhffiepmhlmpaaActs
import Derived.Test.YtlhffiepmhlmpaaRefR2
import Derived.Deep.RegionHeld3
import Derived.Deep.DeepCutAuto
import Derived.Deep.CutBlock
namespace Go.Proofs.Ytlhffiepmhlmpaa
open Go.RowKit Go.Lib Go.Deep

theorem bel_drew {B : Nat} {w w' : World} (h : Below B w w') (n : Nat) : Below B w (w'.drewN n) := ⟨h.os, h.tape, h.output, h.size, h.block⟩

theorem only_below {B : Nat} {w w' : World} (h : Only B w.drew w') : Below B w w' := ⟨h.os, h.tape, h.output, Nat.le_of_eq h.size.symm, fun k hk => h.block k (by omega)⟩

theorem rd_drew {T : TypeId} {w w' : World} {p q : Nat} {s : ByteArray} {i : Nat} {bad : Bool} (h : RdAt T w p s i bad) (ho : Only q w.drew w') (hq : p ≠ q) : RdAt T w' p s i bad := by
  unfold RdAt at h ⊢; rw [ho.block p hq]; exact h

/-- Two readers of one text, side by side. -/
structure Pair (w : World) (p q : Nat) (s : ByteArray) (i j : Nat) (bad : Bool) : Prop where
  a : RdAt 26 w p s i bad
  b : RdAt 28 w q s j bad
  ia : i ≤ 8 * s.size
  jb : j ≤ 8 * s.size
  same : bad = false → i = j

set_option maxRecDepth 100000 in
set_option maxHeartbeats 4000000 in
theorem reads_walk (s : ByteArray) (a : Option Addr) (len cap : Nat) (l : List ActV) (w : World) (h : ActsAt w a len cap l) (hsm : s.size ≤ maxLen) :
    Calls Try.prog 3 #[.string s, .slice a len cap] w fun e w' => e = .returned (.bool true) ∧ Below w.heap.size w w' := by
  have H := hide h
  have hm := h.lenMax
  unfold maxLen at hm hsm
  clear h
  by_cases hbig : 1000 < s.size
  · go_enter Try.func3, Try.ntmps3
    go_wp2_with (first | (go_at_call 7; refine (awake_any _).mono ?_; rintro e wa ⟨rfl, ba⟩; have BA := hide ba; clear ba))
    go_ret
    exact ⟨rfl, BA.out⟩
  by_cases hbig2 : 100 < len
  · go_enter Try.func3, Try.ntmps3
    go_wp2_with (first | (go_at_call 7; refine (awake_any _).mono ?_; rintro e wa ⟨rfl, ba⟩; have BA := hide ba; clear ba))
    go_ret
    exact ⟨rfl, BA.out⟩
  go_enter Try.func3, Try.ntmps3
  go_wp2
  have P0 : Hid (Pair ((w.alloc (.cells #[.string s, .int .i64 0, .bool false] 26)).alloc (.cells #[.string s, .int .i64 0, .bool false] 28)) w.heap.size (w.heap.size + 1) s 0 0 false) := by
    have h1 := RdAt.made 26 w s 0
    have h2 := RdAt.made 28 (w.alloc (.cells #[.string s, .int .i64 ((0 : Nat) : Int), .bool false] 26)) s 0
    exact hide ⟨(Below.heap_alloc _ _ _ (by simp)).trans h1, by simpa using h2, Nat.zero_le _, Nat.zero_le _, fun _ => rfl⟩
  have B0 := hide (((Below.refl _ w).alloc (Nat.le_refl _) (.cells #[.string s, .int .i64 0, .bool false] 26)).alloc (by simp) (.cells #[.string s, .int .i64 0, .bool false] 28))
  go_loopw [7] (fun c wr => ∃ (k i j : Nat) (bad : Bool), k ≤ len ∧ c = .int .i64 k ∧ Hid (Pair wr w.heap.size (w.heap.size + 1) s i j bad) ∧ Hid (Below w.heap.size w wr)) (fun c _ => len - (intOf c).toNat)
  case atStart => exact ⟨0, 0, 0, false, Nat.zero_le _, rfl, P0, B0⟩
  case round =>
    obtain ⟨k, i, j, bad, hk, rfl, HP, HB⟩ := hrel
    by_cases hlt : k < len
    · have hl := H.out.lenEq
      obtain ⟨x, hx⟩ : ∃ x, l[k]? = some x := ⟨l[k]'(by omega), List.getElem?_eq_getElem (by omega)⟩
      obtain ⟨b, off, rfl, hbl, hc, _⟩ := H.out.cells k x hx
      have _ck : wr.cell? ⟨b, off + k * 4, none⟩ = some (.int .i64 x.kind) := (HB.out.cell (p := ⟨b, off + k * 4, none⟩) hbl).trans hc.kind
      have HC := hide hc
      clear hx hc hl
      go_upto_block 2 with fail
      go_cut [] (fun wx => ∃ (i j : Nat) (bad : Bool), Hid (Pair wx w.heap.size (w.heap.size + 1) s i j bad) ∧ Hid (Below w.heap.size w wx))
      case first =>
        have hpb : w.heap.size ≠ w.heap.size + 1 := by omega
        have hba : b ≠ w.heap.size := by omega
        have hbb : b ≠ w.heap.size + 1 := by omega
        by_cases k0 : x.kind = 0
        · have kb : (x.kind == 0) = true := by simp [k0]
          clear k0
          cases bad
          · obtain rfl := HP.out.same rfl
            have hib := HP.out.ia
            by_cases hin : i / 8 < s.size
            · go_wp2_with fail
              refine (rbit_ok _ s i _ HP.out.a hin (by omega)).mono ?_
              rintro e w1 ⟨rfl, ha, oa⟩
              have HA := hide ha
              have OA := hide oa
              clear ha oa
              go_wp2_with fail
              refine (qbit_ok _ s i _ (HP.out.b.only OA.out (by omega)) hin (by omega)).mono ?_
              rintro e w2 ⟨rfl, hb, ob⟩
              have HA2 := hide (HA.out.only ob (by omega))
              have HB2 := hide hb
              have BB := hide ((HB.out.trans (OA.out.below (Nat.le_refl _))).trans (ob.below (by omega)))
              clear hb ob
              go_wp2
              go_meet
              exact ⟨i + 1, i + 1, false, ⟨HA2.out, HB2.out, by omega, by omega, fun _ => rfl⟩, BB⟩
            · go_wp2_with fail
              refine (rbit_end _ s i _ HP.out.a (by omega)).mono ?_
              rintro e w1 ⟨rfl, ha, oa⟩
              have HA := hide ha
              have OA := hide oa
              clear ha oa
              go_wp2_with fail
              refine (qbit_end _ s i _ (HP.out.b.only OA.out (by omega)) (by omega) hib (by omega)).mono ?_
              rintro e w2 ⟨rfl, hb, ob⟩
              have HA2 := hide (HA.out.only ob (by omega))
              have HB2 := hide hb
              have BB := hide ((HB.out.trans (OA.out.below (Nat.le_refl _))).trans (ob.below (by omega)))
              clear hb ob
              go_wp2
              go_meet
              exact ⟨i, i, true, ⟨HA2.out, HB2.out, by omega, by omega, fun _ => rfl⟩, BB⟩
          · go_wp2_with fail
            refine (rbit_bad _ s i _ HP.out.a).mono ?_
            rintro e w1 ⟨rfl, ha, oa⟩
            have HA := hide ha
            have OA := hide oa
            clear ha oa
            go_wp2_with fail
            refine (qbit_bad _ s j _ (HP.out.b.only OA.out (by omega))).mono ?_
            rintro e w2 ⟨rfl, hb, ob⟩
            have HA2 := hide (HA.out.only ob (by omega))
            have HB2 := hide hb
            have BB := hide ((HB.out.trans (OA.out.below (Nat.le_refl _))).trans (ob.below (by omega)))
            clear hb ob
            go_wp2
            go_meet
            exact ⟨i, j, true, ⟨HA2.out, HB2.out, HP.out.ia, HP.out.jb, fun e => by cases e⟩, BB⟩
        · have kb0 : (x.kind == 0) = false := by simp [k0]
          clear k0
          by_cases k1 : x.kind = 1 ∨ x.kind = 2
          · have k12 : ∃ r1 r2, (x.kind == 1) = r1 ∧ (x.kind == 2) = r2 ∧ (r1 || r2) = true := ⟨_, _, rfl, rfl, by rcases k1 with e | e <;> simp [e]⟩
            obtain ⟨r1, r2, kb1, kb2, kbb⟩ := k12
            have _cn : wr.cell? ⟨b, off + k * 4 + 2, none⟩ = some (.int .i64 x.n) := (HB.out.cell (p := ⟨b, off + k * 4 + 2, none⟩) hbl).trans HC.out.n
            clear k1
            obtain ⟨m, hm30, HM⟩ : ∃ m : Nat, m ≤ 30 ∧ Hid (takenI x.n = (m : Int)) := ⟨(takenI x.n).toNat, by have := takenI_bd x.n; omega, hide (by have := takenI_bd x.n; omega)⟩
            by_cases hok : bad = false ∧ i + m ≤ 8 * s.size
            · obtain ⟨rfl, hle⟩ := hok
              obtain rfl := HP.out.same rfl
              cases r1 <;> cases r2 <;> simp only [Bool.or_self, Bool.or_true, Bool.true_or, reduceCtorEq] at kbb
              all_goals
                go_wp2_with fail
                go_region_held3 (fun w' => w'.cell? ⟨b, off + k * 4 + 2, none⟩ = some (.int .i64 x.n)) (go_keep) (first
                  | (go_at_call 10; refine (rbits_ok _ s i x.n _ m HM.out ?_ hle (by omega)).mono ?_; exact HP.out.a; rintro e w1 ⟨rfl, ha, oa⟩; have cA : w1.cell? ⟨b, off + k * 4 + 2, none⟩ = some (.int .i64 x.n) := (World.cell?_of_block (w := wr) (oa.block b hba)).trans _cn; have HA := hide ha; have OA := hide oa; clear ha oa)
                  | (go_at_call 11; refine (qbits_ok _ s i x.n _ m HM.out ?_ hle (by omega)).mono ?_; exact rd_drew HP.out.b OA.out hpb.symm; rintro e w2 ⟨rfl, hb, ob⟩; have cB : w2.cell? ⟨b, off + k * 4 + 2, none⟩ = some (.int .i64 x.n) := (World.cell?_of_block (ob.block b hbb)).trans cA; have HB2 := hide hb; have OB := hide ob; clear hb ob))
                have HA2 := hide (HA.out.only OB.out hpb)
                have BB := hide ((HB.out.trans (only_below OA.out)).trans (OB.out.below (Nat.le_succ _)))
                go_wp2
                go_meet
                exact ⟨i + m, i + m, false, ⟨HA2.out, HB2.out, by omega, by omega, fun _ => rfl⟩, BB⟩
            · have hno : bad = true ∨ 8 * s.size < i + m := by
                cases bad
                · exact .inr (by simp at hok; omega)
                · exact .inl rfl
              have hno2 : bad = true ∨ 8 * s.size < j + m := by
                cases hb : bad
                · have := HP.out.same hb
                  rcases hno with e | e
                  · rw [hb] at e; cases e
                  · exact .inr (by omega)
                · exact .inl rfl
              have HN := hide hno
              have HN2 := hide hno2
              clear hok hno hno2
              cases r1 <;> cases r2 <;> simp only [Bool.or_self, Bool.or_true, Bool.true_or, reduceCtorEq] at kbb
              all_goals
                go_wp2_with fail
                go_region_held3 (fun w' => w'.cell? ⟨b, off + k * 4 + 2, none⟩ = some (.int .i64 x.n)) (go_keep) (first
                  | (go_at_call 10; refine (rbits_no _ s i bad x.n _ m HM.out ?_ HP.out.ia HN.out (by omega)).mono ?_; exact HP.out.a; rintro e w1 ⟨rfl, ⟨i', hi', ha⟩, oa⟩; have cA : w1.cell? ⟨b, off + k * 4 + 2, none⟩ = some (.int .i64 x.n) := (World.cell?_of_block (w := wr) (oa.block b hba)).trans _cn; have HA := hide ha; have OA := hide oa; clear ha oa)
                  | (go_at_call 11; refine (qbits_no _ s j bad x.n _ m HM.out ?_ HP.out.jb HN2.out (by omega)).mono ?_; exact rd_drew HP.out.b OA.out hpb.symm; rintro e w2 ⟨rfl, ⟨j', hj', hb⟩, ob⟩; have cB : w2.cell? ⟨b, off + k * 4 + 2, none⟩ = some (.int .i64 x.n) := (World.cell?_of_block (ob.block b hbb)).trans cA; have HB2 := hide hb; have OB := hide ob; clear hb ob))
                have HA2 := hide (HA.out.only OB.out hpb)
                have BB := hide ((HB.out.trans (only_below OA.out)).trans (OB.out.below (Nat.le_succ _)))
                go_wp2
                go_meet
                exact ⟨i', j', true, ⟨HA2.out, HB2.out, hi', hj', fun e => by cases e⟩, BB⟩
          · have kb1 : (x.kind == 1) = false := by simp; omega
            have kb2 : (x.kind == 2) = false := by simp; omega
            clear k1
            by_cases k3 : x.kind = 3
            · have kb3 : (x.kind == 3) = true := by simp [k3]
              clear k3
              go_wp2_with fail
              refine (ralign_any _ s i bad _ HP.out.a HP.out.ia (by omega)).mono ?_
              rintro e w1 ⟨rfl, ha, oa⟩
              have HA := hide ha
              have OA := hide oa
              clear ha oa
              go_wp2_with fail
              refine (qalign_any _ s j bad _ (HP.out.b.only OA.out (by omega)) HP.out.jb (by omega)).mono ?_
              rintro e w2 ⟨rfl, hb, ob⟩
              have HA2 := hide (HA.out.only ob (by omega))
              have HB2 := hide hb
              have BB := hide ((HB.out.trans (OA.out.below (Nat.le_refl _))).trans (ob.below (by omega)))
              clear hb ob
              go_wp2
              go_meet
              have h1 := HP.out.ia
              have h2 := HP.out.jb
              exact ⟨_, _, bad, ⟨HA2.out, HB2.out, by omega, by unfold alignAt; split <;> omega, fun e => by rw [HP.out.same e]; unfold alignAt; rw [e]; rfl⟩, BB⟩
            · have kb3 : (x.kind == 3) = false := by simp [k3]
              clear k3
              by_cases k4 : x.kind = 4
              · have kb4 : (x.kind == 4) = true := by simp [k4]
                have _cn : wr.cell? ⟨b, off + k * 4 + 2, none⟩ = some (.int .i64 x.n) := (HB.out.cell (p := ⟨b, off + k * 4 + 2, none⟩) hbl).trans HC.out.n
                clear k4
                by_cases hok : bad = false ∧ 0 ≤ x.n ∧ (((i + 7) / 8 : Nat) : Int) + x.n ≤ s.size
                · obtain ⟨rfl, hn0, hle⟩ := hok
                  obtain rfl := HP.out.same rfl
                  obtain ⟨m, HM⟩ : ∃ m : Nat, Hid (x.n = (m : Int)) := ⟨x.n.toNat, hide (by omega)⟩
                  have hle2 : (i + 7) / 8 + m ≤ s.size := by have := HM.out; omega
                  rw [HM.out] at _cn
                  clear hn0 hle
                  go_wp2_with fail
                  go_region_held3 (fun w' => w'.cell? ⟨b, off + k * 4 + 2, none⟩ = some (.int .i64 (m : Int))) (go_keep) (first
                    | (go_at_call 14; refine (rtext_ok _ s i m _ ?_ hle2 (by omega)).mono ?_; exact HP.out.a; rintro e w1 ⟨rfl, ha, oa⟩; have cA : w1.cell? ⟨b, off + k * 4 + 2, none⟩ = some (.int .i64 (m : Int)) := (World.cell?_of_block (w := wr) (oa.block b hba)).trans _cn; have HA := hide ha; have OA := hide oa; clear ha oa)
                    | (go_at_call 15; refine (qtext_ok _ s i m _ ?_ hle2 (by omega)).mono ?_; exact rd_drew HP.out.b OA.out hpb.symm; rintro e w2 ⟨rfl, hb, ob⟩; have cB : w2.cell? ⟨b, off + k * 4 + 2, none⟩ = some (.int .i64 (m : Int)) := (World.cell?_of_block (ob.block b hbb)).trans cA; have HB2 := hide hb; have OB := hide ob; clear hb ob))
                  have HA2 := hide (HA.out.only OB.out hpb)
                  have BB := hide ((HB.out.trans (only_below OA.out)).trans (OB.out.below (Nat.le_succ _)))
                  go_wp2
                  go_meet
                  exact ⟨_, _, false, ⟨HA2.out, HB2.out, by omega, by omega, fun _ => rfl⟩, BB⟩
                · have hno : bad = true ∨ x.n < 0 ∨ (s.size : Int) < ((i + 7) / 8 : Nat) + x.n := by
                    cases bad
                    · exact .inr (by simp at hok; omega)
                    · exact .inl rfl
                  have hno2 : bad = true ∨ x.n < 0 ∨ (s.size : Int) < ((j + 7) / 8 : Nat) + x.n := by
                    cases hb : bad
                    · rw [← HP.out.same hb]
                      rcases hno with e | e
                      · rw [hb] at e; cases e
                      · exact .inr e
                    · exact .inl rfl
                  have HN := hide hno
                  have HN2 := hide hno2
                  clear hok hno hno2
                  go_wp2_with fail
                  go_region_held3 (fun w' => w'.cell? ⟨b, off + k * 4 + 2, none⟩ = some (.int .i64 x.n)) (go_keep) (first
                    | (go_at_call 14; refine (rtext_no _ s i bad x.n _ ?_ HP.out.ia HN.out (by omega)).mono ?_; exact HP.out.a; rintro e w1 ⟨rfl, ⟨i', hi', ha⟩, oa⟩; have cA : w1.cell? ⟨b, off + k * 4 + 2, none⟩ = some (.int .i64 x.n) := (World.cell?_of_block (w := wr) (oa.block b hba)).trans _cn; have HA := hide ha; have OA := hide oa; clear ha oa)
                    | (go_at_call 15; refine (qtext_no _ s j bad x.n _ ?_ HP.out.jb HN2.out (by omega)).mono ?_; exact rd_drew HP.out.b OA.out hpb.symm; rintro e w2 ⟨rfl, ⟨j', hj', hb⟩, ob⟩; have cB : w2.cell? ⟨b, off + k * 4 + 2, none⟩ = some (.int .i64 x.n) := (World.cell?_of_block (ob.block b hbb)).trans cA; have HB2 := hide hb; have OB := hide ob; clear hb ob))
                  have HA2 := hide (HA.out.only OB.out hpb)
                  have BB := hide ((HB.out.trans (only_below OA.out)).trans (OB.out.below (Nat.le_succ _)))
                  go_wp2
                  go_meet
                  exact ⟨i', j', true, ⟨HA2.out, HB2.out, hi', hj', fun e => by cases e⟩, BB⟩
              · have kb4 : (x.kind == 4) = false := by simp [k4]
                clear k4
                go_wp2
                go_meet
                exact ⟨i, j, bad, HP, HB⟩
      case rest =>
        obtain ⟨i, j, bad, HP, HB⟩ := hcut
        have _a2 := HP.out.a.c2
        have _b2 := HP.out.b.c2
        cases bad
        · obtain rfl := HP.out.same rfl
          have _a1 := HP.out.a.c1
          have _b1 := HP.out.b.c1
          have hib := HP.out.ia
          go_wp2_with fail
          go_quiet ((first | (go_at_call 16; exact Calls.quiet_of_same (rused_q _ s i false _ (HP.out.a.drew2 _) hib (by omega))) | (go_at_call 17; exact Calls.quiet_of_same (qused_q _ s i false _ (HP.out.b.drew2 _) hib (by omega)))))
          go_wp2
          go_roundw
          case rel => exact ⟨k + 1, i, i, false, by omega, by go_num, ⟨HP.out.a.drew2 _, HP.out.b.drew2 _, hib, hib, fun _ => rfl⟩, bel_drew HB.out _⟩
          case measure => simp [intOf]; omega
        · go_wp2_with fail
          go_quiet (fail)
          go_wp2
          go_roundw
          case rel => exact ⟨k + 1, i, j, true, by omega, by go_num, ⟨HP.out.a.drew2 _, HP.out.b.drew2 _, HP.out.ia, HP.out.jb, fun e => by cases e⟩, bel_drew HB.out _⟩
          case measure => simp [intOf]; omega
    · have hkl : k = len := by omega
      subst hkl
      go_wp2_with (first | (go_at_call 7; refine (awake_any _).mono ?_; rintro e wa ⟨rfl, ba⟩; have BA := hide ba; clear ba))
      go_ret
      exact ⟨rfl, HB.out.trans (BA.out.mono HB.out.size)⟩

theorem reads_law {H : Type} {enc : TypeId × Value → H} {d : DataW H} {p : List MemPlace} {base : Nat} (w : World) (s : ByteArray) (hs : s.size ≤ maxLen) (v : Value) (hv : Value.okWide Try.prog w .any base 22 v) (h : DataW.Trod enc Try.prog w 0 (fun _ => true) true 22 v d p) :
    Calls Try.prog 3 #[.string s, v] w fun e w' => e = .returned (.bool true) ∧ Below w.heap.size w w' := by
  obtain ⟨a, len, cap, l, rfl, hl⟩ := open_acts hv h
  exact reads_walk s a len cap l w hl hs

end Go.Proofs.Ytlhffiepmhlmpaa
