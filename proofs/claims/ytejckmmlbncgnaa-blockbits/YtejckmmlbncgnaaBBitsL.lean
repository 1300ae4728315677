/- BlockBits, the walk: a block has as many bits as is said. -/
import Derived.Test.YtejckmmlbncgnaaBAwake
import Derived.Test.YtejckmmlbncgnaaBOpen
import Derived.Deep.DeepCutAuto
import Derived.Deep.CutBlock
import Derived.Test.YtejckmmlbncgnaaQBelow
namespace Go.Proofs.Ytejckmmlbncgnaa
open Go.RowKit Go.Lib

theorem store_size (bs : List Bool) (s : ByteArray) (last : Bool) (l : List (Nat × Int × Int)) (z : Int) (hs : s.size ≤ 65535) (h : SizeRel l (s.size : Int) 0 (bs.length : Int) z) : ((storeAll bs s last).length : Int) = (bs.length : Int) + z := by
  rcases h with ⟨_, rfl⟩ | ⟨e, _⟩
  · rw [storeAll_length]
    unfold rawSize
    rw [if_neg (by omega)]
    omega
  · exact absurd rfl e
theorem write_size {l : List (Nat × Int × Int)} {kind raw k z : Int} {bs ob : List Bool} (h : BlockRel l kind false ob) (hk : kind ≠ 0) (g : SizeRel l raw kind k z) : (((bs ++ ob).length : Nat) : Int) = (bs.length : Int) + z := by
  rcases g with ⟨e, _⟩ | ⟨_, ob2, h2, _, rfl⟩
  · exact absurd e hk
  · rw [h2.uniq h, List.length_append]
    omega

set_option maxRecDepth 20000 in
set_option maxHeartbeats 8000000 in
theorem bits_small (C : BSpec) (l : List (Nat × Int × Int)) (a : Option Addr) (cap : Nat) (s : ByteArray) (t0 : Nat) (W : World) (harg : ArgT W a l) (hnil : a = none → cap = 0) (hb : ∀ t ∈ l, t.1 < 256) (hl9 : l.length ≤ 9223372036854775807) (ht0 : t0 < 256) :
    Calls Try.prog 7 #[.slice a l.length cap, .string s, .int .u8 (t0 : Int)] W fun e w' => e = .returned (.bool true) ∧ Below W.heap.size W w' := by
  have HC := hide C
  have HA := hide harg
  have HRT := hide (right_any l a cap _ harg hl9)
  have HNIL := hide hnil
  obtain ⟨n, hn⟩ : ∃ n, l.length = n := ⟨_, rfl⟩
  have HN := hide hn
  rw [hn] at HRT ⊢
  have HHB := hide hb
  obtain ⟨m, hm⟩ : ∃ m, s.size = m := ⟨_, rfl⟩
  have HM := hide hm
  have zm : ((s.size : Nat) : Int) = (m : Int) := by omega
  obtain ⟨R, hR⟩ : ∃ R, rightB l = R := ⟨_, rfl⟩
  have HRB := hide hR
  rw [hR] at HRT
  have HOUT := hide (show ∀ w, Below W.heap.size W w → Calls Try.prog 9 #[] w fun e w' => e = .returned (.bool true) ∧ Below W.heap.size W w' from fun w h => (awake9_any HC.out w).mono fun e w' ⟨h1, h2⟩ => ⟨h1, h.trans (h2.mono h.size)⟩)
  clear C harg hn hl9 hb hR hnil hm
  go_enter Try.func7, Try.ntmps7
  go_wp2_with fail
  refine HRT.out.mono ?_
  rintro e w0 ⟨rfl, rfl⟩
  cases R with
  | false =>
    go_wp2_with fail
    refine (HOUT.out _ (Below.refl _ _)).mono ?_
    rintro e w9 ⟨rfl, b9⟩
    have B9 := hide b9
    clear b9
    go_wp2
    go_ret
    exact ⟨rfl, B9.out⟩
  | true =>
    by_cases hms : 500 < m
    · have zms : (500 : Int) < (m : Int) := by omega
      go_wp2_with fail
      refine (HOUT.out _ (Below.refl _ _)).mono ?_
      rintro e w9 ⟨rfl, b9⟩
      have B9 := hide b9
      clear b9
      go_wp2
      go_ret
      exact ⟨rfl, B9.out⟩
    · have zms : ¬ (500 : Int) < (m : Int) := by omega
      obtain ⟨hr, hl200⟩ := right_all HRB.out HHB.out
      have HR := hide hr
      have HL2 := hide (show l.length ≤ 2000 by omega)
      clear hr hl200
      obtain ⟨k, hk⟩ : ∃ k, t0 % 20 = k := ⟨_, rfl⟩
      have hk20 : k < 20 := by omega
      have zk : (t0 : Int) % 20 = (k : Int) := by omega
      have z0 : (t0 : Int) ≤ 255 := by omega
      clear hk
      go_wp2
      go_loopw [7] (fun c wr => ∃ j : Nat, j ≤ 3 ∧ c = .int .i64 (j : Nat) ∧ Hid (Below W.heap.size W wr)) (fun c _ => 3 - (intOf c).toNat)
      case atStart => exact ⟨0, by omega, rfl, hide (Below.refl _ _)⟩
      case round =>
        obtain ⟨j, hj, rfl, HBJ⟩ := hrel
        by_cases hlt : j < 3
        · have zj : (j : Int) < 3 := by omega
          have HB1 := hide (HBJ.out.alloc HBJ.out.size (.cells #[.slice none 0 0, .int .i64 0] 29))
          have HP1 := hide (wput_any wr.heap.size (.slice none 0 0) [] 0 (k : Int) _ k (takenI_nat k (by omega)) (new_wr wr) (by decide))
          have HPL := hide (show W.heap.size ≤ wr.heap.size from HBJ.out.size)
          go_wp2_with fail
          refine HP1.out.mono ?_
          rintro e w2 ⟨rfl, v2, hr2, hs2⟩
          rw [List.nil_append] at hr2
          have HR2 := hide hr2
          have HB2 := hide (hs2.new HB1.out HPL.out (fun g hg => by cases hg))
          have HV2 := hide (show ∀ g, v2.ownBlock = some g → W.heap.size ≤ g from fun g hg => by
            rcases hs2.own with e | e
            · rw [e] at hg; cases hg
            · have := e g hg
              have := HB1.out.size
              omega)
          clear hr2 hs2 HP1 HB1
          generalize wr.heap.size = p at HR2 HPL ⊢
          have hlb : (lowBits 0 k).length = k := lowBits_length 0 k
          have HLB := hide hlb
          have hlb2 : (lowBits 0 k).length ≤ 30 := by omega
          generalize lowBits 0 k = bs at HR2 HLB hlb2
          clear hlb
          go_upto_if 30 with fail
          go_cut [] (fun wx => ∃ v4 cs, Hid (Wr wx p v4 cs) ∧ Hid (Below W.heap.size W wx) ∧ cs.length ≤ 1000000 ∧ Hid (∀ z, SizeRel l (m : Int) (j : Int) (k : Int) z → ((cs.length : Nat) : Int) = (k : Int) + z))
          case first =>
            by_cases hj0 : j = 0
            · subst hj0
              have HS1 := hide (HC.out.store p v2 bs s false w2 HR2.out (by omega) (by rw [HM.out]; omega))
              have HSS := hide (store_size bs s false l)
              have HLS := hide (storeAll_length bs s false)
              go_wp2_with fail
              refine HS1.out.mono ?_
              rintro e w4 ⟨rfl, v4, hr4, hs4⟩
              have HR4 := hide hr4
              have HB4 := hide (hs4.new HB2.out HPL.out HV2.out)
              clear hr4 hs4 HS1
              go_wp2
              go_meet
              refine ⟨v4, _, HR4, HB4, ?_, hide (fun z hz => ?_)⟩
              · rw [HLS.out, HM.out]; omega
              · have h := HSS.out z (by rw [HM.out]; omega) (by rw [HM.out, HLB.out]; exact hz)
                rw [HLB.out] at h
                exact h
            · have zj0 : ((j : Int) == 0) = false := by simp; omega
              have HS1 := hide (HC.out.write l a cap (j : Int) false p v2 bs w2 HR2.out (by omega) (KT.fresh HA.out HB2.out HPL.out HV2.out) HNIL.out HR.out HL2.out)
              rw [HN.out] at HS1
              have HJ0 := hide (show (j : Int) ≠ 0 by omega)
              go_wp2_with fail
              refine HS1.out.mono ?_
              rintro e w4 ⟨rfl, ob, v4, hrel, hlen, hr4, hs4⟩
              have HR4 := hide hr4
              have HB4 := hide (hs4.new HB2.out HPL.out HV2.out)
              have HREL := hide hrel
              have HLE := hide hlen
              clear hr4 hs4 HS1 hrel hlen
              go_wp2
              go_meet
              refine ⟨v4, _, HR4, HB4, ?_, hide (fun z hz => ?_)⟩
              · rw [List.length_append]; have := HLE.out; omega
              · have h := write_size (bs := bs) HREL.out HJ0.out hz
                rw [HLB.out] at h
                exact h
          case rest =>
            clear HR2 HB2
            obtain ⟨v4, cs, HR4, HB4, hcl, HEQ⟩ := hcut
            have _c1 := HR4.out.size
            have hold := HR4.out.old.1
            have HOLD := hide hold
            generalize cs.length = N at _c1 hcl HEQ
            have HSZ := hide (show ∀ u : Since0 wc, Calls Try.prog 22 #[.slice a n cap, .int .i64 (m : Int), .int .i64 (j : Int), .int .i64 (k : Int)] u.1 fun e w' => e = .returned (.int .i64 ((N : Int) - (k : Int))) ∧ Below u.1.heap.size u.1 w' from fun u => by
              have h := HC.out.size l a cap (m : Int) (j : Int) (k : Int) u.1 (HA.out.below (HB4.out.trans (u.2.mono HB4.out.size)) (Nat.le_refl _)) HNIL.out HR.out HL2.out (by omega) (by omega) (by omega) (by omega)
              rw [HN.out] at h
              refine h.mono ?_
              rintro e w6 ⟨z, rfl, hz, b6⟩
              have := HEQ.out z hz
              exact ⟨by rw [show z = (N : Int) - (k : Int) by omega], b6⟩)
            have hnu : Nonempty (Since0 wc) := ⟨⟨wc, Below.refl _ _⟩⟩
            have l1 : ∀ u : Since0 wc, u.1.cell? ⟨p, 1, none⟩ = some (.int .i64 (N : Int)) := fun u => (u.cell (p := ⟨p, 1, none⟩) HOLD.out).trans _c1
            clear hold
            go_wp2_with fail
            refine wp_region_below wc (Below.refl _ _) (by kernel_rfl) (by kernel_rfl) ?_
            repeat (go_big_quiet_step ((rename_i u; exact calls_since u (HSZ.out u))))
            refine wpQuiet_nil ?_
            intro _ hw'
            obtain ⟨u, rfl⟩ := hw'
            have HBU := hide (HB4.out.trans (u.2.mono HB4.out.size))
            go_wp2
            go_roundw
            case rel => exact ⟨j + 1, hlt, by go_num, HBU⟩
            case measure => exact meas_oneW j 3 hlt
        · have hj3 : j = 3 := by omega
          subst hj3
          go_wp2_with fail
          refine (HOUT.out _ HBJ.out).mono ?_
          rintro e w9 ⟨rfl, b9⟩
          have B9 := hide b9
          clear b9
          go_wp2
          go_ret
          exact ⟨rfl, B9.out⟩

set_option maxRecDepth 20000 in
theorem bits_law (C : BSpec) (w : World) (v0 : Value) {b0 : Nat} {H : Type} {enc : TypeId × Value → H} {d0 : DataW H} {p0 : List MemPlace}
    (o0 : Value.okWide Try.prog w .any b0 22 v0) (k0 : DataW.Trod enc Try.prog w 0 (fun _ => true) true 22 v0 d0 p0) (s : ByteArray) (_ws : s.size ≤ maxLen) (t : Int) (wt : (Lit.int .u8 t).wf = true) :
    Calls Try.prog 7 #[v0, .string s, .int .u8 t] w fun e w' => e = .returned (.bool true) ∧ Below w.heap.size w w' := by
  obtain ⟨a, cap, l, rfl, ha, hl, hn, hb⟩ := open_argT9 o0 k0
  have hb8 := bounds_u8 wt
  obtain ⟨m, rfl⟩ := Int.eq_ofNat_of_zero_le hb8.1
  exact bits_small C l a cap s m w ha hn hb hl (by omega)

end Go.Proofs.Ytejckmmlbncgnaa
