/- The program's layer 11: a stored block. -/
import Derived.Test.YtaalbaiglkadlaaGreatICodeE
import Derived.Test.YtaalbaiglkadlaaGreatBitsA
namespace Go.Proofs.YtaalbaiglkadlaaGreat
open Go.RowKit Go.Lib

theorem own_slice11 {w : World} {B : Nat} {e : TypeId} {size : Nat} {v : Value} {n : Nat} {xs : List Value} (h : w.ownsRow B e size v n xs) : ∃ a c, v = .slice a n c := by
  rcases len_form h with ⟨e1, e2⟩ | ⟨g, c, e1⟩
  · exact ⟨none, 0, by rw [e1, e2]⟩
  · exact ⟨_, c, e1⟩
/-- What a stored block is behind its two numbers. -/
def rawK (limit : Int) (out : List Nat) (n m : Nat) : Ps (List Nat) := bindP (chkP (decide (n + m = 65535)) 3) fun _ => bindP (chkP (decide ((n : Int) ≤ limit - (out.length : Int))) 6) fun _ => bindP (textP n) fun t => pureP (out ++ t)
theorem raw_heads {limit : Int} {out : List Nat} {s : ByteArray} {i A n q1 m q2 : Nat} {b1 b2 : Bool} (hal : alignP (srcB s) (8 * s.size) i = .ok ((), 8 * A)) (r1 : RdRel 16 (8 * A) s false n q1 b1) (r2 : RdRel 16 q1 s b1 m q2 b2) :
    (b2 = true ∧ rawP limit out (srcB s) (8 * s.size) i = .error 2) ∨ (b2 = false ∧ q2 = 8 * (A + 4) ∧ rawP limit out (srcB s) (8 * s.size) i = rawK limit out n m (srcB s) (8 * s.size) q2) := by
  have e : rawP limit out = bindP alignP fun _ => bindP (rdP 16) fun n => bindP (rdP 16) fun m => rawK limit out n m := rfl
  rw [e, bindP_ok hal]
  rcases r1 with ⟨_, rfl, h1⟩ | ⟨_, rfl, h1⟩ | ⟨h, _⟩
  · rcases r2 with ⟨_, rfl, h2⟩ | ⟨_, rfl, h2⟩ | ⟨h, _⟩
    · have g1 := (rdP_inv h1).2.2
      have g2 := (rdP_inv h2).2.2
      exact .inr ⟨rfl, by omega, by rw [bindP_ok h1, bindP_ok h2]⟩
    · exact .inl ⟨rfl, by rw [bindP_ok h1, bindP_err h2]⟩
    · cases h
  · rcases r2 with ⟨h, _⟩ | ⟨h, _⟩ | ⟨_, rfl⟩
    · cases h
    · cases h
    · exact .inl ⟨rfl, bindP_err h1⟩
  · cases h

set_option maxRecDepth 20000 in
set_option maxHeartbeats 8000000 in
theorem stored11 (O p : Nat) (s : ByteArray) (i : Nat) (out : List Nat) (v : Value) (limit : Int) (W0 W : World) (h : OpSt W W0 O p s i out v limit) (hi : i ≤ 8 * s.size) (hs : s.size ≤ 100000) (h1 : -9223372036854775808 ≤ limit) (h2 : limit ≤ 1000000) (hr : out = [] ∨ (out.length : Int) ≤ limit) :
    Calls Tryz.prog 24 #[.pointer (some ⟨O, 0, none⟩)] W fun e w' => PieceO (rawP limit out (srcB s) (8 * s.size) i) W0 O p s limit e w' := by
  obtain ⟨a, c, rfl⟩ := h.slice
  obtain ⟨L, hL⟩ : ∃ L, out.length = L := ⟨_, rfl⟩
  have HLL := hide hL
  have hL9 : L ≤ 1000000 := by
    rcases hr with e | e
    · rw [← hL, e]; exact Nat.zero_le _
    · omega
  rw [hL] at h
  have H := hide h
  obtain ⟨A, hA⟩ : ∃ A, (i + 7) / 8 = A := ⟨_, rfl⟩
  have hA8 : A ≤ s.size := by omega
  have HAL := hide (ralign_any p s i false W h.st.rd hi (by omega))
  rw [hA, Nat.mul_comm] at HAL
  have halp : alignP (srcB s) (8 * s.size) i = .ok ((), 8 * A) := by unfold alignP; rw [hA, if_pos (by omega), Nat.mul_comm]
  obtain ⟨n, q1, b1, hn16, hq1, hr1, HC1⟩ := rd_all 16 p (8 * A) s false (by decide) (by omega) (by omega)
  obtain ⟨m, q2, b2, hm16, hq2, hr2, HC2⟩ := rd_all 16 p q1 s b1 (by decide) hq1 (by omega)
  have HHD := hide (raw_heads (limit := limit) (out := out) halp hr1 hr2)
  obtain ⟨R, hR⟩ : ∃ R, rawP limit out (srcB s) (8 * s.size) i = R := ⟨_, rfl⟩
  rw [hR] at HHD ⊢
  have HC1 := hide HC1
  have HC2 := hide HC2
  have HQ2 := hide hq2
  obtain ⟨i1, ki, kz0, kz1, kz2⟩ := info_parts Tryz.infoU8
  have _c0 := h.bx.c0
  have hn9 : n < 65536 := hn16
  have hm9 : m < 65536 := hm16
  clear h hr hL hA halp hr1 hr2 hR hn16 hm16 hq1 hq2
  go_enter Tryz.func24, Tryz.ntmps24
  go_wp2_with fail
  refine HAL.out.mono ?_
  rintro e w1 ⟨rfl, hr1, ho1⟩
  have H1 := hide (H.out.read ho1.turn hr1)
  have _d1 := H1.out.bx.c1
  have HC1 := hide (HC1.out w1 H1.out.st.rd)
  clear HAL hr1 ho1 H _c0
  go_wp2_with fail
  refine HC1.out.mono ?_
  rintro e w2 ⟨rfl, ho2, hr2⟩
  have HT2 := hide ho2.turn
  have HB2 := hide (H1.out.bx.turn ho2.turn)
  have _d2 := HB2.out.c1
  have HC2 := hide (HC2.out w2 hr2)
  clear HC1 hr2 ho2 _d1
  go_wp2_with fail
  refine HC2.out.mono ?_
  rintro e w3 ⟨rfl, ho3, hr3⟩
  have HT3 := hide (HT2.out.trans ho3.turn)
  have HB3 := hide (HB2.out.turn ho3.turn)
  have _e0 := HB3.out.c0
  have _r2 := hr3.c2
  have HR3 := hide hr3
  clear HC2 hr3 ho3 _d2 HT2 HB2
  rcases HHD.out with ⟨rfl, hh⟩ | ⟨rfl, hq2, hh⟩
  · have HG := hide (show PieceO R W0 O p s limit (.returned (.int .i64 2)) w3 from .inr ⟨2, hh, by decide, rfl, H1.out.bad HT3.out⟩)
    clear hh HHD
    go_wp2
    go_ret
    exact HG.out
  subst hq2
  have hq8 : 8 * (A + 4) ≤ 8 * s.size := HQ2.out
  have HRD := hide hh
  have H3 := hide (H1.out.read HT3.out HR3.out)
  clear hh HHD H1 HR3
  by_cases k1 : n + m = 65535
  case neg =>
    have z1 : ((n : Int) + (m : Int) == 65535) = false := by simp; omega
    have HG := hide (show PieceO R W0 O p s limit (.returned (.int .i64 3)) w3 from .inr ⟨3, by
      rw [HRD.out]
      refine bindP_err ?_
      rw [decide_eq_false k1]
      rfl, by decide, rfl, H3.out.st.bel⟩)
    clear HRD
    go_wp2
    go_ret
    exact HG.out
  have z1 : (n : Int) + (m : Int) = 65535 := by omega
  have HRE := hide (show R = bindP (chkP (decide ((n : Int) ≤ limit - (out.length : Int))) 6) (fun _ => bindP (textP n) fun t => pureP (out ++ t)) (srcB s) (8 * s.size) (8 * (A + 4)) by
    rw [HRD.out]
    unfold rawK
    rw [bindP_ok (chk_ok (decide_eq_true k1))])
  have HRM := hide (room11 O p L c a limit n w3 H3.out.bx hL9 (by omega))
  clear HRD
  go_wp2_with fail
  refine HRM.out.mono ?_
  rintro e w4 ⟨rfl, m4, rfl⟩
  clear HRM
  by_cases k2 : (L : Int) + (n : Int) ≤ limit
  case neg =>
    have z2 : decide ((L : Int) + (n : Int) ≤ limit) = false := decide_eq_false k2
    have HG := hide (show PieceO R W0 O p s limit (.returned (.int .i64 6)) (w3.drewN m4) from .inr ⟨6, by
      rw [HRE.out, HLL.out]
      refine bindP_err ?_
      rw [decide_eq_false (by omega)]
      rfl, by decide, rfl, below_drewN H3.out.st.bel m4⟩)
    clear HRE
    go_wp2
    go_ret
    exact HG.out
  have z2 : decide ((L : Int) + (n : Int) ≤ limit) = true := decide_eq_true k2
  have HRF := hide (show R = bindP (textP n) (fun t => pureP (out ++ t)) (srcB s) (8 * s.size) (8 * (A + 4)) by
    rw [HRE.out, HLL.out, bindP_ok (chk_ok (decide_eq_true (by omega)))])
  have H4 := hide (H3.out.drewN m4)
  have _f0 := H4.out.bx.c0
  clear HRE H3 _e0 _r2 HB3 HT3
  by_cases k3 : A + 4 + n ≤ s.size
  · have HTX := hide (rtext_ok p s (8 * (A + 4)) n (w3.drewN m4) H4.out.st.rd (by omega) (by omega))
    have HTP := hide (text_nats s (A + 4) n (by omega))
    rw [show (8 * (A + 4) + 7) / 8 = A + 4 by omega] at HTX
    have HTY := hide (show R = .ok (out ++ natsB (s.extract (A + 4) (A + 4 + n)), 8 * (A + 4 + n)) by rw [HRF.out, bindP_ok HTP.out]; rfl)
    obtain ⟨tx, htx⟩ : ∃ tx, s.extract (A + 4) (A + 4 + n) = tx := ⟨_, rfl⟩
    have hts : tx.size = n := by rw [← htx, ByteArray.size_extract]; omega
    rw [htx] at HTX HTY
    have HBC := hide (bits_cells tx)
    have HNL := hide (natsB_length tx)
    clear HRF HTP htx
    go_wp2_with fail
    refine HTX.out.mono ?_
    rintro e w5 ⟨rfl, hr5, ho5⟩
    have H5 := hide (H4.out.read ho5.turn hr5)
    have _d2 := hr5.c2
    have _d0 := H5.out.bx.c0
    have _e2 := H5.out.bx.c2
    clear HTX hr5 ho5 H4 _f0
    have HOWN := hide H5.out.st.own
    rw [HLL.out] at HOWN
    go_wp2_with (first
      | (at_builtin; refine wpList_append_fresh_string _ rfl _ _ 30 9 rfl W0.heap.size 5 i1 Tryz.underlying30 Tryz.underlying9 ki kz0 kz1 kz2 (.slice a L c) _ _ rfl HOWN.out tx rfl (by unfold maxLen; omega) (by omega) H5.out.st.bel.size ?_; intro v6 w6 o6 g6 f6; have HX6 := hide (H5.out.box4 g6); have _g2 := HX6.out.c2; have _h2 := HX6.out.frozen 2; have HP6 := hide (H5.out.put (o := out ++ natsB tx) (by rw [List.length_append, HNL.out, HLL.out, ← u8Cs_append, ← HBC.out]; exact o6) g6 f6); obtain ⟨a6, c6, e6⟩ := own_slice11 o6; subst e6; clear o6 g6 f6))
    go_ret
    have h6 := HP6.out.1
    rw [show (A + 4 + n) * 8 = 8 * (A + 4 + n) by omega, hts] at h6
    exact .inl ⟨_, _, _, HTY.out, rfl, h6⟩
  · have k4 : (s.size : Int) < ((((8 * (A + 4) + 7) / 8 : Nat) : Int) + (n : Int)) := by
      rw [show (8 * (A + 4) + 7) / 8 = A + 4 by omega]
      omega
    have HTX := hide (rtext_no p s (8 * (A + 4)) false (n : Int) (w3.drewN m4) H4.out.st.rd hq8 (.inr (.inr k4)) (by omega))
    have HTY := hide (show R = .error 2 by
      rw [HRF.out]
      refine bindP_err ?_
      unfold textP
      rw [if_neg (by omega)])
    clear HRF
    go_wp2_with fail
    refine HTX.out.mono ?_
    rintro e w5 ⟨rfl, ⟨i', _, hr5⟩, ho5⟩
    have HB5 := hide (H4.out.bx.turn ho5.turn)
    have _d0 := HB5.out.c0
    have _d2 := hr5.c2
    have HG := hide (show PieceO R W0 O p s limit (.returned (.int .i64 2)) w5 from .inr ⟨2, HTY.out, by decide, rfl, H4.out.bad ho5.turn⟩)
    clear HTX hr5 ho5 H4 _f0
    go_wp2
    go_ret
    exact HG.out

end Go.Proofs.YtaalbaiglkadlaaGreat
