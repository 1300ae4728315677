import Derived.Test.YtaalbaiglkadlaaGreatICodeE
import Derived.Test.YtaalbaiglkadlaaGreatBitsA
/- The program's layer 11: tokens, up to the symbol that ends them. -/
namespace Go.Proofs.YtaalbaiglkadlaaGreat
open Go.RowKit Go.Lib

theorem match_fits {lb : List Nat} {limit : Int} {out o : List Nat} {x j j4 : Nat} {B : Nat → Nat} {T : Nat} (h : matchP lb limit out x B T j = .ok (o, j4)) : (o.length : Int) ≤ limit := by
  unfold matchP at h
  by_cases h285 : 285 < x
  · rw [if_pos h285] at h
    cases h
  · rw [if_neg h285] at h
    obtain ⟨x1, m3, _, h5⟩ := bindP_inv h
    obtain ⟨d, m4, _, h6⟩ := bindP_inv h5
    by_cases h29 : 29 < d
    · rw [if_pos h29] at h6
      cases h6
    · rw [if_neg h29] at h6
      obtain ⟨y, m5, _, h7⟩ := bindP_inv h6
      obtain ⟨_, h8, h9, _⟩ := copyP_inv h7
      rw [h9, copyN_length]
      omega

/-- Tokens under way: an opening, two codes. -/
structure TF (w W0 : World) (O p : Nat) (s : ByteArray) (i : Nat) (out : List Nat) (v : Value) (limit : Int) (a1 a2 : Option Addr) (Q1 Q2 : Nat) (cs1 cs2 : List Value) (S1 S2 : List Nat) : Prop where
  op : OpSt w W0 O p s i out v limit
  ka : KO O p v w a1 S1
  kb : KO O p v w a2 S2
  q1 : w.heap[Q1]? = some (.cells cs1.toArray 80 (0, 0))
  q2 : w.heap[Q2]? = some (.cells cs2.toArray 80 (0, 0))
  f1 : FreeO O p v w Q1
  f2 : FreeO O p v w Q2
section
variable {w w' W W0 : World} {O p i j Q1 Q2 : Nat} {s : ByteArray} {out o : List Nat} {v v' : Value} {limit : Int} {a1 a2 : Option Addr} {cs1 cs2 : List Value} {S1 S2 : List Nat}
theorem TF.step (h : TF w W0 O p s i out v limit a1 a2 Q1 Q2 cs1 cs2 S1 S2) (m : Mv O p v v' w w') (o' : OpSt w' W0 O p s j o v' limit) : TF w' W0 O p s j o v' limit a1 a2 Q1 Q2 cs1 cs2 S1 S2 :=
  ⟨o', h.ka.step m, h.kb.step m, (m.block Q1 h.f1.1 h.f1.2.1 h.f1.2.2.1 h.f1.2.2.2).trans h.q1, (m.block Q2 h.f2.1 h.f2.2.1 h.f2.2.2.1 h.f2.2.2.2).trans h.q2, h.f1.step m, h.f2.step m⟩
theorem TF.read (h : TF w W0 O p s i out v limit a1 a2 Q1 Q2 cs1 cs2 S1 S2) (t : Turn p w w') (r : RdAt 43 w' p s j false) : TF w' W0 O p s j out v limit a1 a2 Q1 Q2 cs1 cs2 S1 S2 := h.step (Mv.ofTurn t) (h.op.read t r)
theorem TF.start (h : OpSt W W0 O p s i out v limit) (k1 : KO O p v W a1 S1) (k2 : KO O p v W a2 S2) (cs1 cs2 : List Value) :
    TF ((W.alloc (.cells cs1.toArray 80)).alloc (.cells cs2.toArray 80)) W0 O p s i out v limit a1 a2 W.heap.size (W.heap.size + 1) cs1 cs2 S1 S2 := by
  obtain ⟨h1, h2, h3, h4⟩ := h.old
  have s1 := size_alloc W (.cells cs1.toArray 80)
  have s2 := size_alloc (W.alloc (.cells cs1.toArray 80)) (.cells cs2.toArray 80)
  have b : Below W.heap.size W ((W.alloc (.cells cs1.toArray 80)).alloc (.cells cs2.toArray 80)) := ((Below.refl W.heap.size W).alloc (Nat.le_refl _) _).alloc (by omega) _
  refine ⟨h.below b, k1.step (Mv.ofBelow b), k2.step (Mv.ofBelow b), ?_, heap_alloc_at _ _ s1, ⟨by omega, by omega, by omega, fun e => by have := h3 _ e; omega⟩, ⟨by omega, by omega, by omega, fun e => by have := h3 _ e; omega⟩⟩
  rw [heap_alloc_old _ _ _ (by omega)]
  exact heap_alloc_at _ _ rfl
end

set_option maxRecDepth 20000 in
set_option maxHeartbeats 16000000 in
theorem tokens11 (la lb : List Nat) (a1 a2 : Option Addr) (c1 m1 c2 m2 O p : Nat) (s : ByteArray) (i0 : Nat) (out0 : List Nat) (v0 : Value) (limit : Int) (W0 W : World) (h : OpSt W W0 O p s i0 out0 v0 limit)
    (ka : KO O p v0 W a1 (symTo la 16)) (kb : KO O p v0 W a2 (symTo lb 16)) (hm1 : (symTo la 16).length = m1) (hm2 : (symTo lb 16).length = m2) (hla : la.length ≤ 1000) (hlb : lb.length ≤ 1000) (hi : i0 ≤ 8 * s.size) (hs : s.size ≤ 100000) (h1 : -9223372036854775808 ≤ limit) (h2 : limit ≤ 1000000) (hr : out0 = [] ∨ (out0.length : Int) ≤ limit) :
    Calls Tryz.prog 41 #[.pointer (some ⟨O, 0, none⟩), codeV (cn la) (.slice a1 m1 c1), codeV (cn lb) (.slice a2 m2 c2)] W fun e w' => PieceO (pourP la lb limit 1000000 out0 (srcB s) (8 * s.size) i0) W0 O p s limit e w' := by
  have HP0 := hide (TF.start h ka kb (codeCs (cn la) (.slice a1 m1 c1)) (codeCs (cn lb) (.slice a2 m2 c2)))
  have HN1 := hide (codeCs_length (cn la) (.slice a1 m1 c1))
  have HN2 := hide (codeCs_length (cn lb) (.slice a2 m2 c2))
  have HX1 := hide (fun w v j (hb : Bx w O p v limit) (k : KO O p v w a1 (symTo la 16)) (r : RdAt 43 w p s j false) (hj : j ≤ 8 * s.size) => symbol11 O p v limit la a1 c1 m1 s j w hb hm1 k.arg (fun b off e => (k.free b off e).2.2.1) hla r hj (by omega))
  have HX2 := hide (fun w j x out v (ho : OpSt w W0 O p s j out v limit) (k : KO O p v w a2 (symTo lb 16)) (hx : 256 < x) (hx9 : x ≤ 1000) (hj : j ≤ 8 * s.size) (hr : out = [] ∨ (out.length : Int) ≤ limit) => match11 lb a2 c2 m2 O p s j x out v limit W0 w ho k hm2 hlb hx hx9 hj hs h1 h2 hr)
  have HR0 := hide hr
  unfold codeV at HX1 HX2 ⊢
  generalize codeCs (cn la) (.slice a1 m1 c1) = cs1 at *
  generalize codeCs (cn lb) (.slice a2 m2 c2) = cs2 at *
  have HSZ1 := hide (show (Tryz.prog.info? 80).map (·.size) = some cs1.length by rw [HN1.out]; exact Tryz.sizeCode)
  have HSZ2 := hide (show (Tryz.prog.info? 80).map (·.size) = some cs2.length by rw [HN2.out]; exact Tryz.sizeCode)
  obtain ⟨R, hR⟩ : ∃ R, pourP la lb limit 1000000 out0 (srcB s) (8 * s.size) i0 = R := ⟨_, rfl⟩
  have HR := hide hR
  rw [hR]
  have HLA := hide hla
  clear h ka kb hm1 hm2 hla hlb hr hR
  obtain ⟨Q1, hQ1⟩ : ∃ Q, W.heap.size = Q := ⟨_, rfl⟩
  go_enter Tryz.func41, Tryz.ntmps41
  go_wp2
  rw [hQ1] at HP0
  obtain ⟨Q2, hQ2⟩ : ∃ Q, Q1 + 1 = Q := ⟨_, rfl⟩
  rw [hQ2] at HP0
  try simp only [hQ2]
  clear hQ1 hQ2
  generalize hw2 : (W.alloc (.cells cs1.toArray 80)).alloc (.cells cs2.toArray 80) = w2 at *
  clear hw2
  go_loopg [] (8 * s.size) (fun gk wr => ∃ i out f v, i ≤ 8 * s.size ∧ 8 * s.size - i ≤ gk ∧ 8 * s.size < f + i ∧ ((out : List Nat) = [] ∨ (out.length : Int) ≤ limit) ∧ Hid (pourP la lb limit f out (srcB s) (8 * s.size) i = R) ∧ Hid (TF wr W0 O p s i out v limit a1 a2 Q1 Q2 cs1 cs2 (symTo la 16) (symTo lb 16)))
  case atStart => exact ⟨i0, out0, 1000000, v0, hi, by omega, by omega, HR0.out, HR, HP0⟩
  case round =>
    clear HP0 HR0 HR
    obtain ⟨i, out, f, v, hi8, hgk, hfu, hroom, HE, HP⟩ := hrel
    obtain ⟨f, rfl⟩ : ∃ k, f = k + 1 := ⟨f - 1, by omega⟩
    have HRM := hide hroom
    have HGK := hide hgk
    have HFU := hide hfu
    clear hroom hgk hfu
    have HRG := hide (code_range HP.out.q1)
    go_wp2_with (first
      | (refine wpList_load_mid rfl 80 (Operand.tmp 4) rfl Q1 0 rfl cs1 _ HRG.out Tryz.underlying80 rfl HSZ1.out ?_))
    refine (HX1.out wr _ i HP.out.op.bx HP.out.ka HP.out.op.st.rd hi8).mono ?_
    rintro e w3 ⟨ht3, ⟨x, j, hx, hij, hj8, hxl, rfl, hr3⟩ | ⟨er, hx, her, rfl⟩⟩
    · have HP3 := hide (HP.out.read ht3 hr3)
      have HX := hide hx
      have hx9 : x ≤ 1000 := by have := HLA.out; omega
      clear HP ht3 hr3 hx HRG hxl
      by_cases x256 : x = 256
      · subst x256
        have HG := hide (show PieceO R W0 O p s limit (.returned (.int .i64 0)) w3 from .inl ⟨out, j, _, by rw [← HE.out]; exact pour_end HX.out, rfl, HP3.out.op⟩)
        go_wp2
        go_ret
        exact HG.out
      · have bx : ((x : Int) == 256) = false := by simp; omega
        by_cases xlt : x < 256
        · have zx : (x : Int) < 256 := by omega
          have HLI := hide (literal11 W0 w3 O p s j out x v limit HP3.out.op HRM.out h2)
          go_wp2_with fail
          refine HLI.out.mono ?_
          rintro e w4 (⟨hlim, rfl, v4, ho4, hm4⟩ | ⟨hlim, rfl, hb4⟩)
          · have HE2 := hide (show pourP la lb limit f (out ++ [x]) (srcB s) (8 * s.size) j = R by rw [← HE.out]; exact (pour_lit HX.out xlt (by omega)).symm)
            have HP4 := hide (HP3.out.step hm4 ho4)
            have HF4 := hide (show (((out ++ [x]).length : Nat) : Int) ≤ limit by rw [List.length_append]; show ((out.length + 1 : Nat) : Int) ≤ limit; omega)
            clear ho4 hm4 HLI HP3 HX HE HRM hlim
            go_wp2
            go_roundg (8 * s.size - j)
            case measure => have := HGK.out; omega
            case rel => exact ⟨j, out ++ [x], f, v4, hj8, Nat.le_refl _, by have := HFU.out; omega, .inr HF4.out, HE2, HP4⟩
          · have HG := hide (show PieceO R W0 O p s limit (.returned (.int .i64 6)) w4 from .inr ⟨6, by rw [← HE.out]; exact pour_full HX.out xlt hlim, by decide, rfl, hb4⟩)
            clear HLI HP3 HX HE HRM hlim hb4
            go_wp2
            go_ret
            exact HG.out
        · have zx : ¬ (x : Int) < 256 := by omega
          have hx256 : 256 < x := by omega
          have HE1 := hide (show bindP (matchP lb limit out x) (fun o => pourP la lb limit f o) (srcB s) (8 * s.size) j = R by rw [← HE.out]; exact (pour_mat HX.out hx256).symm)
          have HMT := hide (HX2.out w3 j x out v HP3.out.op HP3.out.kb hx256 hx9 hj8 HRM.out)
          have HRG2 := hide (code_range HP3.out.q2)
          clear HE HX
          go_wp2_with (first
            | (refine wpList_load_mid rfl 80 (Operand.tmp 5) rfl Q2 0 rfl cs2 _ HRG2.out Tryz.underlying80 rfl HSZ2.out ?_))
          refine HMT.out.mono ?_
          rintro e w4 (⟨o, j4, v4, hR, rfl, ho4, hm4⟩ | ⟨er, hR, her, rfl, hb4⟩)
          · have HE2 := hide (show pourP la lb limit f o (srcB s) (8 * s.size) j4 = R by rw [← HE1.out, bindP_ok hR])
            have HP4 := hide (HP3.out.step hm4 ho4)
            have HF4 := hide (match_fits hR)
            have HJ4 := hide ((Good.matchP lb limit out x).lo _ _ _ _ _ hR)
            have HJ8 := hide ((Good.matchP lb limit out x).hi _ _ _ _ _ hR hj8)
            clear ho4 hm4 HMT HP3 HE1 HRM hR HRG2
            go_wp2
            go_roundg (8 * s.size - j4)
            case measure => have := HGK.out; have := HJ4.out; have := HJ8.out; omega
            case rel => exact ⟨j4, o, f, v4, HJ8.out, Nat.le_refl _, by have := HFU.out; have := HJ4.out; omega, .inr HF4.out, HE2, HP4⟩
          · have HG := hide (show PieceO R W0 O p s limit (.returned (.int .i64 er)) w4 from .inr ⟨er, by rw [← HE1.out]; exact bindP_err hR, her, rfl, hb4⟩)
            have be : (er == 0) = false := by simp; exact her
            clear HMT HP3 HE1 HRM hR HRG2 hb4
            go_wp2
            go_ret
            exact HG.out
    · have HG := hide (show PieceO R W0 O p s limit (.returned (.int .i64 er)) w3 from .inr ⟨er, by rw [← HE.out]; exact pour_err hx, her, rfl, HP.out.op.bad ht3⟩)
      have be : (er == 0) = false := by simp; exact her
      clear ht3 hx HE HP HRM HRG
      go_wp2
      go_ret
      exact HG.out

end Go.Proofs.YtaalbaiglkadlaaGreat

/- The program's layer 11: a stored block. -/
namespace Go.Proofs.YtaalbaiglkadlaaGreat
open Go.RowKit Go.Lib

theorem own_slice11 {w : World} {B : Nat} {e : TypeId} {size : Nat} {v : Value} {n : Nat} {xs : List Value} (h : w.ownsRow B e size v n xs) : ∃ a c, v = .slice a n c := by
  rcases len_form h with ⟨e1, e2⟩ | ⟨g, c, e1⟩
  · exact ⟨none, 0, by rw [e1, e2]⟩
  · exact ⟨_, c, e1⟩
/-- What a stored block is behind its two numbers. -/
def rawK (limit : Int) (out : List Nat) (n m : Nat) : Ps (List Nat) := bindP (chkP (decide (n + m = 65535)) 3) fun _ => bindP (chkP (decide ((n : Int) ≤ limit - (out.length : Int))) 6) fun _ => bindP (textP n) fun t => pureP (out ++ t)
theorem raw_heads {limit : Int} {out : List Nat} {s : ByteArray} {i A n q1 m q2 : Nat} {b1 b2 : Bool} (hal : alignP (srcB s) (8 * s.size) i = .ok ((), 8 * A)) (r1 : RdRel 16 (8 * A) s false n q1 b1) (r2 : RdRel 16 q1 s b1 m q2 b2) :
    (b2 = true ∧ rawP limit out (srcB s) (8 * s.size) i = .error 2) ∨ (b2 = false ∧ q2 = 8 * (A + 4) ∧ rawP limit out (srcB s) (8 * s.size) i = rawK limit out n m (srcB s) (8 * s.size) q2) := by
  have e : rawP limit out = bindP alignP fun _ => bindP (rdP 16) fun n => bindP (rdP 16) fun m => rawK limit out n m := rfl
  rw [e, bindP_ok hal]
  rcases r1 with ⟨_, rfl, h1⟩ | ⟨_, rfl, h1⟩ | ⟨h, _⟩
  · rcases r2 with ⟨_, rfl, h2⟩ | ⟨_, rfl, h2⟩ | ⟨h, _⟩
    · have g1 := (rdP_inv h1).2.2
      have g2 := (rdP_inv h2).2.2
      exact .inr ⟨rfl, by omega, by rw [bindP_ok h1, bindP_ok h2]⟩
    · exact .inl ⟨rfl, by rw [bindP_ok h1, bindP_err h2]⟩
    · cases h
  · rcases r2 with ⟨h, _⟩ | ⟨h, _⟩ | ⟨_, rfl⟩
    · cases h
    · cases h
    · exact .inl ⟨rfl, bindP_err h1⟩
  · cases h

set_option maxRecDepth 20000 in
set_option maxHeartbeats 8000000 in
theorem stored11 (O p : Nat) (s : ByteArray) (i : Nat) (out : List Nat) (v : Value) (limit : Int) (W0 W : World) (h : OpSt W W0 O p s i out v limit) (hi : i ≤ 8 * s.size) (hs : s.size ≤ 100000) (h1 : -9223372036854775808 ≤ limit) (h2 : limit ≤ 1000000) (hr : out = [] ∨ (out.length : Int) ≤ limit) :
    Calls Tryz.prog 24 #[.pointer (some ⟨O, 0, none⟩)] W fun e w' => PieceO (rawP limit out (srcB s) (8 * s.size) i) W0 O p s limit e w' := by
  obtain ⟨a, c, rfl⟩ := h.slice
  obtain ⟨L, hL⟩ : ∃ L, out.length = L := ⟨_, rfl⟩
  have HLL := hide hL
  have hL9 : L ≤ 1000000 := by
    rcases hr with e | e
    · rw [← hL, e]; exact Nat.zero_le _
    · omega
  rw [hL] at h
  have H := hide h
  obtain ⟨A, hA⟩ : ∃ A, (i + 7) / 8 = A := ⟨_, rfl⟩
  have hA8 : A ≤ s.size := by omega
  have HAL := hide (ralign_any p s i false W h.st.rd hi (by omega))
  rw [hA, Nat.mul_comm] at HAL
  have halp : alignP (srcB s) (8 * s.size) i = .ok ((), 8 * A) := by unfold alignP; rw [hA, if_pos (by omega), Nat.mul_comm]
  obtain ⟨n, q1, b1, hn16, hq1, hr1, HC1⟩ := rd_all 16 p (8 * A) s false (by decide) (by omega) (by omega)
  obtain ⟨m, q2, b2, hm16, hq2, hr2, HC2⟩ := rd_all 16 p q1 s b1 (by decide) hq1 (by omega)
  have HHD := hide (raw_heads (limit := limit) (out := out) halp hr1 hr2)
  obtain ⟨R, hR⟩ : ∃ R, rawP limit out (srcB s) (8 * s.size) i = R := ⟨_, rfl⟩
  rw [hR] at HHD ⊢
  have HC1 := hide HC1
  have HC2 := hide HC2
  have HQ2 := hide hq2
  obtain ⟨i1, ki, kz0, kz1, kz2⟩ := info_parts Tryz.infoU8
  have _c0 := h.bx.c0
  have hn9 : n < 65536 := hn16
  have hm9 : m < 65536 := hm16
  clear h hr hL hA halp hr1 hr2 hR hn16 hm16 hq1 hq2
  go_enter Tryz.func24, Tryz.ntmps24
  go_wp2_with fail
  refine HAL.out.mono ?_
  rintro e w1 ⟨rfl, hr1, ho1⟩
  have H1 := hide (H.out.read ho1.turn hr1)
  have _d1 := H1.out.bx.c1
  have HC1 := hide (HC1.out w1 H1.out.st.rd)
  clear HAL hr1 ho1 H _c0
  go_wp2_with fail
  refine HC1.out.mono ?_
  rintro e w2 ⟨rfl, ho2, hr2⟩
  have HT2 := hide ho2.turn
  have HB2 := hide (H1.out.bx.turn ho2.turn)
  have _d2 := HB2.out.c1
  have HC2 := hide (HC2.out w2 hr2)
  clear HC1 hr2 ho2 _d1
  go_wp2_with fail
  refine HC2.out.mono ?_
  rintro e w3 ⟨rfl, ho3, hr3⟩
  have HT3 := hide (HT2.out.trans ho3.turn)
  have HB3 := hide (HB2.out.turn ho3.turn)
  have _e0 := HB3.out.c0
  have _r2 := hr3.c2
  have HR3 := hide hr3
  clear HC2 hr3 ho3 _d2 HT2 HB2
  rcases HHD.out with ⟨rfl, hh⟩ | ⟨rfl, hq2, hh⟩
  · have HG := hide (show PieceO R W0 O p s limit (.returned (.int .i64 2)) w3 from .inr ⟨2, hh, by decide, rfl, H1.out.bad HT3.out⟩)
    clear hh HHD
    go_wp2
    go_ret
    exact HG.out
  subst hq2
  have hq8 : 8 * (A + 4) ≤ 8 * s.size := HQ2.out
  have HRD := hide hh
  have H3 := hide (H1.out.read HT3.out HR3.out)
  clear hh HHD H1 HR3
  by_cases k1 : n + m = 65535
  case neg =>
    have z1 : ((n : Int) + (m : Int) == 65535) = false := by simp; omega
    have HG := hide (show PieceO R W0 O p s limit (.returned (.int .i64 3)) w3 from .inr ⟨3, by
      rw [HRD.out]
      refine bindP_err ?_
      rw [decide_eq_false k1]
      rfl, by decide, rfl, H3.out.st.bel⟩)
    clear HRD
    go_wp2
    go_ret
    exact HG.out
  have z1 : (n : Int) + (m : Int) = 65535 := by omega
  have HRE := hide (show R = bindP (chkP (decide ((n : Int) ≤ limit - (out.length : Int))) 6) (fun _ => bindP (textP n) fun t => pureP (out ++ t)) (srcB s) (8 * s.size) (8 * (A + 4)) by
    rw [HRD.out]
    unfold rawK
    rw [bindP_ok (chk_ok (decide_eq_true k1))])
  have HRM := hide (room11 O p L c a limit n w3 H3.out.bx hL9 (by omega))
  clear HRD
  go_wp2_with fail
  refine HRM.out.mono ?_
  rintro e w4 ⟨rfl, m4, rfl⟩
  clear HRM
  by_cases k2 : (L : Int) + (n : Int) ≤ limit
  case neg =>
    have z2 : decide ((L : Int) + (n : Int) ≤ limit) = false := decide_eq_false k2
    have HG := hide (show PieceO R W0 O p s limit (.returned (.int .i64 6)) (w3.drewN m4) from .inr ⟨6, by
      rw [HRE.out, HLL.out]
      refine bindP_err ?_
      rw [decide_eq_false (by omega)]
      rfl, by decide, rfl, below_drewN H3.out.st.bel m4⟩)
    clear HRE
    go_wp2
    go_ret
    exact HG.out
  have z2 : decide ((L : Int) + (n : Int) ≤ limit) = true := decide_eq_true k2
  have HRF := hide (show R = bindP (textP n) (fun t => pureP (out ++ t)) (srcB s) (8 * s.size) (8 * (A + 4)) by
    rw [HRE.out, HLL.out, bindP_ok (chk_ok (decide_eq_true (by omega)))])
  have H4 := hide (H3.out.drewN m4)
  have _f0 := H4.out.bx.c0
  clear HRE H3 _e0 _r2 HB3 HT3
  by_cases k3 : A + 4 + n ≤ s.size
  · have HTX := hide (rtext_ok p s (8 * (A + 4)) n (w3.drewN m4) H4.out.st.rd (by omega) (by omega))
    have HTP := hide (text_nats s (A + 4) n (by omega))
    rw [show (8 * (A + 4) + 7) / 8 = A + 4 by omega] at HTX
    have HTY := hide (show R = .ok (out ++ natsB (s.extract (A + 4) (A + 4 + n)), 8 * (A + 4 + n)) by rw [HRF.out, bindP_ok HTP.out]; rfl)
    obtain ⟨tx, htx⟩ : ∃ tx, s.extract (A + 4) (A + 4 + n) = tx := ⟨_, rfl⟩
    have hts : tx.size = n := by rw [← htx, ByteArray.size_extract]; omega
    rw [htx] at HTX HTY
    have HBC := hide (bits_cells tx)
    have HNL := hide (natsB_length tx)
    clear HRF HTP htx
    go_wp2_with fail
    refine HTX.out.mono ?_
    rintro e w5 ⟨rfl, hr5, ho5⟩
    have H5 := hide (H4.out.read ho5.turn hr5)
    have _d2 := hr5.c2
    have _d0 := H5.out.bx.c0
    have _e2 := H5.out.bx.c2
    clear HTX hr5 ho5 H4 _f0
    have HOWN := hide H5.out.st.own
    rw [HLL.out] at HOWN
    go_wp2_with (first
      | (at_builtin; refine wpList_append_fresh_string _ rfl _ _ 30 9 rfl W0.heap.size 5 i1 Tryz.underlying30 Tryz.underlying9 ki kz0 kz1 kz2 (.slice a L c) _ _ rfl HOWN.out tx rfl (by unfold maxLen; omega) (by omega) H5.out.st.bel.size ?_; intro v6 w6 o6 g6 f6; have HX6 := hide (H5.out.box4 g6); have _g2 := HX6.out.c2; have _h2 := HX6.out.frozen 2; have HP6 := hide (H5.out.put (o := out ++ natsB tx) (by rw [List.length_append, HNL.out, HLL.out, ← u8Cs_append, ← HBC.out]; exact o6) g6 f6); obtain ⟨a6, c6, e6⟩ := own_slice11 o6; subst e6; clear o6 g6 f6))
    go_ret
    have h6 := HP6.out.1
    rw [show (A + 4 + n) * 8 = 8 * (A + 4 + n) by omega, hts] at h6
    exact .inl ⟨_, _, _, HTY.out, rfl, h6⟩
  · have k4 : (s.size : Int) < ((((8 * (A + 4) + 7) / 8 : Nat) : Int) + (n : Int)) := by
      rw [show (8 * (A + 4) + 7) / 8 = A + 4 by omega]
      omega
    have HTX := hide (rtext_no p s (8 * (A + 4)) false (n : Int) (w3.drewN m4) H4.out.st.rd hq8 (.inr (.inr k4)) (by omega))
    have HTY := hide (show R = .error 2 by
      rw [HRF.out]
      refine bindP_err ?_
      unfold textP
      rw [if_neg (by omega)])
    clear HRF
    go_wp2_with fail
    refine HTX.out.mono ?_
    rintro e w5 ⟨rfl, ⟨i', _, hr5⟩, ho5⟩
    have HB5 := hide (H4.out.bx.turn ho5.turn)
    have _d0 := HB5.out.c0
    have _d2 := hr5.c2
    have HG := hide (show PieceO R W0 O p s limit (.returned (.int .i64 2)) w5 from .inr ⟨2, HTY.out, by decide, rfl, H4.out.bad ho5.turn⟩)
    clear HTX hr5 ho5 H4 _f0
    go_wp2
    go_ret
    exact HG.out

end Go.Proofs.YtaalbaiglkadlaaGreat
