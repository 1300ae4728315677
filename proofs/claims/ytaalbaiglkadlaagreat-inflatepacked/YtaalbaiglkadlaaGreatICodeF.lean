/- The program's layer 11: tokens, up to the symbol that ends them. -/
import Derived.Test.YtaalbaiglkadlaaGreatICodeE
namespace Go.Proofs.YtaalbaiglkadlaaGreat
open Go.RowKit Go.Lib

theorem match_fits {lb : List Nat} {limit : Int} {out o : List Nat} {x j j4 : Nat} {B : Nat → Nat} {T : Nat} (h : matchP lb limit out x B T j = .ok (o, j4)) : (o.length : Int) ≤ limit := by
  unfold matchP at h
  by_cases h285 : 285 < x
  · rw [if_pos h285] at h
    cases h
  · rw [if_neg h285] at h
    obtain ⟨x1, m3, _, h5⟩ := bindP_inv h
    obtain ⟨d, m4, _, h6⟩ := bindP_inv h5
    by_cases h29 : 29 < d
    · rw [if_pos h29] at h6
      cases h6
    · rw [if_neg h29] at h6
      obtain ⟨y, m5, _, h7⟩ := bindP_inv h6
      obtain ⟨_, h8, h9, _⟩ := copyP_inv h7
      rw [h9, copyN_length]
      omega

/-- Tokens under way: an opening, two codes. -/
structure TF (w W0 : World) (O p : Nat) (s : ByteArray) (i : Nat) (out : List Nat) (v : Value) (limit : Int) (a1 a2 : Option Addr) (Q1 Q2 : Nat) (cs1 cs2 : List Value) (S1 S2 : List Nat) : Prop where
  op : OpSt w W0 O p s i out v limit
  ka : KO O p v w a1 S1
  kb : KO O p v w a2 S2
  q1 : w.heap[Q1]? = some (.cells cs1.toArray 80 (0, 0))
  q2 : w.heap[Q2]? = some (.cells cs2.toArray 80 (0, 0))
  f1 : FreeO O p v w Q1
  f2 : FreeO O p v w Q2
section
variable {w w' W W0 : World} {O p i j Q1 Q2 : Nat} {s : ByteArray} {out o : List Nat} {v v' : Value} {limit : Int} {a1 a2 : Option Addr} {cs1 cs2 : List Value} {S1 S2 : List Nat}
theorem TF.step (h : TF w W0 O p s i out v limit a1 a2 Q1 Q2 cs1 cs2 S1 S2) (m : Mv O p v v' w w') (o' : OpSt w' W0 O p s j o v' limit) : TF w' W0 O p s j o v' limit a1 a2 Q1 Q2 cs1 cs2 S1 S2 :=
  ⟨o', h.ka.step m, h.kb.step m, (m.block Q1 h.f1.1 h.f1.2.1 h.f1.2.2.1 h.f1.2.2.2).trans h.q1, (m.block Q2 h.f2.1 h.f2.2.1 h.f2.2.2.1 h.f2.2.2.2).trans h.q2, h.f1.step m, h.f2.step m⟩
theorem TF.read (h : TF w W0 O p s i out v limit a1 a2 Q1 Q2 cs1 cs2 S1 S2) (t : Turn p w w') (r : RdAt 43 w' p s j false) : TF w' W0 O p s j out v limit a1 a2 Q1 Q2 cs1 cs2 S1 S2 := h.step (Mv.ofTurn t) (h.op.read t r)
theorem TF.start (h : OpSt W W0 O p s i out v limit) (k1 : KO O p v W a1 S1) (k2 : KO O p v W a2 S2) (cs1 cs2 : List Value) :
    TF ((W.alloc (.cells cs1.toArray 80)).alloc (.cells cs2.toArray 80)) W0 O p s i out v limit a1 a2 W.heap.size (W.heap.size + 1) cs1 cs2 S1 S2 := by
  obtain ⟨h1, h2, h3, h4⟩ := h.old
  have s1 := size_alloc W (.cells cs1.toArray 80)
  have s2 := size_alloc (W.alloc (.cells cs1.toArray 80)) (.cells cs2.toArray 80)
  have b : Below W.heap.size W ((W.alloc (.cells cs1.toArray 80)).alloc (.cells cs2.toArray 80)) := ((Below.refl W.heap.size W).alloc (Nat.le_refl _) _).alloc (by omega) _
  refine ⟨h.below b, k1.step (Mv.ofBelow b), k2.step (Mv.ofBelow b), ?_, heap_alloc_at _ _ s1, ⟨by omega, by omega, by omega, fun e => by have := h3 _ e; omega⟩, ⟨by omega, by omega, by omega, fun e => by have := h3 _ e; omega⟩⟩
  rw [heap_alloc_old _ _ _ (by omega)]
  exact heap_alloc_at _ _ rfl
end

set_option maxRecDepth 20000 in
set_option maxHeartbeats 16000000 in
theorem tokens11 (la lb : List Nat) (a1 a2 : Option Addr) (c1 m1 c2 m2 O p : Nat) (s : ByteArray) (i0 : Nat) (out0 : List Nat) (v0 : Value) (limit : Int) (W0 W : World) (h : OpSt W W0 O p s i0 out0 v0 limit)
    (ka : KO O p v0 W a1 (symTo la 16)) (kb : KO O p v0 W a2 (symTo lb 16)) (hm1 : (symTo la 16).length = m1) (hm2 : (symTo lb 16).length = m2) (hla : la.length ≤ 1000) (hlb : lb.length ≤ 1000) (hi : i0 ≤ 8 * s.size) (hs : s.size ≤ 100000) (h1 : -9223372036854775808 ≤ limit) (h2 : limit ≤ 1000000) (hr : out0 = [] ∨ (out0.length : Int) ≤ limit) :
    Calls Tryz.prog 41 #[.pointer (some ⟨O, 0, none⟩), codeV (cn la) (.slice a1 m1 c1), codeV (cn lb) (.slice a2 m2 c2)] W fun e w' => PieceO (pourP la lb limit 1000000 out0 (srcB s) (8 * s.size) i0) W0 O p s limit e w' := by
  have HP0 := hide (TF.start h ka kb (codeCs (cn la) (.slice a1 m1 c1)) (codeCs (cn lb) (.slice a2 m2 c2)))
  have HN1 := hide (codeCs_length (cn la) (.slice a1 m1 c1))
  have HN2 := hide (codeCs_length (cn lb) (.slice a2 m2 c2))
  have HX1 := hide (fun w v j (hb : Bx w O p v limit) (k : KO O p v w a1 (symTo la 16)) (r : RdAt 43 w p s j false) (hj : j ≤ 8 * s.size) => symbol11 O p v limit la a1 c1 m1 s j w hb hm1 k.arg (fun b off e => (k.free b off e).2.2.1) hla r hj (by omega))
  have HX2 := hide (fun w j x out v (ho : OpSt w W0 O p s j out v limit) (k : KO O p v w a2 (symTo lb 16)) (hx : 256 < x) (hx9 : x ≤ 1000) (hj : j ≤ 8 * s.size) (hr : out = [] ∨ (out.length : Int) ≤ limit) => match11 lb a2 c2 m2 O p s j x out v limit W0 w ho k hm2 hlb hx hx9 hj hs h1 h2 hr)
  have HR0 := hide hr
  unfold codeV at HX1 HX2 ⊢
  generalize codeCs (cn la) (.slice a1 m1 c1) = cs1 at *
  generalize codeCs (cn lb) (.slice a2 m2 c2) = cs2 at *
  have HSZ1 := hide (show (Tryz.prog.info? 80).map (·.size) = some cs1.length by rw [HN1.out]; exact Tryz.sizeCode)
  have HSZ2 := hide (show (Tryz.prog.info? 80).map (·.size) = some cs2.length by rw [HN2.out]; exact Tryz.sizeCode)
  obtain ⟨R, hR⟩ : ∃ R, pourP la lb limit 1000000 out0 (srcB s) (8 * s.size) i0 = R := ⟨_, rfl⟩
  have HR := hide hR
  rw [hR]
  have HLA := hide hla
  clear h ka kb hm1 hm2 hla hlb hr hR
  obtain ⟨Q1, hQ1⟩ : ∃ Q, W.heap.size = Q := ⟨_, rfl⟩
  go_enter Tryz.func41, Tryz.ntmps41
  go_wp2
  rw [hQ1] at HP0
  obtain ⟨Q2, hQ2⟩ : ∃ Q, Q1 + 1 = Q := ⟨_, rfl⟩
  rw [hQ2] at HP0
  try simp only [hQ2]
  clear hQ1 hQ2
  generalize hw2 : (W.alloc (.cells cs1.toArray 80)).alloc (.cells cs2.toArray 80) = w2 at *
  clear hw2
  go_loopg [] (8 * s.size) (fun gk wr => ∃ i out f v, i ≤ 8 * s.size ∧ 8 * s.size - i ≤ gk ∧ 8 * s.size < f + i ∧ ((out : List Nat) = [] ∨ (out.length : Int) ≤ limit) ∧ Hid (pourP la lb limit f out (srcB s) (8 * s.size) i = R) ∧ Hid (TF wr W0 O p s i out v limit a1 a2 Q1 Q2 cs1 cs2 (symTo la 16) (symTo lb 16)))
  case atStart => exact ⟨i0, out0, 1000000, v0, hi, by omega, by omega, HR0.out, HR, HP0⟩
  case round =>
    clear HP0 HR0 HR
    obtain ⟨i, out, f, v, hi8, hgk, hfu, hroom, HE, HP⟩ := hrel
    obtain ⟨f, rfl⟩ : ∃ k, f = k + 1 := ⟨f - 1, by omega⟩
    have HRM := hide hroom
    have HGK := hide hgk
    have HFU := hide hfu
    clear hroom hgk hfu
    have HRG := hide (code_range HP.out.q1)
    go_wp2_with (first
      | (refine wpList_load_mid rfl 80 (Operand.tmp 4) rfl Q1 0 rfl cs1 _ HRG.out Tryz.underlying80 rfl HSZ1.out ?_))
    refine (HX1.out wr _ i HP.out.op.bx HP.out.ka HP.out.op.st.rd hi8).mono ?_
    rintro e w3 ⟨ht3, ⟨x, j, hx, hij, hj8, hxl, rfl, hr3⟩ | ⟨er, hx, her, rfl⟩⟩
    · have HP3 := hide (HP.out.read ht3 hr3)
      have HX := hide hx
      have hx9 : x ≤ 1000 := by have := HLA.out; omega
      clear HP ht3 hr3 hx HRG hxl
      by_cases x256 : x = 256
      · subst x256
        have HG := hide (show PieceO R W0 O p s limit (.returned (.int .i64 0)) w3 from .inl ⟨out, j, _, by rw [← HE.out]; exact pour_end HX.out, rfl, HP3.out.op⟩)
        go_wp2
        go_ret
        exact HG.out
      · have bx : ((x : Int) == 256) = false := by simp; omega
        by_cases xlt : x < 256
        · have zx : (x : Int) < 256 := by omega
          have HLI := hide (literal11 W0 w3 O p s j out x v limit HP3.out.op HRM.out h2)
          go_wp2_with fail
          refine HLI.out.mono ?_
          rintro e w4 (⟨hlim, rfl, v4, ho4, hm4⟩ | ⟨hlim, rfl, hb4⟩)
          · have HE2 := hide (show pourP la lb limit f (out ++ [x]) (srcB s) (8 * s.size) j = R by rw [← HE.out]; exact (pour_lit HX.out xlt (by omega)).symm)
            have HP4 := hide (HP3.out.step hm4 ho4)
            have HF4 := hide (show (((out ++ [x]).length : Nat) : Int) ≤ limit by rw [List.length_append]; show ((out.length + 1 : Nat) : Int) ≤ limit; omega)
            clear ho4 hm4 HLI HP3 HX HE HRM hlim
            go_wp2
            go_roundg (8 * s.size - j)
            case measure => have := HGK.out; omega
            case rel => exact ⟨j, out ++ [x], f, v4, hj8, Nat.le_refl _, by have := HFU.out; omega, .inr HF4.out, HE2, HP4⟩
          · have HG := hide (show PieceO R W0 O p s limit (.returned (.int .i64 6)) w4 from .inr ⟨6, by rw [← HE.out]; exact pour_full HX.out xlt hlim, by decide, rfl, hb4⟩)
            clear HLI HP3 HX HE HRM hlim hb4
            go_wp2
            go_ret
            exact HG.out
        · have zx : ¬ (x : Int) < 256 := by omega
          have hx256 : 256 < x := by omega
          have HE1 := hide (show bindP (matchP lb limit out x) (fun o => pourP la lb limit f o) (srcB s) (8 * s.size) j = R by rw [← HE.out]; exact (pour_mat HX.out hx256).symm)
          have HMT := hide (HX2.out w3 j x out v HP3.out.op HP3.out.kb hx256 hx9 hj8 HRM.out)
          have HRG2 := hide (code_range HP3.out.q2)
          clear HE HX
          go_wp2_with (first
            | (refine wpList_load_mid rfl 80 (Operand.tmp 5) rfl Q2 0 rfl cs2 _ HRG2.out Tryz.underlying80 rfl HSZ2.out ?_))
          refine HMT.out.mono ?_
          rintro e w4 (⟨o, j4, v4, hR, rfl, ho4, hm4⟩ | ⟨er, hR, her, rfl, hb4⟩)
          · have HE2 := hide (show pourP la lb limit f o (srcB s) (8 * s.size) j4 = R by rw [← HE1.out, bindP_ok hR])
            have HP4 := hide (HP3.out.step hm4 ho4)
            have HF4 := hide (match_fits hR)
            have HJ4 := hide ((Good.matchP lb limit out x).lo _ _ _ _ _ hR)
            have HJ8 := hide ((Good.matchP lb limit out x).hi _ _ _ _ _ hR hj8)
            clear ho4 hm4 HMT HP3 HE1 HRM hR HRG2
            go_wp2
            go_roundg (8 * s.size - j4)
            case measure => have := HGK.out; have := HJ4.out; have := HJ8.out; omega
            case rel => exact ⟨j4, o, f, v4, HJ8.out, Nat.le_refl _, by have := HFU.out; have := HJ4.out; omega, .inr HF4.out, HE2, HP4⟩
          · have HG := hide (show PieceO R W0 O p s limit (.returned (.int .i64 er)) w4 from .inr ⟨er, by rw [← HE1.out]; exact bindP_err hR, her, rfl, hb4⟩)
            have be : (er == 0) = false := by simp; exact her
            clear HMT HP3 HE1 HRM hR HRG2 hb4
            go_wp2
            go_ret
            exact HG.out
    · have HG := hide (show PieceO R W0 O p s limit (.returned (.int .i64 er)) w3 from .inr ⟨er, by rw [← HE.out]; exact pour_err hx, her, rfl, HP.out.op.bad ht3⟩)
      have be : (er == 0) = false := by simp; exact her
      clear ht3 hx HE HP HRM HRG
      go_wp2
      go_ret
      exact HG.out

end Go.Proofs.YtaalbaiglkadlaaGreat
