/- The program's layer 11 meets what is asked of it. -/
import Derived.Test.YtaalbaiglkadlaaGreatICodeL
import Derived.Test.YtaalbaiglkadlaaGreatBCa
namespace Go.Proofs.YtaalbaiglkadlaaGreat
open Go.RowKit Go.Lib

set_option maxRecDepth 20000 in
set_option maxHeartbeats 8000000 in
theorem dynamic11 (O p : Nat) (s : ByteArray) (i : Nat) (out : List Nat) (v : Value) (limit : Int) (W0 W : World) (h : OpSt W W0 O p s i out v limit) (hi : i ≤ 8 * s.size) (hs : s.size ≤ 100000) (h1 : -9223372036854775808 ≤ limit) (h2 : limit ≤ 1000000) (hr : out = [] ∨ (out.length : Int) ≤ limit) :
    Calls Tryz.prog 27 #[.pointer (some ⟨O, 0, none⟩)] W fun e w' => PieceO (bindP headP (codedP limit out) (srcB s) (8 * s.size) i) W0 O p s limit e w' := by
  have H := hide h
  have HRM := hide hr
  have HHD := hide (header11 O p v limit s i W h.bx h.st.rd hi hs)
  obtain ⟨R, hR⟩ : ∃ R, bindP headP (codedP limit out) (srcB s) (8 * s.size) i = R := ⟨_, rfl⟩
  have HR := hide hR
  rw [hR]
  clear h hr hR
  go_enter Tryz.func27, Tryz.ntmps27
  go_wp2_with fail
  refine HHD.out.mono ?_
  rintro e w1 ⟨t1, ⟨X, Y, j, a1, c1, a2, c2, hR1, rfl, hj8, hX1, hX2, hY2, hAX, hAY, hr1⟩ | ⟨er, hR1, her, rfl⟩⟩
  · have H1 := hide (H.out.read t1 hr1)
    have HE := hide (show R = codedP limit out (X, Y) (srcB s) (8 * s.size) j by rw [← HR.out]; exact bindP_ok hR1)
    have HCD := hide (coded11 X Y a1 a2 c1 c2 O p s j out v limit W0 w1 H1.out hAX hAY hX1 (by omega) (by omega) hj8 hs h1 h2 HRM.out)
    rw [← HE.out] at HCD
    generalize X.length = nX at *
    generalize Y.length = nY at *
    clear t1 hR1 hAX hAY hr1 H HHD HE H1
    go_wp2_with fail
    refine HCD.out.mono ?_
    rintro e w2 (⟨o, j2, v2, hR2, rfl, hO2⟩ | ⟨er, hR2, her, rfl, hb2⟩)
    · have HG := hide (show PieceO R W0 O p s limit (.returned (.int .i64 0)) w2 from .inl ⟨o, j2, v2, hR2, rfl, hO2⟩)
      clear hR2 hO2 HCD
      go_wp2
      go_ret
      exact HG.out
    · have HG := hide (show PieceO R W0 O p s limit (.returned (.int .i64 er)) w2 from .inr ⟨er, hR2, her, rfl, hb2⟩)
      clear hR2 hb2 HCD
      go_wp2
      go_ret
      exact HG.out
  · have HG := hide (show PieceO R W0 O p s limit (.returned (.int .i64 er)) w1 from .inr ⟨er, by rw [← HR.out]; exact bindP_err hR1, her, rfl, H.out.bad t1⟩)
    have be : (er == 0) = false := by simp; exact her
    clear t1 hR1 H HHD
    go_wp2
    go_ret
    exact HG.out

/-- What a block gives: whether it is the last one, bytes; or an error. -/
def BlkP (R : Except Int ((Nat × List Nat) × Nat)) (W0 : World) (O p : Nat) (s : ByteArray) (limit : Int) (e : Ending) (w' : World) : Prop :=
  (∃ x o j v', R = .ok ((x, o), j) ∧ e = .returned (.tuple #[.bool ((x : Int) == 1), .int .i64 0]) ∧ OpSt w' W0 O p s j o v' limit) ∨
  (∃ b er, R = .error er ∧ er ≠ 0 ∧ e = .returned (.tuple #[.bool b, .int .i64 er]) ∧ Below W0.heap.size W0 w')
theorem PieceO.blk {P : Ps (List Nat)} {x : Nat} {W0 w' : World} {O p q : Nat} {s : ByteArray} {limit : Int} {e : Ending} {R : Except Int ((Nat × List Nat) × Nat)} (h : PieceO (P (srcB s) (8 * s.size) q) W0 O p s limit e w') (hR : R = bindP P (fun o => pureP (x, o)) (srcB s) (8 * s.size) q) :
    ∃ er : Int, e = .returned (.int .i64 er) ∧ BlkP R W0 O p s limit (.returned (.tuple #[.bool ((x : Int) == 1), .int .i64 er])) w' := by
  rcases h with ⟨o, j, v', h1, rfl, h2⟩ | ⟨er, h1, h2, rfl, h3⟩
  · exact ⟨0, rfl, .inl ⟨x, o, j, v', hR.trans (bindP_ok h1), rfl, h2⟩⟩
  · exact ⟨er, rfl, .inr ⟨_, er, hR.trans (bindP_err h1), h2, rfl, h3⟩⟩
theorem plainL_len : (plainL.map fun (x : Nat) => (x : Int)).length = plainL.length := List.length_map ..
theorem plainD_len : (plainD.map fun (x : Nat) => (x : Int)).length = plainD.length := List.length_map ..

set_option maxRecDepth 20000 in
set_option maxHeartbeats 16000000 in
theorem block11 (O p : Nat) (s : ByteArray) (i : Nat) (out : List Nat) (v : Value) (limit : Int) (W0 W : World) (h : OpSt W W0 O p s i out v limit) (hi : i ≤ 8 * s.size) (hs : s.size ≤ 100000) (h1 : -9223372036854775808 ≤ limit) (h2 : limit ≤ 1000000) (hr : out = [] ∨ (out.length : Int) ≤ limit) :
    Calls Tryz.prog 14 #[.pointer (some ⟨O, 0, none⟩)] W fun e w' => BlkP (blockP limit out (srcB s) (8 * s.size) i) W0 O p s limit e w' := by
  have H := hide h
  have HRM := hide hr
  obtain ⟨x1, q1, b1, hx1, hq1, hr1, HC1⟩ := rd_all 1 p i s false (by decide) hi (by omega)
  obtain ⟨x2, q2, b2, hx2, hq2, hr2, HC2⟩ := rd_all 2 p q1 s b1 (by decide) hq1 (by omega)
  have HHD := hide (block_heads (limit := limit) (out := out) hr1 hr2)
  obtain ⟨R, hR⟩ : ∃ R, blockP limit out (srcB s) (8 * s.size) i = R := ⟨_, rfl⟩
  rw [hR] at HHD ⊢
  have HC1 := hide (HC1 W h.st.rd)
  have HC2 := hide HC2
  have _b1 := h.bx.c1
  have hx1 : x1 < 2 := hx1
  have hx2 : x2 < 4 := hx2
  have HQ2 := hide hq2
  clear hr1 hr2 hR h hq1 hq2 hr
  go_enter Tryz.func14, Tryz.ntmps14
  go_wp2_with fail
  refine HC1.out.mono ?_
  rintro e w1 ⟨rfl, ho1, hr1⟩
  have HT1 := hide ho1.turn
  have HC2 := hide (HC2.out w1 hr1)
  have HB1 := hide (H.out.bx.turn HT1.out)
  have _b2 := HB1.out.c1
  obtain ⟨lb, hlb⟩ : ∃ lb, ((x1 : Int) == 1) = lb := ⟨_, rfl⟩
  have HLB := hide hlb
  clear ho1 hr1 HC1 _b1 hx1
  go_wp2_with fail
  refine HC2.out.mono ?_
  rintro e w2 ⟨rfl, ho2, hr2⟩
  have HT2 := hide (HT1.out.trans ho2.turn)
  have HB2 := hide (H.out.bx.turn HT2.out)
  have _b3 := HB2.out.c0
  have _c2 := hr2.c2
  have HR2 := hide hr2
  clear ho2 hr2 HC2 HT1 HB1 _b2
  rcases HHD.out with ⟨rfl, hh⟩ | ⟨rfl, _, hh⟩
  · have HG := hide (show BlkP R W0 O p s limit (.returned (.tuple #[.bool false, .int .i64 2])) w2 from .inr ⟨false, 2, hh, by decide, rfl, H.out.bad HT2.out⟩)
    clear hh HHD
    go_wp2
    go_ret2
    exact HG.out
  have HK := hide (show R = bindP (kindP limit out x2) (fun o => pureP (x1, o)) (srcB s) (8 * s.size) q2 by rw [hh, block_kind])
  have H2 := hide (H.out.read HT2.out HR2.out)
  clear hh HHD H HR2 HT2 HB2
  by_cases k0 : x2 = 0
  · have e0 : ((x2 : Int) == 0) = true := by simp; omega
    have HPB := hide (fun (e : Ending) (w' : World) (hp : PieceO (rawP limit out (srcB s) (8 * s.size) q2) W0 O p s limit e w') => hp.blk (x := x1) (R := R) (by rw [HK.out]; unfold kindP; rw [if_pos k0]))
    have HST := hide (stored11 O p s q2 out v limit W0 w2 H2.out HQ2.out hs h1 h2 HRM.out)
    clear k0 HK H2
    go_wp2_with fail
    refine HST.out.mono ?_
    rintro e w3 hp
    obtain ⟨er, rfl, hb⟩ := HPB.out _ _ hp
    rw [HLB.out] at hb
    have HG := hide hb
    clear hp hb HPB HST
    go_wp2
    go_ret2
    exact HG.out
  have e0 : ((x2 : Int) == 0) = false := by simp; omega
  by_cases k1 : x2 = 1
  · have e1 : ((x2 : Int) == 1) = true := by simp; omega
    have HPB := hide (fun (e : Ending) (w' : World) (hp : PieceO (codedP limit out ((plainL.map fun (x : Nat) => (x : Int)), (plainD.map fun (x : Nat) => (x : Int))) (srcB s) (8 * s.size) q2) W0 O p s limit e w') => hp.blk (x := x1) (R := R) (by rw [HK.out]; unfold kindP; rw [if_neg k0, if_neg (by omega), if_pos k1]))
    have HPL := hide (plain9 w2)
    clear k0 k1 HK
    go_wp2_with fail
    refine HPL.out.mono ?_
    rintro e w3 ⟨a1, c1, a2, c2, rfl, hA, hB, _, _, b3, _, _⟩
    have H3 := hide (H2.out.below b3)
    have HCD := hide (coded11 (plainL.map fun (x : Nat) => (x : Int)) (plainD.map fun (x : Nat) => (x : Int)) a1 a2 c1 c2 O p s q2 out v limit W0 w3 H3.out hA.toZ hB.toZ (by decide +kernel) (by decide +kernel) (by decide +kernel) HQ2.out hs h1 h2 HRM.out)
    rw [plainL_len, plainD_len] at HCD
    generalize plainL.length = nL at *
    generalize plainD.length = nD at *
    clear hA hB b3 HPL H2 H3
    go_wp2_with fail
    refine HCD.out.mono ?_
    rintro e w4 hp
    obtain ⟨er, rfl, hb⟩ := HPB.out _ _ hp
    rw [HLB.out] at hb
    have HG := hide hb
    clear hp hb HPB HCD
    go_wp2
    go_ret2
    exact HG.out
  have e1 : ((x2 : Int) == 1) = false := by simp; omega
  by_cases k2 : x2 = 2
  · have e2 : ((x2 : Int) == 2) = true := by simp; omega
    have HPB := hide (fun (e : Ending) (w' : World) (hp : PieceO (bindP headP (codedP limit out) (srcB s) (8 * s.size) q2) W0 O p s limit e w') => hp.blk (x := x1) (R := R) (by rw [HK.out]; unfold kindP; rw [if_neg k0, if_neg (by omega), if_neg k1]))
    have HDY := hide (dynamic11 O p s q2 out v limit W0 w2 H2.out HQ2.out hs h1 h2 HRM.out)
    clear k0 k1 k2 HK H2
    go_wp2_with fail
    refine HDY.out.mono ?_
    rintro e w3 hp
    obtain ⟨er, rfl, hb⟩ := HPB.out _ _ hp
    rw [HLB.out] at hb
    have HG := hide hb
    clear hp hb HPB HDY
    go_wp2
    go_ret2
    exact HG.out
  have e2 : ((x2 : Int) == 2) = false := by simp; omega
  have HG := hide (show BlkP R W0 O p s limit (.returned (.tuple #[.bool false, .int .i64 3])) w2 from .inr ⟨false, 3, by rw [HK.out]; unfold kindP; rw [if_neg k0, if_pos (by omega)]; rfl, by decide, rfl, H2.out.st.bel⟩)
  clear HK H2 k0 k1 k2 hx2
  go_wp2
  go_ret2
  exact HG.out

theorem coded_fits {limit : Int} {out o : List Nat} {ab : List Int × List Int} {B : Nat → Nat} {T i j : Nat} (h : codedP limit out ab B T i = .ok (o, j)) (hf : Fits limit out) : Fits limit o := by
  unfold codedP at h
  obtain ⟨_, _, _, h2⟩ := bindP_inv h
  obtain ⟨_, _, _, h3⟩ := bindP_inv h2
  exact pour_fits _ _ _ _ _ h3 hf
theorem open_fits {limit : Int} {out o : List Nat} {x : Nat} {B : Nat → Nat} {T i j : Nat} (h : blockP limit out B T i = .ok ((x, o), j)) (hf : Fits limit out) : Fits limit o := by
  have e : blockP limit out = bindP (rdP 1) fun last => bindP (rdP 2) fun kind => blockK limit out last kind := rfl
  rw [e] at h
  obtain ⟨last, m1, _, h1⟩ := bindP_inv h
  obtain ⟨kind, m2, _, h2⟩ := bindP_inv h1
  rw [block_kind] at h2
  obtain ⟨o2, m3, h3, h4⟩ := bindP_inv h2
  have h5 : o2 = o := by
    injection h4 with h4
    injection h4 with h4 _
    injection h4
  subst h5
  unfold kindP at h3
  split at h3
  · exact raw_fits h3
  · split at h3
    · cases h3
    · split at h3
      · exact coded_fits h3 hf
      · obtain ⟨ab, m4, _, h6⟩ := bindP_inv h3
        exact coded_fits h6 hf

set_option maxRecDepth 20000 in
set_option maxHeartbeats 16000000 in
theorem open11 (s : ByteArray) (limit : Int) (W : World) (hs : s.size ≤ 100000) (h1 : -9223372036854775808 ≤ limit) (h2 : limit ≤ 1000000) :
    Calls Tryz.prog 8 #[.string s, .int .i64 limit] W fun e w' => OpenPost (openR s limit) W e w' := by
  have hmf : ∀ (fn : Fn) (first cap : Array Value) (w : World), (Instr.makeFunc fn first cap).run Tryz.prog w = .ok (.func fn first cap) w := fun _ _ _ _ => rfl
  have HS0 := hide (show OpSt ((W.alloc (.cells #[.string s, .int .i64 0, .bool false] 43)).alloc (.cells #[.pointer (some ⟨W.heap.size, 0, none⟩), .func (.func 13) #[.pointer (some ⟨W.heap.size, 0, none⟩)] #[], .slice none 0 0, .int .i64 limit] 47)) W (W.heap.size + 1) W.heap.size s 0 [] (.slice none 0 0) limit by
    have s1 := size_alloc W (.cells #[.string s, .int .i64 0, .bool false] 43)
    refine ⟨⟨?_, World.ownsRow_nil _ _ _ _, ((Below.refl _ W).alloc (Nat.le_refl _) _).alloc (by omega) _, Nat.le_refl _, fun e => by cases e⟩, ⟨heap_alloc_at _ _ s1, by omega⟩, by omega, fun e => by cases e⟩
    unfold RdAt
    rw [heap_alloc_old _ _ _ (by omega)]
    exact heap_alloc_at W _ rfl)
  obtain ⟨R, hR⟩ : ∃ R, openR s limit = R := ⟨_, rfl⟩
  have HR0 := hide (show openP limit 1000000 [] (srcB s) (8 * s.size) 0 = R from hR)
  rw [hR]
  have HFT := hide (show Fits limit [] from .inl rfl)
  clear hR
  obtain ⟨p, hp⟩ : ∃ p, W.heap.size = p := ⟨_, rfl⟩
  obtain ⟨O, hO⟩ : ∃ O, p + 1 = O := ⟨_, rfl⟩
  have HSZW := hide hp
  go_enter Tryz.func8, Tryz.ntmps8
  go_wp2
  rw [hp, hO] at HS0
  try simp only [hp, hO]
  generalize hw1 : (W.alloc (.cells #[.string s, .int .i64 0, .bool false] 43)).alloc (.cells #[.pointer (some ⟨p, 0, none⟩), .func (.func 13) #[.pointer (some ⟨p, 0, none⟩)] #[], .slice none 0 0, .int .i64 limit] 47) = w1 at *
  clear hw1 hp hO hmf
  go_loopg [] (8 * s.size) (fun gk wr => ∃ i out f v, i ≤ 8 * s.size ∧ 8 * s.size - i ≤ gk ∧ 8 * s.size < f + i ∧ Hid (Fits limit out) ∧ Hid (openP limit f out (srcB s) (8 * s.size) i = R) ∧ Hid (OpSt wr W O p s i out v limit))
  case atStart => exact ⟨0, [], 1000000, _, Nat.zero_le _, Nat.le_refl _, by omega, HFT, HR0, HS0⟩
  case round =>
    clear HS0 HR0 HFT
    obtain ⟨i, out, f, v, hi8, hgk, hfu, HF, HE, HO⟩ := hrel
    obtain ⟨f, rfl⟩ : ∃ k, f = k + 1 := ⟨f - 1, by omega⟩
    have HGK := hide hgk
    have HFU := hide hfu
    clear hgk hfu
    have HBK := hide (block11 O p s i out v limit W wr HO.out hi8 hs h1 h2 HF.out)
    go_wp2_with fail
    refine HBK.out.mono ?_
    rintro e w2 (⟨x, o, j, v2, hB, rfl, hO2⟩ | ⟨b, er, hB, her, rfl, hb2⟩)
    · have HB := hide hB
      have HO2 := hide hO2
      have HIJ := hide (blockP_more hB)
      have HJ8 := hide ((Good.block limit out).hi _ _ _ _ _ hB hi8)
      have HF2 := hide (open_fits hB HF.out)
      clear hB hO2 HBK HO HF
      by_cases l1 : x = 1
      · have bl : ((x : Int) == 1) = true := by simp; omega
        obtain ⟨a4, c4, rfl⟩ := HO2.out.slice
        have HG := hide (fun q => (show OpenPost R W (.returned (.tuple #[.string (strOf o), .int .i64 (((j + 7) / 8 : Nat) : Int), .int .i64 0])) (w2.drewN q) from ⟨below_drewN HO2.out.st.bel q, .inl ⟨o, j, by rw [← HE.out]; exact opn_last (by rw [← l1]; exact HB.out), rfl⟩⟩))
        have HCV := hide (fun q => str_own (own_below HO2.out.st.own (below_drewN (Below.refl w2.heap.size w2) q) (Nat.le_refl _)))
        have hcv : ∀ q, (convert 30 9 (.slice a4 o.length c4)).run Tryz.prog (w2.drewN q) = .ok (.string (strOf o)) (w2.drewN q) := HCV.out
        have HUS := hide (fun q => (rused_any p s j false (w2.drewN q) HO2.out.st.rd HJ8.out (by omega)).mono fun e w' h => (⟨h.1, h.2.symm⟩ : e = .returned (.int .i64 (((j + 7) / 8 : Nat) : Int)) ∧ w' = w2.drewN q))
        have _c2 := HO2.out.bx.c2
        clear HB HF2 HE HIJ HJ8 HCV l1
        go_wp2_with fail
        go_quiet ((go_at_call 15; exact Calls.quiet_of_same (HUS.out _)))
        go_wp2
        go_ret3
        exact HG.out _
      · have bl : ((x : Int) == 1) = false := by simp; omega
        have HE2 := hide (show openP limit f o (srcB s) (8 * s.size) j = R by rw [← HE.out]; exact (opn_more HB.out l1).symm)
        clear HB HE l1
        go_wp2
        go_roundg (8 * s.size - j)
        case measure => have := HGK.out; have := HIJ.out; have := HJ8.out; omega
        case rel => exact ⟨j, o, f, v2, HJ8.out, Nat.le_refl _, by have := HFU.out; have := HIJ.out; omega, HF2, HE2, HO2⟩
    · have HG := hide (show OpenPost R W (.returned (.tuple #[.string { data := #[] }, .int .i64 0, .int .i64 er])) w2 from ⟨hb2, .inr ⟨er, by rw [← HE.out]; exact opn_err hB, her, rfl⟩⟩)
      have be : (er == 0) = false := by simp; exact her
      clear hB hb2 HBK HO HF HE
      go_wp2
      go_ret3
      exact HG.out

/-- The program's layer 11 is what is asked of it. -/
theorem ispec : ISpec := ⟨fun s limit W hs h1 h2 => (open11 s limit W hs h1 h2).mono fun _ _ h => h.is⟩

end Go.Proofs.YtaalbaiglkadlaaGreat
