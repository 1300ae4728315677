/- The statements' 'awake' of layer 14. -/
import Derived.Test.YtbjjcjcobiokcaaOSome
namespace Go.Proofs.Ytbjjcjcobiokcaa
open Go.RowKit Go.Lib

theorem some_cen_at : CenAt (cenS rSome) 0 rSome := ⟨some_right, [], by rw [List.drop_zero, List.append_nil]⟩
theorem some_loc_at : LocAt (locS rSome) 0 rSome := ⟨[], by rw [List.drop_zero, List.append_nil]⟩
theorem rec_alloc {w : World} {k : Nat} {o : Obj} (h : w.heap[k]? = some o) (x : Obj) : (w.alloc x).heap[k]? = some o := rec_kept h ((Below.refl _ w).alloc (Nat.le_refl _) x)
/-- The examples' boxes, under way. -/
structure AW (w W : World) (R P X P2 B6 : Nat) (C L : ByteArray) (i : Int) : Prop where
  bel : Below W.heap.size W w
  r1 : w.heap[R]? = some (.cells #[.string ⟨#[97]⟩, .string ⟨#[110]⟩, .int .i64 0, .int .i64 8, .int .i64 33, .int .i64 0, .int .i64 7, .int .i64 5, .int .i64 4, .int .i64 9, .bool false] 23 (0, 0))
  x1 : w.heap[X]? = some (.cells #[.string ⟨#[97]⟩, .string ⟨#[110]⟩, .int .i64 0, .int .i64 8, .int .i64 33, .int .i64 0, .int .i64 7, .int .i64 5, .int .i64 4, .int .i64 9, .bool false] 23 (0, 0))
  w6 : w.heap[B6]? = some (.cells #[.string ⟨#[97]⟩, .string ⟨#[110]⟩, .int .i64 8, .int .i64 8, .int .i64 33, .int .i64 0, .int .i64 7, .int .i64 5, .int .i64 4, .int .i64 9, .bool true] 23 (0, 0))
  c1 : CurAt 29 w P C 48 false
  c2 : CurAt 29 w P2 L i false
  n2 : W.heap.size ≤ P2
  dr : R ≠ P2
  dx : X ≠ P2
  d6 : B6 ≠ P2
  dp : P ≠ P2
theorem AW.below {w w' W : World} {R P X P2 B6 : Nat} {C L : ByteArray} {i : Int} (h : AW w W R P X P2 B6 C L i) (b : Below w.heap.size w w') : AW w' W R P X P2 B6 C L i :=
  ⟨h.bel.trans (b.mono h.bel.size), rec_kept h.r1 b, rec_kept h.x1 b, rec_kept h.w6 b, h.c1.below b h.c1.lt, h.c2.below b h.c2.lt, h.n2, h.dr, h.dx, h.d6, h.dp⟩
/-- What a cursor's call leaves of elder blocks. -/
theorem keep_cur {W w w' : World} {p : Nat} (b : Below W.heap.size W w) (hp : W.heap.size ≤ p) (h1 : w'.os = w.os) (h2 : w'.tape = w.tape) (h3 : w'.output = w.output) (h4 : w.heap.size ≤ w'.heap.size) (h5 : ∀ k, k < w.heap.size → k ≠ p → w'.heap[k]? = w.heap[k]?) : Below W.heap.size W w' :=
  ⟨h1.trans b.os, h2.trans b.tape, h3.trans b.output, Nat.le_trans b.size h4, fun k hk => (h5 k (Nat.lt_of_lt_of_le hk b.size) (by omega)).trans (b.block k hk)⟩

set_option maxRecDepth 20000 in
set_option maxHeartbeats 16000000 in
theorem awake14 (S : OSpec) (W : World) : Calls Try.prog 9 #[] W fun e w' => e = .returned (.bool true) ∧ Below W.heap.size W w' := by
  have HSM := hide (fun w => show Calls Try.prog 22 #[] w fun e w' => e = .returned (.agg #[.string ⟨#[97]⟩, .string ⟨#[110]⟩, .int .i64 0, .int .i64 8, .int .i64 33, .int .i64 0, .int .i64 7, .int .i64 5, .int .i64 4, .int .i64 9, .bool false]) ∧ Below w.heap.size w w' from some_any w)
  have HCE := hide (fun w => show Calls Try.prog 14 #[.agg #[.string ⟨#[97]⟩, .string ⟨#[110]⟩, .int .i64 0, .int .i64 8, .int .i64 33, .int .i64 0, .int .i64 7, .int .i64 5, .int .i64 4, .int .i64 9, .bool false]] w fun e w' => e = .returned (.string (cenS rSome)) ∧ Below w.heap.size w w' from S.cent rSome w some_right)
  have HLO := hide (fun w => show Calls Try.prog 12 #[.agg #[.string ⟨#[97]⟩, .string ⟨#[110]⟩, .int .i64 0, .int .i64 8, .int .i64 33, .int .i64 0, .int .i64 7, .int .i64 5, .int .i64 4, .int .i64 9, .bool false]] w fun e w' => e = .returned (.string (locS rSome)) ∧ Below w.heap.size w w' from S.locl rSome w some_right)
  have HTA := hide (fun w => show Calls Try.prog 16 #[.agg #[.string ⟨#[97]⟩, .string ⟨#[110]⟩, .int .i64 0, .int .i64 8, .int .i64 33, .int .i64 0, .int .i64 7, .int .i64 5, .int .i64 4, .int .i64 9, .bool false]] w fun e w' => e = .returned (.string ⟨#[]⟩) ∧ Below w.heap.size w w' from some_tail ▸ S.tail rSome w some_right)
  have HTW := hide (fun w => show Calls Try.prog 16 #[.agg #[.string ⟨#[97]⟩, .string ⟨#[110]⟩, .int .i64 8, .int .i64 8, .int .i64 33, .int .i64 0, .int .i64 7, .int .i64 5, .int .i64 4, .int .i64 9, .bool true]] w fun e w' => e = .returned (.string (tailS rWide)) ∧ Below w.heap.size w w' from S.tail rWide w wide_right)
  have HLW := hide (fun w => show Calls Try.prog 12 #[.agg #[.string ⟨#[97]⟩, .string ⟨#[110]⟩, .int .i64 8, .int .i64 8, .int .i64 33, .int .i64 0, .int .i64 7, .int .i64 5, .int .i64 4, .int .i64 9, .bool true]] w fun e w' => e = .returned (.string (locS rWide)) ∧ Below w.heap.size w w' from S.locl rWide w wide_right)
  have HRI := hide (fun w => show Calls Try.prog 10 #[.agg #[.string ⟨#[97]⟩, .string ⟨#[110]⟩, .int .i64 0, .int .i64 8, .int .i64 33, .int .i64 0, .int .i64 7, .int .i64 5, .int .i64 4, .int .i64 9, .bool false]] w fun e w' => e = .returned (.bool true) ∧ Below w.heap.size w w' from S.right rSome w (by constructor <;> (constructor <;> decide)))
  have HRB := hide (fun w => show Calls Try.prog 10 #[.agg #[.string ⟨#[]⟩, .string ⟨#[]⟩, .int .i64 0, .int .i64 0, .int .i64 0, .int .i64 0, .int .i64 (-1), .int .i64 0, .int .i64 0, .int .i64 0, .bool false]] w fun e w' => e = .returned (.bool false) ∧ Below w.heap.size w w' from S.right rBad w (by constructor <;> (constructor <;> decide)))
  have HRC := hide (fun p w (h : CurAt 29 w p (cenS rSome) (0 : Nat) false) => S.readC (cenS rSome) p 0 w h (Nat.zero_le _) (by rw [cenS_size]; decide))
  have HRL := hide (fun p w (h : CurAt 29 w p (locS rSome) (0 : Nat) false) => show Calls Try.prog 20 #[.pointer (some ⟨p, 0, none⟩), .agg #[.string ⟨#[97]⟩, .string ⟨#[110]⟩, .int .i64 0, .int .i64 8, .int .i64 33, .int .i64 0, .int .i64 7, .int .i64 5, .int .i64 4, .int .i64 9, .bool false]] w fun e w' => ReadLP 29 (locS rSome) p 0 rSome w e w' from S.readL (locS rSome) p 0 rSome w h (Nat.zero_le _) (by rw [locS_size]; decide) some_right)
  have HCA := hide some_cen_at
  have HLA := hide some_loc_at
  have cC : ((cenS rSome).size : Int) = 48 := by rw [cenS_size]; rfl
  have cL : ((locS rSome).size : Int) = 31 := by rw [locS_size]; rfl
  have cT : ((tailS rWide).size : Int) = 24 := by rw [tailS_size]; rfl
  have cW : ((locS rWide).size : Int) = 51 := by rw [locS_size]; rfl
  have HSL := hide (fun w => show (Instr.slice 9 (.string (locS rSome)) none (some (.int .i64 4)) none).run Try.prog w = .ok (.string ⟨#[80, 75, 3, 4]⟩) w from by
    rw [run_slice_string_h (P := Try.prog) w 9 (locS rSome) Try.underlying9 .i64 4 (by omega) (by omega)]
    rw [show (locS rSome).extract 0 (Int.toNat 4) = ⟨#[80, 75, 3, 4]⟩ by decide +kernel])
  have HC48 := hide (show (cenS rSome).size = 48 by omega)
  have HL31 := hide (show (locS rSome).size = 31 by omega)
  have HDN1 := hide (fun p {w} (h : CurAt 29 w p (cenS rSome) 48 false) => (cdone_any p (cenS rSome) w 48 false h).mono fun e w' g => (⟨by rw [g.1]; unfold doneB; rw [cC]; rfl, g.2.elim fun n hn => hn ▸ below_drewO (Below.refl _ _) n⟩ : e = .returned (.bool true) ∧ Below w.heap.size w w'))
  have HDN2 := hide (fun p {w} (h : CurAt 29 w p (locS rSome) 31 false) => (cdone_any p (locS rSome) w 31 false h).mono fun e w' g => (⟨by rw [g.1]; unfold doneB; rw [cL]; rfl, g.2.elim fun n hn => hn ▸ below_drewO (Below.refl _ _) n⟩ : e = .returned (.bool true) ∧ Below w.heap.size w w'))
  clear S
  generalize cenS rSome = C at *
  generalize locS rSome = L at *
  generalize tailS rWide = TW at *
  generalize locS rWide = LW at *
  have HCZ := hide (show (cenS rSome).size = 48 by rw [cenS_size]; rfl)
  have HLZ := hide (show (locS rSome).size = 31 by rw [locS_size]; rfl)
  have hsl := HSL.out
  go_enter Try.func9, Try.ntmps9
  go_wp2_with fail
  refine (HSM.out _).mono ?_
  rintro e w1 ⟨rfl, b1⟩
  have B1 := hide b1
  clear b1
  go_wp2_with fail
  refine (HCE.out _).mono ?_
  rintro e w2 ⟨rfl, b2⟩
  have HQ := hide (rec_kept (rec_new w1 _ _) b2)
  have hB1 := B1.out.alloc B1.out.size (.cells #[.string ⟨#[97]⟩, .string ⟨#[110]⟩, .int .i64 0, .int .i64 8, .int .i64 33, .int .i64 0, .int .i64 7, .int .i64 5, .int .i64 4, .int .i64 9, .bool false] 23)
  have B2 := hide (hB1.trans (b2.mono hB1.size))
  obtain ⟨R, hR⟩ : ∃ R, w1.heap.size = R := ⟨_, rfl⟩
  rw [hR] at HQ
  simp only [hR]
  clear hR hB1 b2 B1
  obtain ⟨P, hP⟩ : ∃ P, w2.heap.size = P := ⟨_, rfl⟩
  have HPW := hide (show W.heap.size ≤ P by rw [← hP]; exact B2.out.size)
  obtain ⟨v2, hv2⟩ : ∃ v2, w2.alloc (.cells #[.string C, .int .i64 0, .bool false] 29) = v2 := ⟨_, rfl⟩
  have hCU : CurAt 29 v2 P C (0 : Nat) false := by
    rw [← hv2, ← hP]
    exact CurAt.made _ _ _ _
  have bv : Below w2.heap.size w2 v2 := by rw [← hv2]; exact (Below.refl _ _).alloc (Nat.le_refl _) _
  have HRP := hide (show R ≠ P from fun e => by have := (Array.getElem?_eq_some_iff.1 HQ.out).1; omega)
  have HQ := hide (rec_kept HQ.out bv)
  have B2 := hide (B2.out.trans (bv.mono B2.out.size))
  obtain ⟨g0, g1, g2, g3, g4, g5, g6, g7, g8, g9, g10⟩ := rec_cells HQ.out
  have HR2 := hide (HRC.out P v2 hCU)
  clear bv hCU HRC
  go_wp2_with fail
  try simp only [hP, hv2]
  clear hv2 hP
  refine HR2.out.mono ?_
  rintro e w3 ⟨k1, k2, k3, k4, k5, ⟨r, hr, rfl, hc3⟩ | ⟨hno, _⟩⟩
  rotate_left
  · exact absurd HCA.out (hno rSome)
  obtain rfl : r = rSome := hr.uniq HCA.out (Nat.zero_le _)
  have B3 := hide (keep_cur B2.out HPW.out k1 k2 k3 k4 k5)
  have HQ3 := hide ((k5 R (Array.getElem?_eq_some_iff.1 HQ.out).1 HRP.out).trans HQ.out)
  rw [Nat.zero_add] at hc3
  have HC3 := hide hc3
  have HPL := hide hc3.lt
  clear k1 k2 k3 k4 k5 hr hc3 HQ B2 HR2 g0 g1 g2 g3 g4 g5 g6 g7 g8 g9 g10
  unfold recV recCs rSome
  dsimp only
  obtain ⟨g0, g1, g2, g3, g4, g5, g6, g7, g8, g9, g10⟩ := rec_cells (rec_alloc HQ3.out (.cells #[.string ⟨#[97]⟩, .string ⟨#[110]⟩, .int .i64 0, .int .i64 8, .int .i64 33, .int .i64 0, .int .i64 7, .int .i64 5, .int .i64 4, .int .i64 9, .bool false] 23))
  go_wp2_with fail
  refine (HLO.out _).mono ?_
  rintro e w4 ⟨rfl, b4⟩
  have hX : (w3.alloc (.cells #[.string ⟨#[97]⟩, .string ⟨#[110]⟩, .int .i64 0, .int .i64 8, .int .i64 33, .int .i64 0, .int .i64 7, .int .i64 5, .int .i64 4, .int .i64 9, .bool false] 23)).heap[w3.heap.size]? = some (.cells #[.string ⟨#[97]⟩, .string ⟨#[110]⟩, .int .i64 0, .int .i64 8, .int .i64 33, .int .i64 0, .int .i64 7, .int .i64 5, .int .i64 4, .int .i64 9, .bool false] 23 (0, 0)) := rec_new w3 _ _
  have hb3 := B3.out.alloc B3.out.size (.cells #[.string ⟨#[97]⟩, .string ⟨#[110]⟩, .int .i64 0, .int .i64 8, .int .i64 33, .int .i64 0, .int .i64 7, .int .i64 5, .int .i64 4, .int .i64 9, .bool false] 23)
  have HX4 := hide (rec_kept hX b4)
  have HQ4 := hide (rec_kept (rec_alloc HQ3.out (.cells #[.string ⟨#[97]⟩, .string ⟨#[110]⟩, .int .i64 0, .int .i64 8, .int .i64 33, .int .i64 0, .int .i64 7, .int .i64 5, .int .i64 4, .int .i64 9, .bool false] 23)) b4)
  have HC4 := hide ((HC3.out.alloc (.cells #[.string ⟨#[97]⟩, .string ⟨#[110]⟩, .int .i64 0, .int .i64 8, .int .i64 33, .int .i64 0, .int .i64 7, .int .i64 5, .int .i64 4, .int .i64 9, .bool false] 23)).below b4 (HC3.out.alloc (.cells #[.string ⟨#[97]⟩, .string ⟨#[110]⟩, .int .i64 0, .int .i64 8, .int .i64 33, .int .i64 0, .int .i64 7, .int .i64 5, .int .i64 4, .int .i64 9, .bool false] 23)).lt)
  have B4 := hide (hb3.trans (b4.mono hb3.size))
  obtain ⟨X, hX9⟩ : ∃ X, w3.heap.size = X := ⟨_, rfl⟩
  rw [hX9] at HX4
  simp only [hX9]
  clear hX9 hX hb3 b4 HQ3 HC3 B3 g0 g1 g2 g3 g4 g5 g6 g7 g8 g9 g10
  obtain ⟨g0, g1, g2, g3, g4, g5, g6, g7, g8, g9, g10⟩ := rec_cells (rec_alloc HQ4.out (.cells #[.string L, .int .i64 0, .bool false] 29))
  obtain ⟨h0, h1, h2, h3, h4, h5, h6, h7, h8, h9, h10⟩ := rec_cells (rec_alloc (rec_alloc HQ4.out (.cells #[.string L, .int .i64 0, .bool false] 29)) (.cells #[.string ⟨#[97]⟩, .string ⟨#[110]⟩, .int .i64 8, .int .i64 8, .int .i64 33, .int .i64 0, .int .i64 7, .int .i64 5, .int .i64 4, .int .i64 9, .bool true] 23))
  go_wp2_with fail
  refine (HLO.out _).mono ?_
  rintro e w7 ⟨rfl, b7⟩
  have s5 : (w4.alloc (.cells #[.string L, .int .i64 0, .bool false] 29)).heap.size = w4.heap.size + 1 := by show (w4.heap.push _).size = _; simp
  have hP2 := HC4.out.lt
  have hr4 := (Array.getElem?_eq_some_iff.1 HQ4.out).1
  have hx4 := (Array.getElem?_eq_some_iff.1 HX4.out).1
  have hb5 := B4.out.alloc B4.out.size (.cells #[.string L, .int .i64 0, .bool false] 29)
  have A6 : AW ((w4.alloc (.cells #[.string L, .int .i64 0, .bool false] 29)).alloc (.cells #[.string ⟨#[97]⟩, .string ⟨#[110]⟩, .int .i64 8, .int .i64 8, .int .i64 33, .int .i64 0, .int .i64 7, .int .i64 5, .int .i64 4, .int .i64 9, .bool true] 23)) W R P X w4.heap.size (w4.heap.size + 1) C L (0 : Nat) :=
    ⟨hb5.alloc hb5.size _, rec_alloc (rec_alloc HQ4.out (.cells #[.string L, .int .i64 0, .bool false] 29)) _, rec_alloc (rec_alloc HX4.out (.cells #[.string L, .int .i64 0, .bool false] 29)) _, s5 ▸ rec_new (w4.alloc (.cells #[.string L, .int .i64 0, .bool false] 29)) _ _, by have h := (HC4.out.alloc (.cells #[.string L, .int .i64 0, .bool false] 29)).alloc (.cells #[.string ⟨#[97]⟩, .string ⟨#[110]⟩, .int .i64 8, .int .i64 8, .int .i64 33, .int .i64 0, .int .i64 7, .int .i64 5, .int .i64 4, .int .i64 9, .bool true] 23); rw [HCZ.out] at h; exact h, (CurAt.made 29 w4 L 0).alloc _, B4.out.size, by omega, by omega, by omega, by omega⟩
  have A7 := hide (A6.below b7)
  obtain ⟨P2, hP9⟩ : ∃ q, w4.heap.size = q := ⟨_, rfl⟩
  obtain ⟨B6, hB9⟩ : ∃ q, P2 + 1 = q := ⟨_, rfl⟩
  rw [hP9, hB9] at A7
  simp only [hP9, hB9]
  clear hP9 hB9 A6 hb5 hP2 hr4 hx4 s5 b7 B4 HC4 HX4 HQ4 g0 g1 g2 g3 g4 g5 g6 g7 g8 g9 g10 h0 h1 h2 h3 h4 h5 h6 h7 h8 h9 h10
  obtain ⟨g0, g1, g2, g3, g4, g5, g6, g7, g8, g9, g10⟩ := rec_cells A7.out.r1
  go_wp2_with fail
  refine (HLO.out _).mono ?_
  rintro e w8 ⟨rfl, b⟩
  have A8 := hide (A7.out.below b)
  clear b A7 g0 g1 g2 g3 g4 g5 g6 g7 g8 g9 g10
  obtain ⟨g0, g1, g2, g3, g4, g5, g6, g7, g8, g9, g10⟩ := rec_cells A8.out.r1
  go_wp2_with fail
  refine (HCE.out _).mono ?_
  rintro e w9 ⟨rfl, b⟩
  have A9 := hide (A8.out.below b)
  clear b A8 g0 g1 g2 g3 g4 g5 g6 g7 g8 g9 g10
  obtain ⟨g0, g1, g2, g3, g4, g5, g6, g7, g8, g9, g10⟩ := rec_cells A9.out.r1
  obtain ⟨i0, i1, i2, i3, i4, i5, i6, i7, i8, i9, i10⟩ := rec_cells A9.out.x1
  go_wp2_with fail
  refine (HDN1.out _ A9.out.c1).mono ?_
  rintro e w10 ⟨rfl, b⟩
  have A10 := hide (A9.out.below b)
  clear b A9 g0 g1 g2 g3 g4 g5 g6 g7 g8 g9 g10 i0 i1 i2 i3 i4 i5 i6 i7 i8 i9 i10
  obtain ⟨g0, g1, g2, g3, g4, g5, g6, g7, g8, g9, g10⟩ := rec_cells A10.out.r1
  go_wp2_with fail
  refine (HRL.out P2 _ A10.out.c2).mono ?_
  rintro e w11 ⟨k1, k2, k3, k4, k5, ⟨_, rfl, hc⟩ | ⟨hno, _⟩⟩
  rotate_left
  · exact absurd HLA.out hno
  have A11 := hide (show AW w11 W R P X P2 B6 C L (31 : Int) from ⟨keep_cur A10.out.bel A10.out.n2 k1 k2 k3 k4 k5, (k5 R (Array.getElem?_eq_some_iff.1 A10.out.r1).1 A10.out.dr).trans A10.out.r1, (k5 X (Array.getElem?_eq_some_iff.1 A10.out.x1).1 A10.out.dx).trans A10.out.x1, (k5 B6 (Array.getElem?_eq_some_iff.1 A10.out.w6).1 A10.out.d6).trans A10.out.w6, A10.out.c1.block (k5 P A10.out.c1.lt A10.out.dp), by rw [Nat.zero_add, HLZ.out] at hc; exact hc, A10.out.n2, A10.out.dr, A10.out.dx, A10.out.d6, A10.out.dp⟩)
  clear k1 k2 k3 k4 k5 hc A10 g0 g1 g2 g3 g4 g5 g6 g7 g8 g9 g10
  go_wp2_with fail
  refine (HDN2.out _ A11.out.c2).mono ?_
  rintro e w12 ⟨rfl, b⟩
  have A12 := hide (A11.out.below b)
  clear b A11 
  obtain ⟨g0, g1, g2, g3, g4, g5, g6, g7, g8, g9, g10⟩ := rec_cells A12.out.r1
  go_wp2_with fail
  refine (HTA.out _).mono ?_
  rintro e w13 ⟨rfl, b⟩
  have A13 := hide (A12.out.below b)
  clear b A12 g0 g1 g2 g3 g4 g5 g6 g7 g8 g9 g10
  obtain ⟨h0, h1, h2, h3, h4, h5, h6, h7, h8, h9, h10⟩ := rec_cells A13.out.w6
  go_wp2_with fail
  refine (HTW.out _).mono ?_
  rintro e w14 ⟨rfl, b⟩
  have A14 := hide (A13.out.below b)
  clear b A13 h0 h1 h2 h3 h4 h5 h6 h7 h8 h9 h10
  obtain ⟨h0, h1, h2, h3, h4, h5, h6, h7, h8, h9, h10⟩ := rec_cells A14.out.w6
  go_wp2_with fail
  refine (HLW.out _).mono ?_
  rintro e w15 ⟨rfl, b⟩
  have A15 := hide (A14.out.below b)
  clear b A14 h0 h1 h2 h3 h4 h5 h6 h7 h8 h9 h10
  obtain ⟨g0, g1, g2, g3, g4, g5, g6, g7, g8, g9, g10⟩ := rec_cells A15.out.r1
  go_wp2_with fail
  refine (HRI.out _).mono ?_
  rintro e w16 ⟨rfl, b⟩
  have A16 := hide (A15.out.below b)
  clear b A15 g0 g1 g2 g3 g4 g5 g6 g7 g8 g9 g10
  go_wp2_with fail
  refine (HRB.out _).mono ?_
  rintro e w17 ⟨rfl, b⟩
  have A17 := hide (A16.out.below b)
  clear b A16 
  go_wp2
  go_ret
  exact ⟨rfl, A17.out.bel⟩

end Go.Proofs.Ytbjjcjcobiokcaa
