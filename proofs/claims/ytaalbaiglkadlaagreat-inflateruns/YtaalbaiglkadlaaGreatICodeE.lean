/- The program's layer 11: a length or a distance; a match more. -/
import Derived.Test.YtaalbaiglkadlaaGreatJA
import Derived.Test.YtaalbaiglkadlaaGreatIC
import Derived.Test.YtaalbaiglkadlaaGreatSA
import Derived.Test.YtaalbaiglkadlaaGreatRB
import Derived.Deep.AppendLies
import Derived.Deep.RegionLaw
namespace Go.Proofs.YtaalbaiglkadlaaGreat
open Go.RowKit Go.Lib

/-- What a length or a distance gives. -/
def AbvPost (least extra : Nat) (is : Bool) (p : Nat) (s : ByteArray) (i : Nat) (W : World) (e : Ending) (w' : World) : Prop := Turn p W w' ∧
  ((is = true ∧ ∃ x, rdP extra (srcB s) (8 * s.size) i = .ok (x, i + extra) ∧ x < 2 ^ extra ∧ i + extra ≤ 8 * s.size ∧ e = .returned (.tuple #[.int .i64 ((least + x : Nat) : Int), .int .i64 0]) ∧ RdAt 43 w' p s (i + extra) false) ∨
   (is = true ∧ rdP extra (srcB s) (8 * s.size) i = .error 2 ∧ e = .returned (.tuple #[.int .i64 0, .int .i64 2])) ∨
   (is = false ∧ e = .returned (.tuple #[.int .i64 0, .int .i64 4])))

set_option maxRecDepth 20000 in
set_option maxHeartbeats 4000000 in
theorem above11 (O p : Nat) (v : Value) (limit : Int) (s : ByteArray) (i least extra : Nat) (is : Bool) (W : World) (h : Bx W O p v limit) (hr : RdAt 43 W p s i false) (hk : extra ≤ 13) (hl : least ≤ 100000) (hi : i ≤ 8 * s.size) (hs : s.size ≤ 1000000) :
    Calls Tryz.prog 75 #[.pointer (some ⟨O, 0, none⟩), .int .i64 (least : Nat), .int .i64 (extra : Nat), .bool is] W fun e w' => AbvPost least extra is p s i W e w' := by
  have HN := hide (number11 O p v limit s i extra W h hr (by omega) hi hs)
  clear h hr
  cases is with
  | false =>
    have HG := hide (show AbvPost least extra false p s i W (.returned (.tuple #[.int .i64 0, .int .i64 4])) W from ⟨Turn.refl p W, .inr (.inr ⟨rfl, rfl⟩)⟩)
    go_enter Tryz.func75, Tryz.ntmps75
    go_wp2
    go_ret2
    exact HG.out
  | true =>
    go_enter Tryz.func75, Tryz.ntmps75
    go_wp2_with fail
    refine HN.out.mono ?_
    rintro e w1 ⟨ho, ⟨x, h1, h2, h3, rfl, h5⟩ | ⟨h1, rfl⟩⟩
    · have hx : x < 8192 := by
        have : (2 : Nat) ^ extra ≤ 2 ^ 13 := Nat.pow_le_pow_right (by decide) hk
        omega
      have ew := (wrap_two least x (by omega)).1
      have ew2 := (wrap_two least x (by omega)).2
      have HG := hide (show AbvPost least extra true p s i W (.returned (.tuple #[.int .i64 ((least : Int) + (x : Int)), .int .i64 0])) w1 from ⟨ho.turn, .inl ⟨rfl, x, h1, h2, h3, by rw [Int.natCast_add], h5⟩⟩)
      clear ho h1 h2 h3 h5 HN
      go_wp2
      go_ret2
      exact HG.out
    · have HG := hide (show AbvPost least extra true p s i W (.returned (.tuple #[.int .i64 0, .int .i64 2])) w1 from ⟨ho.turn, .inr (.inl ⟨rfl, h1, rfl⟩)⟩)
      clear ho h1 HN
      go_wp2
      go_ret2
      exact HG.out

/-- What a piece gives: bytes, and a reader behind it; or an error. -/
def PieceO (R : Except Int (List Nat × Nat)) (W0 : World) (O p : Nat) (s : ByteArray) (limit : Int) (e : Ending) (w' : World) : Prop :=
  (∃ o j v', R = .ok (o, j) ∧ e = .returned (.int .i64 0) ∧ OpSt w' W0 O p s j o v' limit) ∨
  (∃ er, R = .error er ∧ er ≠ 0 ∧ e = .returned (.int .i64 er) ∧ Below W0.heap.size W0 w')
/-- What a match gives. -/
def MatPost (R : Except Int (List Nat × Nat)) (W0 W : World) (O p : Nat) (s : ByteArray) (v : Value) (limit : Int) (e : Ending) (w' : World) : Prop :=
  (∃ o j v', R = .ok (o, j) ∧ e = .returned (.int .i64 0) ∧ OpSt w' W0 O p s j o v' limit ∧ Mv O p v v' W w') ∨
  (∃ er, R = .error er ∧ er ≠ 0 ∧ e = .returned (.int .i64 er) ∧ Below W0.heap.size W0 w')
/-- A match under way: an opening, a code. -/
structure MF (w W0 W : World) (O p : Nat) (s : ByteArray) (i : Nat) (out : List Nat) (v : Value) (limit : Int) (a : Option Addr) (Q : Nat) (cs : List Value) (S : List Nat) : Prop where
  op : OpSt w W0 O p s i out v limit
  ka : KO O p v w a S
  qa : w.heap[Q]? = some (.cells cs.toArray 80 (0, 0))
  fq : FreeO O p v w Q
  mv : Mv O p v v W w
section
variable {w w' W W0 : World} {O p i j Q : Nat} {s : ByteArray} {out : List Nat} {v : Value} {limit : Int} {a : Option Addr} {cs : List Value} {S : List Nat}
theorem MF.read (h : MF w W0 W O p s i out v limit a Q cs S) (t : Turn p w w') (r : RdAt 43 w' p s j false) : MF w' W0 W O p s j out v limit a Q cs S :=
  ⟨h.op.read t r, h.ka.step (Mv.ofTurn t), (t.block Q h.fq.1 h.fq.2.2.1).trans h.qa, h.fq.step (Mv.ofTurn t), h.mv.trans (Mv.ofTurn t)⟩
theorem MF.below (h : MF w W0 W O p s i out v limit a Q cs S) (b : Below w.heap.size w w') : MF w' W0 W O p s i out v limit a Q cs S :=
  ⟨h.op.below b, h.ka.step (Mv.ofBelow b), (b.block Q h.fq.1).trans h.qa, h.fq.step (Mv.ofBelow b), h.mv.trans (Mv.ofBelow b)⟩
theorem MF.start (h : OpSt W W0 O p s i out v limit) (k : KO O p v W a S) (cs : List Value) : MF (W.alloc (.cells cs.toArray 80)) W0 W O p s i out v limit a W.heap.size cs S := by
  obtain ⟨h1, h2, h3, h4⟩ := h.old
  have b := (Below.refl W.heap.size W).alloc (Nat.le_refl _) (.cells cs.toArray 80)
  have hs := size_alloc W (.cells cs.toArray 80)
  exact ⟨h.alloc _, k.step (Mv.ofBelow b), heap_alloc_at _ _ rfl, ⟨by omega, by omega, by omega, fun e => by have := h3 _ e; omega⟩, Mv.ofBelow b⟩
end

set_option maxRecDepth 20000 in
set_option maxHeartbeats 16000000 in
theorem match11 (lb : List Nat) (a : Option Addr) (c m O p : Nat) (s : ByteArray) (i x : Nat) (out : List Nat) (v : Value) (limit : Int) (W0 W : World) (h : OpSt W W0 O p s i out v limit) (ka : KO O p v W a (symTo lb 16)) (hm : (symTo lb 16).length = m) (hlb : lb.length ≤ 1000) (hx : 256 < x) (hx9 : x ≤ 1000)
    (hi : i ≤ 8 * s.size) (hs : s.size ≤ 100000) (h1 : -9223372036854775808 ≤ limit) (h2 : limit ≤ 1000000) (hr : out = [] ∨ (out.length : Int) ≤ limit) :
    Calls Tryz.prog 55 #[.pointer (some ⟨O, 0, none⟩), .int .i64 (x : Nat), codeV (cn lb) (.slice a m c)] W fun e w' => MatPost (matchP lb limit out x (srcB s) (8 * s.size) i) W0 W O p s v limit e w' := by
  have HP0 := hide (MF.start h ka (codeCs (cn lb) (.slice a m c)))
  have HN1 := hide (codeCs_length (cn lb) (.slice a m c))
  have HX1 := hide (fun w j (hb : Bx w O p v limit) (k : KO O p v w a (symTo lb 16)) (r : RdAt 43 w p s j false) (hj : j ≤ 8 * s.size) => symbol11 O p v limit lb a c m s j w hb hm k.arg (fun b off e => (k.free b off e).2.2.1) hlb r hj (by omega))
  obtain ⟨a0, c0, rfl⟩ := h.slice
  obtain ⟨L, hL⟩ : ∃ L, out.length = L := ⟨_, rfl⟩
  have HLL := hide hL
  have hLr : L = 0 ∨ (L : Int) ≤ limit := by
    rcases hr with e | e
    · left; rw [← hL, e]; rfl
    · right; omega
  have hL9 : L ≤ 1000000 := by omega
  rw [hL] at HP0 HX1 ⊢
  unfold codeV at HX1 ⊢
  generalize codeCs (cn lb) (.slice a m c) = cs at *
  have HSZ1 := hide (show (Tryz.prog.info? 80).map (·.size) = some cs.length by rw [HN1.out]; exact Tryz.sizeCode)
  obtain ⟨R, hR⟩ : ∃ R, matchP lb limit out x (srcB s) (8 * s.size) i = R := ⟨_, rfl⟩
  have HR := hide hR
  rw [hR]
  obtain ⟨i1, ki, kz0, kz1, kz2⟩ := info_parts Tryz.infoU8
  have HERR := hide (fun (e : Int) (he : e ≠ 0) (w' : World) (hb : Below W0.heap.size W0 w') (hm : matchP lb limit out x (srcB s) (8 * s.size) i = .error e) => (show MatPost R W0 W O p s (.slice a0 L c0) limit (.returned (.int .i64 e)) w' from .inr ⟨e, by rw [← HR.out]; exact hm, he, rfl, hb⟩))
  have HOK := hide (fun (o : List Nat) (j4 : Nat) (v' : Value) (w' : World) (ho : OpSt w' W0 O p s j4 o v' limit) (hv : Mv O p (.slice a0 L c0) v' W w') (hm : matchP lb limit out x (srcB s) (8 * s.size) i = .ok (o, j4)) => (show MatPost R W0 W O p s (.slice a0 L c0) limit (.returned (.int .i64 0)) w' from .inl ⟨o, j4, v', by rw [← HR.out]; exact hm, rfl, ho, hv⟩))
  clear h ka hm hlb hr hR HR HN1 hL
  obtain ⟨Q, hQ⟩ : ∃ Q, W.heap.size = Q := ⟨_, rfl⟩
  rw [hQ] at HP0
  go_enter Tryz.func55, Tryz.ntmps55
  go_wp2_with fail
  try simp only [hQ]
  clear hQ
  obtain ⟨w0, hw0⟩ : ∃ w0, W.alloc (.cells cs.toArray 80) = w0 := ⟨_, rfl⟩
  try rw [hw0] at HP0
  try rw [hw0]
  clear hw0
  by_cases x285 : 285 < x
  · have HLB := hide (lenbase_any (x : Int))
    rw [lbV_no x x285] at HLB
    refine (HLB.out _).mono ?_
    rintro e w1 ⟨rfl, b1⟩
    have HP1 := hide (HP0.out.below b1)
    have HAB := hide (above11 O p _ limit s i 0 0 false w1 HP1.out.op.bx HP1.out.op.st.rd (by decide) (by decide) hi (by omega))
    go_wp2_with fail
    refine HAB.out.mono ?_
    rintro e w2 ⟨t2, ⟨q, _⟩ | ⟨q, _⟩ | ⟨_, rfl⟩⟩
    · cases q
    · cases q
    have HG := hide (HERR.out 4 (by decide) w2 (HP1.out.op.bad t2) (by unfold matchP; rw [if_pos x285]; rfl))
    clear t2 b1
    go_wp2
    go_ret
    exact HG.out
  obtain ⟨q, hq⟩ : ∃ q, x = 257 + q := ⟨x - 257, by omega⟩
  have hq28 : q ≤ 28 := by omega
  have HLB := hide (lenbase_any (x : Int))
  rw [lbV_yes x q hq hq28] at HLB
  have hbd := len_small q (by omega)
  have HM1 := hide (fun (Z : Except Int (List Nat × Nat)) (hz : bindP (rdP (lenBits q)) (fun x1 => bindP (symP lb) fun d => if 29 < d then failP 4 else bindP (rdP (distBits d)) fun y => copyP limit out (lenBase q + x1) (distBase d + y)) (srcB s) (8 * s.size) i = Z) => (show matchP lb limit out x (srcB s) (8 * s.size) i = Z by unfold matchP; rw [if_neg x285, show x - 257 = q by omega]; exact hz))
  generalize lenBase q = nb at HLB HM1 hbd
  generalize lenBits q = xb at HLB HM1 hbd
  clear hq hq28 x285
  refine (HLB.out _).mono ?_
  rintro e w1 ⟨rfl, b1⟩
  have HP1 := hide (HP0.out.below b1)
  have HAB := hide (above11 O p _ limit s i nb xb true w1 HP1.out.op.bx HP1.out.op.st.rd (by omega) (by omega) hi (by omega))
  clear b1 HLB HP0
  go_wp2_with fail
  refine HAB.out.mono ?_
  rintro e w2 ⟨t2, ⟨_, x1, hb1, hx1, hj2, rfl, hr2⟩ | ⟨_, hb1, rfl⟩ | ⟨q, _⟩⟩
  rotate_left
  · have HG := hide (HERR.out 2 (by decide) w2 (HP1.out.op.bad t2) (HM1.out _ (bindP_err hb1)))
    clear t2 hb1 HM1 HAB
    go_wp2
    go_ret
    exact HG.out
  · cases q
  have HP2 := hide (HP1.out.read t2 hr2)
  have HM2 := hide (fun (Z : Except Int (List Nat × Nat)) (hz : bindP (symP lb) (fun d => if 29 < d then failP 4 else bindP (rdP (distBits d)) fun y => copyP limit out (nb + x1) (distBase d + y)) (srcB s) (8 * s.size) (i + xb) = Z) => HM1.out Z (by rw [bindP_ok hb1]; exact hz))
  have hx32 : x1 < 32 := by
    have : (2 : Nat) ^ xb ≤ 2 ^ 5 := Nat.pow_le_pow_right (by decide) hbd.2.2
    omega
  obtain ⟨N, hN⟩ : ∃ N, nb + x1 = N := ⟨_, rfl⟩
  have hN9 : N ≤ 1000 := by omega
  rw [hN] at HM2 ⊢
  have HRG2 := hide (code_range HP2.out.qa)
  have HS2 := hide (HX1.out w2 (i + xb) HP2.out.op.bx HP2.out.ka HP2.out.op.st.rd hj2)
  clear HP1 HM1 HAB t2 hr2 hb1 hx1 hN hx32 hbd
  go_wp2_with (first
    | (refine wpList_load_mid rfl 80 (Operand.tmp 5) rfl Q 0 rfl cs _ HRG2.out Tryz.underlying80 rfl HSZ1.out ?_))
  refine HS2.out.mono ?_
  rintro e w3 ⟨t3, ⟨y, j3, hy, hj3, hj38, hyl, rfl, hr3⟩ | ⟨er, hy, her, rfl⟩⟩
  rotate_left
  · have HG := hide (HERR.out er her w3 (HP2.out.op.bad t3) (HM2.out _ (bindP_err hy)))
    have be : (er == 0) = false := by simp; exact her
    clear t3 hy HM2 HS2 HRG2
    go_wp2
    go_ret
    exact HG.out
  have HP3 := hide (HP2.out.read t3 hr3)
  have HM3 := hide (fun (Z : Except Int (List Nat × Nat)) (hz : (if 29 < y then failP 4 else bindP (rdP (distBits y)) fun y2 => copyP limit out N (distBase y + y2)) (srcB s) (8 * s.size) j3 = Z) => HM2.out Z (by rw [bindP_ok hy]; exact hz))
  have HDB := hide (distbase_any (y : Int))
  clear HP2 HM2 HRG2 HS2 t3 hr3 hy
  by_cases y29 : 29 < y
  · rw [dbV_no y y29] at HDB
    go_wp2_with fail
    refine (HDB.out _).mono ?_
    rintro e w4 ⟨rfl, b4⟩
    have HP4 := hide (HP3.out.below b4)
    have HAB := hide (above11 O p _ limit s j3 0 0 false w4 HP4.out.op.bx HP4.out.op.st.rd (by decide) (by decide) hj38 (by omega))
    go_wp2_with fail
    refine HAB.out.mono ?_
    rintro e w5 ⟨t5, ⟨q, _⟩ | ⟨q, _⟩ | ⟨_, rfl⟩⟩
    · cases q
    · cases q
    have HG := hide (HERR.out 4 (by decide) w5 (HP4.out.op.bad t5) (HM3.out _ (by rw [if_pos y29]; rfl)))
    clear t5 b4 HAB HM3
    go_wp2
    go_ret
    exact HG.out
  rw [dbV_yes y (by omega)] at HDB
  have hdb := dist_small y (by omega)
  have HM4 := hide (fun (Z : Except Int (List Nat × Nat)) (hz : bindP (rdP (distBits y)) (fun y2 => copyP limit out N (distBase y + y2)) (srcB s) (8 * s.size) j3 = Z) => HM3.out Z (by rw [if_neg y29]; exact hz))
  generalize distBase y = db at HDB HM4 hdb
  generalize distBits y = yb at HDB HM4 hdb
  clear HM3 y29
  go_wp2_with fail
  refine (HDB.out _).mono ?_
  rintro e w4 ⟨rfl, b4⟩
  have HP4 := hide (HP3.out.below b4)
  have HAB := hide (above11 O p _ limit s j3 db yb true w4 HP4.out.op.bx HP4.out.op.st.rd (by omega) (by omega) hj38 (by omega))
  clear b4 HDB HP3
  go_wp2_with fail
  refine HAB.out.mono ?_
  rintro e w5 ⟨t5, ⟨_, x2, hb2, hx2, hj4, rfl, hr5⟩ | ⟨_, hb2, rfl⟩ | ⟨q, _⟩⟩
  rotate_left
  · have HG := hide (HERR.out 2 (by decide) w5 (HP4.out.op.bad t5) (HM4.out _ (bindP_err hb2)))
    clear t5 hb2 HM4 HAB
    go_wp2
    go_ret
    exact HG.out
  · cases q
  have HP5 := hide (HP4.out.read t5 hr5)
  have hx8k : x2 < 8192 := by
    have : (2 : Nat) ^ yb ≤ 2 ^ 13 := Nat.pow_le_pow_right (by decide) hdb.2.2
    omega
  obtain ⟨D, hD⟩ : ∃ D, db + x2 = D := ⟨_, rfl⟩
  have HM5 := hide (fun (Z : Except Int (List Nat × Nat)) (hz : copyP limit out N D (srcB s) (8 * s.size) (j3 + yb) = Z) => HM4.out Z (by rw [bindP_ok hb2, hD]; exact hz))
  have hD1 : 1 ≤ D := by omega
  have hD9 : D ≤ 100000 := by omega
  rw [hD]
  have _c2 := HP5.out.op.bx.c2
  clear HP4 HM4 HAB t5 hr5 hb2 hx2 hD hx8k hdb
  by_cases hfar : L < D
  · have zf : decide ((L : Int) < (D : Int)) = true := decide_eq_true (by omega)
    have HG := hide (HERR.out 5 (by decide) w5 HP5.out.op.st.bel (HM5.out _ (by unfold copyP; rw [HLL.out, if_pos hfar]; rfl)))
    clear HM5
    go_wp2
    go_ret
    exact HG.out
  have zf : decide ((L : Int) < (D : Int)) = false := decide_eq_false (by omega)
  have HRM := hide (room11 O p L c0 a0 limit N w5 HP5.out.op.bx hL9 (by omega))
  go_wp2_with fail
  refine HRM.out.mono ?_
  rintro e w6 ⟨rfl, m6, rfl⟩
  clear HRM
  by_cases hlim : limit - (L : Int) < (N : Int)
  · have zl : decide ((L : Int) + (N : Int) ≤ limit) = false := decide_eq_false (by omega)
    have HG := hide (HERR.out 6 (by decide) (w5.drewN m6) (below_drewN HP5.out.op.st.bel m6) (HM5.out _ (by unfold copyP; rw [HLL.out, if_neg hfar, if_pos hlim]; rfl)))
    clear HM5
    go_wp2
    go_ret
    exact HG.out
  have zl : decide ((L : Int) + (N : Int) ≤ limit) = true := decide_eq_true (by omega)
  have HCP := hide (HM5.out (.ok (copyN D N out, j3 + yb)) (by unfold copyP; rw [HLL.out, if_neg hfar, if_neg hlim]; rfl))
  have hDL : D ≤ L := by omega
  have hLN : (L : Int) + (N : Int) ≤ limit := by omega
  have HO6 := hide (HP5.out.op.drewN m6)
  have HV6 := hide (HP5.out.mv.trans (Mv.ofBelow (below_drewN (Below.refl w5.heap.size w5) m6)))
  clear hfar hlim HM5 HERR HP5 _c2
  go_wp2
  rename World => wq
  go_loopw [60] (fun kv wt => ∃ jj o v9, kv = .int .i64 (jj : Nat) ∧ jj ≤ N ∧ (o : List Nat).length = L + jj ∧ Hid (copyN D (N - jj) o = copyN D N out) ∧ Hid (OpSt wt W0 O p s (j3 + yb) o v9 limit) ∧ Hid (Mv O p (.slice a0 L c0) v9 W wt)) (fun kv _ => N - (intOf kv).toNat)
  case atStart => exact ⟨0, out, _, rfl, Nat.zero_le _, by rw [HLL.out]; rfl, hide rfl, HO6, HV6⟩
  case round =>
    clear HO6 HV6
    obtain ⟨jj, o, v9, rfl, hjj, hol, HCN, HO7, HV7⟩ := hrel
    obtain ⟨a9, c9, rfl⟩ := HO7.out.slice
    obtain ⟨M, hM⟩ : ∃ M, o.length = M := ⟨_, rfl⟩
    have HMM := hide hM
    rw [hM] at hol HO7 HV7
    have HOL := hide hol
    have hDM : D ≤ M := by omega
    have hM9 : M ≤ 1001000 := by omega
    clear hol
    by_cases hjN : jj < N
    · have zj : (jj : Int) < N := by omega
      obtain ⟨q, hq⟩ : ∃ q, M - D = q := ⟨_, rfl⟩
      have zq : (M : Int) - (D : Int) = (q : Int) := by omega
      have zqM : (q : Int) < M := by omega
      have zq0 : (0 : Int) ≤ (q : Int) := by omega
      have ewq := (wrap_intI (q : Int) (by omega) (by omega)).2
      obtain ⟨g, eg, hcl⟩ := (show OpSt wr W0 O p s (j3 + yb) o (.slice a9 o.length c9) limit by rw [hM]; exact HO7.out).byte q (by omega)
      subst eg
      obtain ⟨b, hb⟩ : ∃ b, o.getD q 0 = b := ⟨_, rfl⟩
      rw [hb] at hcl
      have HC2 := hide (show copyN D (N - (jj + 1)) (o ++ [b]) = copyN D N out by
        rw [← HCN.out, show N - jj = (N - (jj + 1)) + 1 by omega]
        show _ = copyN D (N - (jj + 1)) (o ++ [o.getD (o.length - D) 0])
        rw [hM, hq, hb])
      have HOW := hide HO7.out.st.own
      rw [hM] at HOW
      have HSZ := hide HO7.out.st.bel.size
      have X1 := hide (show M + 1 ≤ maxLen by unfold maxLen; omega)
      have X2 := hide (show (M + 1) * 1 ≤ 140737488355328 by omega)
      have HL2 := hide (show (o ++ [b]).length = M + 1 by rw [List.length_append, hM]; rfl)
      have HPA := hide (fun ob => ((HO7.out.drewN 1).alloc ob : OpSt ((wr.drewN 1).alloc ob) W0 O p s (j3 + yb) o (.slice (some ⟨g, 0, none⟩) M c9) limit))
      have HVA := hide (fun ob => (HV7.out.trans (Mv.ofBelow ((below_drewN (Below.refl wr.heap.size wr) 1).alloc (Nat.le_refl _) ob)) : Mv O p (.slice a0 L c0) (.slice (some ⟨g, 0, none⟩) M c9) W ((wr.drewN 1).alloc ob)))
      have _c2 := HO7.out.bx.c2
      have _c2a := (HO7.out.alloc (.cells #[.int .u8 (b : Int)] 5)).bx.c2
      clear hM hq hb HCN HO7 HV7
      go_wp2_with fail
      go_region_law ((refine step_append_lies _ (by rfl) (.tmp 66) (.tmp 80) 30 (by rfl) W0.heap.size 5 i1 (.int .u8 0) 1 1 Tryz.underlying30 ki kz0 kz1 kz2 rfl (by decide) (.slice (some ⟨g, 0, none⟩) M c9) M (u8Cs o) (by rfl) (HOW.out.drew.alloc _) ⟨wr.heap.size, 0, none⟩ 1 1 [.int .u8 (b : Int)] (by rfl) rfl (cell_one_new _ _ _) (one_u8 _) (by decide) X1.out X2.out (size_alloc_le HSZ.out) (wr.heap.size + 1) (by simp) ?_; intro gn cn w8 o8 g8 h8 l8; rw [show [Value.int .u8 (b : Int)] = u8Cs [b] from rfl, u8Cs_append] at o8; have HX8 := hide ((HPA.out _).box4 g8); have _d2 := HX8.out.c2; have _f2 := HX8.out.frozen 2; have HP8 := hide ((HPA.out _).put (o := o ++ [b]) (by rw [HL2.out]; exact o8) g8 (lies_own (at_alloc8 h8))); have HV8 := hide ((HVA.out _).trans HP8.out.2); clear o8 g8 h8 l8))
      all_goals
        go_wp2
        go_roundw
        case rel => exact ⟨jj + 1, o ++ [b], _, by go_num, hjN, by rw [HL2.out, HOL.out]; rfl, HC2, hide HP8.out.1, HV8⟩
        case measure => exact meas_oneW jj N hjN
    · obtain rfl : jj = N := by omega
      have HG := hide (HOK.out o (j3 + yb) _ wr HO7.out HV7.out (by
        have h := HCN.out
        rw [Nat.sub_self] at h
        have h2 : copyN D 0 o = o := rfl
        rw [h2] at h
        rw [h]
        exact HCP.out))
      clear HO7 HV7 HCN HOK
      go_wp2
      go_ret
      exact HG.out

end Go.Proofs.YtaalbaiglkadlaaGreat
