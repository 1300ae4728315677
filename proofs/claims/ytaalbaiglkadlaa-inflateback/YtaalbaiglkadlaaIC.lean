import Derived.Test.YtaalbaiglkadlaaIB
import Derived.Test.YtaalbaiglkadlaaKR
import Derived.Test.YtaalbaiglkadlaaRfA
import Derived.Test.YtaalbaiglkadlaaBS
/- Contracts of the document's layer 11: bits, next. -/
namespace Go.Proofs.Ytaalbaiglkadlaa
open Go.RowKit Go.Lib

theorem numI_lo (s : ByteArray) (i : Nat) : ∀ k, numI s i k = ((numLo (srcB s) i k : Nat) : Int)
  | 0 => rfl
  | k + 1 => by
    show numI s i k + bitI s (i + k) * 2 ^ k = ((numLo (srcB s) i k + srcB s (i + k) * 2 ^ k : Nat) : Int)
    have e : ((srcB s (i + k) : Nat) : Int) = bitI s (i + k) := by
      unfold srcB
      rcases bitI_01 s (i + k) with h | h <;> rw [h] <;> rfl
    rw [numI_lo s i k, Int.natCast_add, Int.natCast_mul, e, Int.natCast_pow]
    rfl
/-- What a reading of k bits leaves. -/
def RdPost (k p : Nat) (s : ByteArray) (i : Nat) (W : World) (e : Ending) (w' : World) : Prop := Only p W w' ∧
  ((∃ x, rdP k (srcB s) (8 * s.size) i = .ok (x, i + k) ∧ x < 2 ^ k ∧ i + k ≤ 8 * s.size ∧ e = .returned (.int .i64 (x : Nat)) ∧ RdAt 56 w' p s (i + k) false) ∨
   (rdP k (srcB s) (8 * s.size) i = .error 2 ∧ e = .returned (.int .i64 0) ∧ ∃ i', i' ≤ 8 * s.size ∧ RdAt 56 w' p s i' true))
theorem qrd_any (p : Nat) (s : ByteArray) (i k : Nat) (W : World) (hk : k ≤ 30) (h : RdAt 56 W p s i false) (hi : i ≤ 8 * s.size) (hs : s.size ≤ 1000000) :
    Calls Try.prog 19 #[.pointer (some ⟨p, 0, none⟩), .int .i64 (k : Nat)] W fun e w' => RdPost k p s i W e w' := by
  by_cases hr : i + k ≤ 8 * s.size
  · refine (qbits_ok p s i (k : Int) W k (takenI_nat k hk) h hr (by omega)).mono ?_
    rintro e w' ⟨rfl, h1, h2⟩
    have hlt := (numI_lt s i k).2
    rw [numI_lo] at hlt ⊢
    refine ⟨h2, .inl ⟨_, ?_, ?_, hr, rfl, h1⟩⟩
    · unfold rdP
      rw [if_pos hr]
    · have e2 : ((2 ^ k : Nat) : Int) = (2 : Int) ^ k := by rw [Int.natCast_pow]; rfl
      omega
  · refine (qbits_no p s i false (k : Int) W k (takenI_nat k hk) h hi (.inr (by omega)) (by omega)).mono ?_
    rintro e w' ⟨rfl, h1, h2⟩
    refine ⟨h2, .inr ⟨?_, rfl, h1⟩⟩
    unfold rdP
    rw [if_neg hr]

/-- What the reading of a symbol leaves. -/
def NextPost (ls : List Nat) (p : Nat) (s : ByteArray) (i : Nat) (W : World) (e : Ending) (w' : World) : Prop := Turn p W w' ∧
  ((∃ x j, symP ls (srcB s) (8 * s.size) i = .ok (x, j) ∧ i < j ∧ j ≤ 8 * s.size ∧ x < ls.length ∧ e = .returned (.tuple #[.int .i64 (x : Nat), .int .i64 0]) ∧ RdAt 56 w' p s j false) ∨
   (symP ls (srcB s) (8 * s.size) i = .error 2 ∧ e = .returned (.tuple #[.int .i64 0, .int .i64 2]) ∧ ∃ i', i' ≤ 8 * s.size ∧ RdAt 56 w' p s i' true) ∨
   (symP ls (srcB s) (8 * s.size) i = .error 4 ∧ e = .returned (.tuple #[.int .i64 0, .int .i64 4]) ∧ ∃ i', i' ≤ 8 * s.size ∧ RdAt 56 w' p s i' false))
theorem next_ok {ls : List Nat} {p : Nat} {s : ByteArray} {i : Nat} {W w' : World} {x : Int} {u : Nat} {bad : Bool} (hi : i ≤ 8 * s.size) (h : ReadRes ls (bitsF s i) (8 * s.size - i) x u bad) (hr : RdAt 56 w' p s (i + u) bad) (ht : Turn p W w') (h0 : 0 ≤ x) :
    bad = false ∧ NextPost ls p s i W (.returned (.tuple #[.int .i64 x, .int .i64 0])) w' := by
  have hs := symP_res ls (srcB s) (8 * s.size) i hi h
  rw [if_pos h0] at hs
  rcases h with ⟨k, h1, h2, rfl, rfl, rfl⟩ | ⟨_, rfl, _⟩
  · refine ⟨rfl, ht, .inl ⟨symAt ls (bitsF s i) u, i + u, ?_, by have := h1.lo; omega, by omega, h1.sym.1, rfl, hr⟩⟩
    rw [hs, Int.toNat_natCast]
  · omega
theorem next_short {ls : List Nat} {p : Nat} {s : ByteArray} {i : Nat} {W w' : World} {x : Int} {u : Nat} (hi : i ≤ 8 * s.size) (h : ReadRes ls (bitsF s i) (8 * s.size - i) x u true) (hr : RdAt 56 w' p s (i + u) true) (ht : Turn p W w') (h0 : ¬ 0 ≤ x) :
    NextPost ls p s i W (.returned (.tuple #[.int .i64 0, .int .i64 2])) w' := by
  have hs := symP_res ls (srcB s) (8 * s.size) i hi h
  rw [if_neg h0, if_pos rfl] at hs
  refine ⟨ht, .inr (.inl ⟨hs, rfl, i + u, ?_, hr⟩)⟩
  rcases h with ⟨k, _, h2, _, rfl, _⟩ | ⟨_, _, rfl, _⟩ <;> omega
theorem next_none {ls : List Nat} {p : Nat} {s : ByteArray} {i : Nat} {W w' : World} {x : Int} {u : Nat} (hi : i ≤ 8 * s.size) (h : ReadRes ls (bitsF s i) (8 * s.size - i) x u false) (hr : RdAt 56 w' p s (i + u) false) (ht : Turn p W w') (h0 : ¬ 0 ≤ x) :
    NextPost ls p s i W (.returned (.tuple #[.int .i64 0, .int .i64 4])) w' := by
  have hs := symP_res ls (srcB s) (8 * s.size) i hi h
  rw [if_neg h0, if_neg (by decide)] at hs
  refine ⟨ht, .inr (.inr ⟨hs, rfl, i + u, ?_, hr⟩)⟩
  rcases h with ⟨k, _, h2, _, rfl, _⟩ | ⟨_, _, rfl, _⟩ <;> omega

set_option maxRecDepth 20000 in
set_option maxHeartbeats 4000000 in
theorem qnext_any (ls : List Nat) (a : Option Addr) (c m p : Nat) (s : ByteArray) (i : Nat) (W : World) (hm : (symTo ls 16).length = m) (harg : ArgN W a (symTo ls 16)) (hne : ∀ b off, a = some ⟨b, off, none⟩ → b ≠ p) (hls : ls.length ≤ 1000)
    (h : RdAt 56 W p s i false) (hi : i ≤ 8 * s.size) (hs : s.size ≤ 1000000) :
    Calls Try.prog 49 #[.pointer (some ⟨p, 0, none⟩), codeV (cn ls) (.slice a m c)] W fun e w' => NextPost ls p s i W e w' := by
  have hpW : p < W.heap.size := by unfold RdAt at h; exact (Array.getElem?_eq_some_iff.1 h).1
  have HRD := hide (qread_any ls a c m p s i (W.alloc (.cells (codeCs (cn ls) (.slice a m c)).toArray 66)) hm (harg.below ((Below.refl W.heap.size W).alloc (Nat.le_refl _) _) (Nat.le_refl _)) hne hls (by unfold RdAt at h ⊢; rw [heap_alloc_old _ _ _ hpW]; exact h) hi hs)
  have HT0 := hide ((Turn.refl p W).alloc (.cells (codeCs (cn ls) (.slice a m c)).toArray 66))
  have HN17 := hide (codeCs_length (cn ls) (.slice a m c))
  have HBX := hide (heap_alloc_at W (.cells (codeCs (cn ls) (.slice a m c)).toArray 66) rfl)
  unfold codeV at HRD ⊢
  generalize codeCs (cn ls) (.slice a m c) = cs at *
  have HSZ := hide (show (Try.prog.info? 66).map (·.size) = some cs.length by rw [HN17.out]; exact Try.sizeCode)
  have HRG := hide (code_range HBX.out)
  clear h harg hm hne
  go_enter Try.func49, Try.ntmps49
  go_wp2_with (first
    | (refine wpList_load_mid rfl 66 (Operand.tmp 3) rfl W.heap.size 0 rfl cs _ HRG.out Try.underlying66 rfl HSZ.out ?_))
  refine HRD.out.mono ?_
  rintro e w1 ⟨x, u, bad, rfl, HX, HR1, HT1⟩
  have HT := hide (HT0.out.trans HT1.out)
  have _c2 := HR1.out.c2
  by_cases h0 : 0 ≤ x
  · have HG := hide (next_ok hi HX.out HR1.out HT.out h0)
    go_wp2
    go_ret2
    exact HG.out.2
  · cases bad with
    | true =>
      have HG := hide (next_short hi HX.out HR1.out HT.out h0)
      go_wp2
      go_ret2
      exact HG.out
    | false =>
      have HG := hide (next_none hi HX.out HR1.out HT.out h0)
      go_wp2
      go_ret2
      exact HG.out

end Go.Proofs.Ytaalbaiglkadlaa

/- Contracts of the document's layer 11: a stored block behind what there is. -/
namespace Go.Proofs.Ytaalbaiglkadlaa
open Go.RowKit Go.Lib

/-- What there is so far: a reader at a place, and a row of bytes. -/
structure OutSt (T : TypeId) (w W : World) (p : Nat) (s : ByteArray) (i : Nat) (out : List Nat) (v : Value) : Prop where
  rd : RdAt T w p s i false
  own : w.ownsRow W.heap.size 5 1 v out.length (u8Cs out)
  bel : Below W.heap.size W w
  new : W.heap.size ≤ p
  ne : v.ownBlock ≠ some p
/-- What a piece gives: bytes, and a reader behind it; or an error. -/
def PiecePost (T : TypeId) (R : Except Int (List Nat × Nat)) (W : World) (p : Nat) (s : ByteArray) (e : Ending) (w' : World) : Prop :=
  (∃ o j v', R = .ok (o, j) ∧ e = .returned (.tuple #[v', .int .i64 0]) ∧ OutSt T w' W p s j o v') ∨
  (∃ er, R = .error er ∧ er ≠ 0 ∧ e = .returned (.tuple #[.slice none 0 0, .int .i64 er]) ∧ Below W.heap.size W w')
section
variable {T : TypeId} {w w' W : World} {p i j : Nat} {s : ByteArray} {out o : List Nat} {v v' : Value}
theorem OutSt.read (h : OutSt T w W p s i out v) (t : Turn p w w') (r : RdAt T w' p s j false) : OutSt T w' W p s j out v := by
  refine ⟨r, ?_, t.below h.bel h.new h.bel.size, h.new, h.ne⟩
  have hlt := h.own.lt
  refine ⟨h.own.1, ?_⟩
  rcases h.own.2 with h2 | ⟨g, cap, cur, e, hg, hh, r2⟩
  · exact .inl h2
  · have hgl := hlt g (by rw [e]; rfl)
    have hgp : g ≠ p := fun e2 => h.ne (by rw [e, ← e2]; rfl)
    exact .inr ⟨g, cap, cur, e, hg, (t.block g hgl.2 hgp).trans hh, r2⟩
theorem OutSt.bad (h : OutSt T w W p s i out v) (t : Turn p w w') : Below W.heap.size W w' := t.below h.bel h.new h.bel.size
theorem OutSt.grow (h : OutSt T w W p s i out v) (ho : w'.ownsRow W.heap.size 5 1 v' o.length (u8Cs o)) (hg : w.grownBy w' v.ownBlock) (hf : v'.ownBlock = v.ownBlock ∨ ∀ k, v'.ownBlock = some k → w.heap.size ≤ k) : OutSt T w' W p s i o v' := by
  have hp : p < w.heap.size := (Array.getElem?_eq_some_iff.1 h.rd).1
  refine ⟨?_, ho, Below.grownB h.bel hg h.own h.bel.size, h.new, ?_⟩
  · unfold RdAt
    rw [hg.block p hp (fun e => h.ne e.symm)]
    exact h.rd
  · rcases hf with e | e
    · rw [e]; exact h.ne
    · intro e2
      have := e p e2
      omega
end
theorem bits_cells (s : ByteArray) : strCells s = u8Cs (natsB s) := by
  unfold strCells u8Cs natsB
  rw [List.map_map]
  rfl

/-- The bytes of a part, by its bits. -/
theorem text_nats (s : ByteArray) (k n : Nat) (h : k + n ≤ s.size) : textP n (srcB s) (8 * s.size) (8 * k) = .ok (natsB (s.extract k (k + n)), 8 * (k + n)) := by
  have hsz : s.data.toList.length = s.size := by rw [Array.length_toList]; rfl
  have e : (s.extract k (k + n)).data.toList = (s.data.toList.drop k).take n := by
    rw [ByteArray.data_extract, Array.toList_extract, List.extract_eq_take_drop, show k + n - k = n by omega]
  unfold textP
  rw [if_pos (by omega), show 8 * k + 8 * n = 8 * (k + n) by omega]
  congr 2
  apply List.ext_getElem?
  intro q
  unfold natsB
  rw [e, List.getElem?_map, List.getElem?_map, List.getElem?_take]
  by_cases hq : q < n
  · rw [List.getElem?_range hq, if_pos hq, List.getElem?_drop, List.getElem?_eq_getElem (by rw [hsz]; omega)]
    show some (numLo (srcB s) (8 * k + 8 * q) 8) = some (s.data.toList[k + q].toNat)
    rw [numLo_mod (srcB s) (8 * k + 8 * q) (s.data.toList[k + q].toNat) 8 (fun j hj => ?_), Nat.mod_eq_of_lt (show _ < 2 ^ 8 from (s.data.toList[k + q]).toNat_lt)]
    unfold srcB bitI
    rw [Int.toNat_natCast, show (8 * k + 8 * q + j) / 8 = k + q by omega, show (8 * k + 8 * q + j) % 8 = j by omega, List.getD_eq_getElem?_getD, List.getElem?_eq_getElem (by rw [hsz]; omega)]
    rfl
  · rw [if_neg hq, List.getElem?_eq_none (by rw [List.length_range]; omega)]
    rfl

set_option maxRecDepth 20000 in
set_option maxHeartbeats 4000000 in
theorem qraw_any (p : Nat) (s : ByteArray) (i : Nat) (out : List Nat) (v : Value) (limit : Int) (W0 W : World) (h : OutSt 56 W W0 p s i out v) (hi : i ≤ 8 * s.size) (hs : s.size ≤ 1000000) (h1 : -9223372036854775808 ≤ limit) (h2 : limit ≤ 1000000) (hr : out = [] ∨ (out.length : Int) ≤ limit) :
    Calls Try.prog 20 #[.pointer (some ⟨p, 0, none⟩), v, .int .i64 limit] W fun e w' => PiecePost 56 (rawP limit out (srcB s) (8 * s.size) i) W0 p s e w' := by
  have H := hide h
  obtain ⟨A, hA⟩ : ∃ A, (i + 7) / 8 = A := ⟨_, rfl⟩
  have hA8 : A ≤ s.size := by omega
  have HAL := hide (qalign_any p s i false W h.rd hi (by omega))
  have eal : alignAt false i = 8 * A := by unfold alignAt; rw [if_neg (by decide), hA]; omega
  rw [eal] at HAL
  have halp : alignP (srcB s) (8 * s.size) i = .ok ((), 8 * A) := by unfold alignP; rw [hA, if_pos (by omega), Nat.mul_comm]
  obtain ⟨L, hL⟩ : ∃ L, out.length = L := ⟨_, rfl⟩
  have HLL := hide hL
  have hLr : L = 0 ∨ (L : Int) ≤ limit := by
    rcases hr with e | e
    · left; rw [← hL, e]; rfl
    · right; omega
  have ew := wrap_lessM limit L h1 (by omega) hLr
  have ew1 := ew.1
  have ew2 := ew.2
  obtain ⟨i1, ki, kz0, kz1, kz2⟩ := info_parts Try.infoU8
  obtain ⟨a, c, rfl⟩ : ∃ a c, v = .slice a L c := by
    rcases len_form h.own with ⟨e1, e2⟩ | ⟨g, c, e1⟩
    · exact ⟨none, 0, by rw [e1, ← hL, e2]⟩
    · exact ⟨_, c, by rw [e1, hL]⟩
  have HRW := hide (show ∀ R, bindP (rdP 16) (fun n => bindP (rdP 16) fun m => bindP (chkP (decide (n + m = 65535)) 3) fun _ => bindP (chkP (decide ((n : Int) ≤ limit - (out.length : Int))) 6) fun _ => bindP (textP n) fun t => pureP (out ++ t)) (srcB s) (8 * s.size) (8 * A) = R → rawP limit out (srcB s) (8 * s.size) i = R from fun R hR => by
    unfold rawP
    rw [bindP_ok halp]
    exact hR)
  clear h hA halp eal ew hr hL
  go_enter Try.func20, Try.ntmps20
  go_wp2_with fail
  refine HAL.out.mono ?_
  rintro e w1 ⟨rfl, hr1, ho1⟩
  have H1 := hide (H.out.read ho1.turn hr1)
  clear HAL hr1 ho1
  by_cases g1 : 8 * A + 16 ≤ 8 * s.size
  · have HB1 := hide (qrd_any p s (8 * A) 16 w1 (by omega) H1.out.rd (by omega) hs)
    go_wp2_with fail
    refine HB1.out.mono ?_
    rintro e w2 ⟨ho2, ⟨n, hn, hn16, _, rfl, hr2⟩ | ⟨hn, _⟩⟩
    · have H2 := hide (H1.out.read ho2.turn hr2)
      clear HB1 hr2 ho2
      have HB2 := hide (qrd_any p s (8 * A + 16) 16 w2 (by omega) H2.out.rd g1 hs)
      go_wp2_with fail
      refine HB2.out.mono ?_
      rintro e w3 ⟨ho3, ⟨m, hm, hm16, hle, rfl, hr3⟩ | ⟨hm, rfl, i', hi', hr3⟩⟩
      · have H3 := hide (H2.out.read ho3.turn hr3)
        have HRD := hide (fun R (hR : bindP (chkP (decide (n + m = 65535)) 3) (fun _ => bindP (chkP (decide ((n : Int) ≤ limit - (out.length : Int))) 6) fun _ => bindP (textP n) fun t => pureP (out ++ t)) (srcB s) (8 * s.size) (8 * A + 16 + 16) = R) => HRW.out R (by rw [bindP_ok hn, bindP_ok hm]; exact hR))
        have _c2 := hr3.c2
        clear HB2 hr3 ho3 hn hm HRW
        have hn9 : n < 65536 := hn16
        have hm9 : m < 65536 := hm16
        clear hn16 hm16
        by_cases q1 : n + m = 65535
        · have z1 : (n : Int) + (m : Int) = 65535 := by omega
          have HRE := hide (fun R hR => HRD.out R (by rw [bindP_ok (chk_ok (decide_eq_true q1))]; exact hR))
          clear HRD
          by_cases q2 : (n : Int) ≤ limit - (L : Int)
          · have z2 : decide (limit - (L : Int) < (n : Int)) = false := decide_eq_false (by omega)
            have HRF := hide (fun R hR => HRE.out R (by rw [HLL.out, bindP_ok (chk_ok (decide_eq_true q2))]; exact hR))
            clear HRE
            by_cases q3 : A + 4 + n ≤ s.size
            · have HTX := hide (qtext_ok p s (8 * A + 16 + 16) n w3 H3.out.rd (by omega) (by omega))
              have HTP := hide (text_nats s (A + 4) n (by omega))
              rw [show (8 * A + 16 + 16 + 7) / 8 = A + 4 by omega] at HTX
              have HTY := hide (HRF.out _ (by rw [show 8 * A + 16 + 16 = 8 * (A + 4) by omega, bindP_ok HTP.out]))
              obtain ⟨tx, htx⟩ : ∃ tx, s.extract (A + 4) (A + 4 + n) = tx := ⟨_, rfl⟩
              have hts : tx.size = n := by rw [← htx, ByteArray.size_extract]; omega
              rw [htx] at HTX HTY
              have HBC := hide (bits_cells tx)
              have HNL := hide (natsB_length tx)
              go_wp2_with fail
              refine HTX.out.mono ?_
              rintro e w4 ⟨rfl, hr4, ho4⟩
              have H4 := hide (H3.out.read ho4.turn hr4)
              have _d2 := hr4.c2
              clear HTX hr4 ho4
              have HOWN := hide H4.out.own
              rw [HLL.out] at HOWN
              go_wp2_with (first
                | (at_builtin; refine wpList_append_fresh_string _ rfl _ _ 28 9 rfl W0.heap.size 5 i1 Try.underlying28 Try.underlying9 ki kz0 kz1 kz2 (.slice a L c) _ _ rfl HOWN.out tx rfl (by unfold maxLen; omega) (by omega) H4.out.bel.size ?_; intro v5 w5 o5 g5 f5; have H5 := hide (H4.out.grow (o := out ++ natsB tx) (by rw [List.length_append, HNL.out, HLL.out, ← u8Cs_append, ← HBC.out]; exact o5) g5 f5); clear o5 g5 f5))
              go_ret2
              refine .inl ⟨_, _, _, HTY.out, rfl, ?_⟩
              have h6 := H5.out
              rw [show (A + 4 + n) * 8 = 8 * (A + 4 + n) by omega] at h6
              exact h6
            · have HTX := hide (qtext_no p s (8 * A + 16 + 16) false (n : Int) w3 H3.out.rd (by omega) (.inr (.inr (by omega))) (by omega))
              have HTY := hide (HRF.out (.error 2) (by
                refine bindP_err ?_
                unfold textP
                rw [if_neg (by omega)]))
              go_wp2_with fail
              refine HTX.out.mono ?_
              rintro e w4 ⟨rfl, ⟨i', _, hr4⟩, ho4⟩
              have HBD := hide (H3.out.bad ho4.turn)
              have _d2 := hr4.c2
              clear HTX hr4 ho4
              go_wp2
              go_ret2
              exact .inr ⟨2, HTY.out, by decide, rfl, HBD.out⟩
          · have z2 : decide (limit - (L : Int) < (n : Int)) = true := decide_eq_true (by omega)
            have HRF := hide (HRE.out (.error 6) (by
              rw [HLL.out]
              refine bindP_err ?_
              rw [decide_eq_false q2]
              rfl))
            clear HRE
            go_wp2
            go_ret2
            exact .inr ⟨6, HRF.out, by decide, rfl, H3.out.bel⟩
        · have z1 : ((n : Int) + (m : Int) == 65535) = false := by simp; omega
          have HRE := hide (HRD.out (.error 3) (by
            refine bindP_err ?_
            rw [decide_eq_false q1]
            rfl))
          clear HRD
          go_wp2
          go_ret2
          exact .inr ⟨3, HRE.out, by decide, rfl, H3.out.bel⟩
      · have HRE := hide (HRW.out (.error 2) (by rw [bindP_ok hn]; exact bindP_err hm))
        have HBD := hide (H2.out.bad ho3.turn)
        have _c2 := hr3.c2
        clear HB2 hr3 ho3 hn hm HRW
        go_wp2
        go_ret2
        exact .inr ⟨2, HRE.out, by decide, rfl, HBD.out⟩
    · unfold rdP at hn
      rw [if_pos g1] at hn
      cases hn
  · have HB1 := hide (qbits_no p s (8 * A) false 16 w1 16 rfl H1.out.rd (by omega) (.inr (by omega)) (by omega))
    have HRE := hide (HRW.out (.error 2) (by
      refine bindP_err ?_
      unfold rdP
      rw [if_neg g1]))
    go_wp2_with fail
    refine HB1.out.mono ?_
    rintro e w2 ⟨rfl, ⟨i', hi', hr2⟩, ho2⟩
    have HB2 := hide (qbits_no p s i' true 16 w2 16 rfl hr2 hi' (.inl rfl) (by omega))
    have HT2 := hide ho2.turn
    clear HB1 hr2 ho2
    go_wp2_with fail
    refine HB2.out.mono ?_
    rintro e w3 ⟨rfl, ⟨i3, _, hr3⟩, ho3⟩
    have HBD := hide (H1.out.bad (HT2.out.trans ho3.turn))
    have _c2 := hr3.c2
    clear HB2 hr3 ho3
    go_wp2
    go_ret2
    exact .inr ⟨2, HRE.out, by decide, rfl, HBD.out⟩

end Go.Proofs.Ytaalbaiglkadlaa

/- Contracts of the document's layer 11: a block of symbols behind what there is. -/
namespace Go.Proofs.Ytaalbaiglkadlaa
open Go.RowKit Go.Lib

theorem Turn.step {p : Nat} {v : Value} {w w' : World} (t : Turn p w w') : Step p v v w w' := ⟨t.os, t.tape, t.output, t.size, fun k hk hp _ => t.block k hk hp, .inl rfl⟩
theorem grown_step {p : Nat} {v v' : Value} {w w' : World} (hg : w.grownBy w' v.ownBlock) (hf : v'.ownBlock = v.ownBlock ∨ ∀ k, v'.ownBlock = some k → w.heap.size ≤ k) : Step p v v' w w' := ⟨hg.os, hg.tape, hg.output, hg.size, fun k hk _ hv => hg.block k hk hv, hf⟩
/-- What there is, and two codes. -/
structure PF (T : TypeId) (w W0 : World) (p : Nat) (s : ByteArray) (i : Nat) (out : List Nat) (v : Value) (a1 a2 : Option Addr) (Q1 Q2 : Nat) (cs1 cs2 : List Value) (S1 S2 : List Nat) : Prop where
  st : OutSt T w W0 p s i out v
  ka : KN p v w a1 S1
  kb : KN p v w a2 S2
  q1 : w.heap[Q1]? = some (.cells cs1.toArray 66 (0, 0))
  q2 : w.heap[Q2]? = some (.cells cs2.toArray 66 (0, 0))
  f1 : FreeB p v w Q1
  f2 : FreeB p v w Q2
section
variable {T : TypeId} {w w' W0 : World} {p i j : Nat} {s : ByteArray} {out o : List Nat} {v v' : Value} {a1 a2 : Option Addr} {Q1 Q2 : Nat} {cs1 cs2 : List Value} {S1 S2 : List Nat}
theorem PF.step (h : PF T w W0 p s i out v a1 a2 Q1 Q2 cs1 cs2 S1 S2) (st : Step p v v' w w') (o' : OutSt T w' W0 p s j o v') : PF T w' W0 p s j o v' a1 a2 Q1 Q2 cs1 cs2 S1 S2 :=
  ⟨o', h.ka.step st, h.kb.step st, (st.block Q1 h.f1.1 h.f1.2.1 (fun e => h.f1.2.2 e.symm)).trans h.q1, (st.block Q2 h.f2.1 h.f2.2.1 (fun e => h.f2.2.2 e.symm)).trans h.q2, h.f1.step st, h.f2.step st⟩
theorem PF.read (h : PF T w W0 p s i out v a1 a2 Q1 Q2 cs1 cs2 S1 S2) (t : Turn p w w') (r : RdAt T w' p s j false) : PF T w' W0 p s j out v a1 a2 Q1 Q2 cs1 cs2 S1 S2 := h.step t.step (h.st.read t r)
theorem OutSt.alloc (h : OutSt T w W0 p s i out v) (ob : Obj) : OutSt T (w.alloc ob) W0 p s i out v := by
  have hp : p < w.heap.size := (Array.getElem?_eq_some_iff.1 h.rd).1
  refine ⟨?_, h.own.alloc ob, h.bel.alloc h.bel.size ob, h.new, h.ne⟩
  unfold RdAt
  rw [heap_alloc_old _ _ _ hp]
  exact h.rd
theorem PF.alloc (h : PF T w W0 p s i out v a1 a2 Q1 Q2 cs1 cs2 S1 S2) (ob : Obj) : PF T (w.alloc ob) W0 p s i out v a1 a2 Q1 Q2 cs1 cs2 S1 S2 :=
  h.step (Step.ofBelow ((Below.refl _ w).alloc (Nat.le_refl _) ob)) (h.st.alloc ob)
theorem PF.grow (h : PF T w W0 p s i out v a1 a2 Q1 Q2 cs1 cs2 S1 S2) (ho : w'.ownsRow W0.heap.size 5 1 v' o.length (u8Cs o)) (hg : w.grownBy w' v.ownBlock) (hf : v'.ownBlock = v.ownBlock ∨ ∀ k, v'.ownBlock = some k → w.heap.size ≤ k) : PF T w' W0 p s i o v' a1 a2 Q1 Q2 cs1 cs2 S1 S2 :=
  h.step (grown_step hg hf) (h.st.grow ho hg hf)
theorem PF.slice (h : PF T w W0 p s i out v a1 a2 Q1 Q2 cs1 cs2 S1 S2) : ∃ a c, v = .slice a out.length c := by
  rcases len_form h.st.own with ⟨e1, e2⟩ | ⟨g, c, e1⟩
  · exact ⟨none, 0, by rw [e1, e2]⟩
  · exact ⟨_, c, e1⟩
theorem PF.byte {a : Option Addr} {c : Nat} (h : PF T w W0 p s i out (.slice a out.length c) a1 a2 Q1 Q2 cs1 cs2 S1 S2) (q : Nat) (hq : q < out.length) : ∃ g, a = some ⟨g, 0, none⟩ ∧ w.cell? ⟨g, q, none⟩ = some (.int .u8 (out.getD q 0 : Nat)) := by
  rcases len_form h.st.own with ⟨_, e2⟩ | ⟨g, c2, e1⟩
  · omega
  · injection e1 with e1 _ _
    subst e1
    refine ⟨g, rfl, ?_⟩
    rw [h.st.own.cellAt q (by omega)]
    unfold u8Cs
    rw [List.getElem?_map, List.getD_eq_getElem?_getD, List.getElem?_eq_getElem hq]
    rfl
end
theorem PF.start {T : TypeId} {W W0 : World} {p i : Nat} {s : ByteArray} {out : List Nat} {v : Value} {a1 a2 : Option Addr} {S1 S2 : List Nat} (h : OutSt T W W0 p s i out v) (ka : KN p v W a1 S1) (kb : KN p v W a2 S2) (cs1 cs2 : List Value) :
    PF T ((W.alloc (.cells cs1.toArray 66)).alloc (.cells cs2.toArray 66)) W0 p s i out v a1 a2 W.heap.size (W.heap.size + 1) cs1 cs2 S1 S2 := by
  have hp : p < W.heap.size := (Array.getElem?_eq_some_iff.1 h.rd).1
  have hv : ∀ k, v.ownBlock = some k → k < W.heap.size := fun k hk => (h.own.lt k hk).2
  have b1 := Step.ofBelow (p := p) (v := v) ((Below.refl _ W).alloc (Nat.le_refl _) (.cells cs1.toArray 66))
  have b2 := Step.ofBelow (p := p) (v := v) ((Below.refl _ (W.alloc (.cells cs1.toArray 66))).alloc (Nat.le_refl _) (.cells cs2.toArray 66))
  have s1 : (W.alloc (.cells cs1.toArray 66)).heap.size = W.heap.size + 1 := by show (W.heap.push _).size = _; simp
  have s2 : ((W.alloc (.cells cs1.toArray 66)).alloc (.cells cs2.toArray 66)).heap.size = W.heap.size + 2 := by show ((W.alloc _).heap.push _).size = _; rw [Array.size_push, s1]
  refine ⟨(h.alloc _).alloc _, (ka.step b1).step b2, (kb.step b1).step b2, ?_, heap_alloc_at _ _ s1, ⟨by omega, by omega, fun e => by have := hv _ e; omega⟩, ⟨by omega, by omega, fun e => by have := hv _ e; omega⟩⟩
  rw [heap_alloc_old _ _ _ (by omega)]
  exact heap_alloc_at _ _ rfl

end Go.Proofs.Ytaalbaiglkadlaa

/- Contract of the document's 'pour' of layer 11. -/
namespace Go.Proofs.Ytaalbaiglkadlaa
open Go.RowKit Go.Lib

section
variable {la lb : List Nat} {limit : Int} {f : Nat} {out : List Nat} {B : Nat → Nat} {T i x j : Nat}
theorem pour_err {e : Int} (h : symP la B T i = .error e) : pourP la lb limit (f + 1) out B T i = .error e := by
  unfold pourP
  exact bindP_err h
theorem pour_end (h : symP la B T i = .ok (256, j)) : pourP la lb limit (f + 1) out B T i = .ok (out, j) := by
  unfold pourP
  rw [bindP_ok h, if_pos rfl]
  rfl
theorem pour_full (h : symP la B T i = .ok (x, j)) (hx : x < 256) (hl : limit ≤ (out.length : Int)) : pourP la lb limit (f + 1) out B T i = .error 6 := by
  unfold pourP
  rw [bindP_ok h, if_neg (by omega), if_pos hx, if_pos hl]
  rfl
theorem pour_lit (h : symP la B T i = .ok (x, j)) (hx : x < 256) (hl : ¬ limit ≤ (out.length : Int)) : pourP la lb limit (f + 1) out B T i = pourP la lb limit f (out ++ [x]) B T j := by
  conv => lhs; unfold pourP
  rw [bindP_ok h, if_neg (by omega), if_pos hx, if_neg hl]
theorem pour_mat (h : symP la B T i = .ok (x, j)) (hx : 256 < x) : pourP la lb limit (f + 1) out B T i = bindP (matchP lb limit out x) (fun o => pourP la lb limit f o) B T j := by
  conv => lhs; unfold pourP
  rw [bindP_ok h, if_neg (by omega), if_neg (by omega)]
end

theorem lbV_no (x : Nat) (h : 285 < x) : lbV (x : Int) = .tuple #[.int .i64 0, .int .i64 0, .bool false] := by
  obtain ⟨e1, e2, e3⟩ := lb_no (n := (x : Int)) (.inr (by omega))
  unfold lbV
  rw [e1, e2, e3]
theorem lbV_yes (x q : Nat) (h : x = 257 + q) (hq : q ≤ 28) : lbV (x : Int) = .tuple #[.int .i64 (lenBase q : Nat), .int .i64 (lenBits q : Nat), .bool true] := by
  obtain ⟨e1, e2, e3⟩ := lb_yes q hq
  have e : (x : Int) = 257 + (q : Int) := by omega
  unfold lbV
  rw [e, e1, e2, e3]
theorem dbV_no (y : Nat) (h : 29 < y) : dbV (y : Int) = .tuple #[.int .i64 0, .int .i64 0, .bool false] := by
  obtain ⟨e1, e2, e3⟩ := db_no (n := (y : Int)) (.inr (by omega))
  unfold dbV
  rw [e1, e2, e3]
theorem dbV_yes (y : Nat) (h : y ≤ 29) : dbV (y : Int) = .tuple #[.int .i64 (distBase y : Nat), .int .i64 (distBits y : Nat), .bool true] := by
  obtain ⟨e1, e2, e3⟩ := db_yes y h
  unfold dbV
  rw [e1, e2, e3]

set_option maxRecDepth 20000 in
set_option maxHeartbeats 16000000 in
theorem qpour_any (la lb : List Nat) (a1 a2 : Option Addr) (c1 m1 c2 m2 p : Nat) (s : ByteArray) (i0 : Nat) (out0 : List Nat) (v0 : Value) (limit : Int) (W0 W : World) (h : OutSt 56 W W0 p s i0 out0 v0)
    (ka : KN p v0 W a1 (symTo la 16)) (kb : KN p v0 W a2 (symTo lb 16)) (hm1 : (symTo la 16).length = m1) (hm2 : (symTo lb 16).length = m2) (hla : la.length ≤ 1000) (hlb : lb.length ≤ 1000) (hi : i0 ≤ 8 * s.size) (hs : s.size ≤ 100000) (h1 : -9223372036854775808 ≤ limit) (h2 : limit ≤ 1000000) (hr : out0 = [] ∨ (out0.length : Int) ≤ limit) :
    Calls Try.prog 24 #[.pointer (some ⟨p, 0, none⟩), v0, codeV (cn la) (.slice a1 m1 c1), codeV (cn lb) (.slice a2 m2 c2), .int .i64 limit] W fun e w' => PiecePost 56 (pourP la lb limit 1000000 out0 (srcB s) (8 * s.size) i0) W0 p s e w' := by
  have HP0 := hide (PF.start h ka kb (codeCs (cn la) (.slice a1 m1 c1)) (codeCs (cn lb) (.slice a2 m2 c2)))
  have HN1 := hide (codeCs_length (cn la) (.slice a1 m1 c1))
  have HN2 := hide (codeCs_length (cn lb) (.slice a2 m2 c2))
  have HX1 := hide (fun w v j (k : KN p v w a1 (symTo la 16)) (r : RdAt 56 w p s j false) (hj : j ≤ 8 * s.size) => qnext_any la a1 c1 m1 p s j w hm1 k.arg (fun b off e => (k.free b off e).2.1) hla r hj (by omega))
  have HX2 := hide (fun w v j (k : KN p v w a2 (symTo lb 16)) (r : RdAt 56 w p s j false) (hj : j ≤ 8 * s.size) => qnext_any lb a2 c2 m2 p s j w hm2 k.arg (fun b off e => (k.free b off e).2.1) hlb r hj (by omega))
  obtain ⟨a0, c0, rfl⟩ := HP0.out.slice
  have HR0 := hide hr
  unfold codeV at HX1 HX2 ⊢
  generalize codeCs (cn la) (.slice a1 m1 c1) = cs1 at *
  generalize codeCs (cn lb) (.slice a2 m2 c2) = cs2 at *
  have HSZ1 := hide (show (Try.prog.info? 66).map (·.size) = some cs1.length by rw [HN1.out]; exact Try.sizeCode)
  have HSZ2 := hide (show (Try.prog.info? 66).map (·.size) = some cs2.length by rw [HN2.out]; exact Try.sizeCode)
  obtain ⟨R, hR⟩ : ∃ R, pourP la lb limit 1000000 out0 (srcB s) (8 * s.size) i0 = R := ⟨_, rfl⟩
  have HR := hide hR
  rw [hR]
  obtain ⟨i1, ki, kz0, kz1, kz2⟩ := info_parts Try.infoU8
  clear h ka kb hm1 hm2 hla hlb hr hR
  obtain ⟨Q1, hQ1⟩ : ∃ Q, W.heap.size = Q := ⟨_, rfl⟩
  go_enter Try.func24, Try.ntmps24
  go_wp2
  rw [hQ1] at HP0
  obtain ⟨Q2, hQ2⟩ : ∃ Q, Q1 + 1 = Q := ⟨_, rfl⟩
  rw [hQ2] at HP0
  try simp only [hQ2]
  clear hQ1 hQ2
  generalize hw2 : (W.alloc (.cells cs1.toArray 66)).alloc (.cells cs2.toArray 66) = w2 at *
  clear hw2
  go_loopg [1] (8 * s.size) (fun gk vv wr => ∃ i out f a c, vv = .slice a (out : List Nat).length c ∧ i ≤ 8 * s.size ∧ 8 * s.size - i ≤ gk ∧ 8 * s.size < f + i ∧ (out = [] ∨ (out.length : Int) ≤ limit) ∧ Hid (pourP la lb limit f out (srcB s) (8 * s.size) i = R) ∧ Hid (PF 56 wr W0 p s i out (.slice a out.length c) a1 a2 Q1 Q2 cs1 cs2 (symTo la 16) (symTo lb 16)))
  case atStart => exact ⟨i0, out0, 1000000, a0, c0, rfl, hi, by omega, by omega, HR0.out, HR, HP0⟩
  case round =>
    clear HP0 HR0 HR
    obtain ⟨i, out, f, a, c, rfl, hi8, hgk, hfu, hroom, HE, HP⟩ := hrel
    obtain ⟨f, rfl⟩ : ∃ k, f = k + 1 := ⟨f - 1, by omega⟩
    obtain ⟨L, hL⟩ : ∃ L, out.length = L := ⟨_, rfl⟩
    have HLL := hide hL
    have hLr : L = 0 ∨ (L : Int) ≤ limit := by
      rcases hroom with e | e
      · left; rw [← hL, e]; rfl
      · right; omega
    have hL9 : L ≤ 1000000 := by omega
    have HRM := hide hroom
    rw [hL] at HP ⊢
    have HGK := hide hgk
    have HFU := hide hfu
    clear hL hroom hgk hfu
    have HRG := hide (code_range HP.out.q1)
    go_wp2_with (first
      | (refine wpList_load_mid rfl 66 (Operand.tmp 7) rfl Q1 0 rfl cs1 _ HRG.out Try.underlying66 rfl HSZ1.out ?_))
    refine (HX1.out wr _ i HP.out.ka HP.out.st.rd hi8).mono ?_
    rintro e w3 ⟨ht3, ⟨x, j, hx, hij, hj8, hxl, rfl, hr3⟩ | ⟨hx, rfl, i', hi', hr3⟩ | ⟨hx, rfl, i', hi', hr3⟩⟩
    · have HP3 := hide (HP.out.read ht3 hr3)
      have HX := hide hx
      clear HP ht3 hr3 hx HRG
      by_cases x256 : x = 256
      · subst x256
        have HG := hide (show PiecePost 56 R W0 p s (.returned (.tuple #[.slice a L c, .int .i64 0])) w3 from .inl ⟨out, j, _, by rw [← HE.out]; exact pour_end HX.out, rfl, HP3.out.st⟩)
        go_wp2
        go_ret2
        exact HG.out
      · have bx : ((x : Int) == 256) = false := by simp; omega
        by_cases xlt : x < 256
        · have zx : (x : Int) < 256 := by omega
          by_cases hlim : limit ≤ (L : Int)
          · have HG := hide (show PiecePost 56 R W0 p s (.returned (.tuple #[.slice none 0 0, .int .i64 6])) w3 from .inr ⟨6, by rw [← HE.out]; exact pour_full HX.out xlt (by rw [HLL.out]; exact hlim), by decide, rfl, HP3.out.st.bel⟩)
            go_wp2
            go_ret2
            exact HG.out
          · have HE2 := hide (show pourP la lb limit f (out ++ [x]) (srcB s) (8 * s.size) j = R by rw [← HE.out]; exact (pour_lit HX.out xlt (by rw [HLL.out]; exact hlim)).symm)
            have HOW := hide HP3.out.st.own
            rw [HLL.out] at HOW
            have X1 := hide (show L + 1 ≤ maxLen by unfold maxLen; omega)
            have X2 := hide (show (L + 1) * 1 ≤ 140737488355328 by omega)
            have HL2 := hide (show (out ++ [x]).length = L + 1 by rw [List.length_append, HLL.out]; rfl)
            have HPA := hide (fun ob => HP3.out.alloc ob)
            go_wp2_with (first
              | (at_builtin; refine wpList_append_fresh _ rfl _ _ 28 rfl W0.heap.size 5 i1 (.int .u8 0) 1 1 Try.underlying28 ki kz0 kz1 kz2 rfl (by decide) (.slice a L c) _ _ rfl (HOW.out.alloc _) ⟨w3.heap.size, 0, none⟩ 1 1 [.int .u8 (x : Int)] rfl rfl (cell_one_new _ _ _) (one_u8 _) X1.out X2.out (size_alloc_le HP3.out.st.bel.size) ?_; intro v4 w4 o4 g4 f4; rw [show [Value.int .u8 (x : Int)] = u8Cs [x] from rfl, u8Cs_append] at o4; have HP4 := hide ((HPA.out _).grow (o := out ++ [x]) (by rw [HL2.out]; exact o4) g4 f4); clear o4 g4 f4))
            obtain ⟨a5, c5, e5⟩ := HP4.out.slice
            subst e5
            go_roundg (8 * s.size - j)
            case measure => have := HGK.out; omega
            case rel => exact ⟨j, out ++ [x], f, a5, c5, rfl, hj8, Nat.le_refl _, by have := HFU.out; omega, .inr (by rw [HL2.out]; omega), HE2, HP4⟩
        · have zx : ¬ (x : Int) < 256 := by omega
          have hx256 : 256 < x := by omega
          have HE1 := hide (show bindP (matchP lb limit out x) (fun o => pourP la lb limit f o) (srcB s) (8 * s.size) j = R by rw [← HE.out]; exact (pour_mat HX.out hx256).symm)
          have HERR := hide (fun (e : Int) (he : e ≠ 0) (w' : World) (hb : Below W0.heap.size W0 w') (hm : matchP lb limit out x (srcB s) (8 * s.size) j = .error e) => (show PiecePost 56 R W0 p s (.returned (.tuple #[.slice none 0 0, .int .i64 e])) w' from .inr ⟨e, by rw [← HE1.out]; exact bindP_err hm, he, rfl, hb⟩))
          have HOK := hide (fun (o : List Nat) (j4 : Nat) (hm : matchP lb limit out x (srcB s) (8 * s.size) j = .ok (o, j4)) => (show pourP la lb limit f o (srcB s) (8 * s.size) j4 = R by rw [← HE1.out, bindP_ok hm]))
          clear HE HE1 HX
          by_cases x285 : 285 < x
          · have HLB := hide (qlenbase_any (x : Int))
            rw [lbV_no x x285] at HLB
            have HG := hide (HERR.out 4 (by decide) w3 HP3.out.st.bel (by unfold matchP; rw [if_pos x285]; rfl))
            go_wp2_with fail
            refine (HLB.out _).mono ?_
            rintro e w4 ⟨rfl, rfl⟩
            go_wp2
            go_ret2
            exact HG.out
          · obtain ⟨q, hq⟩ : ∃ q, x = 257 + q := ⟨x - 257, by omega⟩
            have hq28 : q ≤ 28 := by omega
            have HLB := hide (qlenbase_any (x : Int))
            rw [lbV_yes x q hq hq28] at HLB
            have hbd := len_small q (by omega)
            have HM1 := hide (fun (Z : Except Int (List Nat × Nat)) (hz : bindP (rdP (lenBits q)) (fun x1 => bindP (symP lb) fun d => if 29 < d then failP 4 else bindP (rdP (distBits d)) fun y => copyP limit out (lenBase q + x1) (distBase d + y)) (srcB s) (8 * s.size) j = Z) => (show matchP lb limit out x (srcB s) (8 * s.size) j = Z by unfold matchP; rw [if_neg x285, show x - 257 = q by omega]; exact hz))
            generalize lenBase q = nb at HLB HM1 hbd
            generalize lenBits q = xb at HLB HM1 hbd
            have HB1 := hide (qrd_any p s j xb w3 (by omega) HP3.out.st.rd hj8 (by omega))
            clear hq hq28 x285
            go_wp2_with fail
            refine (HLB.out _).mono ?_
            rintro e w4 ⟨rfl, rfl⟩
            go_wp2_with fail
            refine HB1.out.mono ?_
            rintro e w4 ⟨ho4, ⟨x1, hb1, hx1, hj2, rfl, hr4⟩ | ⟨hb1, rfl, i', hi', hr4⟩⟩
            · have HP4 := hide (HP3.out.read ho4.turn hr4)
              have _c4 := hr4.c2
              have HM2 := hide (fun (Z : Except Int (List Nat × Nat)) (hz : bindP (symP lb) (fun d => if 29 < d then failP 4 else bindP (rdP (distBits d)) fun y => copyP limit out (nb + x1) (distBase d + y)) (srcB s) (8 * s.size) (j + xb) = Z) => HM1.out Z (by rw [bindP_ok hb1]; exact hz))
              have hx32 : x1 < 32 := by
                have : (2 : Nat) ^ xb ≤ 2 ^ 5 := Nat.pow_le_pow_right (by decide) hbd.2.2
                omega
              have HRG2 := hide (code_range HP4.out.q2)
              clear HP3 HM1 HB1 HLB ho4 hr4 hb1 hx1
              go_wp2_with (first
                | (refine wpList_load_mid rfl 66 (Operand.tmp 8) rfl Q2 0 rfl cs2 _ HRG2.out Try.underlying66 rfl HSZ2.out ?_))
              refine (HX2.out w4 _ (j + xb) HP4.out.kb HP4.out.st.rd hj2).mono ?_
              rintro e w5 ⟨ht5, ⟨y, j3, hy, hj3, hj38, hyl, rfl, hr5⟩ | ⟨hy, rfl, i', hi', hr5⟩ | ⟨hy, rfl, i', hi', hr5⟩⟩
              · have HP5 := hide (HP4.out.read ht5 hr5)
                have HM3 := hide (fun (Z : Except Int (List Nat × Nat)) (hz : (if 29 < y then failP 4 else bindP (rdP (distBits y)) fun y2 => copyP limit out (nb + x1) (distBase y + y2)) (srcB s) (8 * s.size) j3 = Z) => HM2.out Z (by rw [bindP_ok hy]; exact hz))
                have HDB := hide (qdistbase_any (y : Int))
                clear HP4 HM2 HRG2 ht5 hr5 hy
                by_cases y29 : 29 < y
                · rw [dbV_no y y29] at HDB
                  have HG := hide (HERR.out 4 (by decide) w5 HP5.out.st.bel (HM3.out _ (by rw [if_pos y29]; rfl)))
                  go_wp2_with fail
                  refine (HDB.out _).mono ?_
                  rintro e w6 ⟨rfl, rfl⟩
                  go_wp2
                  go_ret2
                  exact HG.out
                · rw [dbV_yes y (by omega)] at HDB
                  have hdb := dist_small y (by omega)
                  have HM4 := hide (fun (Z : Except Int (List Nat × Nat)) (hz : bindP (rdP (distBits y)) (fun y2 => copyP limit out (nb + x1) (distBase y + y2)) (srcB s) (8 * s.size) j3 = Z) => HM3.out Z (by rw [if_neg y29]; exact hz))
                  generalize distBase y = db at HDB HM4 hdb
                  generalize distBits y = yb at HDB HM4 hdb
                  have HB2 := hide (qrd_any p s j3 yb w5 (by omega) HP5.out.st.rd hj38 (by omega))
                  clear HM3 y29
                  go_wp2_with fail
                  refine (HDB.out _).mono ?_
                  rintro e w6 ⟨rfl, rfl⟩
                  go_wp2_with fail
                  refine HB2.out.mono ?_
                  rintro e w6 ⟨ho6, ⟨x2, hb2, hx2, hj4, rfl, hr6⟩ | ⟨hb2, rfl, i', hi', hr6⟩⟩
                  · have HP6 := hide (HP5.out.read ho6.turn hr6)
                    have _c6 := hr6.c2
                    have hx8k : x2 < 8192 := by
                      have : (2 : Nat) ^ yb ≤ 2 ^ 13 := Nat.pow_le_pow_right (by decide) hdb.2.2
                      omega
                    have HM5 := hide (fun (Z : Except Int (List Nat × Nat)) (hz : copyP limit out (nb + x1) (db + x2) (srcB s) (8 * s.size) (j3 + yb) = Z) => HM4.out Z (by rw [bindP_ok hb2]; exact hz))
                    clear HP5 HM4 HB2 HDB ho6 hr6 hb2 hx2
                    by_cases hfar : L < db + x2
                    · have zf : (L : Int) < (db : Int) + (x2 : Int) := by omega
                      have HG := hide (HERR.out 5 (by decide) w6 HP6.out.st.bel (HM5.out _ (by unfold copyP; rw [HLL.out, if_pos hfar]; rfl)))
                      go_wp2
                      go_ret2
                      exact HG.out
                    · have zf : ¬ (L : Int) < (db : Int) + (x2 : Int) := by omega
                      have ew := wrap_lessM limit L h1 (by omega) hLr
                      have ew1 := ew.1
                      have ew2 := ew.2
                      clear ew
                      by_cases hlim : limit - (L : Int) < ((nb + x1 : Nat) : Int)
                      · have zl : decide (limit - (L : Int) < (nb : Int) + (x1 : Int)) = true := decide_eq_true (by omega)
                        have HG := hide (HERR.out 6 (by decide) w6 HP6.out.st.bel (HM5.out _ (by unfold copyP; rw [HLL.out, if_neg hfar, if_pos hlim]; rfl)))
                        go_wp2
                        go_ret2
                        exact HG.out
                      · have zl : decide (limit - (L : Int) < (nb : Int) + (x1 : Int)) = false := decide_eq_false (by omega)
                        have HE2 := hide (HOK.out _ _ (HM5.out _ (by unfold copyP; rw [HLL.out, if_neg hfar, if_neg hlim]; rfl)))
                        obtain ⟨N, hN⟩ : ∃ N, nb + x1 = N := ⟨_, rfl⟩
                        obtain ⟨D, hD⟩ : ∃ D, db + x2 = D := ⟨_, rfl⟩
                        have zN : (nb : Int) + (x1 : Int) = (N : Int) := by omega
                        have zD : (db : Int) + (x2 : Int) = (D : Int) := by omega
                        rw [hN, hD] at HE2
                        rw [zD] at zf
                        rw [zN] at zl
                        have hD1 : 1 ≤ D := by omega
                        have hDL : D ≤ L := by omega
                        have zfd : decide (L < D) = false := decide_eq_false (by omega)
                        have zfi : decide ((L : Int) < (D : Int)) = false := decide_eq_false zf
                        have hN9 : N ≤ 1000 := by omega
                        have hLN : (L : Int) + (N : Int) ≤ limit := by omega
                        have HJ := hide (show j < j3 + yb by omega)
                        clear hN hD hfar hlim HM5 HERR HOK hx32 hx8k hbd hdb
                        go_wp2
                        rename World => wq
                        go_loopw [1, 19] (fun vv kv wt => ∃ jj o a9 c9, vv = .slice a9 (o : List Nat).length c9 ∧ kv = .int .i64 (jj : Nat) ∧ jj ≤ N ∧ o.length = L + jj ∧ Hid (copyN D (N - jj) o = copyN D N out) ∧ Hid (PF 56 wt W0 p s (j3 + yb) o (.slice a9 o.length c9) a1 a2 Q1 Q2 cs1 cs2 (symTo la 16) (symTo lb 16))) (fun _ kv _ => N - (intOf kv).toNat)
                        case atStart => exact ⟨0, out, a, c, by rw [HLL.out], rfl, Nat.zero_le _, by rw [HLL.out]; rfl, hide rfl, by rw [HLL.out]; exact HP6⟩
                        case round =>
                          obtain ⟨jj, o, a9, c9, rfl, rfl, hjj, hol, HCN, HP7⟩ := hrel
                          obtain ⟨M, hM⟩ : ∃ M, o.length = M := ⟨_, rfl⟩
                          have HMM := hide hM
                          rw [hM] at hol ⊢
                          have HOL := hide hol
                          have hDM : D ≤ M := by omega
                          have hM9 : M ≤ 1001000 := by omega
                          clear hol
                          by_cases hjN : jj < N
                          · have zj : (jj : Int) < N := by omega
                            obtain ⟨q, hq⟩ : ∃ q, M - D = q := ⟨_, rfl⟩
                            have zq : (M : Int) - (D : Int) = (q : Int) := by omega
                            obtain ⟨g, rfl, hcl⟩ := HP7.out.byte q (by omega)
                            have zqM : (q : Int) < M := by omega
                            obtain ⟨b, hb⟩ : ∃ b, o.getD q 0 = b := ⟨_, rfl⟩
                            rw [hb] at hcl
                            have HC2 := hide (show copyN D (N - (jj + 1)) (o ++ [b]) = copyN D N out by
                              rw [← HCN.out, show N - jj = (N - (jj + 1)) + 1 by omega]
                              show _ = copyN D (N - (jj + 1)) (o ++ [o.getD (o.length - D) 0])
                              rw [hM, hq, hb])
                            have HOW := hide HP7.out.st.own
                            have HP7s := hide HP7.out.st.bel.size
                            rw [hM] at HOW
                            have X1 := hide (show M + 1 ≤ maxLen by unfold maxLen; omega)
                            have X2 := hide (show (M + 1) * 1 ≤ 140737488355328 by omega)
                            have HL2 := hide (show (o ++ [b]).length = M + 1 by rw [List.length_append, hM]; rfl)
                            have HPA := hide (fun ob => HP7.out.alloc ob)
                            simp only [hM] at HPA
                            clear hM hq hb HCN HP7
                            go_wp2_with (first
                              | (at_builtin; refine wpList_append_fresh _ rfl _ _ 28 rfl W0.heap.size 5 i1 (.int .u8 0) 1 1 Try.underlying28 ki kz0 kz1 kz2 rfl (by decide) (.slice (some ⟨g, 0, none⟩) M c9) _ _ rfl (HOW.out.alloc _) _ 1 1 [.int .u8 (b : Int)] rfl rfl (cell_one_new _ _ _) (one_u8 _) X1.out X2.out (size_alloc_le HP7s.out) ?_; intro v8 w8 o8 g8 f8; rw [show [Value.int .u8 (b : Int)] = u8Cs [b] from rfl, u8Cs_append] at o8; have HP8 := hide ((HPA.out _).grow (o := o ++ [b]) (by rw [HL2.out]; exact o8) g8 f8); clear o8 g8 f8))
                            obtain ⟨a8, c8, e8⟩ := HP8.out.slice
                            subst e8
                            go_roundw
                            case rel => exact ⟨jj + 1, o ++ [b], a8, c8, rfl, by go_num, hjN, by rw [HL2.out, HOL.out]; rfl, HC2, HP8⟩
                            case measure => exact meas_oneW jj N hjN
                          · obtain rfl : jj = N := by omega
                            have HEN := hide (show pourP la lb limit f o (srcB s) (8 * s.size) (j3 + yb) = R by
                              have h := HCN.out
                              rw [Nat.sub_self] at h
                              have h2 : copyN D 0 o = o := rfl
                              rw [h2] at h
                              rw [h]
                              exact HE2.out)
                            go_wp2
                            go_roundg (8 * s.size - (j3 + yb))
                            case measure => have := HGK.out; have := HJ.out; omega
                            case rel => exact ⟨j3 + yb, o, f, a9, c9, by rw [HMM.out], hj4, Nat.le_refl _, by have := HFU.out; have := HJ.out; omega, .inr (by rw [HMM.out, HOL.out]; omega), HEN, HP7⟩
                  · have HG := hide (HERR.out 2 (by decide) w6 (HP5.out.st.bad ho6.turn) (HM4.out _ (bindP_err hb2)))
                    have _c6 := hr6.c2
                    clear HM4 HB2 HDB ho6 hr6 hb2
                    go_wp2
                    go_ret2
                    exact HG.out
              · have HG := hide (HERR.out 2 (by decide) w5 (HP4.out.st.bad ht5) (HM2.out _ (bindP_err hy)))
                clear HM2 HRG2 ht5 hr5 hy
                go_wp2
                go_ret2
                exact HG.out
              · have HG := hide (HERR.out 4 (by decide) w5 (HP4.out.st.bad ht5) (HM2.out _ (bindP_err hy)))
                clear HM2 HRG2 ht5 hr5 hy
                go_wp2
                go_ret2
                exact HG.out
            · have HG := hide (HERR.out 2 (by decide) w4 (HP3.out.st.bad ho4.turn) (HM1.out _ (bindP_err hb1)))
              have _c4 := hr4.c2
              clear HM1 HB1 HLB ho4 hr4 hb1
              go_wp2
              go_ret2
              exact HG.out
    · have HB := hide (HP.out.st.bad ht3)
      have HG := hide (show PiecePost 56 R W0 p s (.returned (.tuple #[.slice none 0 0, .int .i64 2])) w3 from .inr ⟨2, by rw [← HE.out]; exact pour_err hx, by decide, rfl, HB.out⟩)
      clear ht3 hr3 hx
      go_wp2
      go_ret2
      exact HG.out
    · have HB := hide (HP.out.st.bad ht3)
      have HG := hide (show PiecePost 56 R W0 p s (.returned (.tuple #[.slice none 0 0, .int .i64 4])) w3 from .inr ⟨4, by rw [← HE.out]; exact pour_err hx, by decide, rfl, HB.out⟩)
      clear ht3 hr3 hx
      go_wp2
      go_ret2
      exact HG.out

end Go.Proofs.Ytaalbaiglkadlaa
