/- The program's layer 11: the lengths that runs stand for. -/
import Derived.Test.YtaalbaiglkadlaaGreatICodeI
namespace Go.Proofs.YtaalbaiglkadlaaGreat
open Go.RowKit Go.Lib

/-- Runs under way: a reader, a row of runs, a code. -/
structure LW (w W : World) (p : Nat) (s : ByteArray) (i : Nat) (rs : List (Int × Int)) (v : Value) (a : Option Addr) (Q : Nat) (cs : List Value) (S : List Nat) : Prop where
  rd : RdAt 43 w p s i false
  tn : Turn p W w
  own : w.ownsRow W.heap.size 122 2 v rs.length (runCs rs)
  ka : KN p v w a S
  qa : w.heap[Q]? = some (.cells cs.toArray 80 (0, 0))
  fq : FreeB p v w Q
  ne : v.ownBlock ≠ some p
section
variable {w w' W : World} {p i j Q : Nat} {s : ByteArray} {rs o : List (Int × Int)} {v v' : Value} {a : Option Addr} {cs : List Value} {S : List Nat}
theorem LW.read (h : LW w W p s i rs v a Q cs S) (t : Turn p w w') (r : RdAt 43 w' p s j false) : LW w' W p s j rs v a Q cs S := by
  refine ⟨r, h.tn.trans t, ?_, h.ka.step t.step, (t.block Q h.fq.1 h.fq.2.1).trans h.qa, h.fq.step t.step, h.ne⟩
  refine ⟨h.own.1, ?_⟩
  have hlt := h.own.lt
  rcases h.own.2 with h2 | ⟨g, cap, cur, e, hg, hh, r2⟩
  · exact .inl h2
  · have hgl := hlt g (by rw [e]; rfl)
    have hgp : g ≠ p := fun e2 => h.ne (by rw [e, ← e2]; rfl)
    exact .inr ⟨g, cap, cur, e, hg, (t.block g hgl.2 hgp).trans hh, r2⟩
theorem LW.below (h : LW w W p s i rs v a Q cs S) (b : Below w.heap.size w w') : LW w' W p s i rs v a Q cs S := by
  have hp : p < w.heap.size := (Array.getElem?_eq_some_iff.1 h.rd).1
  refine h.read ⟨b.os, b.tape, b.output, b.size, fun k hk _ => b.block k hk⟩ ?_
  have hr := h.rd
  unfold RdAt at hr ⊢
  rw [b.block p hp]
  exact hr
theorem LW.alloc (h : LW w W p s i rs v a Q cs S) (ob : Obj) : LW (w.alloc ob) W p s i rs v a Q cs S := h.below ((Below.refl _ w).alloc (Nat.le_refl _) ob)
theorem LW.grow (h : LW w W p s i rs v a Q cs S) (ho : w'.ownsRow W.heap.size 122 2 v' o.length (runCs o)) (hg : w.grownBy w' v.ownBlock) (hf : v'.ownBlock = v.ownBlock ∨ ∀ k, v'.ownBlock = some k → w.heap.size ≤ k) : LW w' W p s i o v' a Q cs S := by
  have hp : p < w.heap.size := (Array.getElem?_eq_some_iff.1 h.rd).1
  have st : Step p v v' w w' := grown_step hg hf
  have tt : Turn p W w' := ⟨hg.os.trans h.tn.os, hg.tape.trans h.tn.tape, hg.output.trans h.tn.output, Nat.le_trans h.tn.size hg.size, fun k hk hp => (hg.block k (Nat.lt_of_lt_of_le hk h.tn.size) (fun e2 => by have := (h.own.lt k e2.symm).1; omega)).trans (h.tn.block k hk hp)⟩
  refine ⟨?_, tt, ho, h.ka.step st, (st.block Q h.fq.1 h.fq.2.1 (fun e => h.fq.2.2 e.symm)).trans h.qa, h.fq.step st, ?_⟩
  · unfold RdAt
    rw [hg.block p hp (fun e => h.ne e.symm)]
    exact h.rd
  · rcases hf with e | e
    · rw [e]; exact h.ne
    · intro e2
      have := e p e2
      omega
theorem LW.slice (h : LW w W p s i rs v a Q cs S) : ∃ a c, v = .slice a rs.length c := own_slice11 h.own
end
/-- What the lengths give: a row of its own; or an error. -/
def LenP (R : Except Int (List Int × Nat)) (N : Nat) (W : World) (p : Nat) (s : ByteArray) (e : Ending) (w' : World) : Prop := Turn p W w' ∧
  ((∃ out j v' B, R = .ok (out, j) ∧ out.length = N ∧ j ≤ 8 * s.size ∧ RdAt 43 w' p s j false ∧ e = .returned (.tuple #[v', .int .i64 0]) ∧ w'.ownsRow B 3 1 v' N (intCs out)) ∨
   (∃ er, R = .error er ∧ er ≠ 0 ∧ e = .returned (.tuple #[.slice none 0 0, .int .i64 er])))

set_option maxRecDepth 20000 in
set_option maxHeartbeats 16000000 in
theorem lengths11 (O p : Nat) (v : Value) (limit : Int) (ls : List Nat) (a : Option Addr) (c m N : Nat) (s : ByteArray) (i0 : Nat) (W : World) (hb : Bx W O p v limit) (hm : (symTo ls 16).length = m) (harg : ArgN W a (symTo ls 16)) (hne : ∀ b off, a = some ⟨b, off, none⟩ → b ≠ p) (hlt : ∀ b off, a = some ⟨b, off, none⟩ → b < W.heap.size) (hls : ls.length ≤ 19)
    (h : RdAt 43 W p s i0 false) (hi : i0 ≤ 8 * s.size) (hs : s.size ≤ 1000000) (hN : N ≤ 316) :
    Calls Tryz.prog 57 #[.pointer (some ⟨O, 0, none⟩), codeV (cn ls) (.slice a m c), .int .i64 (N : Nat)] W fun e w' => LenP (runsP ls N 400 [] (srcB s) (8 * s.size) i0) N W p s e w' := by
  have hpW : p < W.heap.size := by unfold RdAt at h; exact (Array.getElem?_eq_some_iff.1 h).1
  have HRU := hide (fun w v2 j (hb : Bx w O p v limit) (k : KN p v2 w a (symTo ls 16)) (r : RdAt 43 w p s j false) (hj : j ≤ 8 * s.size) => run11 O p v limit ls a c m s j w hb hm k.arg (fun b off e => (k.free b off e).2.1) (by omega) r hj (by omega))
  have HBX := hide hb
  have bA := (Below.refl W.heap.size W).alloc (Nat.le_refl _) (.cells (codeCs (cn ls) (.slice a m c)).toArray 80)
  have sA := size_alloc W (.cells (codeCs (cn ls) (.slice a m c)).toArray 80)
  have HL0 := hide (show LW (W.alloc (.cells (codeCs (cn ls) (.slice a m c)).toArray 80)) W p s i0 [] (.slice none 0 0) a W.heap.size (codeCs (cn ls) (.slice a m c)) (symTo ls 16) from
    ⟨by unfold RdAt at h ⊢; rw [heap_alloc_old _ _ _ hpW]; exact h, (Turn.refl p W).belowT bA (Nat.le_refl _), World.ownsRow_nil _ _ _ _, ⟨harg.below bA (Nat.le_refl _), fun b off e => ⟨by have := hlt b off e; omega, hne b off e, fun e => by cases e⟩⟩, heap_alloc_at _ _ rfl, ⟨by omega, by omega, fun e => by cases e⟩, fun e => by cases e⟩)
  have HN17 := hide (codeCs_length (cn ls) (.slice a m c))
  unfold codeV at HRU ⊢
  generalize codeCs (cn ls) (.slice a m c) = cs at *
  have HSZ := hide (show (Tryz.prog.info? 80).map (·.size) = some cs.length by rw [HN17.out]; exact Tryz.sizeCode)
  obtain ⟨R, hR⟩ : ∃ R, runsP ls N 400 [] (srcB s) (8 * s.size) i0 = R := ⟨_, rfl⟩
  have HY0 := hide (show WayR ls N (srcB s) (8 * s.size) R [] 0 i0 from way_start hN hR)
  rw [hR]
  have HERR := hide (fun (e : Int) (he : e ≠ 0) (hr : R = .error e) (w' : World) (t : Turn p W w') => (show LenP R N W p s (.returned (.tuple #[.slice none 0 0, .int .i64 e])) w' from ⟨t, .inr ⟨e, hr, he, rfl⟩⟩))
  obtain ⟨i1, ki, kz0, kz1, kz2⟩ := info_parts Tryz.infoRun
  have HLS := hide hls
  clear h harg hm hne hlt hb hR bA sA hls
  go_enter Tryz.func57, Tryz.ntmps57
  go_wp2
  generalize hwa : W.alloc (.cells cs.toArray 80) = wa at *
  clear hwa
  generalize W.heap.size = Q at HL0 ⊢
  go_loopg [8, 9] N (fun gk vv sv wr => ∃ (rs : List (Int × Int)) (S i : Nat), sv = .int .i64 (S : Nat) ∧ i ≤ 8 * s.size ∧ N - S ≤ gk ∧ Hid (WayR ls N (srcB s) (8 * s.size) R rs S i) ∧ Hid (LW wr W p s i rs vv a Q cs (symTo ls 16)))
  case atStart => exact ⟨[], 0, i0, rfl, hi, by omega, HY0, HL0⟩
  case round =>
    clear HL0 HY0
    obtain ⟨rs, S, i, rfl, hi8, hgk, HY, HL⟩ := hrel
    obtain ⟨a8, c8, rfl⟩ := HL.out.slice
    obtain ⟨M, hM⟩ : ∃ M, rs.length = M := ⟨_, rfl⟩
    have HMM := hide hM
    have hsz := HY.out.short
    rw [hM] at HL hsz ⊢
    have HGK := hide hgk
    have hM9 : M ≤ 317 := by omega
    have hS9 : S ≤ 454 := by omega
    have HBR := hide (HBX.out.turn HL.out.tn)
    clear hM hgk hsz
    by_cases hSN : S < N
    · have zS : (S : Int) < N := by omega
      have HRN := hide (HRU.out wr _ i HBR.out HL.out.ka HL.out.rd hi8)
      have HRG := hide (code_range HL.out.qa)
      go_wp2_with (first
        | (refine wpList_load_mid rfl 80 (Operand.tmp 4) rfl Q 0 rfl cs _ HRG.out Tryz.underlying80 rfl HSZ.out ?_))
      refine HRN.out.mono ?_
      rintro e w1 ⟨t1, x, y, er, rfl, ⟨j, j2, rfl, hx, hy, hij, hjj, hj8, hxl, hyl, hr1⟩ | ⟨her, hcase⟩⟩
      · have HX := hide hx
        have HYY := hide hy
        have HL1 := hide (HL.out.read t1 hr1)
        have hx18 : x ≤ 18 := by have := HLS.out; omega
        have hy127 : y ≤ 127 := by
          have h1 := xbits_le (x : Int)
          have h2 : (2 : Nat) ^ xBits (x : Int) ≤ 2 ^ 7 := Nat.pow_le_pow_right (by decide) h1
          omega
        have HYL := hide hyl
        clear hx hy t1 hr1 HRN HRG hxl hyl hij hjj
        by_cases h16 : x = 16 ∧ M = 0
        · have HG := hide (HERR.out 3 (by decide) (HY.out.none16 hSN HX.out HYY.out h16.1 (List.length_eq_zero_iff.1 (HMM.out.trans h16.2))) (w1.alloc (.cells #[.int .i64 (x : Nat), .int .i64 (y : Nat)] 122)) (HL1.out.tn.alloc _))
          obtain ⟨rfl, rfl⟩ := h16
          clear HL HL1 HY HX HYY
          go_wp2
          go_ret2
          exact HG.out
        obtain ⟨K, hK⟩ : ∃ K : Nat, timesR ((x : Int), (y : Int)) = (K : Int) := by
          unfold timesR
          split
          · exact ⟨3 + y, by dsimp only; omega⟩
          · split
            · exact ⟨3 + y, by dsimp only; omega⟩
            · split
              · exact ⟨11 + y, by dsimp only; omega⟩
              · exact ⟨1, rfl⟩
        have hK1 : 1 ≤ K ∧ K ≤ 138 := by
          have h := hK
          unfold timesR at h
          dsimp only at h
          split at h
          · omega
          · split at h
            · omega
            · split at h <;> omega
        have HTM := hide (times11 x y K hx18 hy127 hK)
        have HYN := hide (HY.out.next hSN HX.out HYY.out hx18 (fun g => h16 ⟨g.1, by rw [← HMM.out, g.2]; rfl⟩) K hK hK1.1 hK1.2 HYL.out)
        have HL2 := hide (HL1.out.alloc (.cells #[.int .i64 (x : Nat), .int .i64 (y : Nat)] 122))
        have HL2A := hide (fun ob => HL2.out.alloc ob)
        have HOW := hide HL2.out.own
        have HOW1 := hide HL1.out.own
        rw [HMM.out] at HOW HOW1
        have HSZ2 := hide (show W.heap.size ≤ (w1.alloc (.cells #[.int .i64 (x : Nat), .int .i64 (y : Nat)] 122)).heap.size from HL2.out.tn.size)
        have X1 := hide (show M + 1 ≤ maxLen by unfold maxLen; omega)
        have X2 := hide (show (M + 1) * 16 ≤ 140737488355328 by omega)
        have HLN := hide (show (rs ++ [((x : Int), (y : Int))]).length = M + 1 by rw [List.length_append, HMM.out]; rfl)
        have HRC := hide (show runCs rs ++ [Value.int .i64 (x : Int), Value.int .i64 (y : Int)] = runCs (rs ++ [((x : Int), (y : Int))]) by rw [runCs_append]; rfl)
        have HMS := hide (show N - (S + K) < N - S by omega)
        obtain ⟨ew1, ew2⟩ := wrap_two S K (Nat.le_trans (Nat.add_le_add hS9 hK1.2) (by decide))
        have HJ8 := hide hj8
        have HKK := hide hK1
        clear HY HX HYY HL HL1 HL2 hK hK1 hj8 HYL
        by_cases x16 : x = 16
        · have bM : ((M : Int) == 0) = false := by simp; omega
          clear h16
          subst x16
          have e16 : ((16 : Nat) : Int) = 16 := rfl
          rw [e16] at HTM HRC HL2A HOW HLN HYN HSZ2
          go_wp2_with (first
            | (at_builtin; refine wpList_append_fresh _ rfl _ _ 94 rfl W.heap.size 122 i1 (.agg #[.int .i64 0, .int .i64 0]) 2 16 Tryz.underlying94 ki kz0 kz1 kz2 rfl (by decide) (.slice a8 M c8) _ _ rfl (HOW.out.alloc _) ⟨w1.heap.size + 1, 0, none⟩ 1 1 [.int .i64 (16 : Int), .int .i64 (y : Int)] rfl rfl (cell_two_at _ _ _ (size_alloc _ _) _) (two_one _ _) X1.out X2.out (size_alloc_le HSZ2.out) ?_; intro v2 w2 o2 g2 f2; rw [HRC.out] at o2; have HL3 := hide ((HL2A.out _).grow (o := rs ++ [((16 : Int), (y : Int))]) (by rw [HLN.out]; exact o2) g2 f2); obtain ⟨_c1, _c2⟩ := run_kept HOW1.out g2; clear o2 g2 f2))
          refine (HTM.out _).mono ?_
          rintro e w3 ⟨rfl, b3⟩
          have HL4 := hide (HL3.out.below b3)
          clear b3 HL3 HL2A HOW HOW1
          go_wp2
          go_roundg (N - (S + K))
          case measure => exact Nat.lt_of_lt_of_le HMS.out HGK.out
          case rel => exact ⟨_, S + K, j2, by go_num, HJ8.out, Nat.le_refl _, HYN, HL4⟩
        · have b16 : ((x : Int) == 16) = false := by simp; omega
          clear h16
          go_wp2_with (first
            | (at_builtin; refine wpList_append_fresh _ rfl _ _ 94 rfl W.heap.size 122 i1 (.agg #[.int .i64 0, .int .i64 0]) 2 16 Tryz.underlying94 ki kz0 kz1 kz2 rfl (by decide) (.slice a8 M c8) _ _ rfl (HOW.out.alloc _) ⟨w1.heap.size + 1, 0, none⟩ 1 1 [.int .i64 (x : Int), .int .i64 (y : Int)] rfl rfl (cell_two_at _ _ _ (size_alloc _ _) _) (two_one _ _) X1.out X2.out (size_alloc_le HSZ2.out) ?_; intro v2 w2 o2 g2 f2; rw [HRC.out] at o2; have HL3 := hide ((HL2A.out _).grow (o := rs ++ [((x : Int), (y : Int))]) (by rw [HLN.out]; exact o2) g2 f2); obtain ⟨_c1, _c2⟩ := run_kept HOW1.out g2; clear o2 g2 f2))
          refine (HTM.out _).mono ?_
          rintro e w3 ⟨rfl, b3⟩
          have HL4 := hide (HL3.out.below b3)
          clear b3 HL3 HL2A HOW HOW1
          go_wp2
          go_roundg (N - (S + K))
          case measure => exact Nat.lt_of_lt_of_le HMS.out HGK.out
          case rel => exact ⟨_, S + K, j2, by go_num, HJ8.out, Nat.le_refl _, HYN, HL4⟩
      · have HG := hide (HERR.out er her (by
          rcases hcase with hx | ⟨x2, j, hx, hy⟩
          · exact HY.out.sym_err hSN hx
          · exact HY.out.rd_err hSN hx hy) (w1.alloc (.cells #[.int .i64 (x : Nat), .int .i64 (y : Nat)] 122)) ((HL.out.tn.trans t1).alloc _))
        have be : (er == 0) = false := by simp; exact her
        clear HL HY t1 hcase HRN HRG
        go_wp2
        go_ret2
        exact HG.out
    · have zS : ¬ (S : Int) < N := by omega
      obtain ⟨a9, c9, ea, hz, _⟩ := own_argR HL.out.own rfl
      rw [HMM.out] at ea
      injection ea with ea1 ea2 ea3
      subst ea1
      clear ea2 ea3
      have HUF := hide (unfold7_row rs a8 c8 (N : Int) wr hz (by rw [HMM.out]; omega) (by omega) (by omega))
      rw [HMM.out] at HUF
      have HDN := hide (HY.out.done hSN)
      clear hz
      go_wp2_with fail
      refine HUF.out.mono ?_
      rintro e w1 ⟨b1, ⟨hu, rfl⟩ | ⟨out, v', hu, rfl, ho⟩⟩
      · have HG := hide (HERR.out 3 (by decide) (by
          rcases HDN.out with ⟨_, h2⟩ | ⟨o2, h1, _⟩
          · exact h2
          · rw [hu] at h1; cases h1) w1 (HL.out.tn.belowT b1 HL.out.tn.size))
        clear HUF HDN b1 hu HL HY
        go_wp2
        go_ret2
        exact HG.out
      · have HG := hide (show LenP R N W p s (.returned (.tuple #[v', .int .i64 0])) w1 from ⟨HL.out.tn.belowT b1 HL.out.tn.size, .inl (by
          rcases HDN.out with ⟨h1, _⟩ | ⟨o2, h1, h2, h3⟩
          · rw [hu] at h1; cases h1
          · rw [hu] at h1
            injection h1 with h1
            subst h1
            refine ⟨out, i, v', wr.heap.size, h3, h2, hi8, ?_, rfl, by rw [← h2]; exact ho⟩
            have hr := HL.out.rd
            unfold RdAt at hr ⊢
            rw [b1.block p (Array.getElem?_eq_some_iff.1 hr).1]
            exact hr)⟩)
        clear HUF HDN b1 hu HL HY ho
        go_wp2
        go_ret2
        exact HG.out

end Go.Proofs.YtaalbaiglkadlaaGreat
