/- Contract of the code of layer 8: Tokens. -/
import Derived.Test.YtifcpaeofmkokaaMCodeB
namespace Go.Proofs.Ytifcpaeofmkokaa
open Go.RowKit Go.Lib

theorem own_setC {w : World} {B p o : Nat} {e : TypeId} {size n : Nat} {v u : Value} {xs : List Value} (h : w.ownsRow B e size v n xs) (hp : v.ownBlock ≠ some p) : (w.setCell ⟨p, o, none⟩ u).ownsRow B e size v n xs := by
  refine ⟨h.1, ?_⟩
  rcases h.2 with h2 | ⟨g, cap, cur, hv, hg, hc, r⟩
  · exact .inl h2
  · refine .inr ⟨g, cap, cur, hv, hg, ?_, r⟩
    rw [Below.heap_setCell _ _ _ _ (fun e => hp (by rw [hv, show g = p from e]; rfl))]
    exact hc
/-- The tokens under way, and the match's own block. -/
structure TokI (w W : World) (s : ByteArray) (level : Int) (i : Nat) (out : List (Nat × Nat × Nat)) (v : Value) (MB r1 r2 : Nat) : Prop where
  tok : TokW w W s level i out v
  box : w.heap[MB]? = some (.cells #[.int .i64 (r1 : Nat), .int .i64 (r2 : Nat), .int .u8 0] 32 (0, 0))
  ne : v.ownBlock ≠ some MB
  ge : W.heap.size ≤ MB
theorem TokI.below {w w' W : World} {s : ByteArray} {level : Int} {i : Nat} {out : List (Nat × Nat × Nat)} {v : Value} {MB r1 r2 : Nat} (h : TokI w W s level i out v MB r1 r2) (b : Below w.heap.size w w') : TokI w' W s level i out v MB r1 r2 :=
  ⟨h.tok.below b, by rw [b.block _ (Array.getElem?_eq_some_iff.1 h.box).1]; exact h.box, h.ne, h.ge⟩
theorem TokI.made {w W : World} {s : ByteArray} {level : Int} {i : Nat} {out : List (Nat × Nat × Nat)} {v : Value} (h : TokW w W s level i out v) (r1 r2 : Nat) : TokI (w.alloc (.cells #[.int .i64 (r1 : Nat), .int .i64 (r2 : Nat), .int .u8 0] 32)) W s level i out v w.heap.size r1 r2 :=
  ⟨h.below ((Below.refl _ _).alloc (Nat.le_refl _) _), by show (w.heap.push _)[w.heap.size]? = _; simp, own_ne h.own (Nat.le_refl _), h.bel.size⟩

theorem TokI.lit {w W : World} {s : ByteArray} {level : Int} {i : Nat} {out : List (Nat × Nat × Nat)} {v : Value} {MB r1 r2 : Nat} (h : TokI w W s level i out v MB r1 r2) (x : Int) : TokW (w.setCell ⟨MB, 2, none⟩ (.int .u8 x)) W s level i out v ∧ (w.setCell ⟨MB, 2, none⟩ (.int .u8 x)).heap[MB]? = some (.cells #[.int .i64 (r1 : Nat), .int .i64 (r2 : Nat), .int .u8 x] 32 (0, 0)) :=
  ⟨⟨own_setC h.tok.own h.ne, h.tok.bel.setCell h.ge _, h.tok.tok, h.tok.len⟩, heap_setCell_same _ _ _ _ _ _ _ h.box⟩
theorem box_after {w w' : World} {v : Value} {p : Nat} {c : Obj} (hb : w.heap[p]? = some c) (hne : v.ownBlock ≠ some p) (o : Obj) (hg : (w.alloc o).grownBy w' v.ownBlock) : w'.heap[p]? = some c := by
  have hp : p < w.heap.size := (Array.getElem?_eq_some_iff.1 hb).1
  have hsz : (w.alloc o).heap.size = w.heap.size + 1 := by show (w.heap.push _).size = _; simp
  rw [hg.block p (by omega) (fun e => hne e.symm), heap_alloc_old _ _ _ hp]
  exact hb
theorem TokI.next {w w' W : World} {s : ByteArray} {level : Int} {i i2 : Nat} {out out2 : List (Nat × Nat × Nat)} {v v' : Value} {MB r1 r2 : Nat} (h : TokI w W s level i out v MB r1 r2) (o : Obj) (hg : (w.alloc o).grownBy w' v.ownBlock) (hf : v'.ownBlock = v.ownBlock ∨ ∀ k, v'.ownBlock = some k → (w.alloc o).heap.size ≤ k) (ht : TokW w' W s level i2 out2 v') (q1 q2 : Nat) :
    TokI (((w'.setCell ⟨MB, 0, none⟩ (.int .i64 (q1 : Nat))).setCell ⟨MB, 1, none⟩ (.int .i64 (q2 : Nat))).setCell ⟨MB, 2, none⟩ (.int .u8 0)) W s level i2 out2 v' MB q1 q2 := by
  have hp : MB < w.heap.size := (Array.getElem?_eq_some_iff.1 h.box).1
  have hsz : (w.alloc o).heap.size = w.heap.size + 1 := by show (w.heap.push _).size = _; simp
  have hne : v'.ownBlock ≠ some MB := by
    intro e
    rcases hf with e2 | e2
    · exact h.ne (by rw [← e2]; exact e)
    · have := e2 _ e; omega
  exact ⟨⟨own_setC (own_setC (own_setC ht.own hne) hne) hne, ((ht.bel.setCell h.ge _).setCell h.ge _).setCell h.ge _, ht.tok, ht.len⟩, set_three _ _ _ _ _ _ _ _ _ (box_after h.box h.ne o hg), hne, h.ge⟩

theorem setC_size (w : World) (p o : Nat) (u : Value) : (w.setCell ⟨p, o, none⟩ u).heap.size = w.heap.size := by simp [World.setCell]
theorem alloc_size (w : World) (o : Obj) : (w.alloc o).heap.size = w.heap.size + 1 := by show (w.heap.push _).size = _; simp
theorem cell_three_at (w : World) (p : Nat) (hp : w.heap.size = p) (x y z : Value) (t : TypeId) : ∀ j u, [x, y, z][j]? = some u → (w.alloc (.cells #[x, y, z] t)).cell? ((⟨p, 0, none⟩ : Addr).add j) = some u := by
  subst hp
  exact cell_three_new w x y z t
theorem three_cells {w : World} {p : Nat} {x y z : Value} {T : TypeId} (h : w.heap[p]? = some (.cells #[x, y, z] T (0, 0))) : w.cell? ⟨p, 0, none⟩ = some x ∧ w.cell? ⟨p, 1, none⟩ = some y ∧ w.cell? ⟨p, 2, none⟩ = some z :=
  ⟨by rw [cell_of_row _ _ 0 _ _ (0, 0) h]; rfl, by rw [cell_of_row _ _ 1 _ _ (0, 0) h]; rfl, by rw [cell_of_row _ _ 2 _ _ (0, 0) h]; rfl⟩
theorem meas_from {i j k n : Nat} (h1 : i ≤ j) (h2 : 1 ≤ k) (h3 : j + k ≤ n) : n - (intOf (.int .i64 ((j : Int) + (k : Int)))).toNat < n - (intOf (.int .i64 (i : Int))).toNat := by
  show n - ((j : Int) + (k : Int)).toNat < n - ((i : Nat) : Int).toNat
  omega
theorem TokCap.from {W W2 : World} {s : ByteArray} {level : Int} {e : Ending} {w' : World} (h : TokCap W2 s level e w') (b : Below W.heap.size W W2) : TokCap W s level e w' := by
  obtain ⟨a, c, ts, h1, h2, h3, h4, h5, h6⟩ := h
  exact ⟨a, c, ts, h1, h2, h3, h4, b.trans (h5.mono b.size), h6⟩

set_option maxRecDepth 20000 in
set_option maxHeartbeats 8000000 in
theorem tokens8 (s : ByteArray) (level : Int) (W : World) (hs : s.size ≤ 1000000) :
    Calls Try.prog 11 #[.string s, .int .i64 level] W fun e w' => TokCap W s level e w' := by
  obtain ⟨n, hn⟩ : ∃ n, s.size = n := ⟨_, rfl⟩
  have HN := hide hn
  have zn : ((s.size : Nat) : Int) = (n : Int) := by omega
  have HLK := hide (links8 s n W hn (by omega))
  have HTR := hide (tries8 level)
  have HCL := hide (chain_le level)
  have HCH := hide (show chainL level = chainL level from rfl)
  obtain ⟨m, hm⟩ : ∃ m, chainL level = m := ⟨_, rfl⟩
  rw [hm] at HTR HCL
  have HM := hide hm
  rw [hn] at hs
  obtain ⟨i1, ki, kz0, kz1, kz2⟩ := info_parts Try.infoTok
  clear hn hm HCH
  go_enter Try.func11, Try.ntmps11
  go_wp2_with fail
  refine HLK.out.mono ?_
  rintro e w1 ⟨g, rfl, hbk, b1⟩
  have HB1 := hide b1
  have HBK := hide hbk
  clear b1 hbk HLK
  go_wp2_with fail
  refine (HTR.out _).mono ?_
  rintro e w1 ⟨rfl, rfl⟩
  go_wp2
  have HT0 := hide (show TokW (w1.alloc (.cells #[.string s, .slice (some ⟨g, 0, none⟩) n n, .int .i64 (m : Nat)] 40)) (w1.alloc (.cells #[.string s, .slice (some ⟨g, 0, none⟩) n n, .int .i64 (m : Nat)] 40)) s level 0 [] (.slice none 0 0) from ⟨World.ownsRow_nil _ _ _ _, Below.refl _ _, fun rs h => h, Nat.le_refl _⟩)
  have HTX := hide (show (w1.alloc (.cells #[.string s, .slice (some ⟨g, 0, none⟩) n n, .int .i64 (m : Nat)] 40)).heap[w1.heap.size]? = some (.cells #[.string s, .slice (some ⟨g, 0, none⟩) n n, .int .i64 (m : Nat)] 40 (0, 0)) by show (w1.heap.push _)[w1.heap.size]? = _; simp)
  have HBK2 := hide (HBK.out.below ((Below.refl w1.heap.size w1).alloc (Nat.le_refl _) (.cells #[.string s, .slice (some ⟨g, 0, none⟩) n n, .int .i64 (m : Nat)] 40)) (Nat.le_refl _))
  have HB2 := hide (HB1.out.alloc HB1.out.size (.cells #[.string s, .slice (some ⟨g, 0, none⟩) n n, .int .i64 (m : Nat)] 40))
  clear HB1 HBK HTR
  generalize (w1.alloc (.cells #[.string s, .slice (some ⟨g, 0, none⟩) n n, .int .i64 (m : Nat)] 40)) = W2 at *
  generalize w1.heap.size = PB at *
  have hPB : PB < W2.heap.size := (Array.getElem?_eq_some_iff.1 HTX.out).1
  have HPB := hide hPB
  clear hPB
  go_loopw [6, 7] (fun v iv wr => ∃ i : Nat, i ≤ n ∧ iv = .int .i64 (i : Nat) ∧ ∃ out, Hid (TokW wr W2 s level i out v)) (fun _ iv _ => n - (intOf iv).toNat)
  case atStart => exact ⟨0, Nat.zero_le _, rfl, [], HT0⟩
  case round =>
    clear HT0
    obtain ⟨i, hi, rfl, out, HT⟩ := hrel
    by_cases hlt : i < n
    · have zi : (i : Int) < n := by omega
      have HMA := hide (fun w (b : Below W2.heap.size W2 w) j (hj : j < n) => match8 s (some ⟨g, 0, none⟩) n n m j w HN.out (HBK2.out.below b (Nat.le_refl _)) hj hs HCL.out)
      have HGD := hide (fun j => best_good (bAt s) n j m)
      obtain ⟨⟨r1, r2⟩, hr⟩ : ∃ r, bestM (bAt s) n i m = r := ⟨_, rfl⟩
      have HR := hide hr
      have HMA1 := hide (HMA.out wr HT.out.bel i hlt)
      rw [hr] at HMA1
      dsimp only at HMA1
      have _b0 : wr.cell? ⟨PB, 0, none⟩ = some (.string s) := by rw [HT.out.bel.cell (p := ⟨PB, 0, none⟩) HPB.out, cell_of_row _ _ 0 _ _ (0, 0) HTX.out]; rfl
      have _b1 : wr.cell? ⟨PB, 1, none⟩ = some (.slice (some ⟨g, 0, none⟩) n n) := by rw [HT.out.bel.cell (p := ⟨PB, 1, none⟩) HPB.out, cell_of_row _ _ 1 _ _ (0, 0) HTX.out]; rfl
      have _b2 : wr.cell? ⟨PB, 2, none⟩ = some (.int .i64 (m : Nat)) := by rw [HT.out.bel.cell (p := ⟨PB, 2, none⟩) HPB.out, cell_of_row _ _ 2 _ _ (0, 0) HTX.out]; rfl
      have HLT := hide hlt
      clear hr hlt
      go_wp2_with fail
      refine HMA1.out.mono ?_
      rintro e w2 ⟨rfl, b2⟩
      clear HMA1 _b0 _b1 _b2
      have HI0 := hide (TokI.made (HT.out.below b2) r1 r2)
      clear b2 HT
      go_wp2
      generalize (w2.alloc (.cells #[.int .i64 (r1 : Nat), .int .i64 (r2 : Nat), .int .u8 0] 32)) = w3 at *
      generalize w2.heap.size = MB at *
      rename World => wm
      go_loopw [6, 7] (fun v iv wt => ∃ j a b : Nat, i ≤ j ∧ j < n ∧ iv = .int .i64 (j : Nat) ∧ ∃ out, Hid (bestM (bAt s) n j m = (a, b)) ∧ Hid (TokI wt W2 s level j out v MB a b)) (fun _ iv _ => n - (intOf iv).toNat)
      case atStart => exact ⟨i, r1, r2, Nat.le_refl _, HLT.out, rfl, out, HR, HI0⟩
      case round =>
        clear HI0 HR
        obtain ⟨j, a, b, hij, hjn, rfl, out, HAB, HI⟩ := hrel
        have hol := HI.out.tok.len
        have X1 := hide (show out.length + 1 ≤ maxLen by unfold maxLen; omega)
        have X2 := hide (show (out.length + 1) * 24 ≤ 140737488355328 by omega)
        have HIS := hide (show j < s.size by rw [HN.out]; exact hjn)
        have ix := str_index s j HIS.out
        have HLIT := hide (tok_lit (bAt s) n j level)
        have HMAT := hide (tok_mat (bAt s) n j level)
        have HLNO := hide (lazy_no (bAt s) n j level)
        have HLIS := hide (lazy_is (bAt s) n j level)
        rw [HM.out] at HLIT HMAT HLNO HLIS
        rw [HAB.out] at HLIT HMAT HLNO HLIS
        dsimp only at HLIT HMAT HLNO HLIS
        rw [← HN.out] at HLIT HMAT HLNO
        have hgd := HGD.out j
        rw [HAB.out] at hgd
        have hg9 : a ≤ 258 ∧ b ≤ 32768 ∧ (a ≠ 0 → j + a ≤ n ∧ 3 ≤ a) ∧ (a = 0 → b = 0) := by
          rcases hgd with e | e
          · injection e with e1 e2; omega
          · have h1 := e.1; have h2 := e.2.1; have h3 := e.2.2.2.1; have h4 := e.2.2.2.2.2.1; dsimp only at h1 h2 h3 h4; omega
        have ha9 := hg9.1
        have hb9 := hg9.2.1
        have HRN := hide hg9.2.2.1
        have HR0 := hide hg9.2.2.2
        have hbt := bAt_lt s j
        generalize bAt s j = bi at *
        have HZ0 := hide (fun w => size8 0 0 bi w)
        have HZ := hide (fun (a0 : a ≠ 0) w => (show Calls Try.prog 18 #[.agg #[.int .i64 (a : Nat), .int .i64 (b : Nat), .int .u8 0]] w (fun e w' => e = .returned (.int .i64 (a : Nat)) ∧ Below w.heap.size w w') from by
          have h := size8 (a : Nat) (b : Nat) 0 w
          rw [show max ((a : Nat) : Int) 1 = (a : Nat) by omega] at h
          exact h))
        have _m0 : wr.cell? ⟨MB, 0, none⟩ = some (.int .i64 (a : Nat)) := by rw [cell_of_row _ _ 0 _ _ (0, 0) HI.out.box]; rfl
        have _m1 : wr.cell? ⟨MB, 1, none⟩ = some (.int .i64 (b : Nat)) := by rw [cell_of_row _ _ 1 _ _ (0, 0) HI.out.box]; rfl
        have _m2 : wr.cell? ⟨MB, 2, none⟩ = some (.int .u8 0) := by rw [cell_of_row _ _ 2 _ _ (0, 0) HI.out.box]; rfl
        have _n0 : wr.frozen? ⟨MB, 0, none⟩ = false := frozen_row HI.out.box 0
        have _n1 : wr.frozen? ⟨MB, 1, none⟩ = false := frozen_row HI.out.box 1
        have _n2 : wr.frozen? ⟨MB, 2, none⟩ = false := frozen_row HI.out.box 2
        have zj : (j : Int) < n := by omega
        clear hol hgd hg9
        by_cases a0 : a = 0
        · subst a0
          have hb0 : b = 0 := HR0.out rfl
          subst hb0
          by_cases l4 : 4 ≤ level
          · have d4 : decide ((4 : Int) ≤ level) = true := decide_eq_true l4
            clear l4
            have HTK := hide (HLIT.out (.inl rfl))
            have HLS := hide (HI.out.lit (bi : Int))
            have HL1 := hide HLS.out.1
            have HLB := hide HLS.out.2
            have HNE := hide HI.out.ne
            clear HLIT HMAT HLNO HLIS
            go_wp2_with (first
              | (at_builtin; refine wpList_append_fresh _ rfl _ _ 24 rfl W2.heap.size 32 i1 (.agg #[.int .i64 0, .int .i64 0, .int .u8 0]) 3 24 Try.underlying24 ki kz0 kz1 kz2 rfl (by decide) u6 _ _ rfl (HL1.out.own.alloc _) _ 1 1 [.int .i64 0, .int .i64 0, .int .u8 (bi : Int)] rfl rfl (cell_three_at _ _ (setC_size _ _ _ _) _ _ _ _) (three_one _ _ _) X1.out X2.out (size_alloc_le HL1.out.bel.size) ?_; intro v3 w3 o3 g3 f3; have HT3 := hide (HL1.out.app HIS.out (bi, 0, 0) HTK.out 1 rfl _ o3 g3); have HX3 := hide (box_after HLB.out HNE.out _ g3); obtain ⟨_z0, _z1, _z2⟩ := three_cells HX3.out; clear o3 g3 f3))
            refine (HZ0.out _).mono ?_
            rintro e w4 ⟨rfl, b4⟩
            have HT4 := hide (HT3.out.below b4)
            clear b4
            go_wp2
            go_roundw
            case rel => exact ⟨j + 1, hjn, by go_num, _, HT4⟩
            case measure => exact meas_from hij (Nat.le_refl _) hjn
          · have d4 : decide ((4 : Int) ≤ level) = false := decide_eq_false l4
            clear l4
            have HTK := hide (HLIT.out (.inl rfl))
            have HLS := hide (HI.out.lit (bi : Int))
            have HL1 := hide HLS.out.1
            have HLB := hide HLS.out.2
            have HNE := hide HI.out.ne
            clear HLIT HMAT HLNO HLIS
            go_wp2_with (first
              | (at_builtin; refine wpList_append_fresh _ rfl _ _ 24 rfl W2.heap.size 32 i1 (.agg #[.int .i64 0, .int .i64 0, .int .u8 0]) 3 24 Try.underlying24 ki kz0 kz1 kz2 rfl (by decide) u6 _ _ rfl (HL1.out.own.alloc _) _ 1 1 [.int .i64 0, .int .i64 0, .int .u8 (bi : Int)] rfl rfl (cell_three_at _ _ (setC_size _ _ _ _) _ _ _ _) (three_one _ _ _) X1.out X2.out (size_alloc_le HL1.out.bel.size) ?_; intro v3 w3 o3 g3 f3; have HT3 := hide (HL1.out.app HIS.out (bi, 0, 0) HTK.out 1 rfl _ o3 g3); have HX3 := hide (box_after HLB.out HNE.out _ g3); obtain ⟨_z0, _z1, _z2⟩ := three_cells HX3.out; clear o3 g3 f3))
            refine (HZ0.out _).mono ?_
            rintro e w4 ⟨rfl, b4⟩
            have HT4 := hide (HT3.out.below b4)
            clear b4
            go_wp2
            go_roundw
            case rel => exact ⟨j + 1, hjn, by go_num, _, HT4⟩
            case measure => exact meas_from hij (Nat.le_refl _) hjn
        · have za0 : (0 : Int) < a := by omega
          by_cases l4 : 4 ≤ level
          · have d4 : decide ((4 : Int) ≤ level) = true := decide_eq_true l4
            by_cases a258 : a < 258
            · have za258 : (a : Int) < 258 := by omega
              have hj1 : j + 1 < n := by have := HRN.out a0; omega
              have HLZ := hide (HLIS.out (by omega) a258 l4)
              obtain ⟨⟨q1, q2⟩, hq⟩ : ∃ r, bestM (bAt s) n (j + 1) m = r := ⟨_, rfl⟩
              have HAB2 := hide hq
              have HMA2 := hide (HMA.out wr HI.out.tok.bel (j + 1) hj1)
              rw [hq] at HMA2 HLZ
              dsimp only at HMA2 HLZ
              have hgd := HGD.out (j + 1)
              rw [hq] at hgd
              have hq9 : q1 ≤ 258 ∧ q2 ≤ 32768 := by
                rcases hgd with e | e
                · injection e with e1 e2; omega
                · have h2 := e.2.1; have h3 := e.2.2.2.1; dsimp only at h2 h3; omega
              have hq1 := hq9.1
              have hq2 := hq9.2
              have e1 : ((j + 1 : Nat) : Int) = (j : Int) + 1 := by omega
              rw [e1] at HMA2
              have _b0 : wr.cell? ⟨PB, 0, none⟩ = some (.string s) := by rw [HI.out.tok.bel.cell (p := ⟨PB, 0, none⟩) HPB.out, cell_of_row _ _ 0 _ _ (0, 0) HTX.out]; rfl
              have _b1 : wr.cell? ⟨PB, 1, none⟩ = some (.slice (some ⟨g, 0, none⟩) n n) := by rw [HI.out.tok.bel.cell (p := ⟨PB, 1, none⟩) HPB.out, cell_of_row _ _ 1 _ _ (0, 0) HTX.out]; rfl
              have _b2 : wr.cell? ⟨PB, 2, none⟩ = some (.int .i64 (m : Nat)) := by rw [HI.out.tok.bel.cell (p := ⟨PB, 2, none⟩) HPB.out, cell_of_row _ _ 2 _ _ (0, 0) HTX.out]; rfl
              have HJ1 := hide hj1
              clear hq hgd hq9 e1 hj1 HMA HGD HLIS l4 a258
              go_wp2_with fail
              refine HMA2.out.mono ?_
              rintro e w5 ⟨rfl, b5⟩
              clear HMA2 _b0 _b1 _b2 _m0 _m1 _m2 _n0 _n1 _n2
              have HI5 := hide (HI.out.below b5)
              clear b5 HI
              have HNN := hide (own_ne HI5.out.tok.own (Nat.le_refl _))
              have HI6 := hide (HI5.out.below ((Below.refl _ _).alloc (Nat.le_refl _) (.cells #[.int .i64 (q1 : Nat), .int .i64 (q2 : Nat), .int .u8 0] 32)))
              have HNB := hide (show (w5.alloc (.cells #[.int .i64 (q1 : Nat), .int .i64 (q2 : Nat), .int .u8 0] 32)).heap[w5.heap.size]? = some (.cells #[.int .i64 (q1 : Nat), .int .i64 (q2 : Nat), .int .u8 0] 32 (0, 0)) by show (w5.heap.push _)[w5.heap.size]? = _; simp)
              obtain ⟨_m0, _m1, _m2⟩ := three_cells HI5.out.box
              obtain ⟨_k0, _k1, _k2⟩ := three_cells HI6.out.box
              have _n0 := frozen_row HI6.out.box 0
              have _n1 := frozen_row HI6.out.box 1
              have _n2 := frozen_row HI6.out.box 2
              by_cases hqa : q1 ≤ a
              · have zqa : (q1 : Int) ≤ a := by omega
                have HLF := hide (show lazyB (bAt s) n j level = false by rw [HLZ.out]; exact decide_eq_false (by omega))
                rw [← HN.out] at HLF
                clear hqa
                have HTK := hide (HMAT.out a0 HLF.out)
                have HNE := hide HI6.out.ne
                have HL1 := hide HI6.out.tok
                have HLB := hide HI6.out.box
                have hin := HRN.out a0
                have HTS := hide (show takes (0, a, b) = a by unfold takes; rw [if_neg a0])
                have HZA := hide (HZ.out a0)
                have ba0 : ((a : Int) == 0) = false := by simp; omega
                have ha1 : 1 ≤ a := by omega
                clear HLIT HMAT HLNO a0
                go_wp2_with (first
                  | (at_builtin; refine wpList_append_fresh _ rfl _ _ 24 rfl W2.heap.size 32 i1 (.agg #[.int .i64 0, .int .i64 0, .int .u8 0]) 3 24 Try.underlying24 ki kz0 kz1 kz2 rfl (by decide) u6 _ _ rfl (HL1.out.own.alloc _) _ 1 1 [.int .i64 (a : Int), .int .i64 (b : Int), .int .u8 0] rfl rfl (cell_three_at _ _ (alloc_size _ _) _ _ _ _) (three_one _ _ _) X1.out X2.out (size_alloc_le HL1.out.bel.size) ?_; intro v3 w3 o3 g3 f3; have HT3 := hide (HL1.out.app HIS.out (0, a, b) HTK.out a HTS.out _ o3 g3); have HX3 := hide (box_after HLB.out HNE.out _ g3); obtain ⟨_z0, _z1, _z2⟩ := three_cells HX3.out; clear o3 g3 f3))
                refine (HZA.out _).mono ?_
                rintro e w4 ⟨rfl, b4⟩
                have HT4 := hide (HT3.out.below b4)
                clear b4
                go_wp2
                go_roundw
                case rel => exact ⟨j + a, hin.1, by go_num, _, HT4⟩
                case measure => exact meas_from hij ha1 hin.1
              · have zqa : ¬ (q1 : Int) ≤ a := by omega
                have HLF := hide (show lazyB (bAt s) n j level = true by rw [HLZ.out]; exact decide_eq_true (by omega))
                rw [← HN.out] at HLF
                have HTK := hide (HLIT.out (.inr HLF.out))
                have HL1 := hide HI6.out.tok
                have HLB := hide HI6.out.box
                have HNE := hide HI6.out.ne
                clear hqa HLIT HMAT HLNO HLF a0
                go_wp2_with (first
                  | (at_builtin; refine wpList_append_fresh _ rfl _ _ 24 rfl W2.heap.size 32 i1 (.agg #[.int .i64 0, .int .i64 0, .int .u8 0]) 3 24 Try.underlying24 ki kz0 kz1 kz2 rfl (by decide) u6 _ _ rfl (HL1.out.own.alloc _) _ 1 1 [.int .i64 0, .int .i64 0, .int .u8 (bi : Int)] rfl rfl (cell_three_at _ _ (alloc_size _ _) _ _ _ _) (three_one _ _ _) X1.out X2.out (size_alloc_le HL1.out.bel.size) ?_; intro v3 w3 o3 g3 f3; have HT3 := hide (HL1.out.app HIS.out (bi, 0, 0) HTK.out 1 rfl _ o3 g3); have HX3 := hide (box_after HLB.out HNE.out _ g3); have HX4 := hide (box_after HNB.out HNN.out _ g3); have HI7 := hide (HI6.out.next _ g3 f3 HT3.out q1 q2); obtain ⟨_z0, _z1, _z2⟩ := three_cells HX3.out; obtain ⟨_y0, _y1, _y2⟩ := three_cells HX4.out; have _w0 := frozen_row HX3.out 0; have _w1 := frozen_row HX3.out 1; have _w2 := frozen_row HX3.out 2; clear o3 g3 f3))
                go_roundw
                case rel => exact ⟨j + 1, q1, q2, by omega, HJ1.out, by go_num, _, HAB2, HI7⟩
                case measure => exact meas_oneW j n hjn
            · have za258 : ¬ (a : Int) < 258 := by omega
              have HLF := hide (HLNO.out (.inl (by omega)))
              have HTK := hide (HMAT.out a0 HLF.out)
              have HNE := hide HI.out.ne
              have HL1 := hide HI.out.tok
              have HLB := hide HI.out.box
              have hin := HRN.out a0
              have HTS := hide (show takes (0, a, b) = a by unfold takes; rw [if_neg a0])
              have HZA := hide (HZ.out a0)
              have ba0 : ((a : Int) == 0) = false := by simp; omega
              have ha1 : 1 ≤ a := by omega
              clear HLIT HMAT HLNO HLIS a0
              go_wp2_with (first
                | (at_builtin; refine wpList_append_fresh _ rfl _ _ 24 rfl W2.heap.size 32 i1 (.agg #[.int .i64 0, .int .i64 0, .int .u8 0]) 3 24 Try.underlying24 ki kz0 kz1 kz2 rfl (by decide) u6 _ _ rfl (HL1.out.own.alloc _) _ 1 1 [.int .i64 (a : Int), .int .i64 (b : Int), .int .u8 0] rfl rfl (cell_three_new _ _ _ _ _) (three_one _ _ _) X1.out X2.out (size_alloc_le HL1.out.bel.size) ?_; intro v3 w3 o3 g3 f3; have HT3 := hide (HL1.out.app HIS.out (0, a, b) HTK.out a HTS.out _ o3 g3); have HX3 := hide (box_after HLB.out HNE.out _ g3); obtain ⟨_z0, _z1, _z2⟩ := three_cells HX3.out; clear o3 g3 f3))
              refine (HZA.out _).mono ?_
              rintro e w4 ⟨rfl, b4⟩
              have HT4 := hide (HT3.out.below b4)
              clear b4
              go_wp2
              go_roundw
              case rel => exact ⟨j + a, hin.1, by go_num, _, HT4⟩
              case measure => exact meas_from hij ha1 hin.1
          · have d4 : decide ((4 : Int) ≤ level) = false := decide_eq_false l4
            have HLF := hide (HLNO.out (.inr (by omega)))
            have HTK := hide (HMAT.out a0 HLF.out)
            have HNE := hide HI.out.ne
            have HL1 := hide HI.out.tok
            have HLB := hide HI.out.box
            have hin := HRN.out a0
            have HTS := hide (show takes (0, a, b) = a by unfold takes; rw [if_neg a0])
            have HZA := hide (HZ.out a0)
            have ba0 : ((a : Int) == 0) = false := by simp; omega
            have ha1 : 1 ≤ a := by omega
            clear HLIT HMAT HLNO HLIS a0
            go_wp2_with (first
              | (at_builtin; refine wpList_append_fresh _ rfl _ _ 24 rfl W2.heap.size 32 i1 (.agg #[.int .i64 0, .int .i64 0, .int .u8 0]) 3 24 Try.underlying24 ki kz0 kz1 kz2 rfl (by decide) u6 _ _ rfl (HL1.out.own.alloc _) _ 1 1 [.int .i64 (a : Int), .int .i64 (b : Int), .int .u8 0] rfl rfl (cell_three_new _ _ _ _ _) (three_one _ _ _) X1.out X2.out (size_alloc_le HL1.out.bel.size) ?_; intro v3 w3 o3 g3 f3; have HT3 := hide (HL1.out.app HIS.out (0, a, b) HTK.out a HTS.out _ o3 g3); have HX3 := hide (box_after HLB.out HNE.out _ g3); obtain ⟨_z0, _z1, _z2⟩ := three_cells HX3.out; clear o3 g3 f3))
            refine (HZA.out _).mono ?_
            rintro e w4 ⟨rfl, b4⟩
            have HT4 := hide (HT3.out.below b4)
            clear b4
            go_wp2
            go_roundw
            case rel => exact ⟨j + a, hin.1, by go_num, _, HT4⟩
            case measure => exact meas_from hij ha1 hin.1
    · have hie : i = n := by omega
      subst hie
      have HD := hide (show TokCap W s level (.returned u6) wr by
        have h := HT.out
        rw [← HN.out] at h
        exact h.done.from HB2.out)
      go_wp2
      go_ret
      exact HD.out

end Go.Proofs.Ytifcpaeofmkokaa
