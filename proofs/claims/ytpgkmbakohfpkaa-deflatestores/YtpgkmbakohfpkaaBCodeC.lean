/- Contracts of the code of layer 9: a symbol's code, begin, coded, tokens. -/
import Derived.Test.YtpgkmbakohfpkaaBCodeB
import Derived.Test.YtpgkmbakohfpkaaBAwake
import Derived.Test.YtpgkmbakohfpkaaKB
namespace Go.Proofs.Ytpgkmbakohfpkaa
open Go.RowKit Go.Lib

theorem Wr.drewN {w : World} {p : Nat} {v : Value} {bs : List Bool} (h : Wr w p v bs) (n : Nat) : Wr (w.drewN n) p v bs := h.below (below_drewN (Below.refl _ _) n)

set_option maxRecDepth 20000 in
set_option maxHeartbeats 4000000 in
/-- A symbol's code is written. -/
theorem cwrite9 (p : Nat) (v : Value) (bs : List Bool) (x o n c y u m d k lv cv : Nat) (w : World) (hw : Wr w p v bs) (hbs : bs.length ≤ 800000) (fx : FreeB p v w x) (fy : FreeB p v w y) (hk : k < n) (hk2 : k < m) (hx : w.cell? ⟨x, o + k, none⟩ = some (.int .i64 (lv : Nat))) (hy : w.cell? ⟨y, u + k, none⟩ = some (.int .i64 (cv : Nat))) (hlv : lv ≤ 15) :
    Calls Try.prog 40 #[.agg #[.slice (some ⟨x, o, none⟩) n c, .slice (some ⟨y, u, none⟩) m d], .pointer (some ⟨p, 0, none⟩), .int .i64 (k : Nat)] w fun e w' => e = .returned (.tuple #[]) ∧ ∃ v', Wr w' p v' (bs ++ highBits (cv : Int) lv) ∧ Step p v v' w w' := by
  have HB0 := hide ((Below.refl w.heap.size w).alloc (Nat.le_refl _) (.cells #[.slice (some ⟨x, o, none⟩) n c, .slice (some ⟨y, u, none⟩) m d] 67))
  have HS0 := hide (Step.ofBelow (p := p) (v := v) HB0.out)
  have HW1 := hide (hw.below HB0.out)
  have FX := hide (fx.step HS0.out)
  have FY := hide (fy.step HS0.out)
  have hx1 := (fx.cell HS0.out (o + k)).trans hx
  have hy1 := (fy.cell HS0.out (u + k)).trans hy
  obtain ⟨hp, hv⟩ := hw.old
  have hbox : (w.alloc (.cells #[.slice (some ⟨x, o, none⟩) n c, .slice (some ⟨y, u, none⟩) m d] 67)).heap[w.heap.size]? = some (.cells #[.slice (some ⟨x, o, none⟩) n c, .slice (some ⟨y, u, none⟩) m d] 67 (0, 0)) := by show (w.heap.push _)[w.heap.size]? = _; simp
  have FB := hide (free_new (w := w.alloc (.cells #[.slice (some ⟨x, o, none⟩) n c, .slice (some ⟨y, u, none⟩) m d] 67)) (b := w.heap.size) hp hv (Nat.le_refl _) (Array.getElem?_eq_some_iff.1 hbox).1)
  have _b0 : (w.alloc (.cells #[.slice (some ⟨x, o, none⟩) n c, .slice (some ⟨y, u, none⟩) m d] 67)).cell? ⟨w.heap.size, 0, none⟩ = some (.slice (some ⟨x, o, none⟩) n c) := by rw [cell_of_row _ _ 0 _ _ (0, 0) hbox]; rfl
  have _b1 : (w.alloc (.cells #[.slice (some ⟨x, o, none⟩) n c, .slice (some ⟨y, u, none⟩) m d] 67)).cell? ⟨w.heap.size, 1, none⟩ = some (.slice (some ⟨y, u, none⟩) m d) := by rw [cell_of_row _ _ 1 _ _ (0, 0) hbox]; rfl
  have HT := hide (fun w' (h : Wr w' p v bs) => wturn_any p v bs (cv : Int) (lv : Int) w' lv (takenI_nat lv (by omega)) h (by omega))
  have zk : (k : Int) < n := by omega
  have zk2 : (k : Int) < m := by omega
  clear hw fx fy hx hy hp hv hbox HB0
  go_enter Try.func40, Try.ntmps40
  go_wp2_with fail
  generalize (w.alloc (.cells #[.slice (some ⟨x, o, none⟩) n c, .slice (some ⟨y, u, none⟩) m d] 67)) = w1 at *
  generalize w.heap.size = PB at *
  have HX := hide hx1
  have HY := hide hy1
  have HC0 := hide _b0
  have HC1 := hide _b1
  have HWD := hide (HW1.out.drewN 1)
  go_region_held3 (fun w' => w'.cell? ⟨PB, 0, none⟩ = some (.slice (some ⟨x, o, none⟩) n c) ∧ w'.cell? ⟨PB, 1, none⟩ = some (.slice (some ⟨y, u, none⟩) m d) ∧ w'.cell? ⟨x, o + k, none⟩ = some (.int .i64 (lv : Nat)) ∧ w'.cell? ⟨y, u + k, none⟩ = some (.int .i64 (cv : Nat))) (go_keep) (first
    | (go_at_call 53; refine (HT.out _ HWD.out).mono ?_; rintro e w9 ⟨rfl, v9, hr9, s9⟩; have hs9 : Step p v v9 w1 w9 := ⟨s9.os, s9.tape, s9.output, s9.size, s9.block, s9.own⟩; have k0 := (FB.out.cell hs9 0).trans HC0.out; have k1 := (FB.out.cell hs9 1).trans HC1.out; have k2 := (FX.out.cell hs9 (o + k)).trans HX.out; have k3 := (FY.out.cell hs9 (u + k)).trans HY.out; have HR9 := hide hr9; have HS9 := hide hs9; clear hr9 s9 hs9))
  go_end0
  exact ⟨rfl, v9, HR9.out, HS0.out.trans HS9.out⟩

/-- A code that a writer does not turn. -/
structure CodeK (p : Nat) (v : Value) (w : World) (la : List Nat) (x o c y d : Nat) : Prop where
  fx : FreeB p v w x
  fy : FreeB p v w y
  cx : ∀ k, k < la.length → w.cell? ⟨x, o + k, none⟩ = some (.int .i64 ((la.getD k 0 : Nat) : Int))
  cy : ∀ k, k < la.length → w.cell? ⟨y, 0 + k, none⟩ = some (.int .i64 ((codeN la k : Nat) : Int))
theorem CodeK.step {p : Nat} {v v' : Value} {w w' : World} {la : List Nat} {x o c y d : Nat} (h : CodeK p v w la x o c y d) (s : Step p v v' w w') : CodeK p v' w' la x o c y d :=
  ⟨h.fx.step s, h.fy.step s, fun k hk => (h.fx.cell s (o + k)).trans (h.cx k hk), fun k hk => (h.fy.cell s (0 + k)).trans (h.cy k hk)⟩
def codeV9 (la : List Nat) (x o c y d : Nat) : Value := .agg #[.slice (some ⟨x, o, none⟩) la.length c, .slice (some ⟨y, 0, none⟩) la.length d]
theorem cwriteK (p : Nat) (v : Value) (bs : List Bool) (la : List Nat) (x o c y d k : Nat) (w : World) (hw : Wr w p v bs) (hbs : bs.length ≤ 800000) (h : CodeK p v w la x o c y d) (hk : k < la.length) (h15 : ∀ z ∈ la, z ≤ 15) :
    Calls Try.prog 40 #[.agg #[.slice (some ⟨x, o, none⟩) la.length c, .slice (some ⟨y, 0, none⟩) la.length d], .pointer (some ⟨p, 0, none⟩), .int .i64 (k : Nat)] w fun e w' => e = .returned (.tuple #[]) ∧ ∃ v', Wr w' p v' (bs ++ highBits (codeN la k : Int) (la.getD k 0)) ∧ Step p v v' w w' :=
  cwrite9 p v bs x o la.length c y 0 la.length d k (la.getD k 0) (codeN la k) w hw hbs h.fx h.fy hk hk (h.cx k hk) (h.cy k hk) (getD_le h15 k)

set_option maxHeartbeats 1000000 in
theorem begin9 (p : Nat) (v : Value) (bs : List Bool) (kind : Int) (last : Bool) (w : World) (hw : Wr w p v bs) (hbs : bs.length ≤ 800000) :
    Calls Try.prog 17 #[.pointer (some ⟨p, 0, none⟩), .int .i64 kind, .bool last] w fun e w' => e = .returned (.tuple #[]) ∧ ∃ v', Wr w' p v' (bs ++ [last] ++ lowBits kind 2) ∧ Step p v v' w w' := by
  have HBT := hide (wbit_any p v bs (lastI last) w hw (by omega))
  rw [lastI_odd] at HBT
  have HPT := hide (fun v' w' (h : Wr w' p v' (bs ++ [last])) => wput_any p v' (bs ++ [last]) kind 2 w' 2 rfl h (by rw [List.length_append, List.length_singleton]; omega))
  clear hw hbs
  cases last with
  | true =>
    unfold lastI at HBT
    rw [if_pos rfl] at HBT
    go_enter Try.func17, Try.ntmps17
    go_wp2_with fail
    refine HBT.out.mono ?_
    rintro e w1 ⟨rfl, v1, hr1, hs1⟩
    have HP := hide (HPT.out v1 w1 hr1)
    have HS1 := hide hs1
    clear hr1 hs1 HPT
    go_wp2_with fail
    refine HP.out.mono ?_
    rintro e w2 ⟨rfl, v2, hr2, hs2⟩
    have HR2 := hide hr2
    have HS2 := hide (HS1.out.trans hs2)
    clear hr2 hs2 HP
    go_wp2
    go_end0
    exact ⟨rfl, v2, HR2.out, HS2.out⟩
  | false =>
    unfold lastI at HBT
    rw [if_neg (by decide)] at HBT
    go_enter Try.func17, Try.ntmps17
    go_wp2_with fail
    refine HBT.out.mono ?_
    rintro e w1 ⟨rfl, v1, hr1, hs1⟩
    have HP := hide (HPT.out v1 w1 hr1)
    have HS1 := hide hs1
    clear hr1 hs1 HPT
    go_wp2_with fail
    refine HP.out.mono ?_
    rintro e w2 ⟨rfl, v2, hr2, hs2⟩
    have HR2 := hide hr2
    have HS2 := hide (HS1.out.trans hs2)
    clear hr2 hs2 HP
    go_wp2
    go_end0
    exact ⟨rfl, v2, HR2.out, HS2.out⟩

theorem load_code {w : World} {p : Nat} (a b : Option Addr) (n c m d : Nat) (h : w.heap[p]? = some (.cells #[.slice a n c, .slice b m d] 67 (0, 0))) : (loadVar 67 ⟨p, 0, none⟩).run Try.prog w = .ok (.agg #[.slice a n c, .slice b m d]) w := by
  have _c0 : w.cell? ⟨p, 0, none⟩ = some (.slice a n c) := by rw [cell_of_row _ _ 0 _ _ (0, 0) h]; rfl
  have _c1 : w.cell? ⟨p, 1, none⟩ = some (.slice b m d) := by rw [cell_of_row _ _ 1 _ _ (0, 0) h]; rfl
  clear h
  go_simp
theorem set_two (w : World) (p : Nat) (a b x y : Value) (T : TypeId) (h : w.heap[p]? = some (.cells #[a, b] T (0, 0))) : ((w.setCell ⟨p, 0, none⟩ x).setCell ⟨p, 1, none⟩ y).heap[p]? = some (.cells #[x, y] T (0, 0)) := by
  have h1 := heap_setCell_same w p 0 x _ _ _ h
  exact heap_setCell_same _ p 1 y _ _ _ h1
theorem frozen_row9 {w : World} {b : Nat} {cs : Array Value} {t : TypeId} (h : w.heap[b]? = some (.cells cs t (0, 0))) (o : Nat) : w.frozen? ⟨b, o, none⟩ = false := by simp [World.frozen?, h]

set_option maxHeartbeats 1000000 in
theorem coded9 (la : List Nat) (a : Option Addr) (n c : Nat) (W : World) (hn : la.length = n) (harg : ArgN W a la) (hm : MakesC la) (h1 : 1 ≤ n) (hl : n ≤ 1000) :
    Calls Try.prog 31 #[.slice a n c] W fun e w' => ∃ g k, e = .returned (.agg #[.slice a n c, .slice (some ⟨g, 0, none⟩) n k]) ∧ w'.ownsRow W.heap.size 3 1 (.slice (some ⟨g, 0, none⟩) n k) n (natCs (codesL la)) ∧ Below W.heap.size W w' := by
  have B0 := hide ((Below.refl W.heap.size W).alloc (Nat.le_refl _) (.cells #[.slice none 0 0, .slice none 0 0] 67))
  have hbox : (W.alloc (.cells #[.slice none 0 0, .slice none 0 0] 67)).heap[W.heap.size]? = some (.cells #[.slice none 0 0, .slice none 0 0] 67 (0, 0)) := by show (W.heap.push _)[W.heap.size]? = _; simp
  have HQ := hide (codes_any (la.map fun (x : Nat) => (x : Int)) a c _ (harg.below B0.out (Nat.le_refl _)).toZ (by rw [List.length_map]; omega))
  have HRES := hide (fun r w' (h : CodesRes (W.alloc (.cells #[.slice none 0 0, .slice none 0 0] 67)) (la.map fun (x : Nat) => (x : Int)) r w') => codes_res h hm)
  rw [List.length_map, hn] at HQ
  rw [hn] at HRES
  have HBX := hide hbox
  clear harg hm hbox
  go_enter Try.func31, Try.ntmps31
  go_wp2_with fail
  refine HQ.out.mono ?_
  rintro e w2 ⟨r, rfl, hres, b2⟩
  obtain ⟨g0, k0, rfl, ho⟩ := HRES.out _ _ hres
  obtain ⟨g, k, e1⟩ := own_slice ho h1
  injection e1 with e1 _ e2
  subst e1 e2
  have HX2 := hide (show w2.heap[W.heap.size]? = some (.cells #[.slice none 0 0, .slice none 0 0] 67 (0, 0)) by rw [b2.block _ (Array.getElem?_eq_some_iff.1 HBX.out).1]; exact HBX.out)
  have HO := hide ho
  have hg := (ho.lt g rfl).1
  have hs1 : (W.alloc (.cells #[.slice none 0 0, .slice none 0 0] 67)).heap.size = W.heap.size + 1 := by show (W.heap.push _).size = _; simp
  have HNE := hide (show (Value.slice (some ⟨g, 0, none⟩) n k0).ownBlock ≠ some W.heap.size from fun e => by have e2 : some g = some W.heap.size := e; injection e2 with e2; omega)
  have HB2 := hide (B0.out.trans (b2.mono B0.out.size))
  have _c0 : w2.cell? ⟨W.heap.size, 0, none⟩ = some (.slice none 0 0) := by rw [cell_of_row _ _ 0 _ _ (0, 0) HX2.out]; rfl
  have _c1 : w2.cell? ⟨W.heap.size, 1, none⟩ = some (.slice none 0 0) := by rw [cell_of_row _ _ 1 _ _ (0, 0) HX2.out]; rfl
  have _f0 := frozen_row9 HX2.out 0
  have _f1 := frozen_row9 HX2.out 1
  clear hres b2 ho hg HRES HQ hs1
  go_wp2
  (try simp only [Exit.inBlock, Exit.then])
  refine bodyPost_ret (v := .agg #[.slice a n c, .slice (some ⟨g, 0, none⟩) n k0]) ?_ rfl ⟨g, k0, rfl, ?_, ?_⟩
  · simp [results, Try.results31, asAddr]
    exact load_code _ _ _ _ _ _ (set_two _ _ _ _ _ _ _ HX2.out)
  · exact ownsRow_base (own_other (own_other HO.out HNE.out) HNE.out) (by simp)
  · exact (HB2.out.setCell (Nat.le_refl _) _).setCell (Nat.le_refl _) _

end Go.Proofs.Ytpgkmbakohfpkaa
