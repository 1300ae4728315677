/- The code's contracts of layer 14, its smaller functions: fit, hasTail, version, ownField, extraField, shared (printed by tools/mkcode14.py). -/
import Derived.Test.YtbjjcjcobiokcaaORef
import Derived.Test.YtbjjcjcobiokcaaFBoth
namespace Go.Proofs.Ytbjjcjcobiokcaa
open Go.RowKit Go.Lib

theorem cat_leO {a b : ByteArray} {x y : Nat} (ha : a.size ≤ x) (hb : b.size ≤ y) : (a ++ b).size ≤ x + y := by
  rw [ba_size_append]
  omega
theorem cat_fitsO {a b : ByteArray} {x y : Nat} (ha : a.size ≤ x) (hb : b.size ≤ y) (h : x + y ≤ 9223372036854775807) : ¬ 9223372036854775807 < a.size + b.size := by omega
def intsC (xs : List Int) : Array Value := (xs.map (Value.int .i64)).toArray
theorem ints_cell {w : World} {g : Nat} {xs : List Int} {T : TypeId} (h : w.heap[g]? = some (.cells (intsC xs) T (0, 0))) (j : Nat) (x : Int) (hx : xs[j]? = some x) : w.cell? ⟨g, j, none⟩ = some (.int .i64 x) := by
  rw [cell_of_row _ _ j _ _ (0, 0) h]
  unfold intsC
  rw [List.getElem?_toArray, List.getElem?_map, hx]
  rfl
theorem meas_oneO (j n : Nat) (h : j < n) : n - (RowKit.intOf (.int .i64 ((j : Int) + 1))).toNat < n - (RowKit.intOf (.int .i64 (j : Int))).toNat := by
  show n - ((j : Int) + 1).toNat < n - ((j : Nat) : Int).toNat
  omega
theorem take_snocO {α : Type} (l : List α) (j : Nat) (x : α) (h : l[j]? = some x) : l.take (j + 1) = l.take j ++ [x] := by
  rw [List.take_add_one, h]
  rfl

set_option maxRecDepth 20000 in
set_option maxHeartbeats 4000000 in
theorem fit14 (m : Int) (xs : List Int) (g n : Nat) (W : World) (hn : xs.length = n) (hn8 : n ≤ 8) (hg : W.heap[g]? = some (.cells (intsC xs) 3 (0, 0))) :
    Calls Try.prog 24 #[.int .i64 m, .slice (some ⟨g, 0, none⟩) n n] W fun e w' => e = .returned (.bool (xs.all (inB m))) ∧ W = w' := by
  have HC := hide (fun j x (hx : xs[j]? = some x) => ints_cell hg j x hx)
  have HBAD := hide (fun j x (hx : xs[j]? = some x) (hb : inB m x = false) => show xs.all (inB m) = false from by
    rw [List.all_eq_false]
    exact ⟨x, List.mem_of_getElem? hx, by rw [hb]; decide⟩)
  have HGOOD := hide (fun (h : ∀ x ∈ xs.take n, inB m x = true) => show xs.all (inB m) = true from by
    rw [List.all_eq_true]
    rw [← hn, List.take_length] at h
    exact h)
  obtain ⟨A, hA⟩ : ∃ A, xs.all (inB m) = A := ⟨_, rfl⟩
  simp only [hA] at HBAD HGOOD ⊢
  have HNS := hide hn
  clear hn hg hA
  go_enter Try.func24, Try.ntmps24
  go_wp2
  go_loop [9] (fun c => ∃ j : Nat, j ≤ n ∧ c = .int .i64 (j : Nat) ∧ Hid (∀ x ∈ xs.take j, inB m x = true)) (fun c => n - (RowKit.intOf c).toNat)
  case atStart => exact ⟨0, Nat.zero_le _, rfl, hide (fun b hb => by simp at hb)⟩
  case round =>
    obtain ⟨j, hj, rfl, HG⟩ := hrel
    by_cases hlt : j < n
    · obtain ⟨x, hx⟩ : ∃ r, xs[j]? = some r := ⟨_, List.getElem?_eq_getElem (by rw [HNS.out]; exact hlt)⟩
      have zj : (j : Int) < n := by omega
      have hcell := HC.out j x hx
      have HX := hide hx
      clear hx
      by_cases x1 : x < 0
      · have z1 : decide (x < 0) = true := decide_eq_true x1
        have HF := hide (HBAD.out j x HX.out (by unfold inB; rw [decide_eq_false (by omega)]; rfl))
        clear HBAD HGOOD HG HC HX
        go_wp2
        go_ret
        rw [HF.out]
        exact ⟨rfl, rfl⟩
      have z1 : decide (x < 0) = false := decide_eq_false x1
      by_cases x2 : m < x
      · have z2 : decide (m < x) = true := decide_eq_true x2
        have HF := hide (HBAD.out j x HX.out (by unfold inB; rw [decide_eq_false (show ¬ x ≤ m by omega), Bool.and_false]))
        clear HBAD HGOOD HG HC HX
        go_wp2
        go_ret
        rw [HF.out]
        exact ⟨rfl, rfl⟩
      have z2 : decide (m < x) = false := decide_eq_false x2
      have HE2 := hide (show ∀ y ∈ xs.take (j + 1), inB m y = true by
        rw [take_snocO xs j x HX.out]
        intro y hy
        rcases List.mem_append.1 hy with e | e
        · exact HG.out y e
        · rw [List.mem_singleton.1 e]
          unfold inB
          rw [decide_eq_true (show 0 ≤ x by omega), decide_eq_true (show x ≤ m by omega)]
          rfl)
      clear HBAD HGOOD HG HC HX x1 x2
      go_wp2
      go_round
      case rel => exact ⟨j + 1, hlt, by go_num, HE2⟩
      case measure => exact meas_oneO j n hlt
    · have hie : j = n := by omega
      subst hie
      have HF := hide (HGOOD.out HG.out)
      clear HBAD HGOOD HG HC
      go_wp2
      go_ret
      rw [HF.out]
      exact ⟨rfl, rfl⟩

set_option maxRecDepth 20000 in
theorem hastail14 (r : Rec) (hf : 0 ≤ r.flags ∧ r.flags ≤ 65535) (w : World) : Calls Try.prog 25 #[recV r] w fun e w' => e = .returned (.bool (flag8 r.flags)) ∧ Below w.heap.size w w' := by
  have B := hide ((Below.refl w.heap.size w).alloc (Nat.le_refl _) (.cells (recCs r) 23))
  obtain ⟨n, hn⟩ : ∃ n : Nat, r.flags = (n : Int) := Int.eq_ofNat_of_zero_le hf.1
  have hb := flag_and n (by have := hf.2; omega)
  obtain ⟨nm, nt, fl, me, da, ck, su, sz, pk, at_, wd⟩ := r
  unfold recV
  unfold recCs at *
  dsimp only at B hn ⊢
  subst hn
  clear hf
  cases hfl : flag8 (n : Int) with
  | true =>
    rw [hfl, if_pos rfl] at hb
    clear hfl
    go_enter Try.func25, Try.ntmps25
    go_wp2
    go_ret
    exact ⟨rfl, B.out⟩
  | false =>
    rw [hfl, if_neg (by decide)] at hb
    clear hfl
    go_enter Try.func25, Try.ntmps25
    go_wp2
    go_ret
    exact ⟨rfl, B.out⟩

set_option maxRecDepth 20000 in
theorem version14 (r : Rec) (w : World) : Calls Try.prog 34 #[recV r] w fun e w' => e = .returned (.int .i64 (verR r)) ∧ Below w.heap.size w w' := by
  have B := hide ((Below.refl w.heap.size w).alloc (Nat.le_refl _) (.cells (recCs r) 23))
  obtain ⟨nm, nt, fl, me, da, ck, su, sz, pk, at_, wd⟩ := r
  unfold recV
  unfold recCs at *
  unfold verR
  dsimp only at B ⊢
  cases wd with
  | true =>
    go_enter Try.func34, Try.ntmps34
    go_wp2
    go_ret
    exact ⟨rfl, B.out⟩
  | false =>
    go_enter Try.func34, Try.ntmps34
    go_wp2
    go_ret
    exact ⟨rfl, B.out⟩

set_option maxRecDepth 20000 in
theorem own14 (r : Rec) (x : Int) (w : World) : Calls Try.prog 35 #[recV r, .int .i64 x] w fun e w' => e = .returned (.string (lowS (ownF r x) 4)) ∧ Below w.heap.size w w' := by
  have B := hide ((Below.refl w.heap.size w).alloc (Nat.le_refl _) (.cells (recCs r) 23))
  obtain ⟨nm, nt, fl, me, da, ck, su, sz, pk, at_, wd⟩ := r
  unfold recV
  unfold recCs at *
  unfold ownF
  dsimp only at B ⊢
  cases wd with
  | true =>
    go_enter Try.func35, Try.ntmps35
    go_wp2_with fail
    refine (u32_any 4294967295 _).mono ?_
    rintro e w1 ⟨rfl, b⟩
    have B1 := hide (B.out.trans (b.mono B.out.size))
    clear b
    go_wp2
    go_ret
    exact ⟨rfl, B1.out⟩
  | false =>
    go_enter Try.func35, Try.ntmps35
    go_wp2_with fail
    refine (u32_any x _).mono ?_
    rintro e w1 ⟨rfl, b⟩
    have B1 := hide (B.out.trans (b.mono B.out.size))
    clear b
    go_wp2
    go_ret
    exact ⟨rfl, B1.out⟩

/-- Numbers of eight bytes, one behind the other, behind what an extra field begins with. -/
def accS (n : Int) (xs : List Int) : ByteArray := xs.foldl (fun a x => a ++ lowS x 8) (lowS 1 2 ++ lowS (8 * n) 2)
theorem accS_snoc (n : Int) (xs : List Int) (x : Int) : accS n (xs ++ [x]) = accS n xs ++ lowS x 8 := by
  unfold accS
  rw [List.foldl_append]
  rfl
theorem fold_size (xs : List Int) : ∀ a : ByteArray, (xs.foldl (fun a x => a ++ lowS x 8) a).size = a.size + 8 * xs.length := by
  induction xs with
  | nil => intro a; rfl
  | cons x xs ih =>
    intro a
    rw [List.foldl_cons, ih, ba_size_append, lowS_size, List.length_cons]
    omega
theorem accS_size (n : Int) (xs : List Int) : (accS n xs).size = 4 + 8 * xs.length := by
  unfold accS
  rw [fold_size, ba_size_append, lowS_size, lowS_size]
def extraS (b : Bool) (n : Int) (xs : List Int) : ByteArray := if b = true then accS n xs else ⟨#[]⟩

set_option maxRecDepth 20000 in
set_option maxHeartbeats 4000000 in
theorem extra14 (r : Rec) (xs : List Int) (g n : Nat) (W : World) (hn : xs.length = n) (hn8 : n ≤ 8) (hg : W.heap[g]? = some (.cells (intsC xs) 3 (0, 0))) :
    Calls Try.prog 26 #[recV r, .slice (some ⟨g, 0, none⟩) n n] W fun e w' => e = .returned (.string (extraS r.wide n xs)) ∧ Below W.heap.size W w' := by
  have HG := hide hg
  have B := hide ((Below.refl W.heap.size W).alloc (Nat.le_refl _) (.cells (recCs r) 23))
  obtain ⟨nm, nt, fl, me, da, ck, su, sz, pk, at_, wd⟩ := r
  unfold recV
  unfold recCs at *
  unfold extraS
  dsimp only at B ⊢
  cases wd with
  | false =>
    go_enter Try.func26, Try.ntmps26
    go_wp2
    go_ret
    exact ⟨rfl, B.out⟩
  | true =>
    rw [if_pos rfl]
    have HN := hide hn
    have HA0 := hide (show accS n (xs.take 0) = lowS 1 2 ++ lowS (8 * n) 2 from rfl)
    have HAN := hide (show accS n (xs.take n) = accS n xs by rw [← hn, List.take_length])
    have HSZ := hide (fun j (hj : j ≤ n) => show (accS n (xs.take j)).size = 4 + 8 * j by rw [accS_size, List.length_take, hn, Nat.min_eq_left hj])
    have HST := hide (fun j x (hx : xs[j]? = some x) => show accS n (xs.take (j + 1)) = accS n (xs.take j) ++ lowS x 8 by rw [take_snocO xs j x hx, accS_snoc])
    have hs0 : ¬ 9223372036854775807 < (lowS 1 2).size + (lowS (8 * (n : Int)) 2).size := by rw [lowS_size, lowS_size]; decide
    clear hn hg
    obtain ⟨t, ht⟩ : ∃ t, accS n xs = t := ⟨_, rfl⟩
    rw [ht] at HAN ⊢
    clear ht
    go_enter Try.func26, Try.ntmps26
    go_wp2_with fail
    refine (u16_any 1 _).mono ?_
    rintro e w1 ⟨rfl, b⟩
    have B1 := hide (B.out.trans (b.mono B.out.size))
    clear b B
    go_wp2_with fail
    refine (u16_any (8 * (n : Int)) _).mono ?_
    rintro e w2 ⟨rfl, b⟩
    have B2 := hide (B1.out.trans (b.mono B1.out.size))
    clear b B1
    go_wp2
    go_loopw [5, 19] (fun s c wr => ∃ j : Nat, j ≤ n ∧ c = .int .i64 (j : Nat) ∧ s = .string (accS n (xs.take j)) ∧ Hid (Below W.heap.size W wr)) (fun _ c _ => n - (RowKit.intOf c).toNat)
    case atStart => exact ⟨0, Nat.zero_le _, rfl, by rw [HA0.out], B2⟩
    case round =>
      clear B2 HA0 hs0
      obtain ⟨j, hj, rfl, rfl, HB⟩ := hrel
      by_cases hlt : j < n
      · obtain ⟨x, hx⟩ : ∃ r, xs[j]? = some r := ⟨_, List.getElem?_eq_getElem (by rw [HN.out]; exact hlt)⟩
        have zj : (j : Int) < n := by omega
        have hcell := (HB.out.cell (p := ⟨g, j, none⟩) (Array.getElem?_eq_some_iff.1 HG.out).1).trans (ints_cell HG.out j x hx)
        have HS := hide (HST.out j x hx)
        have hs1 : ¬ 9223372036854775807 < (accS n (xs.take j)).size + (lowS x 8).size := by rw [HSZ.out j hj, lowS_size]; omega
        clear hx HST HSZ
        obtain ⟨a, ha⟩ : ∃ a, accS n (xs.take j) = a := ⟨_, rfl⟩
        rw [ha] at hs1 HS
        simp only [ha]
        clear ha
        go_wp2_with fail
        refine (u64_any x _).mono ?_
        rintro e w3 ⟨rfl, b⟩
        have HB3 := hide (HB.out.trans (b.mono HB.out.size))
        clear b HB
        go_wp2
        go_roundw
        case rel => exact ⟨j + 1, hlt, by go_num, by rw [HS.out], HB3⟩
        case measure => exact meas_oneO j n hlt
      · have hie : j = n := by omega
        subst hie
        have hs : accS j (xs.take j) = t := HAN.out
        rw [hs]
        clear hs
        go_wp2
        go_ret
        exact ⟨rfl, HB.out⟩

end Go.Proofs.Ytbjjcjcobiokcaa
