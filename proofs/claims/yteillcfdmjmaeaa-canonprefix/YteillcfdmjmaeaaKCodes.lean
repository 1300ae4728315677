/- Contract of the document's 'Codes' of layer 5: each symbol's number. -/
import Derived.Test.YteillcfdmjmaeaaKRef
namespace Go.Proofs.Yteillcfdmjmaeaa
open Go.RowKit Go.Lib

def codesL (ls : List Nat) : List Nat := (List.range ls.length).map (codeN ls)
/-- The numbers of those of a length below k, and of the first j of that length. -/
def outCd (ls : List Nat) (k j : Nat) : List Nat := (List.range ls.length).map fun i => if ls.getD i 0 < k ∨ (ls.getD i 0 = k ∧ i < j) then codeN ls i else 0

theorem codesL_length (ls : List Nat) : (codesL ls).length = ls.length := by simp [codesL]
theorem outCd_length (ls : List Nat) (k j : Nat) : (outCd ls k j).length = ls.length := by simp [outCd]
theorem outCd_get (ls : List Nat) (k j i : Nat) (h : i < ls.length) : (outCd ls k j)[i]? = some (if ls.getD i 0 < k ∨ (ls.getD i 0 = k ∧ i < j) then codeN ls i else 0) := by
  unfold outCd
  rw [List.getElem?_map, List.getElem?_range h]
  rfl
theorem outCd_begin (ls : List Nat) : outCd ls 1 0 = List.replicate ls.length 0 := by
  apply List.eq_replicate_iff.2
  refine ⟨outCd_length ls 1 0, fun b hb => ?_⟩
  obtain ⟨i, _, rfl⟩ := List.mem_map.1 hb
  by_cases h : ls.getD i 0 < 1 ∨ (ls.getD i 0 = 1 ∧ i < 0)
  · rw [if_pos h]
    unfold codeN
    rw [if_pos (by omega)]
  · rw [if_neg h]
theorem outCd_next (ls : List Nat) (k : Nat) : outCd ls k ls.length = outCd ls (k + 1) 0 := by
  unfold outCd
  refine List.map_congr_left fun i hi => ?_
  have hi := List.mem_range.1 hi
  by_cases h : ls.getD i 0 < k ∨ (ls.getD i 0 = k ∧ i < ls.length)
  · rw [if_pos h, if_pos (by omega)]
  · rw [if_neg h, if_neg (by omega)]
theorem outCd_end (ls : List Nat) (h : ∀ x ∈ ls, x ≤ 15) : outCd ls 16 0 = codesL ls := by
  unfold outCd codesL
  refine List.map_congr_left fun i hi => ?_
  have hi := List.mem_range.1 hi
  have : ls.getD i 0 ≤ 15 := by
    refine h _ ?_
    rw [List.getD_eq_getElem?_getD, List.getElem?_eq_getElem hi]
    exact List.getElem_mem _
  rw [if_pos (by omega)]
theorem outCd_skip (ls : List Nat) (k j : Nat) (h : ls.getD j 0 ≠ k) : outCd ls k (j + 1) = outCd ls k j := by
  unfold outCd
  refine List.map_congr_left fun i hi => ?_
  by_cases e : i = j
  · subst e
    by_cases h2 : ls.getD i 0 < k
    · rw [if_pos (.inl h2), if_pos (.inl h2)]
    · rw [if_neg (by omega), if_neg (by omega)]
  · by_cases h2 : ls.getD i 0 < k ∨ (ls.getD i 0 = k ∧ i < j)
    · rw [if_pos (by omega), if_pos h2]
    · rw [if_neg (by omega), if_neg h2]
theorem outCd_set (ls : List Nat) (k j : Nat) (hj : j < ls.length) (h : ls.getD j 0 = k) : (outCd ls k j).set j (codeN ls j) = outCd ls k (j + 1) := by
  apply List.ext_getElem?
  intro i
  by_cases hi : i < ls.length
  · rw [List.getElem?_set, outCd_get ls k (j + 1) i hi]
    by_cases e : j = i
    · subst e
      rw [if_pos rfl, if_pos (by rw [outCd_length]; exact hj), if_pos (by omega)]
    · rw [if_neg e, outCd_get ls k j i hi]
      by_cases h2 : ls.getD i 0 < k ∨ (ls.getD i 0 = k ∧ i < j)
      · rw [if_pos h2, if_pos (by omega)]
      · rw [if_neg h2, if_neg (by omega)]
  · rw [List.getElem?_eq_none (by rw [List.length_set, outCd_length]; omega), List.getElem?_eq_none (by rw [outCd_length]; omega)]

/-- The answer of Codes: the error, or the numbers. -/
def CodesRes (W : World) (l : List Int) (r : Value) (w' : World) : Prop :=
  (goodB l = false ∧ r = .tuple #[.slice none 0 0, .int .i64 4]) ∨
  (goodB l = true ∧ ∃ v, r = .tuple #[v, .int .i64 0] ∧ w'.ownsRow W.heap.size 3 1 v l.length (natCs (codesL (l.map Int.toNat))))

/-- Numbers from 0 on, as they came in. -/
theorem ArgZ.nat15 {w : World} {a : Option Addr} {l : List Int} (h : ArgZ w a l) (he : ∀ x ∈ l, 0 ≤ x ∧ x ≤ 15) : ArgN w a (l.map Int.toNat) := by
  intro i x hx
  rw [List.getElem?_map] at hx
  cases hl : l[i]? with
  | none => rw [hl] at hx; cases hx
  | some z =>
    rw [hl] at hx
    injection hx with hx
    obtain ⟨b, off, h1, h2, h3⟩ := h i z hl
    refine ⟨b, off, h1, h2, ?_⟩
    rw [h3, ← hx]
    have := he z (mem_of_get hl)
    rw [Int.toNat_of_nonneg this.1]

/-- The numbers stay small. -/
theorem MakesC.small {ls : List Nat} (h : MakesC ls) (k : Nat) (hk : k ≤ 15) : firstC ls k + cn ls k ≤ 32768 := by
  have h1 := h.fits k hk
  have h2 : (2 : Nat) ^ k ≤ 2 ^ 15 := Nat.pow_le_pow_right (by decide) hk
  omega
theorem rk_le_cn (ls : List Nat) (k j : Nat) (hk : k ≠ 0) (hj : j ≤ ls.length) : rkK ls k j ≤ cn ls k := by
  rw [← rk_all ls k hk]
  have h := rk_le ls k j (ls.length - j) (by omega)
  rw [show j + (ls.length - j) = ls.length by omega] at h
  exact h

set_option maxRecDepth 20000 in
set_option maxHeartbeats 4000000 in
theorem qcodes_any (l : List Int) (a : Option Addr) (cap : Nat) (W : World) (harg : ArgZ W a l) (hl : l.length ≤ 1000) :
    Calls Try.prog 11 #[.slice a l.length cap] W fun e w' => ∃ r, e = .returned r ∧ CodesRes W l r w' ∧ Below W.heap.size W w' := by
  have HCK := hide (qcheck_any l a cap W harg hl)
  by_cases hg : goodB l = true
  · rw [chkI_good hg] at HCK
    have HG := hide hg
    obtain ⟨hE, hM⟩ := (goodB_iff l).1 hg
    have HARG := hide (harg.nat15 hE)
    obtain ⟨ls, hls⟩ : ∃ ls, l.map Int.toNat = ls := ⟨_, rfl⟩
    rw [hls] at HARG hM
    have HLS := hide hls
    have HLL := hide (show ls.length = l.length by rw [← hls, List.length_map])
    have HM := hide hM
    obtain ⟨n, hn⟩ : ∃ n, l.length = n := ⟨_, rfl⟩
    have HN := hide hn
    rw [hn] at HLL HCK hl ⊢
    have O0 := hide (own_made0 W n (by omega))
    have B0 := hide ((Below.refl W.heap.size W).alloc (Nat.le_refl _) (.cells (madeCells #[.int .i64 0] n) 3))
    have hmk := run_make_row' (P := Try.prog) 22 3 (.int .i64 0) 8 Try.underlying22 Try.infoInt rfl .i64 .i64 n (by omega) (by omega)
    have HO0 : Hid ((W.alloc (.cells (madeCells #[.int .i64 0] n) 3)).ownsRow W.heap.size 3 1 (.slice (some ⟨W.heap.size, 0, none⟩) n n) n (natCs (outCd ls 1 0))) := hide (by rw [outCd_begin, HLL.out]; exact O0.out)
    clear hg hE hM hls harg O0 hn
    go_enter Try.func11, Try.ntmps11
    go_wp2_with fail
    refine HCK.out.mono ?_
    rintro e w0 ⟨rfl, rfl⟩
    go_wp2
    clear hmk
    generalize hw1 : W.alloc (.cells (madeCells #[.int .i64 0] n) 3) = w1 at *
    clear hw1
    go_loopw [5, 6, 7] (fun nv lv _ wr => ∃ k : Nat, k ≤ 15 ∧ lv = .int .i64 ((k : Int) + 1) ∧ nv = .int .i64 ((firstC ls k + cn ls k : Nat) : Int) ∧ Hid (wr.ownsRow W.heap.size 3 1 (.slice (some ⟨W.heap.size, 0, none⟩) n n) n (natCs (outCd ls (k + 1) 0))) ∧ Hid (Below W.heap.size W wr)) (fun _ lv _ _ => 16 - (intOf lv).toNat)
    case atStart => exact ⟨0, by omega, rfl, rfl, HO0, B0⟩
    case round =>
      obtain ⟨k, hk, rfl, rfl, HO, HB⟩ := hrel
      by_cases hlt : k < 15
      · have zk : (k : Int) + 1 ≤ 15 := by omega
        have hsm := HM.out.small k (by omega)
        have HF1 := hide (show firstC ls (k + 1) = 2 * (firstC ls k + cn ls k) from rfl)
        have hsm2 := HM.out.small (k + 1) (by omega)
        generalize firstC ls k + cn ls k = A at *
        go_wp2
        rename World => wo
        go_loopw [5, 7] (fun nv iv wr => ∃ j q : Nat, j ≤ n ∧ iv = .int .i64 j ∧ nv = .int .i64 (q : Nat) ∧ Hid (q = firstC ls (k + 1) + rkK ls (k + 1) j) ∧ Hid (wr.ownsRow W.heap.size 3 1 (.slice (some ⟨W.heap.size, 0, none⟩) n n) n (natCs (outCd ls (k + 1) j))) ∧ Hid (Below W.heap.size W wr)) (fun _ iv _ => n - (intOf iv).toNat)
        case atStart => exact ⟨0, A * 2, Nat.zero_le _, rfl, by go_num, hide (by rw [HF1.out]; simp [rkK]; omega), HO, HB⟩
        case round =>
          clear HO HB
          obtain ⟨j, q, hj, rfl, rfl, HQ, HO, HB⟩ := hrel
          by_cases hjn : j < n
          · have hjl : j < ls.length := by rw [HLL.out]; exact hjn
            obtain ⟨b, off, rfl, hb, hc⟩ := HARG.out j _ (getD_some ls j hjl)
            have _c := (HB.out.cell (p := ⟨b, off + j, none⟩) hb).trans hc
            have zj : (j : Int) < n := by omega
            have hrk := rk_le_cn ls (k + 1) j (by omega) (by omega)
            have hq9 : q ≤ 32768 := by have := HQ.out; omega
            have HRS := hide (rk_succ ls (k + 1) j hjl)
            by_cases hx : ls.getD j 0 = k + 1
            · have ho := HO.out
              have hget := outCd_get ls (k + 1) j j hjl
              obtain ⟨_c2, _f2⟩ := own_nat (by rw [outCd_length, HLL.out]; exact ho) hget
              have HCD := hide (show codeN ls j = q by rw [HQ.out]; unfold codeN; rw [if_neg (by omega), hx])
              have HSET := hide (own_set ho j (codeN ls j))
              rw [outCd_set ls (k + 1) j hjl hx, HCD.out] at HSET
              have HBS := hide (fun v => HB.out.setCell (p := ⟨W.heap.size, j, none⟩) (Nat.le_refl _) v)
              have HQ2 := hide (show q + 1 = firstC ls (k + 1) + rkK ls (k + 1) (j + 1) by rw [HRS.out, if_pos hx, HQ.out]; omega)
              rw [hx] at _c
              have ec : ((k + 1 : Nat) : Int) = (k : Int) + 1 := by omega
              rw [ec] at _c
              clear ho hget hc hrk hx hsm2 HRS
              go_wp2
              go_roundw
              case rel => exact ⟨j + 1, q + 1, hjn, by go_num, by go_num, HQ2, HSET, hide (HBS.out _)⟩
              case measure => exact meas_oneW j n hjn
            · have HQ2 := hide (show q = firstC ls (k + 1) + rkK ls (k + 1) (j + 1) by rw [HRS.out, if_neg hx, HQ.out]; rfl)
              have HSK := hide (outCd_skip ls (k + 1) j hx)
              have bx : (((ls.getD j 0 : Nat) : Int) == (k : Int) + 1) = false := by simp; rw [List.getD_eq_getElem?_getD] at hx; omega
              generalize ls.getD j 0 = x at *
              clear hc hrk hx hsm2 HRS
              go_wp2
              go_roundw
              case rel => exact ⟨j + 1, q, hjn, by go_num, rfl, HQ2, by rw [HSK.out]; exact HO, HB⟩
              case measure => exact meas_oneW j n hjn
          · have hje : j = n := by omega
            subst hje
            have HQ3 := hide (show q = firstC ls (k + 1) + cn ls (k + 1) by rw [HQ.out, ← HLL.out, rk_all ls (k + 1) (by omega)])
            have HNX := hide (outCd_next ls (k + 1))
            rw [HLL.out] at HNX
            rw [HNX.out] at HO
            clear hsm2
            go_wp2
            go_roundw
            case rel => exact ⟨k + 1, by omega, by go_num, by rw [HQ3.out], HO, HB⟩
            case measure => exact meas_oneW (k + 1) 16 (by omega)
      · have hke : k = 15 := by omega
        subst hke
        have HEND := hide (outCd_end ls HM.out.each)
        rw [HEND.out] at HO
        go_wp2
        go_ret2
        exact ⟨_, rfl, .inr ⟨HG.out, _, rfl, by rw [HLS.out, HN.out]; exact HO.out⟩, HB.out⟩
  · rw [chkI_bad hg] at HCK
    have HG := hide (show goodB l = false by cases h : goodB l with | false => rfl | true => exact absurd h hg)
    clear hg harg
    go_enter Try.func11, Try.ntmps11
    go_wp2_with fail
    refine HCK.out.mono ?_
    rintro e w0 ⟨rfl, rfl⟩
    go_wp2
    go_ret2
    exact ⟨_, rfl, .inl ⟨HG.out, rfl⟩, Below.refl _ _⟩

end Go.Proofs.Yteillcfdmjmaeaa
