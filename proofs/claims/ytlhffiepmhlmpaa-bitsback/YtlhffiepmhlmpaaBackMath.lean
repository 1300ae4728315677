/- What a list of steps writes, as bits, and what is read of it again. Nothing of the program's text is walked here. -/
import Derived.Test.YtlhffiepmhlmpaaAligned
namespace Go.Proofs.Ytlhffiepmhlmpaa
open Go.RowKit Go.Lib

/-- How many bits a step takes. -/
def m31 (n : Int) : Nat := (n % 18446744073709551616 % 31).toNat
theorem m31_le (n : Int) : m31 n ≤ 30 := by unfold m31; omega
theorem takenI_m31 (n : Int) : takenI ((m31 n : Nat) : Int) = (m31 n : Nat) := by
  have := m31_le n
  unfold takenI; rw [if_neg (by omega), if_neg (by omega)]

theorem m31_code (n : Int) : IntKind.i64.wrap ((IntKind.u64.wrap n).tmod 31) = ((m31 n : Nat) : Int) := by
  rw [IntKind.wrap_u64]
  have h0 : 0 ≤ n % 18446744073709551616 := Int.emod_nonneg _ (by decide)
  rw [Int.tmod_eq_emod_of_nonneg h0]
  unfold m31
  rw [wrap_i64_id _ (by omega) (by omega)]
  omega

theorem m31_code2 (n : Int) : wrap64 ((IntKind.u64.wrap n).tmod 31) = ((m31 n : Nat) : Int) := by
  rw [IntKind.wrap_u64]
  have h0 : 0 ≤ n % 18446744073709551616 := Int.emod_nonneg _ (by decide)
  rw [Int.tmod_eq_emod_of_nonneg h0]
  unfold m31 wrap64
  omega

def stepBits (bs : List Bool) (x : ActV) : List Bool :=
  if x.kind = 0 then bs ++ [decide (x.v % 2 = 1)]
  else if x.kind = 1 then bs ++ lowBits x.v (m31 x.n)
  else if x.kind = 2 then bs ++ highBits x.v (m31 x.n)
  else if x.kind = 3 then alignBits bs
  else if x.kind = 4 then alignBits bs ++ bytesBits x.s.data.toList
  else bs

/-- The bits of the first k steps. -/
def bitsTo (l : List ActV) (k : Nat) : List Bool := (l.take k).foldl stepBits []

theorem bitsTo_succ (l : List ActV) (k : Nat) (x : ActV) (h : l[k]? = some x) : bitsTo l (k + 1) = stepBits (bitsTo l k) x := by
  have hi : k < l.length := (List.getElem?_eq_some_iff.1 h).1
  unfold bitsTo
  rw [List.take_succ_eq_append_getElem hi, List.foldl_append]
  rw [List.getElem?_eq_getElem hi] at h
  injection h with e
  rw [e]
  rfl

theorem step_ext (bs : List Bool) (x : ActV) : ∃ e, stepBits bs x = bs ++ e ∧ e.length ≤ 40 + 8 * x.s.size := by
  have hm := m31_le x.n
  unfold stepBits
  split
  · exact ⟨_, rfl, by simp; omega⟩
  · split
    · exact ⟨_, rfl, by rw [lowBits_length]; omega⟩
    · split
      · exact ⟨_, rfl, by rw [highBits, List.length_reverse, lowBits_length]; omega⟩
      · split
        · exact ⟨_, rfl, by simp; omega⟩
        · split
          · refine ⟨List.replicate ((bs.length + 7) / 8 * 8 - bs.length) false ++ bytesBits x.s.data.toList, by unfold alignBits; rw [List.append_assoc], ?_⟩
            rw [List.length_append, List.length_replicate, bytesBits_length, show x.s.data.toList.length = x.s.size from Array.length_toList]
            omega
          · exact ⟨[], by simp, by simp⟩

theorem bitsTo_len (l : List ActV) (k : Nat) (hk : k ≤ l.length) : (bitsTo l k).length ≤ 40 * k + 8 * totS (l.take k) := by
  induction k with
  | zero => simp [bitsTo]
  | succ k ih =>
    have hx : l[k]? = some (l[k]'(by omega)) := List.getElem?_eq_getElem (by omega)
    obtain ⟨e, he, hl⟩ := step_ext (bitsTo l k) (l[k]'(by omega))
    rw [bitsTo_succ l k _ hx, he, List.length_append, totS_take l k _ hx]
    have := ih (by omega)
    omega

theorem totS_le (l : List ActV) : ∀ k, totS (l.take k) ≤ totS l := by
  induction l with
  | nil => intro k; simp [totS]
  | cons x l ih =>
    intro k
    cases k with
    | zero => simp [totS]
    | succ k => simp only [List.take_succ_cons, totS]; have := ih k; omega

/-- What is written later leaves what was written. -/
theorem bitsTo_pre (l : List ActV) (k m : Nat) (hkm : k ≤ m) (hm : m ≤ l.length) : ∃ e, bitsTo l m = bitsTo l k ++ e := by
  induction m with
  | zero => exact ⟨[], by simp [show k = 0 by omega]⟩
  | succ m ih =>
    by_cases h : k = m + 1
    · exact ⟨[], by simp [h]⟩
    · obtain ⟨e, he⟩ := ih (by omega) (by omega)
      have hx : l[m]? = some (l[m]'(by omega)) := List.getElem?_eq_getElem (by omega)
      obtain ⟨e2, he2, _⟩ := step_ext (bitsTo l m) (l[m]'(by omega))
      exact ⟨e ++ e2, by rw [bitsTo_succ l m _ hx, he2, he, List.append_assoc]⟩

theorem getD_pre {a b : List Bool} (i : Nat) (h : i < a.length) : (a ++ b).getD i false = a.getD i false := by
  simp only [List.getD_eq_getElem?_getD, List.getElem?_append, if_pos h]
theorem getD_suf {a b : List Bool} (i : Nat) : (a ++ b).getD (a.length + i) false = b.getD i false := by
  simp only [List.getD_eq_getElem?_getD, List.getElem?_append, if_neg (show ¬ a.length + i < a.length by omega), Nat.add_sub_cancel_left]

/-- The bits that step k has written stand in all of them. -/
theorem bits_at (l : List ActV) (k m : Nat) (x : ActV) (hx : l[k]? = some x) (hm : m = l.length) (e : List Bool) (he : stepBits (bitsTo l k) x = bitsTo l k ++ e) :
    (bitsTo l k).length + e.length ≤ (bitsTo l m).length ∧ ∀ t, t < e.length → (bitsTo l m).getD ((bitsTo l k).length + t) false = e.getD t false := by
  have hk : k < l.length := (List.getElem?_eq_some_iff.1 hx).1
  obtain ⟨r, hr⟩ := bitsTo_pre l (k + 1) m (by omega) (by omega)
  rw [bitsTo_succ l k x hx, he] at hr
  rw [hr]
  refine ⟨by simp [List.length_append], fun t ht => ?_⟩
  rw [getD_pre _ (by rw [List.length_append]; omega), getD_suf]

theorem two_pow_pos (m : Nat) : (0 : Int) < 2 ^ m := Int.pow_pos (by decide)

/-- So many bits are the number, cut. -/
theorem numI_low (s : ByteArray) (i : Nat) (v : Int) (m : Nat) (h : ∀ t, t < m → bitI s (i + t) = v / 2 ^ t % 2) : numI s i m = v % 2 ^ m := by
  induction m with
  | zero => simp [numI]
  | succ m ih =>
    unfold numI
    rw [ih (fun t ht => h t (by omega)), h m (by omega), Int.pow_succ, emod_mul' _ _ _ (two_pow_pos m) (by decide), Int.mul_comm (2 ^ m)]

/-- The highest bits, one by one. -/
theorem high_step (v : Int) (m t : Nat) (h : t < m) : v / 2 ^ (m - (t + 1)) % 2 ^ (t + 1) = v / 2 ^ (m - t) % 2 ^ t * 2 + v / 2 ^ (m - (t + 1)) % 2 := by
  obtain ⟨n, hn⟩ : ∃ n, m - (t + 1) = n := ⟨_, rfl⟩
  have e : m - t = n + 1 := by omega
  rw [hn, e, Int.pow_succ 2 n, Int.mul_comm (2 ^ n) 2, Int.pow_succ 2 t, Int.mul_comm (2 ^ t) 2, emod_mul' _ _ _ (by decide) (two_pow_pos t)]
  have e2 : v / (2 * 2 ^ n) = v / 2 ^ n / 2 := by
    rw [Int.ediv_ediv, if_neg (by have := two_pow_pos n; omega), Int.mul_comm]
    omega
  rw [e2]
  omega

/-- Bytes that were written are cut out again. -/
theorem cut_text {B : List Bool} {out : List UInt8} (h : Packs B out) (x : ByteArray) (a : Nat) (hle : a + x.size ≤ out.length) (hb : ∀ t, t < 8 * x.size → B.getD (8 * a + t) false = (bytesBits x.data.toList).getD t false) :
    (⟨out.toArray⟩ : ByteArray).extract a (a + x.size) = x := by
  apply ByteArray.ext
  rw [ByteArray.data_extract]
  apply Array.toList_inj.1
  rw [Array.toList_extract]
  show ((out.drop a).take (a + x.size - a)) = _
  have hxl : x.data.toList.length = x.size := Array.length_toList
  apply List.ext_getElem
  · rw [List.length_take, List.length_drop, hxl]; omega
  · intro t h1 h2
    rw [hxl] at h2
    rw [List.getElem_take, List.getElem_drop]
    apply u8_ext
    intro j hj
    have e := hb (8 * t + j) (by omega)
    rw [bytesBits_getD, show (8 * t + j) / 8 = t by omega, show (8 * t + j) % 8 = j by omega] at e
    have e2 := h.bit (8 * a + (8 * t + j))
    rw [show (8 * a + (8 * t + j)) / 8 = a + t by omega, show (8 * a + (8 * t + j)) % 8 = j by omega, e] at e2
    have e3 : out.getD (a + t) 0 = out[a + t] := by simp [List.getD_eq_getElem?_getD, show a + t < out.length by omega]
    have e4 : x.data.toList.getD t 0 = x.data.toList[t] := by
      rw [List.getD_eq_getElem?_getD, List.getElem?_eq_getElem (by omega)]; rfl
    rw [e3, e4] at e2
    exact e2

theorem mask_code (m : Nat) (h : m ≤ 30) : IntKind.i64.wrap (IntKind.i64.wrap (2 ^ min (IntKind.u64.wrap (m : Int)).toNat 64) - 1) = 2 ^ m - 1 := by
  have hp := pow_le30 m h
  have e : min (IntKind.u64.wrap (m : Int)).toNat 64 = m := by rw [IntKind.wrap_u64]; omega
  rw [e, wrap_i64_id (2 ^ m) (by omega) (by omega), wrap_i64_id (2 ^ m - 1) (by omega) (by omega)]

theorem mask_and (v : Int) (m : Nat) (h : m ≤ 30) : bits .and .i64 v (IntKind.i64.wrap (IntKind.i64.wrap (2 ^ min (IntKind.u64.wrap (m : Int)).toNat 64) - 1)) = v % 2 ^ m := by
  rw [mask_code m h]; exact and_mask_i64 v m (by omega)

theorem mask_and2 (v : Int) (m : Nat) (h : m ≤ 30) : bits .and .i64 v (wrap64 (wrap64 (2 ^ m) - 1)) = v % 2 ^ m := by
  have hp := pow_le30 m h
  have e1 : wrap64 (2 ^ m) = 2 ^ m := by unfold wrap64; omega
  have e2 : wrap64 (2 ^ m - 1) = 2 ^ m - 1 := by unfold wrap64; omega
  rw [e1, e2]; exact and_mask_i64 v m (by omega)

theorem highBits_getD (v : Int) (m t : Nat) (h : t < m) : (highBits v m).getD t false = decide (v / 2 ^ (m - (t + 1)) % 2 = 1) := by
  unfold highBits
  rw [List.getD_eq_getElem?_getD, List.getElem?_reverse (by rw [lowBits_length]; exact h), lowBits_length, lowBits_get _ _ _ (by omega), show m - 1 - t = m - (t + 1) by omega]
  rfl

theorem bool_emod (u : Int) : ((decide (u % 2 = 1)).toNat : Int) = u % 2 := by
  rcases Int.emod_two_eq u with e | e <;> simp [e]

end Go.Proofs.Ytlhffiepmhlmpaa
