import Derived.WalkKit
import Derived.Test.YtaalbaiglkadlaaGreatRows
import Derived.Test.YtaalbaiglkadlaaGreatWorld
import Derived.WalkSpells
import Derived.WalkLawsBesides
import Derived.ProofKit
import Derived.Lib.BitFns
import Derived.Below
/- Symbols of lengths and distances, plainly: the least one and the extra bits of each, and the greatest symbol whose least one isn't above. Nothing of the program is named here. -/
namespace Go.Proofs.YtaalbaiglkadlaaGreat

/-- The least length of symbol 257 + s, and its extra bits. -/
def lenBase (s : Nat) : Nat := if s < 8 then s + 3 else if s = 28 then 258 else 3 + (4 + (s - 8) % 4) * 2 ^ (1 + (s - 8) / 4)
def lenBits (s : Nat) : Nat := if s < 8 then 0 else if s = 28 then 0 else 1 + (s - 8) / 4
/-- The least distance of symbol d, and its extra bits. -/
def distBase (d : Nat) : Nat := if d < 4 then d + 1 else 1 + (2 + d % 2) * 2 ^ (d / 2 - 1)
def distBits (d : Nat) : Nat := if d < 4 then 0 else d / 2 - 1

/-- The greatest up to k whose least one isn't above n. -/
def topS (base : Nat → Nat) (n : Nat) : Nat → Nat
  | 0 => 0
  | k + 1 => if base (k + 1) ≤ n then k + 1 else topS base n k

theorem top_le (base : Nat → Nat) (n : Nat) : ∀ k, topS base n k ≤ k
  | 0 => Nat.le_refl _
  | k + 1 => by
    unfold topS
    split
    · exact Nat.le_refl _
    · exact Nat.le_trans (top_le base n k) (Nat.le_succ k)
theorem top_base (base : Nat → Nat) (n : Nat) (h : base 0 ≤ n) : ∀ k, base (topS base n k) ≤ n
  | 0 => h
  | k + 1 => by
    unfold topS
    split
    · rename_i h2; exact h2
    · exact top_base base n h k
theorem top_above (base : Nat → Nat) (n : Nat) : ∀ k s, topS base n k < s → s ≤ k → n < base s
  | 0, s, h1, h2 => by unfold topS at h1; omega
  | k + 1, s, h1, h2 => by
    unfold topS at h1
    by_cases h : base (k + 1) ≤ n
    · rw [if_pos h] at h1; omega
    · rw [if_neg h] at h1
      by_cases e : s = k + 1
      · rw [e]; omega
      · exact top_above base n k s h1 (by omega)
theorem top_eq (base : Nat → Nat) (n k s : Nat) (hs : s ≤ k) (hb : base s ≤ n) (ha : ∀ t, s < t → t ≤ k → n < base t) : topS base n k = s := by
  have h1 := top_le base n k
  refine Classical.byContradiction fun hne => ?_
  by_cases h : topS base n k < s
  · have := top_above base n k s h hs; omega
  · cases k with
    | zero => omega
    | succ k =>
      have h2 := ha _ (show s < topS base n (k + 1) by omega) h1
      have h3 : base (topS base n (k + 1)) ≤ n := by
        have key : ∀ k, topS base n k = 0 ∨ base (topS base n k) ≤ n := by
          intro k
          induction k with
          | zero => exact .inl rfl
          | succ k ih =>
            unfold topS
            split
            · rename_i h4; exact .inr h4
            · exact ih
        rcases key (k + 1) with e | e
        · omega
        · exact e
      omega
/-- Greater ones have no lesser symbols. -/
theorem top_mono (base : Nat → Nat) {m n : Nat} (h : m ≤ n) : ∀ k, topS base m k ≤ topS base n k
  | 0 => Nat.le_refl _
  | k + 1 => by
    unfold topS
    by_cases h1 : base (k + 1) ≤ m
    · rw [if_pos h1, if_pos (by omega)]; exact Nat.le_refl _
    · rw [if_neg h1]
      split
      · exact Nat.le_trans (top_le base m k) (Nat.le_succ k)
      · exact top_mono base h k

/-! ### Each symbol's range -/
theorem len_next : ∀ s, s < 27 → lenBase (s + 1) = lenBase s + 2 ^ lenBits s := by decide
theorem len_last : lenBase 28 = 258 ∧ lenBase 27 = 227 ∧ lenBits 27 = 5 ∧ lenBits 28 = 0 ∧ lenBase 0 = 3 := by decide
theorem dist_next : ∀ d, d < 29 → distBase (d + 1) = distBase d + 2 ^ distBits d := by decide
theorem dist_last : distBase 29 = 24577 ∧ distBits 29 = 13 ∧ distBase 0 = 1 := by decide
theorem len_small : ∀ s, s ≤ 28 → 3 ≤ lenBase s ∧ lenBase s ≤ 258 ∧ lenBits s ≤ 5 := by decide
theorem dist_small : ∀ d, d ≤ 29 → 1 ≤ distBase d ∧ distBase d ≤ 24577 ∧ distBits d ≤ 13 := by decide

/-- What is extra fits. -/
theorem len_fits (n : Nat) (h1 : 3 ≤ n) (h2 : n ≤ 258) : lenBase (topS lenBase n 28) ≤ n ∧ n - lenBase (topS lenBase n 28) < 2 ^ lenBits (topS lenBase n 28) := by
  have hb := top_base lenBase n (by rw [len_last.2.2.2.2]; exact h1) 28
  have hl := top_le lenBase n 28
  have ha := top_above lenBase n 28
  generalize topS lenBase n 28 = s at *
  refine ⟨hb, ?_⟩
  by_cases e : s < 27
  · have h3 := ha (s + 1) (by omega) (by omega)
    rw [len_next s e] at h3
    omega
  · by_cases e2 : s = 27
    · subst e2
      have h3 := ha 28 (by omega) (by omega)
      rw [len_last.1] at h3
      rw [len_last.2.1, len_last.2.2.1]
      omega
    · have e3 : s = 28 := by omega
      subst e3
      rw [len_last.1, len_last.2.2.2.1]
      omega
theorem dist_fits (n : Nat) (h1 : 1 ≤ n) (h2 : n ≤ 32768) : distBase (topS distBase n 29) ≤ n ∧ n - distBase (topS distBase n 29) < 2 ^ distBits (topS distBase n 29) := by
  have hb := top_base distBase n (by rw [dist_last.2.2]; exact h1) 29
  have hl := top_le distBase n 29
  have ha := top_above distBase n 29
  generalize topS distBase n 29 = s at *
  refine ⟨hb, ?_⟩
  by_cases e : s < 29
  · have h3 := ha (s + 1) (by omega) (by omega)
    rw [dist_next s e] at h3
    omega
  · have e3 : s = 29 := by omega
    subst e3
    rw [dist_last.1, dist_last.2.1]
    omega

end Go.Proofs.YtaalbaiglkadlaaGreat

/- What the calls of layer 6 answer, as numbers; contracts of the document's own ones. -/
namespace Go.Proofs.YtaalbaiglkadlaaGreat
open Go.RowKit Go.Lib

/-- A length's symbol: is it one; its least length; its extra bits. -/
def lbOk (n : Int) : Bool := decide (257 ≤ n) && decide (n ≤ 285)
def lbI (n : Int) : Int := if lbOk n = true then (lenBase (n - 257).toNat : Int) else 0
def lbX (n : Int) : Int := if lbOk n = true then (lenBits (n - 257).toNat : Int) else 0
/-- A distance's symbol. -/
def dbOk (n : Int) : Bool := decide (0 ≤ n) && decide (n ≤ 29)
def dbI (n : Int) : Int := if dbOk n = true then (distBase n.toNat : Int) else 0
def dbX (n : Int) : Int := if dbOk n = true then (distBits n.toNat : Int) else 0
/-- A length: its symbol, the extra bits, what is extra. -/
def lnOk (n : Int) : Bool := decide (3 ≤ n) && decide (n ≤ 258)
def lnT (n : Int) : Nat := topS lenBase n.toNat 28
def lnS (n : Int) : Int := if lnOk n = true then 257 + (lnT n : Int) else 0
def lnX (n : Int) : Int := if lnOk n = true then (lenBits (lnT n) : Int) else 0
def lnE (n : Int) : Int := if lnOk n = true then n - (lenBase (lnT n) : Int) else 0
/-- A distance. -/
def dsOk (n : Int) : Bool := decide (1 ≤ n) && decide (n ≤ 32768)
def dsT (n : Int) : Nat := topS distBase n.toNat 29
def dsS (n : Int) : Int := if dsOk n = true then (dsT n : Int) else 0
def dsX (n : Int) : Int := if dsOk n = true then (distBits (dsT n) : Int) else 0
def dsE (n : Int) : Int := if dsOk n = true then n - (distBase (dsT n) : Int) else 0

def lbV (n : Int) : Value := .tuple #[.int .i64 (lbI n), .int .i64 (lbX n), .bool (lbOk n)]
def dbV (n : Int) : Value := .tuple #[.int .i64 (dbI n), .int .i64 (dbX n), .bool (dbOk n)]
def lnV (n : Int) : Value := .tuple #[.int .i64 (lnS n), .int .i64 (lnX n), .int .i64 (lnE n), .bool (lnOk n)]
def dsV (n : Int) : Value := .tuple #[.int .i64 (dsS n), .int .i64 (dsX n), .int .i64 (dsE n), .bool (dsOk n)]

theorem lb_no {n : Int} (h : n < 257 ∨ 285 < n) : lbOk n = false ∧ lbI n = 0 ∧ lbX n = 0 := by
  have h1 : lbOk n = false := by
    unfold lbOk
    rcases h with h | h
    · rw [decide_eq_false (show ¬ 257 ≤ n by omega)]; rfl
    · rw [decide_eq_false (show ¬ n ≤ 285 by omega)]; cases decide (257 ≤ n) <;> rfl
  refine ⟨h1, ?_, ?_⟩
  · unfold lbI; rw [h1]; rfl
  · unfold lbX; rw [h1]; rfl
theorem db_no {n : Int} (h : n < 0 ∨ 29 < n) : dbOk n = false ∧ dbI n = 0 ∧ dbX n = 0 := by
  have h1 : dbOk n = false := by
    unfold dbOk
    rcases h with h | h
    · rw [decide_eq_false (show ¬ 0 ≤ n by omega)]; rfl
    · rw [decide_eq_false (show ¬ n ≤ 29 by omega)]; cases decide (0 ≤ n) <;> rfl
  refine ⟨h1, ?_, ?_⟩
  · unfold dbI; rw [h1]; rfl
  · unfold dbX; rw [h1]; rfl
theorem lb_yes (s : Nat) (h : s ≤ 28) : lbOk (257 + (s : Int)) = true ∧ lbI (257 + (s : Int)) = (lenBase s : Int) ∧ lbX (257 + (s : Int)) = (lenBits s : Int) := by
  have h1 : lbOk (257 + (s : Int)) = true := by unfold lbOk; rw [decide_eq_true (show 257 ≤ 257 + (s : Int) by omega), decide_eq_true (show 257 + (s : Int) ≤ 285 by omega)]; rfl
  have h2 : (257 + (s : Int) - 257).toNat = s := by omega
  refine ⟨h1, ?_, ?_⟩
  · unfold lbI; rw [if_pos h1, h2]
  · unfold lbX; rw [if_pos h1, h2]
theorem db_yes (s : Nat) (h : s ≤ 29) : dbOk (s : Int) = true ∧ dbI (s : Int) = (distBase s : Int) ∧ dbX (s : Int) = (distBits s : Int) := by
  have h1 : dbOk (s : Int) = true := by unfold dbOk; rw [decide_eq_true (show 0 ≤ (s : Int) by omega), decide_eq_true (show (s : Int) ≤ 29 by omega)]; rfl
  have h2 : ((s : Int)).toNat = s := by omega
  refine ⟨h1, ?_, ?_⟩
  · unfold dbI; rw [if_pos h1, h2]
  · unfold dbX; rw [if_pos h1, h2]
theorem ln_no {n : Int} (h : n < 3 ∨ 258 < n) : lnOk n = false ∧ lnS n = 0 ∧ lnX n = 0 ∧ lnE n = 0 := by
  have h1 : lnOk n = false := by
    unfold lnOk
    rcases h with h | h
    · rw [decide_eq_false (show ¬ 3 ≤ n by omega)]; rfl
    · rw [decide_eq_false (show ¬ n ≤ 258 by omega)]; cases decide (3 ≤ n) <;> rfl
  refine ⟨h1, ?_, ?_, ?_⟩
  · unfold lnS; rw [h1]; rfl
  · unfold lnX; rw [h1]; rfl
  · unfold lnE; rw [h1]; rfl
theorem ds_no {n : Int} (h : n < 1 ∨ 32768 < n) : dsOk n = false ∧ dsS n = 0 ∧ dsX n = 0 ∧ dsE n = 0 := by
  have h1 : dsOk n = false := by
    unfold dsOk
    rcases h with h | h
    · rw [decide_eq_false (show ¬ 1 ≤ n by omega)]; rfl
    · rw [decide_eq_false (show ¬ n ≤ 32768 by omega)]; cases decide (1 ≤ n) <;> rfl
  refine ⟨h1, ?_, ?_, ?_⟩
  · unfold dsS; rw [h1]; rfl
  · unfold dsX; rw [h1]; rfl
  · unfold dsE; rw [h1]; rfl
/-- A length whose symbol is 257 + s. -/
theorem ln_yes (n s : Nat) (h3 : 3 ≤ n) (h8 : n ≤ 258) (hs : s ≤ 28) (hb : lenBase s ≤ n) (ha : ∀ t, s < t → t ≤ 28 → n < lenBase t) :
    lnOk (n : Int) = true ∧ lnS (n : Int) = 257 + (s : Int) ∧ lnX (n : Int) = (lenBits s : Int) ∧ lnE (n : Int) = (n : Int) - (lenBase s : Int) := by
  have h1 : lnOk (n : Int) = true := by unfold lnOk; rw [decide_eq_true (show (3 : Int) ≤ (n : Int) by omega), decide_eq_true (show (n : Int) ≤ 258 by omega)]; rfl
  have h2 : lnT (n : Int) = s := by unfold lnT; rw [Int.toNat_natCast]; exact top_eq lenBase n 28 s hs hb ha
  refine ⟨h1, ?_, ?_, ?_⟩
  · unfold lnS; rw [if_pos h1, h2]
  · unfold lnX; rw [if_pos h1, h2]
  · unfold lnE; rw [if_pos h1, h2]
theorem ds_yes (n s : Nat) (h3 : 1 ≤ n) (h8 : n ≤ 32768) (hs : s ≤ 29) (hb : distBase s ≤ n) (ha : ∀ t, s < t → t ≤ 29 → n < distBase t) :
    dsOk (n : Int) = true ∧ dsS (n : Int) = (s : Int) ∧ dsX (n : Int) = (distBits s : Int) ∧ dsE (n : Int) = (n : Int) - (distBase s : Int) := by
  have h1 : dsOk (n : Int) = true := by unfold dsOk; rw [decide_eq_true (show (1 : Int) ≤ (n : Int) by omega), decide_eq_true (show (n : Int) ≤ 32768 by omega)]; rfl
  have h2 : dsT (n : Int) = s := by unfold dsT; rw [Int.toNat_natCast]; exact top_eq distBase n 29 s hs hb ha
  refine ⟨h1, ?_, ?_, ?_⟩
  · unfold dsS; rw [if_pos h1, h2]
  · unfold dsX; rw [if_pos h1, h2]
  · unfold dsE; rw [if_pos h1, h2]

/-- Four results. -/
theorem results_tmp4 {fn : Func} {t u v x : Tmp} (h : fn.results = #[.tmp t, .tmp u, .tmp v, .tmp x]) (tmps : Array Value) (P : Program) (w : World) :
    (results fn tmps).run P w = .ok (.tuple #[tmps.getD t undef, tmps.getD u undef, tmps.getD v undef, tmps.getD x undef]) w := by
  simp [results, h]

end Go.Proofs.YtaalbaiglkadlaaGreat

/- How many bits a number has: the library's Len64 and Len, for numbers of up to sixteen bits. -/
namespace Go.Proofs.YtaalbaiglkadlaaGreat
open Go.RowKit Go.Lib

/-- From the highest bit on. -/
theorem bitlen_at (x m : Nat) (h1 : 2 ^ m ≤ x) (h2 : x < 2 ^ (m + 1)) (hm : m < 16) : Lib.bitLen x = m + 1 := by
  have hx : x < 2 ^ 64 := Nat.lt_of_lt_of_le h2 (Nat.pow_le_pow_right (by decide) (by omega))
  have h3 : x / 2 ^ m = 1 := by
    rw [Nat.pow_succ] at h2
    have hp : 0 < 2 ^ m := Nat.pow_pos (by decide)
    have := (Nat.div_lt_iff_lt_mul hp).2 (show x < 2 * 2 ^ m by omega)
    have := (Nat.le_div_iff_mul_le hp).2 (show 1 * 2 ^ m ≤ x by omega)
    omega
  rw [Lib.bitLen_shift m x h1 hx, h3]
  rfl

/-- A byte of the library's table. -/
theorem tab_bits (i : Nat) (h : i < 256) (hi : i < len8tab.size) : wrap64 ((len8tab[i]'hi).toNat : Int) = (Lib.bitLen i : Int) := by
  have h1 := Lib.len8_of (i : Int) (by omega) (by omega)
  have h2 := Lib.bitLen_le8' (i : Int) (by omega) (by omega)
  rw [Int.toNat_natCast] at h1 h2
  have h3 : len8 (i : Int) = ((len8tab[i]'hi).toNat : Int) := by
    unfold len8
    rw [Int.toNat_natCast, ByteArray.getElem?_lt' _ _ hi]
    rfl
  rw [← h3, h1]
  unfold wrap64; omega

set_option maxHeartbeats 4000000 in
set_option maxRecDepth 100000 in
theorem len64_any (x : Int) (w : World) (h0 : 0 ≤ x) (h1 : x ≤ 65535) :
    Calls Tryz.prog 106 #[.int .u64 x] w fun e w' => e = .returned (.int .i64 (Lib.bitLen x.toNat)) ∧ w = w' := by
  by_cases hx : 256 ≤ x
  · have hz : x / 256 < (len8tab.size : Int) := by rw [len8tab_size]; omega
    have H8 := hide (Lib.bitLen_shift8 x.toNat (by omega) (by omega))
    have HT := hide (tab_bits (x / 256).toNat (by omega) (by omega))
    have HL := hide (Lib.bitLen_le8' (x / 256) (by omega) (by omega))
    go_enter Tryz.func106, Tryz.ntmps106
    go_wp2
    go_ret
    refine ⟨congrArg Ending.returned (congrArg (Value.int IntKind.i64) ?_), rfl⟩
    have e : (x / 256).toNat = x.toNat / 256 := by omega
    have l := HL.out
    rw [HT.out, H8.out]
    rw [e] at l ⊢
    unfold wrap64; omega
  · have hz : x < (len8tab.size : Int) := by rw [len8tab_size]; omega
    have HT := hide (tab_bits x.toNat (by omega) (by omega))
    have HL := hide (Lib.bitLen_le8' x (by omega) (by omega))
    go_enter Tryz.func106, Tryz.ntmps106
    go_wp2
    go_ret
    refine ⟨congrArg Ending.returned (congrArg (Value.int IntKind.i64) ?_), rfl⟩
    have l := HL.out
    rw [HT.out]
    unfold wrap64; omega

theorem blen_any (x : Int) (w : World) (h0 : 0 ≤ x) (h1 : x ≤ 65535) :
    Calls Tryz.prog 96 #[.int .u64 x] w fun e w' => e = .returned (.int .i64 (Lib.bitLen x.toNat)) ∧ w = w' := by
  have HC := hide (len64_any x)
  go_enter Tryz.func96, Tryz.ntmps96
  go_wp2_with fail
  refine (HC.out _ h0 h1).mono ?_
  rintro e w1 ⟨rfl, rfl⟩
  go_wp2
  go_ret
  exact ⟨rfl, rfl⟩

/-- A number in two: the highest bits, and those below them. -/
theorem parted_any (n k e : Nat) (w : World) (hn : n ≤ 65535) (_hk : k ≤ 3) (he : e ≤ 13) (hb : Lib.bitLen n = e + k) :
    Calls Tryz.prog 83 #[.int .i64 (n : Int), .int .i64 (k : Int)] w fun x w' =>
      x = .returned (.tuple #[.int .i64 ((n / 2 ^ e : Nat) : Int), .int .i64 (e : Int), .int .i64 ((n : Int) - ((n / 2 ^ e * 2 ^ e : Nat) : Int))]) ∧ Below w.heap.size w w' := by
  have HC := hide (blen_any (n : Int) w (by omega) (by omega))
  rw [Int.toNat_natCast, hb] at HC
  have HS : n / 2 ^ e * 2 ^ e ≤ n := Nat.div_mul_le_self n (2 ^ e)
  clear hb
  go_enter Tryz.func83, Tryz.ntmps83
  go_wp2_with fail
  refine HC.out.mono ?_
  rintro x w1 ⟨rfl, rfl⟩
  go_wp2
  go_quiet (fail)
  go_wp2
  go_ret3
  refine ⟨?_, ⟨rfl, rfl, rfl, Nat.le_refl _, fun _ _ => rfl⟩⟩
  have e1 : ((n / 2 ^ e * 2 ^ e : Nat) : Int) = (n : Int) / 2 ^ e * 2 ^ e := by rw [Int.natCast_mul, Int.natCast_ediv, Int.natCast_pow]; rfl
  have e2 : ((n / 2 ^ e : Nat) : Int) = (n : Int) / 2 ^ e := by rw [Int.natCast_ediv, Int.natCast_pow]; rfl
  have e3 : wrap64 ((n : Int) / 2 ^ e * 2 ^ e) = ((n / 2 ^ e * 2 ^ e : Nat) : Int) := by rw [← e1]; unfold wrap64; omega
  rw [e2, e3, show wrap64 ((n : Int) - ((n / 2 ^ e * 2 ^ e : Nat) : Int)) = (n : Int) - ((n / 2 ^ e * 2 ^ e : Nat) : Int) by unfold wrap64; omega]
  rfl

theorem dist_mono : ∀ t, t ≤ 29 → ∀ s, s < t → distBase (s + 1) ≤ distBase t := by decide
theorem len_mono : ∀ t, t ≤ 28 → ∀ s, s < t → lenBase (s + 1) ≤ lenBase t := by decide
theorem dist_of : ∀ e, e ≤ 13 → 1 ≤ e → ∀ h, h ≤ 3 → 2 ≤ h → distBase (2 * e + h) = 1 + h * 2 ^ e ∧ distBits (2 * e + h) = e := by decide
theorem len_of : ∀ e, e ≤ 5 → 1 ≤ e → ∀ h, h ≤ 7 → 4 ≤ h → lenBase (4 * e + h) = 3 + h * 2 ^ e ∧ lenBits (4 * e + h) = e := by decide

/-- A distance by its highest bits. -/
theorem ds_heads (m e h : Nat) (he : e ≤ 13) (he1 : 1 ≤ e) (hh : h ≤ 3) (hh2 : 2 ≤ h) (h1 : h * 2 ^ e ≤ m) (h2 : m < (h + 1) * 2 ^ e) (hm : m ≤ 32767) :
    dsOk ((m + 1 : Nat) : Int) = true ∧ dsS ((m + 1 : Nat) : Int) = ((2 * e + h : Nat) : Int) ∧ dsX ((m + 1 : Nat) : Int) = (e : Int) ∧ dsE ((m + 1 : Nat) : Int) = (m : Int) - ((h * 2 ^ e : Nat) : Int) := by
  obtain ⟨b1, b2⟩ := dist_of e he he1 h hh hh2
  have g := ds_yes (m + 1) (2 * e + h) (by omega) (by omega) (by omega) (by omega) (fun t g1 g2 => by
    have g3 := dist_mono t g2 _ g1
    have g4 := dist_next (2 * e + h) (by omega)
    rw [b1, b2] at g4
    rw [Nat.succ_mul] at h2
    omega)
  rw [b1, b2] at g
  refine ⟨g.1, g.2.1, g.2.2.1, ?_⟩
  rw [g.2.2.2]
  omega
/-- A length by its highest bits. -/
theorem ln_heads (m e h : Nat) (he : e ≤ 5) (he1 : 1 ≤ e) (hh : h ≤ 7) (hh2 : 4 ≤ h) (h1 : h * 2 ^ e ≤ m) (h2 : m < (h + 1) * 2 ^ e) (hm : m ≤ 254) :
    lnOk ((m + 3 : Nat) : Int) = true ∧ lnS ((m + 3 : Nat) : Int) = 257 + ((4 * e + h : Nat) : Int) ∧ lnX ((m + 3 : Nat) : Int) = (e : Int) ∧ lnE ((m + 3 : Nat) : Int) = (m : Int) - ((h * 2 ^ e : Nat) : Int) := by
  obtain ⟨b1, b2⟩ := len_of e he he1 h hh hh2
  have g := ln_yes (m + 3) (4 * e + h) (by omega) (by omega) (by omega) (by omega) (fun t g1 g2 => by
    have g3 := len_mono t g2 _ g1
    by_cases g5 : 4 * e + h < 27
    · have g4 := len_next (4 * e + h) g5
      rw [b1, b2] at g4
      rw [Nat.succ_mul] at h2
      omega
    · have g6 : 4 * e + h = 27 := by omega
      have g7 : lenBase 28 ≤ lenBase t := by rw [g6] at g3; exact g3
      have := len_last.1
      omega)
  rw [b1, b2] at g
  refine ⟨g.1, g.2.1, g.2.2.1, ?_⟩
  rw [g.2.2.2]
  omega

/-- Where the highest bit of what has 2 to 16 bits stands. -/
theorem high_at (m k : Nat) (hk : 1 ≤ k) (hk3 : k ≤ 3) (h1 : 2 ^ k ≤ m) (h2 : m < 32768) : ∃ e, 1 ≤ e ∧ e + k ≤ 15 ∧ 2 ^ (e + k - 1) ≤ m ∧ m < 2 ^ (e + k) := by
  have : ∀ f, k ≤ f → f ≤ 15 → 2 ^ k ≤ m → m < 2 ^ f → ∃ e, 1 ≤ e ∧ e + k ≤ f ∧ 2 ^ (e + k - 1) ≤ m ∧ m < 2 ^ (e + k) := by
    intro f
    induction f with
    | zero => intro a1 a2 a3 a4; omega
    | succ f ih =>
      intro a1 a2 a3 a4
      by_cases hf : f + 1 = k
      · rw [hf] at a4; omega
      by_cases hl : m < 2 ^ f
      · obtain ⟨e, c1, c2, c3, c4⟩ := ih (by omega) (by omega) a3 hl
        exact ⟨e, c1, by omega, c3, c4⟩
      · refine ⟨f + 1 - k, by omega, by omega, ?_, ?_⟩
        · rw [show f + 1 - k + k - 1 = f by omega]; omega
        · rw [show f + 1 - k + k = f + 1 by omega]; exact a4
  exact this 15 (by omega) (by omega) h1 h2

/-- The same, told by head and number of bits. -/
theorem head_at (m k : Nat) (hk : 1 ≤ k) (hk3 : k ≤ 3) (h1 : 2 ^ k ≤ m) (h2 : m < 32768) :
    ∃ e h, 1 ≤ e ∧ e + k ≤ 15 ∧ Lib.bitLen m = e + k ∧ m / 2 ^ e = h ∧ 2 ^ (k - 1) ≤ h ∧ h < 2 ^ k ∧ h * 2 ^ e ≤ m ∧ m < (h + 1) * 2 ^ e ∧ 2 ^ (e + k - 1) ≤ m := by
  obtain ⟨e, c1, c2, c3, c4⟩ := high_at m k hk hk3 h1 h2
  have hp : 0 < 2 ^ e := Nat.pow_pos (by decide)
  refine ⟨e, m / 2 ^ e, c1, c2, ?_, rfl, ?_, ?_, Nat.div_mul_le_self _ _, ?_, c3⟩
  · have := bitlen_at m (e + k - 1) c3 (by rw [show e + k - 1 + 1 = e + k by omega]; exact c4) (by omega)
    omega
  · refine (Nat.le_div_iff_mul_le hp).2 ?_
    rw [← Nat.pow_add, show k - 1 + e = e + k - 1 by omega]
    exact c3
  · refine (Nat.div_lt_iff_lt_mul hp).2 ?_
    rw [← Nat.pow_add, Nat.add_comm k e]
    exact c4
  · have := Nat.lt_div_mul_add (a := m) hp
    rw [Nat.succ_mul]
    omega

end Go.Proofs.YtaalbaiglkadlaaGreat

/- Contracts of layer 6 as it landed. -/
namespace Go.Proofs.YtaalbaiglkadlaaGreat
open Go.RowKit Go.Lib

set_option maxHeartbeats 4000000 in
theorem lenbase_any (n : Int) (w : World) :
    Calls Tryz.prog 76 #[.int .i64 n] w fun e w' => e = .returned (lbV n) ∧ Below w.heap.size w w' := by
  by_cases h1 : n < 257
  · obtain ⟨e1, e2, e3⟩ := lb_no (.inl h1)
    unfold lbV
    rw [e1, e2, e3]
    clear e1 e2 e3
    go_enter Tryz.func76, Tryz.ntmps76
    go_wp2
    go_ret3
    exact ⟨rfl, Below.refl _ _⟩
  · by_cases h2 : 285 < n
    · obtain ⟨e1, e2, e3⟩ := lb_no (.inr h2)
      unfold lbV
      rw [e1, e2, e3]
      have h1d : decide (n < 257) = false := decide_eq_false h1
      clear e1 e2 e3
      go_enter Tryz.func76, Tryz.ntmps76
      go_wp2
      go_ret3
      exact ⟨rfl, Below.refl _ _⟩
    · have hc : n = 257 ∨ n = 258 ∨ n = 259 ∨ n = 260 ∨ n = 261 ∨ n = 262 ∨ n = 263 ∨ n = 264 ∨ n = 265 ∨ n = 266 ∨ n = 267 ∨ n = 268 ∨ n = 269 ∨ n = 270 ∨ n = 271 ∨ n = 272 ∨ n = 273 ∨ n = 274 ∨ n = 275 ∨ n = 276 ∨ n = 277 ∨ n = 278 ∨ n = 279 ∨ n = 280 ∨ n = 281 ∨ n = 282 ∨ n = 283 ∨ n = 284 ∨ n = 285 := by omega
      clear h1 h2
      rcases hc with rfl | rfl | rfl | rfl | rfl | rfl | rfl | rfl | rfl | rfl | rfl | rfl | rfl | rfl | rfl | rfl | rfl | rfl | rfl | rfl | rfl | rfl | rfl | rfl | rfl | rfl | rfl | rfl | rfl <;>
        (go_enter Tryz.func76, Tryz.ntmps76
         go_wp2
         go_ret3
         exact ⟨rfl, Below.refl _ _⟩)

set_option maxHeartbeats 4000000 in
theorem distbase_any (n : Int) (w : World) :
    Calls Tryz.prog 77 #[.int .i64 n] w fun e w' => e = .returned (dbV n) ∧ Below w.heap.size w w' := by
  by_cases h1 : n < 0
  · obtain ⟨e1, e2, e3⟩ := db_no (.inl h1)
    unfold dbV
    rw [e1, e2, e3]
    clear e1 e2 e3
    go_enter Tryz.func77, Tryz.ntmps77
    go_wp2
    go_ret3
    exact ⟨rfl, Below.refl _ _⟩
  · by_cases h2 : 29 < n
    · obtain ⟨e1, e2, e3⟩ := db_no (.inr h2)
      unfold dbV
      rw [e1, e2, e3]
      have h1d : decide (n < 0) = false := decide_eq_false h1
      clear e1 e2 e3
      go_enter Tryz.func77, Tryz.ntmps77
      go_wp2
      go_ret3
      exact ⟨rfl, Below.refl _ _⟩
    · have hc : n = 0 ∨ n = 1 ∨ n = 2 ∨ n = 3 ∨ n = 4 ∨ n = 5 ∨ n = 6 ∨ n = 7 ∨ n = 8 ∨ n = 9 ∨ n = 10 ∨ n = 11 ∨ n = 12 ∨ n = 13 ∨ n = 14 ∨ n = 15 ∨ n = 16 ∨ n = 17 ∨ n = 18 ∨ n = 19 ∨ n = 20 ∨ n = 21 ∨ n = 22 ∨ n = 23 ∨ n = 24 ∨ n = 25 ∨ n = 26 ∨ n = 27 ∨ n = 28 ∨ n = 29 := by omega
      clear h1 h2
      rcases hc with rfl | rfl | rfl | rfl | rfl | rfl | rfl | rfl | rfl | rfl | rfl | rfl | rfl | rfl | rfl | rfl | rfl | rfl | rfl | rfl | rfl | rfl | rfl | rfl | rfl | rfl | rfl | rfl | rfl | rfl <;>
        (go_enter Tryz.func77, Tryz.ntmps77
         go_wp2
         go_ret3
         exact ⟨rfl, Below.refl _ _⟩)

set_option maxHeartbeats 4000000 in
theorem slen_any (n : Int) (w : World) :
    Calls Tryz.prog 64 #[.int .i64 n] w fun e w' => e = .returned (lnV n) ∧ Below w.heap.size w w' := by
  by_cases h1 : n < 3
  · obtain ⟨e1, e2, e3, e4⟩ := ln_no (.inl h1)
    unfold lnV
    rw [e1, e2, e3, e4]
    clear e1 e2 e3 e4
    go_enter Tryz.func64, Tryz.ntmps64
    go_wp2
    (try simp only [Exit.inBlock, Exit.then])
    refine bodyPost_ret (results_tmp4 rfl _ _ _) rfl ?_
    exact ⟨rfl, Below.refl _ _⟩
  have h1d : decide (n < 3) = false := decide_eq_false h1
  by_cases h2 : 258 < n
  · obtain ⟨e1, e2, e3, e4⟩ := ln_no (.inr h2)
    unfold lnV
    rw [e1, e2, e3, e4]
    clear e1 e2 e3 e4
    go_enter Tryz.func64, Tryz.ntmps64
    go_wp2
    (try simp only [Exit.inBlock, Exit.then])
    refine bodyPost_ret (results_tmp4 rfl _ _ _) rfl ?_
    exact ⟨rfl, Below.refl _ _⟩
  by_cases h4 : n = 258
  · subst h4
    go_enter Tryz.func64, Tryz.ntmps64
    go_wp2
    (try simp only [Exit.inBlock, Exit.then])
    refine bodyPost_ret (results_tmp4 rfl _ _ _) rfl ?_
    exact ⟨rfl, Below.refl _ _⟩
  by_cases h3 : n < 11
  · have hc : n = 3 ∨ n = 4 ∨ n = 5 ∨ n = 6 ∨ n = 7 ∨ n = 8 ∨ n = 9 ∨ n = 10 := by omega
    clear h1 h2 h1d h3 h4
    rcases hc with rfl | rfl | rfl | rfl | rfl | rfl | rfl | rfl <;>
      (go_enter Tryz.func64, Tryz.ntmps64
       go_wp2
       (try simp only [Exit.inBlock, Exit.then])
       refine bodyPost_ret (results_tmp4 rfl _ _ _) rfl ?_
       exact ⟨rfl, Below.refl _ _⟩)
  obtain ⟨m, rfl⟩ : ∃ m : Nat, n = ((m + 3 : Nat) : Int) := ⟨(n - 3).toNat, by omega⟩
  have hm1 : 8 ≤ m := by omega
  have hm2 : m ≤ 254 := by omega
  obtain ⟨e, h, c1, c2, c3, c4, c5, c6, c7, c8, c9⟩ := head_at m 3 (by decide) (by decide) hm1 (by omega)
  have c5 : 4 ≤ h := c5
  have c6 : h ≤ 7 := Nat.le_of_lt_succ c6
  have c10 : e ≤ 5 := Classical.byContradiction fun g => by have := Nat.pow_le_pow_right (show 0 < 2 by decide) (show 8 ≤ e + 3 - 1 by omega); omega
  obtain ⟨g1, g2, g3, g4⟩ := ln_heads m e h c10 c1 c6 c5 c7 c8 hm2
  have HC := hide (parted_any m 3 e w (by omega) (by omega) (by omega) c3)
  rw [c4] at HC
  have hS : h * 2 ^ e ≤ m := c7
  unfold lnV
  rw [g1, g2, g3, g4]
  clear g1 g2 g3 g4 h1 h2 h3 h1d c3 c4 c7 c8 c9 h4
  generalize h * 2 ^ e = b at *
  have z1 : ¬ ((m + 3 : Nat) : Int) < 3 := by omega
  have z2 : ¬ 258 < ((m + 3 : Nat) : Int) := by omega
  have z3 : ¬ ((m + 3 : Nat) : Int) < 11 := by omega
  have z4 : ¬ ((m + 3 : Nat) : Int) = 258 := by omega
  have z5 : ((m + 3 : Nat) : Int) - 3 = (m : Int) := by omega
  have HZ := hide z5
  clear z5
  generalize ((m + 3 : Nat) : Int) = N at *
  go_enter Tryz.func64, Tryz.ntmps64
  have z5 := HZ.out
  go_wp2_with fail
  refine HC.out.mono ?_
  rintro x w1 ⟨rfl, hb⟩
  have HB := hide hb
  clear hb z5 z1 z2 z3
  go_wp2
  (try simp only [Exit.inBlock, Exit.then])
  refine bodyPost_ret (results_tmp4 rfl _ _ _) rfl ?_
  refine ⟨?_, HB.out⟩
  rw [show (257 : Int) + ((4 * e + h : Nat) : Int) = 265 + 4 * ((e : Int) - 1) + (h : Int) - 4 by omega]
  rfl

set_option maxHeartbeats 4000000 in
theorem sdist_any (n : Int) (w : World) :
    Calls Tryz.prog 65 #[.int .i64 n] w fun e w' => e = .returned (dsV n) ∧ Below w.heap.size w w' := by
  by_cases h1 : n < 1
  · obtain ⟨e1, e2, e3, e4⟩ := ds_no (.inl h1)
    unfold dsV
    rw [e1, e2, e3, e4]
    clear e1 e2 e3 e4
    go_enter Tryz.func65, Tryz.ntmps65
    go_wp2
    (try simp only [Exit.inBlock, Exit.then])
    refine bodyPost_ret (results_tmp4 rfl _ _ _) rfl ?_
    exact ⟨rfl, Below.refl _ _⟩
  have h1d : decide (n < 1) = false := decide_eq_false h1
  by_cases h2 : 32768 < n
  · obtain ⟨e1, e2, e3, e4⟩ := ds_no (.inr h2)
    unfold dsV
    rw [e1, e2, e3, e4]
    clear e1 e2 e3 e4
    go_enter Tryz.func65, Tryz.ntmps65
    go_wp2
    (try simp only [Exit.inBlock, Exit.then])
    refine bodyPost_ret (results_tmp4 rfl _ _ _) rfl ?_
    exact ⟨rfl, Below.refl _ _⟩
  by_cases h3 : n < 5
  · have hc : n = 1 ∨ n = 2 ∨ n = 3 ∨ n = 4 := by omega
    clear h1 h2 h1d h3
    rcases hc with rfl | rfl | rfl | rfl <;>
      (go_enter Tryz.func65, Tryz.ntmps65
       go_wp2
       (try simp only [Exit.inBlock, Exit.then])
       refine bodyPost_ret (results_tmp4 rfl _ _ _) rfl ?_
       exact ⟨rfl, Below.refl _ _⟩)
  obtain ⟨m, rfl⟩ : ∃ m : Nat, n = ((m + 1 : Nat) : Int) := ⟨(n - 1).toNat, by omega⟩
  have hm1 : 4 ≤ m := by omega
  have hm2 : m ≤ 32767 := by omega
  obtain ⟨e, h, c1, c2, c3, c4, c5, c6, c7, c8, c9⟩ := head_at m 2 (by decide) (by decide) hm1 (by omega)
  have c5 : 2 ≤ h := c5
  have c6 : h ≤ 3 := Nat.le_of_lt_succ c6
  have c10 : e ≤ 13 := by omega
  obtain ⟨g1, g2, g3, g4⟩ := ds_heads m e h c10 c1 c6 c5 c7 c8 hm2
  have HC := hide (parted_any m 2 e w (by omega) (by omega) (by omega) c3)
  rw [c4] at HC
  have hS : h * 2 ^ e ≤ m := c7
  unfold dsV
  rw [g1, g2, g3, g4]
  clear g1 g2 g3 g4 h1 h2 h3 h1d c3 c4 c7 c8 c9
  generalize h * 2 ^ e = b at *
  have z1 : ¬ ((m + 1 : Nat) : Int) < 1 := by omega
  have z2 : ¬ 32768 < ((m + 1 : Nat) : Int) := by omega
  have z3 : ¬ ((m + 1 : Nat) : Int) < 5 := by omega

  have z5 : ((m + 1 : Nat) : Int) - 1 = (m : Int) := by omega
  have HZ := hide z5
  clear z5
  generalize ((m + 1 : Nat) : Int) = N at *
  go_enter Tryz.func65, Tryz.ntmps65
  have z5 := HZ.out
  go_wp2_with fail
  refine HC.out.mono ?_
  rintro x w1 ⟨rfl, hb⟩
  have HB := hide hb
  clear hb z5 z1 z2 z3
  go_wp2
  (try simp only [Exit.inBlock, Exit.then])
  refine bodyPost_ret (results_tmp4 rfl _ _ _) rfl ?_
  refine ⟨?_, HB.out⟩
  rw [show ((2 * e + h : Nat) : Int) = 4 + 2 * ((e : Int) - 1) + (h : Int) - 2 by omega]
  rfl

end Go.Proofs.YtaalbaiglkadlaaGreat
