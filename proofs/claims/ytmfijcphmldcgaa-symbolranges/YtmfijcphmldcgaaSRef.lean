/- What the calls of layer 6 answer, as numbers; contracts of the document's own ones. -/
import Derived.Test.YtmfijcphmldcgaaRows
import Derived.Test.YtmfijcphmldcgaaWorld
import Derived.Test.YtmfijcphmldcgaaSMath
import Derived.WalkKit
import Derived.WalkSpells
import Derived.WalkLawsBesides
import Derived.ProofKit
namespace Go.Proofs.Ytmfijcphmldcgaa
open Go.RowKit Go.Lib

/-- A length's symbol: is it one; its least length; its extra bits. -/
def lbOk (n : Int) : Bool := decide (257 ≤ n) && decide (n ≤ 285)
def lbI (n : Int) : Int := if lbOk n = true then (lenBase (n - 257).toNat : Int) else 0
def lbX (n : Int) : Int := if lbOk n = true then (lenBits (n - 257).toNat : Int) else 0
/-- A distance's symbol. -/
def dbOk (n : Int) : Bool := decide (0 ≤ n) && decide (n ≤ 29)
def dbI (n : Int) : Int := if dbOk n = true then (distBase n.toNat : Int) else 0
def dbX (n : Int) : Int := if dbOk n = true then (distBits n.toNat : Int) else 0
/-- A length: its symbol, the extra bits, what is extra. -/
def lnOk (n : Int) : Bool := decide (3 ≤ n) && decide (n ≤ 258)
def lnT (n : Int) : Nat := topS lenBase n.toNat 28
def lnS (n : Int) : Int := if lnOk n = true then 257 + (lnT n : Int) else 0
def lnX (n : Int) : Int := if lnOk n = true then (lenBits (lnT n) : Int) else 0
def lnE (n : Int) : Int := if lnOk n = true then n - (lenBase (lnT n) : Int) else 0
/-- A distance. -/
def dsOk (n : Int) : Bool := decide (1 ≤ n) && decide (n ≤ 32768)
def dsT (n : Int) : Nat := topS distBase n.toNat 29
def dsS (n : Int) : Int := if dsOk n = true then (dsT n : Int) else 0
def dsX (n : Int) : Int := if dsOk n = true then (distBits (dsT n) : Int) else 0
def dsE (n : Int) : Int := if dsOk n = true then n - (distBase (dsT n) : Int) else 0

def lbV (n : Int) : Value := .tuple #[.int .i64 (lbI n), .int .i64 (lbX n), .bool (lbOk n)]
def dbV (n : Int) : Value := .tuple #[.int .i64 (dbI n), .int .i64 (dbX n), .bool (dbOk n)]
def lnV (n : Int) : Value := .tuple #[.int .i64 (lnS n), .int .i64 (lnX n), .int .i64 (lnE n), .bool (lnOk n)]
def dsV (n : Int) : Value := .tuple #[.int .i64 (dsS n), .int .i64 (dsX n), .int .i64 (dsE n), .bool (dsOk n)]

theorem lb_no {n : Int} (h : n < 257 ∨ 285 < n) : lbOk n = false ∧ lbI n = 0 ∧ lbX n = 0 := by
  have h1 : lbOk n = false := by
    unfold lbOk
    rcases h with h | h
    · rw [decide_eq_false (show ¬ 257 ≤ n by omega)]; rfl
    · rw [decide_eq_false (show ¬ n ≤ 285 by omega)]; cases decide (257 ≤ n) <;> rfl
  refine ⟨h1, ?_, ?_⟩
  · unfold lbI; rw [h1]; rfl
  · unfold lbX; rw [h1]; rfl
theorem db_no {n : Int} (h : n < 0 ∨ 29 < n) : dbOk n = false ∧ dbI n = 0 ∧ dbX n = 0 := by
  have h1 : dbOk n = false := by
    unfold dbOk
    rcases h with h | h
    · rw [decide_eq_false (show ¬ 0 ≤ n by omega)]; rfl
    · rw [decide_eq_false (show ¬ n ≤ 29 by omega)]; cases decide (0 ≤ n) <;> rfl
  refine ⟨h1, ?_, ?_⟩
  · unfold dbI; rw [h1]; rfl
  · unfold dbX; rw [h1]; rfl
theorem lb_yes (s : Nat) (h : s ≤ 28) : lbOk (257 + (s : Int)) = true ∧ lbI (257 + (s : Int)) = (lenBase s : Int) ∧ lbX (257 + (s : Int)) = (lenBits s : Int) := by
  have h1 : lbOk (257 + (s : Int)) = true := by unfold lbOk; rw [decide_eq_true (show 257 ≤ 257 + (s : Int) by omega), decide_eq_true (show 257 + (s : Int) ≤ 285 by omega)]; rfl
  have h2 : (257 + (s : Int) - 257).toNat = s := by omega
  refine ⟨h1, ?_, ?_⟩
  · unfold lbI; rw [if_pos h1, h2]
  · unfold lbX; rw [if_pos h1, h2]
theorem db_yes (s : Nat) (h : s ≤ 29) : dbOk (s : Int) = true ∧ dbI (s : Int) = (distBase s : Int) ∧ dbX (s : Int) = (distBits s : Int) := by
  have h1 : dbOk (s : Int) = true := by unfold dbOk; rw [decide_eq_true (show 0 ≤ (s : Int) by omega), decide_eq_true (show (s : Int) ≤ 29 by omega)]; rfl
  have h2 : ((s : Int)).toNat = s := by omega
  refine ⟨h1, ?_, ?_⟩
  · unfold dbI; rw [if_pos h1, h2]
  · unfold dbX; rw [if_pos h1, h2]
theorem ln_no {n : Int} (h : n < 3 ∨ 258 < n) : lnOk n = false ∧ lnS n = 0 ∧ lnX n = 0 ∧ lnE n = 0 := by
  have h1 : lnOk n = false := by
    unfold lnOk
    rcases h with h | h
    · rw [decide_eq_false (show ¬ 3 ≤ n by omega)]; rfl
    · rw [decide_eq_false (show ¬ n ≤ 258 by omega)]; cases decide (3 ≤ n) <;> rfl
  refine ⟨h1, ?_, ?_, ?_⟩
  · unfold lnS; rw [h1]; rfl
  · unfold lnX; rw [h1]; rfl
  · unfold lnE; rw [h1]; rfl
theorem ds_no {n : Int} (h : n < 1 ∨ 32768 < n) : dsOk n = false ∧ dsS n = 0 ∧ dsX n = 0 ∧ dsE n = 0 := by
  have h1 : dsOk n = false := by
    unfold dsOk
    rcases h with h | h
    · rw [decide_eq_false (show ¬ 1 ≤ n by omega)]; rfl
    · rw [decide_eq_false (show ¬ n ≤ 32768 by omega)]; cases decide (1 ≤ n) <;> rfl
  refine ⟨h1, ?_, ?_, ?_⟩
  · unfold dsS; rw [h1]; rfl
  · unfold dsX; rw [h1]; rfl
  · unfold dsE; rw [h1]; rfl
/-- A length whose symbol is 257 + s. -/
theorem ln_yes (n s : Nat) (h3 : 3 ≤ n) (h8 : n ≤ 258) (hs : s ≤ 28) (hb : lenBase s ≤ n) (ha : ∀ t, s < t → t ≤ 28 → n < lenBase t) :
    lnOk (n : Int) = true ∧ lnS (n : Int) = 257 + (s : Int) ∧ lnX (n : Int) = (lenBits s : Int) ∧ lnE (n : Int) = (n : Int) - (lenBase s : Int) := by
  have h1 : lnOk (n : Int) = true := by unfold lnOk; rw [decide_eq_true (show (3 : Int) ≤ (n : Int) by omega), decide_eq_true (show (n : Int) ≤ 258 by omega)]; rfl
  have h2 : lnT (n : Int) = s := by unfold lnT; rw [Int.toNat_natCast]; exact top_eq lenBase n 28 s hs hb ha
  refine ⟨h1, ?_, ?_, ?_⟩
  · unfold lnS; rw [if_pos h1, h2]
  · unfold lnX; rw [if_pos h1, h2]
  · unfold lnE; rw [if_pos h1, h2]
theorem ds_yes (n s : Nat) (h3 : 1 ≤ n) (h8 : n ≤ 32768) (hs : s ≤ 29) (hb : distBase s ≤ n) (ha : ∀ t, s < t → t ≤ 29 → n < distBase t) :
    dsOk (n : Int) = true ∧ dsS (n : Int) = (s : Int) ∧ dsX (n : Int) = (distBits s : Int) ∧ dsE (n : Int) = (n : Int) - (distBase s : Int) := by
  have h1 : dsOk (n : Int) = true := by unfold dsOk; rw [decide_eq_true (show (1 : Int) ≤ (n : Int) by omega), decide_eq_true (show (n : Int) ≤ 32768 by omega)]; rfl
  have h2 : dsT (n : Int) = s := by unfold dsT; rw [Int.toNat_natCast]; exact top_eq distBase n 29 s hs hb ha
  refine ⟨h1, ?_, ?_, ?_⟩
  · unfold dsS; rw [if_pos h1, h2]
  · unfold dsX; rw [if_pos h1, h2]
  · unfold dsE; rw [if_pos h1, h2]

set_option maxHeartbeats 4000000 in
theorem qlenbase_any (n : Int) (w : World) :
    Calls Try.prog 12 #[.int .i64 n] w fun e w' => e = .returned (lbV n) ∧ w = w' := by
  by_cases h1 : n < 257
  · obtain ⟨e1, e2, e3⟩ := lb_no (.inl h1)
    unfold lbV
    rw [e1, e2, e3]
    clear e1 e2 e3
    go_enter Try.func12, Try.ntmps12
    go_wp2
    go_ret3
    exact ⟨rfl, rfl⟩
  · by_cases h2 : 285 < n
    · obtain ⟨e1, e2, e3⟩ := lb_no (.inr h2)
      unfold lbV
      rw [e1, e2, e3]
      have h1d : decide (n < 257) = false := decide_eq_false h1
      clear e1 e2 e3
      go_enter Try.func12, Try.ntmps12
      go_wp2
      go_ret3
      exact ⟨rfl, rfl⟩
    · have hc : n = 257 ∨ n = 258 ∨ n = 259 ∨ n = 260 ∨ n = 261 ∨ n = 262 ∨ n = 263 ∨ n = 264 ∨ n = 265 ∨ n = 266 ∨ n = 267 ∨ n = 268 ∨ n = 269 ∨ n = 270 ∨ n = 271 ∨ n = 272 ∨ n = 273 ∨ n = 274 ∨ n = 275 ∨ n = 276 ∨ n = 277 ∨ n = 278 ∨ n = 279 ∨ n = 280 ∨ n = 281 ∨ n = 282 ∨ n = 283 ∨ n = 284 ∨ n = 285 := by omega
      clear h1 h2
      rcases hc with rfl | rfl | rfl | rfl | rfl | rfl | rfl | rfl | rfl | rfl | rfl | rfl | rfl | rfl | rfl | rfl | rfl | rfl | rfl | rfl | rfl | rfl | rfl | rfl | rfl | rfl | rfl | rfl | rfl <;>
        (go_enter Try.func12, Try.ntmps12
         go_wp2
         go_ret3
         exact ⟨rfl, rfl⟩)

set_option maxHeartbeats 4000000 in
theorem qdistbase_any (n : Int) (w : World) :
    Calls Try.prog 14 #[.int .i64 n] w fun e w' => e = .returned (dbV n) ∧ w = w' := by
  by_cases h1 : n < 0
  · obtain ⟨e1, e2, e3⟩ := db_no (.inl h1)
    unfold dbV
    rw [e1, e2, e3]
    clear e1 e2 e3
    go_enter Try.func14, Try.ntmps14
    go_wp2
    go_ret3
    exact ⟨rfl, rfl⟩
  · by_cases h2 : 29 < n
    · obtain ⟨e1, e2, e3⟩ := db_no (.inr h2)
      unfold dbV
      rw [e1, e2, e3]
      have h1d : decide (n < 0) = false := decide_eq_false h1
      clear e1 e2 e3
      go_enter Try.func14, Try.ntmps14
      go_wp2
      go_ret3
      exact ⟨rfl, rfl⟩
    · have hc : n = 0 ∨ n = 1 ∨ n = 2 ∨ n = 3 ∨ n = 4 ∨ n = 5 ∨ n = 6 ∨ n = 7 ∨ n = 8 ∨ n = 9 ∨ n = 10 ∨ n = 11 ∨ n = 12 ∨ n = 13 ∨ n = 14 ∨ n = 15 ∨ n = 16 ∨ n = 17 ∨ n = 18 ∨ n = 19 ∨ n = 20 ∨ n = 21 ∨ n = 22 ∨ n = 23 ∨ n = 24 ∨ n = 25 ∨ n = 26 ∨ n = 27 ∨ n = 28 ∨ n = 29 := by omega
      clear h1 h2
      rcases hc with rfl | rfl | rfl | rfl | rfl | rfl | rfl | rfl | rfl | rfl | rfl | rfl | rfl | rfl | rfl | rfl | rfl | rfl | rfl | rfl | rfl | rfl | rfl | rfl | rfl | rfl | rfl | rfl | rfl | rfl <;>
        (go_enter Try.func14, Try.ntmps14
         go_wp2
         go_ret3
         exact ⟨rfl, rfl⟩)

/-- Four results. -/
theorem results_tmp4 {fn : Func} {t u v x : Tmp} (h : fn.results = #[.tmp t, .tmp u, .tmp v, .tmp x]) (tmps : Array Value) (P : Program) (w : World) :
    (results fn tmps).run P w = .ok (.tuple #[tmps.getD t undef, tmps.getD u undef, tmps.getD v undef, tmps.getD x undef]) w := by
  simp [results, h]

set_option maxHeartbeats 4000000 in
theorem qlen_any (n : Int) (w : World) :
    Calls Try.prog 8 #[.int .i64 n] w fun e w' => e = .returned (lnV n) ∧ w = w' := by
  by_cases h1 : n < 3
  · obtain ⟨e1, e2, e3, e4⟩ := ln_no (.inl h1)
    unfold lnV
    rw [e1, e2, e3, e4]
    clear e1 e2 e3 e4
    go_enter Try.func8, Try.ntmps8
    go_wp2
    (try simp only [Exit.inBlock, Exit.then])
    refine bodyPost_ret (results_tmp4 rfl _ _ _) rfl ?_
    exact ⟨rfl, rfl⟩
  · have h1d : decide (n < 3) = false := decide_eq_false h1
    by_cases h2 : 258 < n
    · obtain ⟨e1, e2, e3, e4⟩ := ln_no (.inr h2)
      unfold lnV
      rw [e1, e2, e3, e4]
      clear e1 e2 e3 e4
      go_enter Try.func8, Try.ntmps8
      go_wp2
      (try simp only [Exit.inBlock, Exit.then])
      refine bodyPost_ret (results_tmp4 rfl _ _ _) rfl ?_
      exact ⟨rfl, rfl⟩
    · obtain ⟨m, rfl⟩ := Int.eq_ofNat_of_zero_le (show 0 ≤ n by omega)
      have h2d : decide (258 < (m : Int)) = false := decide_eq_false h2
      have hm1 : 3 ≤ m := by omega
      have hm2 : m ≤ 258 := by omega
      obtain ⟨V, hV⟩ : ∃ V, lnV (m : Int) = V := ⟨_, rfl⟩
      have HV := hide hV
      rw [hV]
      clear h1 h2 hV
      go_enter Try.func8, Try.ntmps8
      go_wp2
      go_loop [6] (fun sv => ∃ s : Nat, s ≤ 28 ∧ sv = .int .i64 (257 + (s : Int)) ∧ Hid (∀ t, s < t → t ≤ 28 → m < lenBase t)) (fun sv => (intOf sv).toNat)
      case atStart => exact ⟨28, Nat.le_refl _, rfl, hide (fun t h1 h2 => by omega)⟩
      case round =>
        obtain ⟨s, hs, rfl, HA⟩ := hrel
        have HC := hide (qlenbase_any (257 + (s : Int)))
        obtain ⟨e1, e2, e3⟩ := lb_yes s hs
        unfold lbV at HC
        rw [e1, e2, e3] at HC
        have hsm := len_small s hs
        have z0 : (257 : Int) ≤ 257 + (s : Int) := by omega
        have HB0 := hide (show lenBase 0 = 3 from by decide)
        have HBS := hide (show s = 0 → lenBase s = 3 from fun e => by rw [e]; exact HB0.out)
        have HYES := hide (ln_yes m s hm1 hm2 hs)
        clear e1 e2 e3
        obtain ⟨base, hbase⟩ : ∃ base, lenBase s = base := ⟨_, rfl⟩
        have HBE := hide hbase
        rw [hbase] at HC hsm HBS HYES
        clear hbase
        generalize lenBits s = bx at *
        go_wp2_with fail
        refine (HC.out _).mono ?_
        rintro e w1 ⟨rfl, rfl⟩
        by_cases hle : base ≤ m
        · have zle : (base : Int) ≤ (m : Int) := by omega
          obtain ⟨g1, g2, g3, g4⟩ := HYES.out hle HA.out
          have HV2 := hide (show V = .tuple #[.int .i64 (257 + (s : Int)), .int .i64 (bx : Int), .int .i64 ((m : Int) - (base : Int)), .bool true] by rw [← HV.out]; unfold lnV; rw [g1, g2, g3, g4])
          clear g1 g2 g3 g4
          go_wp2
          (try simp only [Exit.inBlock, Exit.then])
          refine bodyPost_ret (results_tmp4 rfl _ _ _) rfl ?_
          exact ⟨by rw [HV2.out]; rfl, rfl⟩
        · have zle : ¬ (base : Int) ≤ (m : Int) := by omega
          have hs0 : s ≠ 0 := fun e => by have := HBS.out e; omega
          obtain ⟨r, rfl⟩ : ∃ r, s = r + 1 := ⟨s - 1, by omega⟩
          have HA2 := hide (show ∀ t, r < t → t ≤ 28 → m < lenBase t from fun t h1 h2 => by
            by_cases e : t = r + 1
            · rw [e, HBE.out]; omega
            · exact HA.out t (by omega) h2)
          clear hs0 HYES HBS
          go_wp2
          go_round
          case rel => exact ⟨r, by omega, by go_num, HA2⟩
          case measure => first | (simp [intOf]; done) | (simp [intOf]; omega)

set_option maxHeartbeats 4000000 in
theorem qdist_any (n : Int) (w : World) :
    Calls Try.prog 10 #[.int .i64 n] w fun e w' => e = .returned (dsV n) ∧ w = w' := by
  by_cases h1 : n < 1
  · obtain ⟨e1, e2, e3, e4⟩ := ds_no (.inl h1)
    unfold dsV
    rw [e1, e2, e3, e4]
    clear e1 e2 e3 e4
    go_enter Try.func10, Try.ntmps10
    go_wp2
    (try simp only [Exit.inBlock, Exit.then])
    refine bodyPost_ret (results_tmp4 rfl _ _ _) rfl ?_
    exact ⟨rfl, rfl⟩
  · have h1d : decide (n < 1) = false := decide_eq_false h1
    by_cases h2 : 32768 < n
    · obtain ⟨e1, e2, e3, e4⟩ := ds_no (.inr h2)
      unfold dsV
      rw [e1, e2, e3, e4]
      clear e1 e2 e3 e4
      go_enter Try.func10, Try.ntmps10
      go_wp2
      (try simp only [Exit.inBlock, Exit.then])
      refine bodyPost_ret (results_tmp4 rfl _ _ _) rfl ?_
      exact ⟨rfl, rfl⟩
    · obtain ⟨m, rfl⟩ := Int.eq_ofNat_of_zero_le (show 0 ≤ n by omega)
      have h2d : decide (32768 < (m : Int)) = false := decide_eq_false h2
      have hm1 : 1 ≤ m := by omega
      have hm2 : m ≤ 32768 := by omega
      obtain ⟨V, hV⟩ : ∃ V, dsV (m : Int) = V := ⟨_, rfl⟩
      have HV := hide hV
      rw [hV]
      clear h1 h2 hV
      go_enter Try.func10, Try.ntmps10
      go_wp2
      go_loop [6] (fun sv => ∃ s : Nat, s ≤ 29 ∧ sv = .int .i64 ((s : Int)) ∧ Hid (∀ t, s < t → t ≤ 29 → m < distBase t)) (fun sv => (intOf sv).toNat)
      case atStart => exact ⟨29, Nat.le_refl _, rfl, hide (fun t h1 h2 => by omega)⟩
      case round =>
        obtain ⟨s, hs, rfl, HA⟩ := hrel
        have HC := hide (qdistbase_any ((s : Int)))
        obtain ⟨e1, e2, e3⟩ := db_yes s hs
        unfold dbV at HC
        rw [e1, e2, e3] at HC
        have hsm := dist_small s hs
        have z0 : (0 : Int) ≤ (s : Int) := by omega
        have HB0 := hide (show distBase 0 = 1 from by decide)
        have HBS := hide (show s = 0 → distBase s = 1 from fun e => by rw [e]; exact HB0.out)
        have HYES := hide (ds_yes m s hm1 hm2 hs)
        clear e1 e2 e3
        obtain ⟨base, hbase⟩ : ∃ base, distBase s = base := ⟨_, rfl⟩
        have HBE := hide hbase
        rw [hbase] at HC hsm HBS HYES
        clear hbase
        generalize distBits s = bx at *
        go_wp2_with fail
        refine (HC.out _).mono ?_
        rintro e w1 ⟨rfl, rfl⟩
        by_cases hle : base ≤ m
        · have zle : (base : Int) ≤ (m : Int) := by omega
          obtain ⟨g1, g2, g3, g4⟩ := HYES.out hle HA.out
          have HV2 := hide (show V = .tuple #[.int .i64 ((s : Int)), .int .i64 (bx : Int), .int .i64 ((m : Int) - (base : Int)), .bool true] by rw [← HV.out]; unfold dsV; rw [g1, g2, g3, g4])
          clear g1 g2 g3 g4
          go_wp2
          (try simp only [Exit.inBlock, Exit.then])
          refine bodyPost_ret (results_tmp4 rfl _ _ _) rfl ?_
          exact ⟨by rw [HV2.out]; rfl, rfl⟩
        · have zle : ¬ (base : Int) ≤ (m : Int) := by omega
          have hs0 : s ≠ 0 := fun e => by have := HBS.out e; omega
          obtain ⟨r, rfl⟩ : ∃ r, s = r + 1 := ⟨s - 1, by omega⟩
          have HA2 := hide (show ∀ t, r < t → t ≤ 29 → m < distBase t from fun t h1 h2 => by
            by_cases e : t = r + 1
            · rw [e, HBE.out]; omega
            · exact HA.out t (by omega) h2)
          clear hs0 HYES HBS
          go_wp2
          go_round
          case rel => exact ⟨r, by omega, by go_num, HA2⟩
          case measure => first | (simp [intOf]; done) | (simp [intOf]; omega)

end Go.Proofs.Ytmfijcphmldcgaa
