/- What the program's layer 9 must be, in one structure; and the statements' small helpers: right, same. -/
import Derived.Test.YtejckmmlbncgnaaBSize
namespace Go.Proofs.Ytejckmmlbncgnaa
open Go.RowKit Go.Lib

def WriteRPost (W : World) (l : List (Nat × Int × Int)) (kind : Int) (last : Bool) (p : Nat) (v : Value) (bs : List Bool) (e : Ending) (w' : World) : Prop := e = .returned (.tuple #[]) ∧ ∃ ob v', BlockRel l kind last ob ∧ ob.length ≤ 200000 ∧ Wr w' p v' (bs ++ ob) ∧ Step p v v' W w'

/-- The contracts of the program's calls. -/
structure BSpec : Prop where
  plain : ∀ (W : World), Calls Try.prog 28 #[] W fun e w' => TwoN W plainL plainD e w'
  weights : ∀ (l : List (Nat × Int × Int)) (a : Option Addr) (cap : Nat) (W : World), ArgT W a l → (a = none → cap = 0) → (∀ t ∈ l, RightT t) → l.length ≤ 2000 → Calls Try.prog 18 #[.slice a l.length cap] W fun e w' => TwoN W (litWs l) (distWs l) e w'
  own : ∀ (l : List (Nat × Int × Int)) (a : Option Addr) (cap : Nat) (W : World), ArgT W a l → (a = none → cap = 0) → (∀ t ∈ l, RightT t) → l.length ≤ 2000 → Calls Try.prog 20 #[.slice a l.length cap] W fun e w' => TwoN W (ownLit l) (ownDist l) e w'
  write : ∀ (l : List (Nat × Int × Int)) (a : Option Addr) (cap : Nat) (kind : Int) (last : Bool) (p : Nat) (v : Value) (bs : List Bool) (W : World), Wr W p v bs → bs.length ≤ 500000 → KT p v W a l → (a = none → cap = 0) → (∀ t ∈ l, RightT t) → l.length ≤ 2000 → Calls Try.prog 14 #[.pointer (some ⟨p, 0, none⟩), .slice a l.length cap, .int .i64 kind, .bool last] W fun e w' => WriteRPost W l kind last p v bs e w'
  store : ∀ (p : Nat) (v : Value) (bs : List Bool) (s : ByteArray) (last : Bool) (W : World), Wr W p v bs → bs.length ≤ 500000 → s.size ≤ 65535 → Calls Try.prog 12 #[.pointer (some ⟨p, 0, none⟩), .string s, .bool last] W fun e w' => e = .returned (.tuple #[]) ∧ ∃ v', Wr w' p v' (storeAll bs s last) ∧ Step p v v' W w'
  size : ∀ (l : List (Nat × Int × Int)) (a : Option Addr) (cap : Nat) (raw kind k : Int) (W : World), ArgT W a l → (a = none → cap = 0) → (∀ t ∈ l, RightT t) → l.length ≤ 2000 → 0 ≤ k → k ≤ 1099511627776 → 0 ≤ kind → kind ≤ 2 → Calls Try.prog 22 #[.slice a l.length cap, .int .i64 raw, .int .i64 kind, .int .i64 k] W fun e w' => ∃ z, e = .returned (.int .i64 z) ∧ SizeRel l raw kind k z ∧ Below W.heap.size W w'
  choose : ∀ (l : List (Nat × Int × Int)) (a : Option Addr) (cap : Nat) (raw k : Int) (W : World), ArgT W a l → (a = none → cap = 0) → (∀ t ∈ l, RightT t) → l.length ≤ 2000 → 0 ≤ k → k ≤ 1099511627776 → Calls Try.prog 25 #[.slice a l.length cap, .int .i64 raw, .int .i64 k] W fun e w' => ∃ c, e = .returned (.int .i64 c) ∧ ChooseRel l raw k c ∧ Below W.heap.size W w'

/-- Matches that may be. -/
def matchOk (t : Nat × Int × Int) : Bool := !(decide (0 < t.2.1) && (decide (t.2.1 < 3) || decide (258 < t.2.1) || decide (t.2.2 < 1) || decide (32768 < t.2.2)))
def rightB (l : List (Nat × Int × Int)) : Bool := l.all matchOk && decide (l.length ≤ 200)
theorem matchOk_iff (t : Nat × Int × Int) : matchOk t = true ↔ (0 < t.2.1 → (3 ≤ t.2.1 ∧ t.2.1 ≤ 258) ∧ (1 ≤ t.2.2 ∧ t.2.2 ≤ 32768)) := by
  unfold matchOk
  simp only [Bool.not_eq_true', Bool.and_eq_false_iff, Bool.or_eq_false_iff, decide_eq_false_iff_not]
  omega
theorem right_all {l : List (Nat × Int × Int)} (h : rightB l = true) (hb : ∀ t ∈ l, t.1 < 256) : (∀ t ∈ l, RightT t) ∧ l.length ≤ 200 := by
  unfold rightB at h
  rw [Bool.and_eq_true, decide_eq_true_eq, List.all_eq_true] at h
  exact ⟨fun t ht => ⟨hb t ht, (matchOk_iff t).1 (h.1 t ht)⟩, h.2⟩

set_option maxHeartbeats 4000000 in
theorem right_any (l : List (Nat × Int × Int)) (a : Option Addr) (cap : Nat) (w : World) (harg : ArgT w a l) (hl : l.length ≤ 9223372036854775807) :
    Calls Try.prog 8 #[.slice a l.length cap] w fun e w' => e = .returned (.bool (rightB l)) ∧ w = w' := by
  have HA := hide harg
  obtain ⟨n, hn⟩ : ∃ n, l.length = n := ⟨_, rfl⟩
  have HN := hide hn
  obtain ⟨R, hR⟩ : ∃ R, rightB l = R := ⟨_, rfl⟩
  have HRB := hide hR
  rw [hn] at hl ⊢
  rw [hR]
  clear harg hn hR
  go_enter Try.func8, Try.ntmps8
  go_wp2
  go_loop [3] (fun c => ∃ j : Nat, j ≤ n ∧ c = .int .i64 (j : Nat) ∧ Hid (∀ t ∈ l.take j, matchOk t = true)) (fun c => n - (intOf c).toNat)
  case atStart => exact ⟨0, Nat.zero_le _, rfl, hide (fun t ht => by simp at ht)⟩
  case round =>
    obtain ⟨j, hj, rfl, HG⟩ := hrel
    by_cases hlt : j < n
    · obtain ⟨⟨b, ln, d⟩, ht⟩ : ∃ r, l[j]? = some r := ⟨_, List.getElem?_eq_getElem (by rw [HN.out]; exact hlt)⟩
      obtain ⟨x, offx, rfl, _, _c1, _d1, _⟩ := HA.out j _ ht
      dsimp only at _c1 _d1
      have zj : (j : Int) < n := by omega
      have HTK := hide (take_snocT l j _ ht)
      have HBAD := hide (fun (h : matchOk (b, ln, d) = false) => show R = false by
        rw [← HRB.out]
        unfold rightB
        cases hq : l.all matchOk with
        | false => rfl
        | true => rw [List.all_eq_true] at hq; rw [hq _ (List.mem_of_getElem? ht)] at h; cases h)
      have HOK := hide (fun (h : matchOk (b, ln, d) = true) => show ∀ t ∈ l.take (j + 1), matchOk t = true by
        rw [HTK.out]
        intro t hm
        rcases List.mem_append.1 hm with e | e
        · exact HG.out t e
        · rw [List.mem_singleton.1 e]; exact h)
      have HIF := hide (matchOk_iff (b, ln, d))
      clear ht HTK
      by_cases h1 : 0 < ln
      · by_cases h2 : ln < 3
        · have HF := hide (HBAD.out (by cases hq : matchOk (b, ln, d) with | false => rfl | true => have := (HIF.out.1 hq h1).1.1; dsimp only at this; omega))
          clear HBAD HOK HIF
          go_wp2
          go_ret
          rw [HF.out]
          exact ⟨rfl, rfl⟩
        · have h2d : decide (ln < 3) = false := decide_eq_false h2
          by_cases h3 : 258 < ln
          · have HF := hide (HBAD.out (by cases hq : matchOk (b, ln, d) with | false => rfl | true => have := (HIF.out.1 hq h1).1.2; dsimp only at this; omega))
            clear HBAD HOK HIF
            go_wp2
            go_ret
            rw [HF.out]
            exact ⟨rfl, rfl⟩
          · have h3d : decide (258 < ln) = false := decide_eq_false h3
            by_cases h4 : d < 1
            · have HF := hide (HBAD.out (by cases hq : matchOk (b, ln, d) with | false => rfl | true => have := (HIF.out.1 hq h1).2.1; dsimp only at this; omega))
              clear HBAD HOK HIF
              go_wp2
              go_ret
              rw [HF.out]
              exact ⟨rfl, rfl⟩
            · have h4d : decide (d < 1) = false := decide_eq_false h4
              by_cases h5 : 32768 < d
              · have HF := hide (HBAD.out (by cases hq : matchOk (b, ln, d) with | false => rfl | true => have := (HIF.out.1 hq h1).2.2; dsimp only at this; omega))
                clear HBAD HOK HIF
                go_wp2
                go_ret
                rw [HF.out]
                exact ⟨rfl, rfl⟩
              · have h5d : decide (32768 < d) = false := decide_eq_false h5
                have HGO := hide (HOK.out (HIF.out.2 (fun _ => by dsimp only; omega)))
                clear HBAD HOK HIF
                go_wp2
                go_round
                case rel => exact ⟨j + 1, hlt, by go_num, HGO⟩
                case measure => exact meas_oneW j n hlt
      · have h1d : decide (0 < ln) = false := decide_eq_false h1
        have HGO := hide (HOK.out (HIF.out.2 (fun h => absurd h h1)))
        clear HBAD HOK HIF
        go_wp2
        go_round
        case rel => exact ⟨j + 1, hlt, by go_num, HGO⟩
        case measure => exact meas_oneW j n hlt
    · have hj2 : j = n := by omega
      subst hj2
      have zj : ¬ (j : Int) < (j : Int) := by omega
      have HF := hide (show R = decide (j ≤ 200) by
        have hg := HG.out
        rw [← HN.out, List.take_length] at hg
        rw [← HRB.out]
        unfold rightB
        rw [List.all_eq_true.2 hg, Bool.true_and, HN.out])
      by_cases h2 : j ≤ 200
      · have z2 : (j : Int) ≤ 200 := by omega
        have HF2 := hide (HF.out.trans (decide_eq_true h2))
        go_wp2
        go_ret
        rw [HF2.out]
        exact ⟨rfl, rfl⟩
      · have z2 : ¬ (j : Int) ≤ 200 := by omega
        have HF2 := hide (HF.out.trans (decide_eq_false h2))
        go_wp2
        go_ret
        rw [HF2.out]
        exact ⟨rfl, rfl⟩

set_option maxHeartbeats 4000000 in
theorem same_any9 (l : List Nat) (n : Nat) (pa pb : Option Addr) (ca cb : Nat) (W : World) (hn : l.length = n) (ha : ArgN W pa l) (hb : ArgN W pb l) (la : n ≤ 1000000) :
    Calls Try.prog 24 #[.slice pa n ca, .slice pb n cb] W fun e w' => e = .returned (.bool true) ∧ Below W.heap.size W w' := by
  have HA := hide ha
  have HB := hide hb
  have HN := hide hn
  have B0 := hide (Below.refl W.heap.size W)
  clear ha hb hn
  go_enter Try.func24, Try.ntmps24
  go_wp2
  go_loopw [5] (fun i wr => ∃ j : Nat, j ≤ n ∧ i = .int .i64 j ∧ Hid (Below W.heap.size W wr)) (fun i _ => n - (intOf i).toNat)
  case atStart => exact ⟨0, Nat.zero_le _, rfl, B0⟩
  case round =>
    obtain ⟨j, hj, rfl, BB⟩ := hrel
    by_cases hlt : j < n
    · obtain ⟨u, hu⟩ : ∃ r, l[j]? = some r := ⟨_, List.getElem?_eq_getElem (by rw [HN.out]; exact hlt)⟩
      obtain ⟨x, offx, rfl, hx, hcx⟩ := HA.out j _ hu
      obtain ⟨y, offy, rfl, hy, hcy⟩ := HB.out j _ hu
      have _c1 := (BB.out.cell (p := ⟨x, offx + j, none⟩) hx).trans hcx
      have _c2 := (BB.out.cell (p := ⟨y, offy + j, none⟩) hy).trans hcy
      have z1 : (j : Int) < n := by omega
      have HLT := hide hlt
      clear hx hy hcx hcy hj hlt hu
      go_wp2
      go_quiet (fail)
      go_wp2
      go_roundw
      case rel => exact ⟨j + 1, HLT.out, by go_num, hide (below_drewN BB.out _)⟩
      case measure => exact meas_oneW j _ HLT.out
    · have hje : j = n := by omega
      subst hje
      go_wp2
      go_ret
      exact ⟨rfl, BB.out⟩

end Go.Proofs.Ytejckmmlbncgnaa
