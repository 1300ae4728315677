/- What the program's layer 9 must be, in one structure; and the statements' small helpers: right, same. -/
import Derived.Test.YtpgkmbakohfpkaaBSize
namespace Go.Proofs.Ytpgkmbakohfpkaa
open Go.RowKit Go.Lib

def WriteRPost (W : World) (l : List (Nat × Int × Int)) (kind : Int) (last : Bool) (p : Nat) (v : Value) (bs : List Bool) (e : Ending) (w' : World) : Prop := e = .returned (.tuple #[]) ∧ ∃ ob v', BlockRel l kind last ob ∧ ob.length ≤ 200000 ∧ Wr w' p v' (bs ++ ob) ∧ Step p v v' W w'

/-- The contracts of the program's calls. -/
structure BSpec : Prop where
  plain : ∀ (W : World), Calls Try.prog 29 #[] W fun e w' => TwoN W plainL plainD e w'
  weights : ∀ (l : List (Nat × Int × Int)) (a : Option Addr) (cap : Nat) (W : World), ArgT W a l → (a = none → cap = 0) → (∀ t ∈ l, RightT t) → l.length ≤ 2000 → Calls Try.prog 36 #[.slice a l.length cap] W fun e w' => TwoN W (litWs l) (distWs l) e w'
  own : ∀ (l : List (Nat × Int × Int)) (a : Option Addr) (cap : Nat) (W : World), ArgT W a l → (a = none → cap = 0) → (∀ t ∈ l, RightT t) → l.length ≤ 2000 → Calls Try.prog 32 #[.slice a l.length cap] W fun e w' => TwoN W (ownLit l) (ownDist l) e w'
  write : ∀ (l : List (Nat × Int × Int)) (a : Option Addr) (cap : Nat) (kind : Int) (last : Bool) (p : Nat) (v : Value) (bs : List Bool) (W : World), Wr W p v bs → bs.length ≤ 500000 → KT p v W a l → (a = none → cap = 0) → (∀ t ∈ l, RightT t) → l.length ≤ 2000 → Calls Try.prog 23 #[.pointer (some ⟨p, 0, none⟩), .slice a l.length cap, .int .i64 kind, .bool last] W fun e w' => WriteRPost W l kind last p v bs e w'
  store : ∀ (p : Nat) (v : Value) (bs : List Bool) (s : ByteArray) (last : Bool) (W : World), Wr W p v bs → bs.length ≤ 500000 → s.size ≤ 65535 → Calls Try.prog 11 #[.pointer (some ⟨p, 0, none⟩), .string s, .bool last] W fun e w' => e = .returned (.tuple #[]) ∧ ∃ v', Wr w' p v' (storeAll bs s last) ∧ Step p v v' W w'
  size : ∀ (l : List (Nat × Int × Int)) (a : Option Addr) (cap : Nat) (raw kind k : Int) (W : World), ArgT W a l → (a = none → cap = 0) → (∀ t ∈ l, RightT t) → l.length ≤ 2000 → 0 ≤ k → k ≤ 1099511627776 → 0 ≤ kind → kind ≤ 2 → Calls Try.prog 28 #[.slice a l.length cap, .int .i64 raw, .int .i64 kind, .int .i64 k] W fun e w' => ∃ z, e = .returned (.int .i64 z) ∧ SizeRel l raw kind k z ∧ Below W.heap.size W w'
  choose : ∀ (l : List (Nat × Int × Int)) (a : Option Addr) (cap : Nat) (raw k : Int) (W : World), ArgT W a l → (a = none → cap = 0) → (∀ t ∈ l, RightT t) → l.length ≤ 2000 → 0 ≤ k → k ≤ 1099511627776 → Calls Try.prog 22 #[.slice a l.length cap, .int .i64 raw, .int .i64 k] W fun e w' => ∃ c, e = .returned (.int .i64 c) ∧ ChooseRel l raw k c ∧ Below W.heap.size W w'

/-- Matches that may be. -/
def matchOk (t : Nat × Int × Int) : Bool := !(decide (0 < t.2.1) && (decide (t.2.1 < 3) || decide (258 < t.2.1) || decide (t.2.2 < 1) || decide (32768 < t.2.2)))
def rightB (l : List (Nat × Int × Int)) : Bool := l.all matchOk && decide (l.length ≤ 200)
theorem matchOk_iff (t : Nat × Int × Int) : matchOk t = true ↔ (0 < t.2.1 → (3 ≤ t.2.1 ∧ t.2.1 ≤ 258) ∧ (1 ≤ t.2.2 ∧ t.2.2 ≤ 32768)) := by
  unfold matchOk
  simp only [Bool.not_eq_true', Bool.and_eq_false_iff, Bool.or_eq_false_iff, decide_eq_false_iff_not]
  omega
theorem right_all {l : List (Nat × Int × Int)} (h : rightB l = true) (hb : ∀ t ∈ l, t.1 < 256) : (∀ t ∈ l, RightT t) ∧ l.length ≤ 200 := by
  unfold rightB at h
  rw [Bool.and_eq_true, decide_eq_true_eq, List.all_eq_true] at h
  exact ⟨fun t ht => ⟨hb t ht, (matchOk_iff t).1 (h.1 t ht)⟩, h.2⟩

end Go.Proofs.Ytpgkmbakohfpkaa
