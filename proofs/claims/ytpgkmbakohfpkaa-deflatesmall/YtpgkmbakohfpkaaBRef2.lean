/- Contracts of the document's layer 9: Weights, cut, Own. -/
import Derived.Test.YtpgkmbakohfpkaaBRef
import Derived.Test.YtpgkmbakohfpkaaMA
namespace Go.Proofs.Ytpgkmbakohfpkaa
open Go.RowKit Go.Lib

theorem ln_val (n : Int) (h : 3 ≤ n ∧ n ≤ 258) : lnV n = .tuple #[.int .i64 ((257 + lnT n : Nat) : Int), .int .i64 (lenBits (lnT n) : Int), .int .i64 (n - (lenBase (lnT n) : Int)), .bool true] := by
  have h1 : lnOk n = true := by unfold lnOk; rw [decide_eq_true h.1, decide_eq_true h.2]; rfl
  unfold lnV lnS lnX lnE
  rw [h1, if_pos rfl, if_pos rfl, if_pos rfl, Int.natCast_add]
  rfl
theorem ds_val (n : Int) (h : 1 ≤ n ∧ n ≤ 32768) : dsV n = .tuple #[.int .i64 (dsT n : Int), .int .i64 (distBits (dsT n) : Int), .int .i64 (n - (distBase (dsT n) : Int)), .bool true] := by
  have h1 : dsOk n = true := by unfold dsOk; rw [decide_eq_true h.1, decide_eq_true h.2]; rfl
  unfold dsV dsS dsX dsE
  rw [h1, if_pos rfl, if_pos rfl, if_pos rfl]
theorem take_snocT (l : List (Nat × Int × Int)) (k : Nat) (t : Nat × Int × Int) (h : l[k]? = some t) : l.take (k + 1) = l.take k ++ [t] := by
  rw [List.take_add_one, h]
  rfl

theorem ArgN.take {w : World} {a : Option Addr} {l : List Nat} (h : ArgN w a l) (k : Nat) : ArgN w a (l.take k) := by
  intro i x hx
  rw [List.getElem?_take] at hx
  split at hx
  · exact h i x hx
  · cases hx

/-- A dynamic block's lengths. -/
def ownLit (l : List (Nat × Int × Int)) : List Nat := cutL (lens (litWs l)) 257
def ownDist (l : List (Nat × Int × Int)) : List Nat := cutL (lens (distWs l)) 1

theorem nat_back (l : List Nat) : (l.map fun (x : Nat) => (x : Int)).map Int.toNat = l := by
  rw [List.map_map]
  exact List.map_id'' (fun x => by simp) l
theorem goodW_nat (l : List Nat) (m : Nat) (h1 : 1 ≤ m) (h2 : m ≤ 15) (hl : l.length ≤ 512) (hx : ∀ x ∈ l, x ≤ 1000000) (hc : l.length ≤ 2 ^ m) : GoodW (l.map fun (x : Nat) => (x : Int)) (m : Int) := by
  refine ⟨by omega, by omega, by rw [List.length_map]; exact hl, ?_, ?_⟩
  · intro x hm
    obtain ⟨y, hy, rfl⟩ := List.mem_map.1 hm
    have := hx y hy
    omega
  · rw [nat_back, Int.toNat_natCast]
    exact Nat.le_trans (cntL_le l) hc

theorem litWs_mem (l : List (Nat × Int × Int)) (h : l.length ≤ 2000) : ∀ x ∈ litWs l, x ≤ 1000000 := by
  intro x hx
  obtain ⟨s, _, rfl⟩ := List.mem_map.1 hx
  have := wL_le l s
  omega
theorem distWs_mem (l : List (Nat × Int × Int)) (h : l.length ≤ 2000) : ∀ x ∈ distWs l, x ≤ 1000000 := by
  intro x hx
  obtain ⟨s, _, rfl⟩ := List.mem_map.1 hx
  have := wD_le l s
  omega
/-- What Lengths gives of weights that are few. -/
theorem lens_res {W w' : World} {ws : List Nat} {r : Value} (h : LenRes W (ws.map fun (x : Nat) => (x : Int)) 15 r w') (hs : ws.sum < 2584) (hl : ws.length ≤ 512) (hx : ∀ x ∈ ws, x ≤ 1000000) :
    ∃ g c, r = .tuple #[.slice g ws.length c, .int .i64 0] ∧ w'.ownsRow W.heap.size 3 1 (.slice g ws.length c) ws.length (natCs (lens ws)) := by
  have hg : GoodW (ws.map fun (x : Nat) => (x : Int)) 15 := goodW_nat ws 15 (by omega) (by omega) hl hx (by omega)
  rcases h with ⟨h1, _⟩ | ⟨_, v, out, rfl, h2, h3⟩
  · exact absurd hg h1
  · rw [nat_back] at h2
    have h2 : LimTo ws 15 out := h2
    rw [lim_lens hs h2, List.length_map] at h3
    rcases len_form h3 with ⟨e1, e2⟩ | ⟨g, c, e1⟩
    · rw [e1, ← e2] at h3 ⊢
      exact ⟨none, 0, by rw [e2], by rw [e2] at h3 ⊢; exact h3⟩
    · rw [e1] at h3 ⊢
      exact ⟨_, c, rfl, h3⟩
theorem lens_short (ws : List Nat) (h : ws.sum < 2584) : ∀ x ∈ lens ws, x ≤ 1000 := by
  intro x hx
  obtain ⟨s, _, rfl⟩ := List.mem_map.1 hx
  have := lens_fib ws h s
  omega
theorem own_new {w : World} {B n c : Nat} {a : Option Addr} {e : TypeId} {size : Nat} {xs : List Value} (h : w.ownsRow B e size (.slice a n c) n xs) : ∀ b off, a = some ⟨b, off, none⟩ → B ≤ b := by
  intro b off e1
  subst e1
  exact (h.lt b rfl).1
theorem own_capA {w : World} {B n c : Nat} {a : Option Addr} {e : TypeId} {size : Nat} {xs : List Value} (h : w.ownsRow B e size (.slice a n c) n xs) : n ≤ c ∧ (a = none → c = 0) := by
  rcases h.2 with ⟨e1, e2⟩ | ⟨g, cap, cur, e1, _, _, hn, _⟩
  · injection e1 with e3 e4 e5
    exact ⟨by omega, fun _ => e5⟩
  · injection e1 with e3 e4 e5
    subst e3 e5
    exact ⟨hn, fun e => by cases e⟩

end Go.Proofs.Ytpgkmbakohfpkaa
