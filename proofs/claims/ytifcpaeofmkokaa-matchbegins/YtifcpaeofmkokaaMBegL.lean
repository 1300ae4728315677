/- MatchBegins, the walk: what the first tokens come to is the beginning of what all do. -/
import Derived.Test.YtifcpaeofmkokaaMExpL
namespace Go.Proofs.Ytifcpaeofmkokaa
open Go.RowKit Go.Lib Go.Deep

theorem strOf_size (l : List Nat) : (strOf l).size = l.length := by
  show (l.map UInt8.ofNat).toArray.size = _
  simp
theorem strOf_cut (a b : List Nat) : (strOf (a ++ b)).extract 0 (strOf a).size = strOf a := by
  apply ByteArray.ext
  apply Array.ext'
  rw [ByteArray.data_extract, Array.toList_extract, List.extract_eq_take_drop, strOf_size, Nat.sub_zero, List.drop_zero]
  show ((a ++ b).map UInt8.ofNat).take a.length = a.map UInt8.ofNat
  rw [List.map_append, List.take_append_of_le_length (by simp), List.take_of_length_le (by simp)]
theorem ArgT.take {w : World} {a : Option Addr} {l : List (Nat × Int × Int)} (h : ArgT w a l) (k : Nat) : ArgT w a (l.take k) := by
  intro i t hx
  rw [List.getElem?_take] at hx
  split at hx
  · exact h i t hx
  · cases hx

set_option maxRecDepth 20000 in
set_option maxHeartbeats 4000000 in
theorem mbeg_big (n u : Nat) (a : Option Addr) (cap : Nat) (W : World) (h : 100 < n) :
    Calls Try.prog 7 #[.slice a n cap, .int .u8 (u : Int)] W fun e w' => e = .returned (.bool true) ∧ Below W.heap.size W w' := by
  have hz : (100 : Int) < n := by omega
  clear h
  go_enter Try.func7, Try.ntmps7
  go_wp2_with fail
  refine (mawake_any _).mono ?_
  rintro e w1 ⟨rfl, b1⟩
  have B1 := hide b1
  clear b1
  go_wp2
  go_ret
  exact ⟨rfl, B1.out⟩

set_option maxRecDepth 20000 in
set_option maxHeartbeats 4000000 in
theorem mbeg_small (l : List (Nat × Int × Int)) (a : Option Addr) (cap u : Nat) (W : World) (harg : ArgT W a l) (hl : l.length ≤ 100) (hcap : l.length ≤ cap) (hu : u < 256) :
    Calls Try.prog 7 #[.slice a l.length cap, .int .u8 (u : Int)] W fun e w' => e = .returned (.bool true) ∧ Below W.heap.size W w' := by
  obtain ⟨k, hk⟩ : ∃ k, u % (l.length + 1) = k := ⟨_, rfl⟩
  have hkl : k ≤ l.length := by have := Nat.mod_lt u (show 0 < l.length + 1 by omega); omega
  have HE := hide (expand_any l a cap 20000 W harg (by omega) (by decide) (by decide))
  have HT := hide (fun w' (h : ArgT w' a (l.take k)) => expand_any (l.take k) a cap 20000 w' h (by rw [List.length_take]; omega) (by decide) (by decide))
  have HA := hide harg
  have HBG := hide (ex_begins 5 6 (by decide) (by decide) 20000 (l.take k) (l.drop k) [] (exF 5 6 20000 [] l).1)
  rw [List.take_append_drop] at HBG
  have HER := hide (ex_err 5 6 20000 l [])
  unfold ExPost at HE HT
  rw [List.length_take, Nat.min_eq_left hkl] at HT
  obtain ⟨⟨S, q⟩, hS⟩ : ∃ r, exF 5 6 20000 [] l = r := ⟨_, rfl⟩
  obtain ⟨⟨T, r⟩, hT⟩ : ∃ r, exF 5 6 20000 [] (l.take k) = r := ⟨_, rfl⟩
  rw [hS] at HE HBG HER
  rw [hT] at HT HBG
  dsimp only at HE HT HBG HER
  obtain ⟨m, hm⟩ : ∃ m, l.length = m := ⟨_, rfl⟩
  rw [hm] at HE hl hcap hkl hk ⊢
  have hz : ¬ (100 : Int) < m := by omega
  have zk : (u : Int) % ((m : Int) + 1) = (k : Int) := by have h := Int.natCast_emod u (m + 1); rw [hk] at h; rw [h]; rfl
  have zu : (u : Int) ≤ 255 := by omega
  have zkm : (k : Int) ≤ m := by omega
  have zkc : (k : Int) ≤ cap := by omega
  have hkc : k ≤ cap := by omega
  clear harg hm hS hT hk
  go_enter Try.func7, Try.ntmps7
  go_wp2_with fail
  refine HE.out.mono ?_
  rintro e w1 ⟨rfl, b1⟩
  have HA1 := hide ((HA.out.below b1 (Nat.le_refl _)).take k)
  have B1 := hide b1
  clear b1
  go_wp2_with fail
  refine (HT.out _ HA1.out).mono ?_
  rintro e w2 ⟨rfl, b2⟩
  have B2 := hide (B1.out.trans (b2.mono B1.out.size))
  clear b2
  by_cases q0 : q = 0
  · subst q0
    obtain ⟨T2, r2, e1, e2⟩ := HBG.out rfl
    injection e1 with e3 e4
    subst e3
    subst e4
    subst e2
    have HCUT := hide (strOf_cut T r2)
    have hs1 := strOf_size T
    have hs2 : (strOf (T ++ r2)).size = T.length + r2.length := by rw [strOf_size, List.length_append]
    obtain ⟨x, hx⟩ : ∃ x, strOf T = x := ⟨_, rfl⟩
    obtain ⟨y, hy⟩ : ∃ y, strOf (T ++ r2) = y := ⟨_, rfl⟩
    rw [hx] at HCUT hs1 ⊢
    rw [hy] at HCUT hs2 ⊢
    have hle : x.size ≤ y.size := by omega
    have zle : ((x.size : Nat) : Int) ≤ ((y.size : Nat) : Int) := by omega
    have hcut := HCUT.out
    clear hx hy hs1 hs2
    go_wp2_with fail
    refine (mawake_any _).mono ?_
    rintro e w3 ⟨rfl, b3⟩
    have B3 := hide (B2.out.trans (b3.mono B2.out.size))
    clear b3
    go_wp2
    go_ret
    exact ⟨rfl, B3.out⟩
  · have bq : ((q : Int) == 0) = false := by simp; exact q0
    have hS0 : S = [] := HER.out q0
    subst hS0
    have est : strOf [] = ByteArray.empty := rfl
    rw [est]
    clear q0
    go_wp2_with fail
    refine (mawake_any _).mono ?_
    rintro e w3 ⟨rfl, b3⟩
    have B3 := hide (B2.out.trans (b3.mono B2.out.size))
    clear b3
    go_wp2
    go_ret
    exact ⟨rfl, B3.out⟩

theorem matchBegins_walk {H : Type} {enc : TypeId × Value → H} {d : DataW H} {p : List MemPlace} {base : Nat} (W : World) (v : Value) (hv : Value.okWide Try.prog W .any base 24 v) (h : DataW.Trod enc Try.prog W 0 (fun _ => true) true 24 v d p) (u : Int) (wu : (Lit.int .u8 u).wf = true) :
    Calls Try.prog 7 #[v, .int .u8 u] W fun e w' => e = .returned (.bool true) ∧ Below W.heap.size W w' := by
  obtain ⟨a, cap, l, rfl, harg, hcap, _⟩ := open_argT hv h
  have hb := bounds_u8 wu
  obtain ⟨u, rfl⟩ := Int.eq_ofNat_of_zero_le hb.1
  by_cases hl : 100 < l.length
  · exact mbeg_big _ u a cap W hl
  · exact mbeg_small l a cap u W harg (by omega) hcap (by omega)

end Go.Proofs.Ytifcpaeofmkokaa
