/- Contract of container/heap's 'up' over the pile of layer 4. -/
import Derived.Test.YtihgdlnnfhpdcaaWDown
namespace Go.Proofs.Ytihgdlnnfhpdcaa
open Go.RowKit Go.Lib

/-- The way up, at j. -/
structure Ups (w W : World) (B P g n cap : Nat) (d0 d : List (Nat × Int)) (j : Nat) : Prop where
  pile : PileAt w B P (.slice (some ⟨g, 0, none⟩) n cap) d
  only : Only g W w
  perm : d.Perm d0
  up : HpUp d n j

def Upped (w W : World) (B P g n cap : Nat) (d0 : List (Nat × Int)) : Prop :=
  ∃ d, PileAt w B P (.slice (some ⟨g, 0, none⟩) n cap) d ∧ Only g W w ∧ d.Perm d0 ∧ HpFrom d 0 n

theorem Ups.form {w W : World} {B P g n cap : Nat} {d0 d : List (Nat × Int)} {j : Nat} (h : Ups w W B P g n cap d0 d j) (hn : d0.length = n) : d.length = n ∧ w.ownsRow B 44 2 (.slice (some ⟨g, 0, none⟩) n cap) n (nodeCs d) := by
  have hl : d.length = n := by rw [h.perm.length_eq]; exact hn
  refine ⟨hl, ?_⟩
  have := h.pile.own
  rw [hl] at this
  exact this

theorem Ups.done {w W : World} {B P g n cap : Nat} {d0 d : List (Nat × Int)} {j : Nat} (h : Ups w W B P g n cap d0 d j) (q : Nat) (hp : HpFrom d 0 n) : Upped (w.drewN q) W B P g n cap d0 :=
  ⟨d, h.pile.drewN q, h.only.trans (Only.drewN _ _ _), h.perm, hp⟩

theorem Ups.next {w w2 W : World} {B P g n cap : Nat} {d0 d : List (Nat × Int)} {i j q : Nat} (h : Ups w W B P g n cap d0 d j) (hi : Chi i j) (hj : j < n) (hl : ltP (atP d j) (atP d i)) (hn : d.length = n)
    (o : Only g (w.drewN q) w2) (ho : w2.ownsRow B 44 2 (.slice (some ⟨g, 0, none⟩) n cap) d.length (nodeCs (swp d i j))) : Ups w2 W B P g n cap d0 (swp d i j) i := by
  have hij : i < j := by unfold Chi at hi; omega
  exact ⟨(h.pile.drewN q).turned o (swp_length _ _ _) ho, h.only.trans ((Only.drewN _ _ _).trans o), (swp_perm d i j (by omega) (by omega)).trans h.perm, h.up.step hi hj hl (by omega)⟩

theorem meas_up (i j : Nat) (h : i < j) : (intOf (.int .i64 (i : Int))).toNat < (intOf (.int .i64 (j : Int))).toNat := by
  show ((i : Nat) : Int).toNat < ((j : Nat) : Int).toNat
  omega

theorem par_quo (j i : Nat) (h : j = 2 * i + 1 ∨ j = 2 * i + 2) (hj : j ≤ 1024) : ((j : Int) - 1).tdiv 2 = (i : Int) ∧ ((j : Int) - 1) / 2 = (i : Int) := by
  constructor
  · rw [Int.tdiv_eq_ediv_of_nonneg (by omega)]; omega
  · omega

set_option maxRecDepth 20000 in
set_option maxHeartbeats 4000000 in
theorem up_any (P g n cap B j0 : Nat) (d0 : List (Nat × Int)) (W : World) (h0 : PileAt W B P (.slice (some ⟨g, 0, none⟩) n cap) d0) (hn : d0.length = n) (hn2 : n ≤ 1024) (hj0 : j0 < n) (hp : HpUp d0 n j0) :
    Calls Try.prog 28 #[.iface 42 (.pointer (some ⟨P, 0, none⟩)), .int .i64 (j0 : Int)] W fun e w' => e = .returned (.tuple #[]) ∧ Hid (Upped w' W B P g n cap d0) := by
  have HS := hide (show Ups W W B P g n cap d0 d0 j0 from ⟨h0, Only.refl _ _, List.Perm.refl _, hp⟩)
  have HN := hide hn
  clear h0 hp hn
  go_enter Try.func28, Try.ntmps28
  go_wp2
  go_loopw [1] (fun jv wr => ∃ (j : Nat) (d : List (Nat × Int)), j < n ∧ jv = .int .i64 j ∧ Hid (Ups wr W B P g n cap d0 d j)) (fun jv _ => (intOf jv).toNat)
  case atStart => exact ⟨j0, d0, hj0, rfl, HS⟩
  case round =>
    obtain ⟨j, d, hj, rfl, HD⟩ := hrel
    by_cases h1 : j = 0
    · subst h1
      have HF := hide (HD.out.done 0 HD.out.up.top)
      go_wp2
      go_end0
      exact ⟨rfl, HF⟩
    · obtain ⟨hdl, hown⟩ := HD.out.form HN.out
      have hml : (method 173 42 (.pointer (some ⟨P, 0, none⟩)) "Less").run Try.prog wr = .ok (46, .slice (some ⟨g, 0, none⟩) n cap) wr := meth_less P _ _ HD.out.pile.cell
      have hms : ∀ q, (method 173 42 (.pointer (some ⟨P, 0, none⟩)) "Swap").run Try.prog (wr.drewN q) = .ok (47, .slice (some ⟨g, 0, none⟩) n cap) (wr.drewN q) := fun q => meth_swap P _ _ (HD.out.pile.drewN q).cell
      have HDL := hide hdl
      obtain ⟨i, hi⟩ : ∃ i, j = 2 * i + 1 ∨ j = 2 * i + 2 := ⟨(j - 1) / 2, by omega⟩
      have HCH := hide (show Chi i j from hi)
      obtain ⟨e1, e2⟩ := par_quo j i hi (by omega)
      have hij : i < j := by omega
      have b1 : ((i : Int) == (j : Int)) = false := by simp; omega
      have HCL := hide (fun (r : Bool) (hr : ltPB (atP d j) (atP d i) = r) => less_any g n cap B d j i wr hdl hown hj (by omega) r hr)
      have HCS := hide (fun (q : Nat) => swap_any g n cap B d i j (wr.drewN q) hdl hown (by omega) hj)
      clear hdl hown hi
      have z1 : (1 : Int) ≤ j := by omega
      have z2 : (j : Int) ≤ 1024 := by omega
      have w1 : IntKind.i64.wrap ((j : Int) - 1) = (j : Int) - 1 := by rw [IntKind.wrap_i64]; omega
      obtain ⟨r2, hr2⟩ : ∃ r, ltPB (atP d j) (atP d i) = r := ⟨_, rfl⟩
      have HR2 := hide hr2
      clear hr2
      go_wp2_with fail
      refine (HCL.out r2 HR2.out).mono ?_
      rintro e w1 ⟨rfl, q2, rfl⟩
      cases r2 with
      | false =>
        have HF := hide (HD.out.done q2 (HD.out.up.stop HCH.out ((ltPB_no _ _).1 HR2.out)))
        go_wp2
        go_end0
        exact ⟨rfl, HF⟩
      | true =>
        go_wp2_with fail
        refine (HCS.out q2).mono ?_
        rintro e w2 ⟨rfl, o2, ho2⟩
        have HNX := hide (HD.out.next HCH.out hj ((ltPB_iff _ _).1 HR2.out) HDL.out o2 (by rw [HDL.out]; exact ho2))
        clear o2 ho2
        go_wp2
        go_roundw
        case rel => exact ⟨i, _, by omega, rfl, HNX⟩
        case measure => exact meas_up i j hij

end Go.Proofs.Ytihgdlnnfhpdcaa
