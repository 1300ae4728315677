/- Contract of container/heap's 'down' over the pile of layer 4. -/
import Derived.Test.YtihgdlnnfhpdcaaWPile
namespace Go.Proofs.Ytihgdlnnfhpdcaa
open Go.RowKit Go.Lib

/-- A pile: its box P holds the slice v, which has the nodes d. -/
structure PileAt (w : World) (B P : Nat) (v : Value) (d : List (Nat × Int)) : Prop where
  box : w.heap[P]? = some (.cells #[v] 35 (0, 0))
  own : w.ownsRow B 44 2 v d.length (nodeCs d)
  ne : v.ownBlock ≠ some P

theorem PileAt.cell {w : World} {B P : Nat} {v : Value} {d : List (Nat × Int)} (h : PileAt w B P v d) : w.cell? ⟨P, 0, none⟩ = some v := by
  rw [cell_of_row _ _ 0 _ _ (0, 0) h.box]
  rfl
theorem PileAt.frozen {w : World} {B P : Nat} {v : Value} {d : List (Nat × Int)} (h : PileAt w B P v d) : w.frozen? ⟨P, 0, none⟩ = false := by
  simp [World.frozen?, h.box]
theorem PileAt.drewN {w : World} {B P : Nat} {v : Value} {d : List (Nat × Int)} (h : PileAt w B P v d) (q : Nat) : PileAt (w.drewN q) B P v d := ⟨h.box, h.own, h.ne⟩
theorem PileAt.turned {w w' : World} {B P g n cap : Nat} {d d' : List (Nat × Int)} (h : PileAt w B P (.slice (some ⟨g, 0, none⟩) n cap) d) (o : Only g w w') (hd : d'.length = d.length)
    (ho : w'.ownsRow B 44 2 (.slice (some ⟨g, 0, none⟩) n cap) d.length (nodeCs d')) : PileAt w' B P (.slice (some ⟨g, 0, none⟩) n cap) d' :=
  ⟨by rw [o.block P (fun e => h.ne (by rw [e]; rfl))]; exact h.box, by rw [hd]; exact ho, h.ne⟩

/-- The way down, at i. -/
structure Downs (w W : World) (B P g n cap : Nat) (d0 d : List (Nat × Int)) (i0 m i : Nat) : Prop where
  pile : PileAt w B P (.slice (some ⟨g, 0, none⟩) n cap) d
  only : Only g W w
  kept : Kept m d0 d
  but : HpBut d i0 m i
  le : i0 ≤ i

def Downed (w W : World) (B P g n cap : Nat) (d0 : List (Nat × Int)) (i0 m : Nat) : Prop :=
  ∃ d, PileAt w B P (.slice (some ⟨g, 0, none⟩) n cap) d ∧ Only g W w ∧ Kept m d0 d ∧ HpFrom d i0 m

theorem meas_down (i j m : Nat) (h : i < j) (hm : j < m) : m - (intOf (.int .i64 (j : Int))).toNat < m - (intOf (.int .i64 (i : Int))).toNat := by
  show m - ((j : Nat) : Int).toNat < m - ((i : Nat) : Int).toNat
  omega

/-- It returned whether. -/
def IsBool (e : Ending) : Prop := ∃ r, e = .returned (.bool r)

theorem Downs.form {w W : World} {B P g n cap : Nat} {d0 d : List (Nat × Int)} {i0 m i : Nat} (h : Downs w W B P g n cap d0 d i0 m i) (hn : d0.length = n) : d.length = n ∧ w.ownsRow B 44 2 (.slice (some ⟨g, 0, none⟩) n cap) n (nodeCs d) := by
  have hl : d.length = n := by rw [h.kept.len]; exact hn
  refine ⟨hl, ?_⟩
  have := h.pile.own
  rw [hl] at this
  exact this

theorem Downs.done {w W : World} {B P g n cap : Nat} {d0 d : List (Nat × Int)} {i0 m i : Nat} (h : Downs w W B P g n cap d0 d i0 m i) (q : Nat) (hp : HpFrom d i0 m) : Downed (w.drewN q) W B P g n cap d0 i0 m :=
  ⟨d, h.pile.drewN q, h.only.trans (Only.drewN _ _ _), h.kept, hp⟩

theorem Downs.next {w w2 W : World} {B P g n cap : Nat} {d0 d : List (Nat × Int)} {i0 m i j q : Nat} (h : Downs w W B P g n cap d0 d i0 m i) (hj : LeastChi d m i j) (hl : ltP (atP d j) (atP d i)) (hm : m ≤ d.length)
    (o : Only g (w.drewN q) w2) (ho : w2.ownsRow B 44 2 (.slice (some ⟨g, 0, none⟩) n cap) d.length (nodeCs (swp d i j))) : Downs w2 W B P g n cap d0 (swp d i j) i0 m j := by
  have hij : i < j := by have := hj.chi; unfold Chi at this; omega
  have hjm := hj.lt
  exact ⟨(h.pile.drewN q).turned o (swp_length _ _ _) ho, h.only.trans ((Only.drewN _ _ _).trans o), h.kept.trans (Kept.swp (by omega) hjm hm), h.but.step h.le hj hl hm, by have := h.le; omega⟩

theorem least_two {d : List (Nat × Int)} {m i j1 j2 : Nat} (h1 : 2 * i + 1 = j1) (h2 : j1 + 1 = j2) (h : j2 < m) (hl : ltPB (atP d j2) (atP d j1) = true) : LeastChi d m i j2 := by
  subst h1
  subst h2
  exact LeastChi.two h ((ltPB_iff _ _).1 hl)
theorem least_one {d : List (Nat × Int)} {m i j1 j2 : Nat} (h1 : 2 * i + 1 = j1) (h : j1 < m) (hl : m ≤ j2 ∨ ltPB (atP d j2) (atP d j1) = false) (h2 : j1 + 1 = j2) : LeastChi d m i j1 := by
  subst h1
  subst h2
  rcases hl with e | e
  · exact LeastChi.one h (.inl e)
  · exact LeastChi.one h (.inr ((ltPB_no _ _).1 e))
theorem less_drew (g n cap B : Nat) (d : List (Nat × Int)) (i j : Nat) (w : World) (q0 : Nat) (hn : d.length = n) (ho : w.ownsRow B 44 2 (.slice (some ⟨g, 0, none⟩) n cap) n (nodeCs d)) (hi : i < n) (hj : j < n) (r : Bool) (hr : ltPB (atP d i) (atP d j) = r) :
    Calls Try.prog 46 #[.slice (some ⟨g, 0, none⟩) n cap, .int .i64 (i : Int), .int .i64 (j : Int)] (w.drewN q0) fun e w' => e = .returned (.bool r) ∧ ∃ q, w' = w.drewN q :=
  (less_any g n cap B d i j (w.drewN q0) hn ho hi hj r hr).mono fun e w' h => ⟨h.1, by obtain ⟨_, q, rfl⟩ := h; exact ⟨_, World.drewN_drewN ..⟩⟩

set_option maxRecDepth 20000 in
set_option maxHeartbeats 4000000 in
theorem down_any (P g n cap B i0 m : Nat) (d0 : List (Nat × Int)) (W : World) (h0 : PileAt W B P (.slice (some ⟨g, 0, none⟩) n cap) d0) (hn : d0.length = n) (hm : m ≤ n) (hn2 : n ≤ 1024) (hi0 : i0 ≤ m) (hp : HpFrom d0 (i0 + 1) m) :
    Calls Try.prog 26 #[.iface 42 (.pointer (some ⟨P, 0, none⟩)), .int .i64 (i0 : Int), .int .i64 (m : Int)] W fun e w' => IsBool e ∧ Hid (Downed w' W B P g n cap d0 i0 m) := by
  have HS := hide (show Downs W W B P g n cap d0 d0 i0 m i0 from ⟨h0, Only.refl _ _, Kept.refl _ _, HpBut.start hp, Nat.le_refl _⟩)
  have HN := hide hn
  have HM := hide hm
  clear h0 hp hn
  go_enter Try.func26, Try.ntmps26
  go_wp2
  go_loopw [7] (fun iv wr => ∃ (i : Nat) (d : List (Nat × Int)), i ≤ m ∧ iv = .int .i64 i ∧ Hid (Downs wr W B P g n cap d0 d i0 m i)) (fun iv _ => m - (intOf iv).toNat)
  case atStart => exact ⟨i0, d0, hi0, rfl, HS⟩
  case round =>
    obtain ⟨i, d, hi, rfl, HD⟩ := hrel
    obtain ⟨j1, hj1⟩ : ∃ j1, 2 * i + 1 = j1 := ⟨_, rfl⟩
    have e1 : 2 * (i : Int) + 1 = (j1 : Int) := by omega
    have HJ1 := hide hj1
    by_cases h1 : j1 < m
    · obtain ⟨hdl, hown⟩ := HD.out.form HN.out
      have hml : ∀ q, (method 173 42 (.pointer (some ⟨P, 0, none⟩)) "Less").run Try.prog (wr.drewN q) = .ok (46, .slice (some ⟨g, 0, none⟩) n cap) (wr.drewN q) := fun q => meth_less P _ _ (HD.out.pile.drewN q).cell
      have hms : ∀ q, (method 173 42 (.pointer (some ⟨P, 0, none⟩)) "Swap").run Try.prog (wr.drewN q) = .ok (47, .slice (some ⟨g, 0, none⟩) n cap) (wr.drewN q) := fun q => meth_swap P _ _ (HD.out.pile.drewN q).cell
      have hml0 := hml 0
      rw [World.drewN_zero] at hml0
      have HDL := hide hdl
      have HCL := hide (fun (i j q : Nat) (hi : i < n) (hj : j < n) (r : Bool) (hr : ltPB (atP d i) (atP d j) = r) => less_drew g n cap B d i j wr q hdl hown hi hj r hr)
      have HCL0 := hide (fun (i j : Nat) (hi : i < n) (hj : j < n) (r : Bool) (hr : ltPB (atP d i) (atP d j) = r) => less_any g n cap B d i j wr hdl hown hi hj r hr)
      have HCS := hide (fun (i j q : Nat) (hi : i < n) (hj : j < n) => swap_any g n cap B d i j (wr.drewN q) hdl hown hi hj)
      clear hdl hown
      obtain ⟨j2, hj2⟩ : ∃ j2, j1 + 1 = j2 := ⟨_, rfl⟩
      have e2 : (j1 : Int) + 1 = (j2 : Int) := by omega
      have HJ2 := hide hj2
      have z1 : (j1 : Int) < m := by omega
      have z0 : ¬ (m ≤ j1) := by omega
      have y0 : decide ((m : Int) ≤ (j1 : Int)) = false := by simp; omega
      by_cases h2 : j2 < m
      · have z2 : (j2 : Int) < m := by omega
        have y2 : decide ((j2 : Int) < (m : Int)) = true := by simp; omega
        obtain ⟨r1, hr1⟩ : ∃ r, ltPB (atP d j2) (atP d j1) = r := ⟨_, rfl⟩
        have HR1 := hide hr1
        clear hr1 hj1 hj2
        go_wp2_with fail
        refine (HCL0.out j2 j1 (by omega) (by omega) r1 HR1.out).mono ?_
        rintro e w1 ⟨rfl, q1, rfl⟩
        cases r1 with
        | true =>
          have HLC := hide (show LeastChi d m i j2 from least_two HJ1.out HJ2.out h2 HR1.out)
          obtain ⟨r2, hr2⟩ : ∃ r, ltPB (atP d j2) (atP d i) = r := ⟨_, rfl⟩
          have HR2 := hide hr2
          clear hr2
          go_wp2_with fail
          refine (HCL.out j2 i q1 (by omega) (by omega) r2 HR2.out).mono ?_
          rintro e w1 ⟨rfl, q2, rfl⟩
          cases r2 with
          | false =>
            have HF := hide (HD.out.done q2 (HD.out.but.stop HLC.out ((ltPB_no _ _).1 HR2.out)))
            go_wp2
            go_ret
            exact ⟨⟨_, rfl⟩, HF⟩
          | true =>
            go_wp2_with fail
            refine (HCS.out i j2 q2 (by omega) (by omega)).mono ?_
            rintro e w2 ⟨rfl, o2, ho2⟩
            have HNX := hide (HD.out.next HLC.out ((ltPB_iff _ _).1 HR2.out) (by rw [HDL.out]; exact HM.out) o2 (by rw [HDL.out]; exact ho2))
            clear o2 ho2
            go_wp2
            go_roundw
            case rel => exact ⟨j2, _, by omega, rfl, HNX⟩
            case measure => exact meas_down i j2 m (by have := HJ1.out; omega) (by omega)
        | false =>
          have HLC := hide (show LeastChi d m i j1 from least_one HJ1.out h1 (.inr HR1.out) HJ2.out)
          obtain ⟨r2, hr2⟩ : ∃ r, ltPB (atP d j1) (atP d i) = r := ⟨_, rfl⟩
          have HR2 := hide hr2
          clear hr2
          go_wp2_with fail
          refine (HCL.out j1 i q1 (by omega) (by omega) r2 HR2.out).mono ?_
          rintro e w1 ⟨rfl, q2, rfl⟩
          cases r2 with
          | false =>
            have HF := hide (HD.out.done q2 (HD.out.but.stop HLC.out ((ltPB_no _ _).1 HR2.out)))
            go_wp2
            go_ret
            exact ⟨⟨_, rfl⟩, HF⟩
          | true =>
            go_wp2_with fail
            refine (HCS.out i j1 q2 (by omega) (by omega)).mono ?_
            rintro e w2 ⟨rfl, o2, ho2⟩
            have HNX := hide (HD.out.next HLC.out ((ltPB_iff _ _).1 HR2.out) (by rw [HDL.out]; exact HM.out) o2 (by rw [HDL.out]; exact ho2))
            clear o2 ho2
            go_wp2
            go_roundw
            case rel => exact ⟨j1, _, by omega, rfl, HNX⟩
            case measure => exact meas_down i j1 m (by have := HJ1.out; omega) (by omega)
      · have z2 : ¬ (j2 : Int) < m := by omega
        have y2 : decide ((j2 : Int) < (m : Int)) = false := by simp; omega
        clear hj1 hj2
        have HLC := hide (show LeastChi d m i j1 from least_one HJ1.out h1 (.inl (by omega)) HJ2.out)
        obtain ⟨r2, hr2⟩ : ∃ r, ltPB (atP d j1) (atP d i) = r := ⟨_, rfl⟩
        have HR2 := hide hr2
        clear hr2
        go_wp2_with fail
        refine (HCL0.out j1 i (by omega) (by omega) r2 HR2.out).mono ?_
        rintro e w1 ⟨rfl, q2, rfl⟩
        cases r2 with
        | false =>
          have HF := hide (HD.out.done q2 (HD.out.but.stop HLC.out ((ltPB_no _ _).1 HR2.out)))
          go_wp2
          go_ret
          exact ⟨⟨_, rfl⟩, HF⟩
        | true =>
          go_wp2_with fail
          refine (HCS.out i j1 q2 (by omega) (by omega)).mono ?_
          rintro e w2 ⟨rfl, o2, ho2⟩
          have HNX := hide (HD.out.next HLC.out ((ltPB_iff _ _).1 HR2.out) (by rw [HDL.out]; exact HM.out) o2 (by rw [HDL.out]; exact ho2))
          clear o2 ho2
          go_wp2
          go_roundw
          case rel => exact ⟨j1, _, by omega, rfl, HNX⟩
          case measure => exact meas_down i j1 m (by have := HJ1.out; omega) (by omega)
    · have z1 : ¬ (j1 : Int) < m := by omega
      have HF := hide (HD.out.done 0 (HD.out.but.leaf (by omega)))
      clear hj1
      go_wp2
      go_ret
      exact ⟨⟨_, rfl⟩, HF⟩

end Go.Proofs.Ytihgdlnnfhpdcaa
