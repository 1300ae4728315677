/- Contracts of the pile's methods of layer 4: Less, Swap. -/
import Derived.Test.YtihgdlnnfhpdcaaWCost
import Derived.Test.YtihgdlnnfhpdcaaWHeap
namespace Go.Proofs.Ytihgdlnnfhpdcaa
open Go.RowKit Go.Lib

theorem own_nodeP {w : World} {B g cap : Nat} {e : TypeId} {l : List (Nat × Int)} {j : Nat} (h : w.ownsRow B e 2 (.slice (some ⟨g, 0, none⟩) l.length cap) l.length (nodeCs l)) (hj : j < l.length) :
    w.cell? ⟨g, j * 2, none⟩ = some (.int .i64 ((atP l j).1 : Int)) ∧ w.cell? ⟨g, j * 2 + 1, none⟩ = some (.int .i64 (atP l j).2) ∧ w.frozen? ⟨g, j * 2, none⟩ = false ∧ w.frozen? ⟨g, j * 2 + 1, none⟩ = false := by
  have hg := nodeCs_get l j _ _ (atP_some hj)
  refine ⟨?_, ?_, h.frozenAt _, h.frozenAt _⟩
  · rw [h.cellAt (j * 2) (by omega)]; exact hg.1
  · rw [h.cellAt (j * 2 + 1) (by omega)]; exact hg.2

theorem ltPB_weight (a b : Nat) (x y : Int) (h : a ≠ b) : ltPB (a, x) (b, y) = decide ((a : Int) < b) := by
  unfold ltPB
  by_cases h2 : a < b
  · simp [h2]
  · simp [h2, h]
theorem ltPB_made (a : Nat) (x y : Int) : ltPB (a, x) (a, y) = decide (x < y) := by simp [ltPB]

set_option maxHeartbeats 1000000 in
theorem less_any (g n cap B : Nat) (d : List (Nat × Int)) (i j : Nat) (w : World) (hn : d.length = n) (ho : w.ownsRow B 44 2 (.slice (some ⟨g, 0, none⟩) n cap) n (nodeCs d)) (hi : i < n) (hj : j < n) (r : Bool) (hr : ltPB (atP d i) (atP d j) = r) :
    Calls Try.prog 46 #[.slice (some ⟨g, 0, none⟩) n cap, .int .i64 (i : Int), .int .i64 (j : Int)] w fun e w' => e = .returned (.bool r) ∧ ∃ q, w' = w.drewN q := by
  subst hn
  subst hr
  obtain ⟨c1, c2, _, _⟩ := own_nodeP ho hi
  obtain ⟨c3, c4, _, _⟩ := own_nodeP ho hj
  have zi : (i : Int) < d.length := by omega
  have zj : (j : Int) < d.length := by omega
  clear ho
  generalize atP d i = p at *
  generalize atP d j = q at *
  obtain ⟨a, x⟩ := p
  obtain ⟨b, y⟩ := q
  dsimp only at c1 c2 c3 c4
  by_cases h : a = b
  · subst h
    have HL := hide (ltPB_made a x y)
    go_enter Try.func46, Try.ntmps46
    go_wp2_with fail
    go_quiet (fail)
    go_wp2_with fail
    go_quiet (fail)
    go_wp2
    go_ret
    exact ⟨by rw [HL.out]; rfl, _, World.drewN_drewN ..⟩
  · have HL := hide (ltPB_weight a b x y h)
    have hb : ((a : Int) == (b : Int)) = false := by simp; omega
    go_enter Try.func46, Try.ntmps46
    go_wp2_with fail
    go_quiet (fail)
    go_wp2_with fail
    go_quiet (fail)
    go_wp2
    go_ret
    exact ⟨by rw [HL.out]; simp, _, World.drewN_drewN ..⟩


theorem nodeCs_put (l : List (Nat × Int)) : ∀ (i w : Nat) (u : Int), ((nodeCs l).set (i * 2) (.int .i64 (w : Int))).set (i * 2 + 1) (.int .i64 u) = nodeCs (l.set i (w, u)) := by
  induction l with
  | nil => intro i w u; rfl
  | cons p l ih =>
    intro i w u
    cases i with
    | zero => rfl
    | succ i =>
      rw [show (i + 1) * 2 = i * 2 + 1 + 1 by omega, nodeCs_cons, List.set_cons_succ, List.set_cons_succ, List.set_cons_succ, List.set_cons_succ, ih i w u]
      rfl

theorem own_put {w : World} {B g cap n : Nat} {e : TypeId} {l : List (Nat × Int)} (h : w.ownsRow B e 2 (.slice (some ⟨g, 0, none⟩) n cap) n (nodeCs l)) (i a : Nat) (u : Int) :
    ((w.setCell ⟨g, i * 2, none⟩ (.int .i64 (a : Int))).setCell ⟨g, i * 2 + 1, none⟩ (.int .i64 u)).ownsRow B e 2 (.slice (some ⟨g, 0, none⟩) n cap) n (nodeCs (l.set i (a, u))) := by
  rw [← nodeCs_put]
  exact ((h.stored _ _).1.stored _ _).1

set_option maxHeartbeats 1000000 in
theorem swap_any (g n cap B : Nat) (d : List (Nat × Int)) (i j : Nat) (w : World) (hn : d.length = n) (ho : w.ownsRow B 44 2 (.slice (some ⟨g, 0, none⟩) n cap) n (nodeCs d)) (hi : i < n) (hj : j < n) :
    Calls Try.prog 47 #[.slice (some ⟨g, 0, none⟩) n cap, .int .i64 (i : Int), .int .i64 (j : Int)] w fun e w' => e = .returned (.tuple #[]) ∧ Only g w w' ∧ w'.ownsRow B 44 2 (.slice (some ⟨g, 0, none⟩) n cap) n (nodeCs (swp d i j)) := by
  subst hn
  obtain ⟨c1, c2, f1, f2⟩ := own_nodeP ho hi
  obtain ⟨c3, c4, f3, f4⟩ := own_nodeP ho hj
  have zi : (i : Int) < d.length := by omega
  have zj : (j : Int) < d.length := by omega
  have HO := hide ho
  clear ho
  obtain ⟨⟨a, x⟩, hp⟩ : ∃ p, atP d i = p := ⟨_, rfl⟩
  obtain ⟨⟨b, y⟩, hq⟩ : ∃ q, atP d j = q := ⟨_, rfl⟩
  rw [hp] at c1 c2
  rw [hq] at c3 c4
  have HP := hide hp
  have HQ := hide hq
  dsimp only at c1 c2 c3 c4
  clear hp hq
  have HE : Hid (swp d i j = (d.set i (b, y)).set j (a, x)) := hide (by unfold swp; rw [HP.out, HQ.out])
  by_cases h : i = j
  · subst h
    have hab : a = b := by have := HP.out.symm.trans HQ.out; injection this
    have hxy : x = y := by have := HP.out.symm.trans HQ.out; injection this
    subst hab
    subst hxy
    clear c3 c4 f3 f4 zj
    go_enter Try.func47, Try.ntmps47
    go_wp2_with fail
    go_region
    go_wp2
    go_end0
    refine ⟨rfl, ((((Only.setCell g _ _ _).trans (Only.setCell g _ _ _)).trans (Only.setCell g _ _ _)).trans (Only.setCell g _ _ _)).trans (Only.drewN g _ 1), ?_⟩
    rw [HE.out]
    exact own_put (own_put HO.out i a x) i a x
  · go_enter Try.func47, Try.ntmps47
    go_wp2_with fail
    go_region
    go_wp2
    go_end0
    refine ⟨rfl, ((((Only.setCell g _ _ _).trans (Only.setCell g _ _ _)).trans (Only.setCell g _ _ _)).trans (Only.setCell g _ _ _)).trans (Only.drewN g _ 1), ?_⟩
    rw [HE.out]
    exact own_put (own_put HO.out i b y) j a x

set_option maxHeartbeats 1000000 in
theorem len_any (a : Option Addr) (n cap : Nat) (w : World) :
    Calls Try.prog 45 #[.slice a n cap] w fun e w' => e = .returned (.int .i64 (n : Int)) ∧ w = w' := by
  go_enter Try.func45, Try.ntmps45
  go_wp2
  go_ret
  exact ⟨rfl, rfl⟩

theorem load_box (P : Nat) (v : Value) (w : World) (hc : w.cell? ⟨P, 0, none⟩ = some v) : (loadVar 35 ⟨P, 0, none⟩).run Try.prog w = .ok v w := by
  have h : (isAgg 35).run Try.prog w = .ok false w := by kernel_rfl
  simp [loadVar, Sem.run_bind, h, hc]
theorem wrap_nil (ts : Array TypeId) (t : TypeId) (a : Addr) (s m : String) (w : World) : (Builtin.ssaWrapNilChk_ ts t #[.pointer (some a), strVal s, strVal m]).run Try.prog w = .ok (.pointer (some a)) w := rfl
theorem meth_of (name : String) (f k : Nat) (hm : (Try.prog.info? 42).bind (fun i => (i.methods.find? (·.name == name)).map fun m => (m.path.size, m.func)) = some (0, some (f, false)))
    (P : Nat) (v : Value) (w : World) (hc : w.cell? ⟨P, 0, none⟩ = some v) : (method (k + 1) 42 (.pointer (some ⟨P, 0, none⟩)) name).run Try.prog w = .ok (f, v) w := by
  cases hi : Try.prog.info? 42 with
  | none => simp [hi] at hm
  | some i =>
    cases hm2 : i.methods.find? (·.name == name) with
    | none => simp [hi, hm2] at hm
    | some m =>
      have hm3 : m.path.size = 0 ∧ m.func = some (f, false) := by simpa [hi, hm2] using hm
      obtain ⟨hp, hf⟩ := hm3
      have hp2 : m.path = #[] := Array.eq_empty_of_size_eq_zero hp
      have hu : (underlying 42).run Try.prog w = .ok (.pointer 35) w := run_underlying Try.underlying42 w
      unfold method
      simp [Sem.run_bind, typeInfo, hi, hm2, hp2, hf, follow, receiverAt, hu, Place.get, wrap_nil, asAddr, load_box P v w hc]
theorem meth_len (P : Nat) (v : Value) (w : World) (hc : w.cell? ⟨P, 0, none⟩ = some v) : (method 173 42 (.pointer (some ⟨P, 0, none⟩)) "Len").run Try.prog w = .ok (45, v) w :=
  meth_of _ _ _ (by kernel_rfl) P v w hc
theorem meth_less (P : Nat) (v : Value) (w : World) (hc : w.cell? ⟨P, 0, none⟩ = some v) : (method 173 42 (.pointer (some ⟨P, 0, none⟩)) "Less").run Try.prog w = .ok (46, v) w :=
  meth_of _ _ _ (by kernel_rfl) P v w hc
theorem meth_swap (P : Nat) (v : Value) (w : World) (hc : w.cell? ⟨P, 0, none⟩ = some v) : (method 173 42 (.pointer (some ⟨P, 0, none⟩)) "Swap").run Try.prog w = .ok (47, v) w :=
  meth_of _ _ _ (by kernel_rfl) P v w hc
theorem meth_pop (P : Nat) (w : World) : (method 173 42 (.pointer (some ⟨P, 0, none⟩)) "Pop").run Try.prog w = .ok (48, .pointer (some ⟨P, 0, none⟩)) w := by kernel_rfl
theorem meth_push (P : Nat) (w : World) : (method 173 42 (.pointer (some ⟨P, 0, none⟩)) "Push").run Try.prog w = .ok (49, .pointer (some ⟨P, 0, none⟩)) w := by kernel_rfl

end Go.Proofs.Ytihgdlnnfhpdcaa
