/- What the program's layer 11 must be; the document's examples; the statements' 'awake'. -/
import Derived.Test.YtaalbaiglkadlaaGreatIB
import Derived.Test.YtaalbaiglkadlaaGreatBS
namespace Go.Proofs.YtaalbaiglkadlaaGreat
open Go.RowKit Go.Lib

/-- What opening gives. -/
def OpenPost (R : Except Int (List Nat × Nat)) (W : World) (e : Ending) (w' : World) : Prop := Below W.heap.size W w' ∧
  ((∃ o j, R = .ok (o, j) ∧ e = .returned (.tuple #[.string (strOf o), .int .i64 (((j + 7) / 8 : Nat) : Int), .int .i64 0])) ∨
   (∃ er, R = .error er ∧ er ≠ 0 ∧ e = .returned (.tuple #[.string { data := #[] }, .int .i64 0, .int .i64 er])))
/-- The same in one form. -/
def OpenIs (s : ByteArray) (limit : Int) (W : World) (e : Ending) (w' : World) : Prop :=
  e = .returned (.tuple #[.string (strOf (openO s limit)), .int .i64 (openN s limit : Nat), .int .i64 (openE s limit)]) ∧ (openE s limit = 0 → ∃ o j, openR s limit = .ok (o, j)) ∧ Below W.heap.size W w'
theorem OpenPost.is {s : ByteArray} {limit : Int} {W : World} {e : Ending} {w' : World} (h : OpenPost (openR s limit) W e w') : OpenIs s limit W e w' := by
  obtain ⟨hb, ⟨o, j, hR, rfl⟩ | ⟨er, hR, h0, rfl⟩⟩ := h
  · obtain ⟨h1, h2, h3⟩ := open_ok hR
    refine ⟨?_, fun _ => ⟨o, j, hR⟩, hb⟩
    rw [h1, h2, h3]
  · obtain ⟨h1, h2, h3⟩ := open_err hR
    refine ⟨?_, fun h => absurd (h3.symm.trans h) h0, hb⟩
    rw [h1, h2, h3]
    rfl
/-- The contract of the program's call. -/
structure ISpec : Prop where
  opens : ∀ (s : ByteArray) (limit : Int) (W : World), s.size ≤ 100000 → -9223372036854775808 ≤ limit → limit ≤ 1000000 → Calls Tryz.prog 8 #[.string s, .int .i64 limit] W fun e w' => OpenIs s limit W e w'

theorem ex11a : strOf (openO ⟨#[75, 4, 0, 120, 121, 122]⟩ 9) = ⟨#[97]⟩ ∧ openN ⟨#[75, 4, 0, 120, 121, 122]⟩ 9 = 3 ∧ openE ⟨#[75, 4, 0, 120, 121, 122]⟩ 9 = 0 := by decide +kernel
theorem ex11f : openE ⟨#[75]⟩ 9 = 2 := by decide +kernel
theorem ex11g : openE ⟨#[7]⟩ 9 = 3 := by decide +kernel
theorem ex11h : openE ⟨#[75, 4, 0]⟩ 0 = 6 := by decide +kernel
theorem ex11b : strOf (openO ⟨#[1, 2, 0, 253, 255, 97, 98]⟩ 9) = ⟨#[97, 98]⟩ ∧ openN ⟨#[1, 2, 0, 253, 255, 97, 98]⟩ 9 = 7 ∧ openE ⟨#[1, 2, 0, 253, 255, 97, 98]⟩ 9 = 0 := by decide +kernel
theorem ex11j : openE ⟨#[1, 2, 0, 253, 254, 97, 98]⟩ 9 = 3 := by decide +kernel

set_option maxRecDepth 20000 in
set_option maxHeartbeats 8000000 in
theorem awake11_any (C : ISpec) (W : World) :
    Calls Tryz.prog 6 #[] W fun e w' => e = .returned (.bool true) ∧ Below W.heap.size W w' := by
  have HC := hide C
  go_enter Tryz.func6, Tryz.ntmps6
  go_wp2_with fail
  refine (HC.out.opens ⟨#[75, 4, 0, 120, 121, 122]⟩ 9 _ (by decide) (by decide) (by decide)).mono ?_
  rintro e w1 ⟨rfl, _, b1⟩
  rw [ex11a.1, ex11a.2.1, ex11a.2.2]
  have B1 := hide b1
  clear b1
  go_wp2_with fail
  refine (HC.out.opens ⟨#[75]⟩ 9 _ (by decide) (by decide) (by decide)).mono ?_
  rintro e w2 ⟨rfl, _, b2⟩
  rw [ex11f]
  have B2 := hide (B1.out.trans (b2.mono B1.out.size))
  clear b2
  generalize strOf (openO ⟨#[75]⟩ 9) = y2
  generalize openN ⟨#[75]⟩ 9 = n2
  go_wp2_with fail
  refine (HC.out.opens ⟨#[7]⟩ 9 _ (by decide) (by decide) (by decide)).mono ?_
  rintro e w3 ⟨rfl, _, b3⟩
  rw [ex11g]
  have B3 := hide (B2.out.trans (b3.mono B2.out.size))
  clear b3
  generalize strOf (openO ⟨#[7]⟩ 9) = y3
  generalize openN ⟨#[7]⟩ 9 = n3
  go_wp2_with fail
  refine (HC.out.opens ⟨#[75, 4, 0]⟩ 0 _ (by decide) (by decide) (by decide)).mono ?_
  rintro e w4 ⟨rfl, _, b4⟩
  rw [ex11h]
  have B4 := hide (B3.out.trans (b4.mono B3.out.size))
  clear b4
  generalize strOf (openO ⟨#[75, 4, 0]⟩ 0) = y4
  generalize openN ⟨#[75, 4, 0]⟩ 0 = n4
  go_wp2_with fail
  refine (HC.out.opens ⟨#[1, 2, 0, 253, 255, 97, 98]⟩ 9 _ (by decide) (by decide) (by decide)).mono ?_
  rintro e w5 ⟨rfl, _, b5⟩
  rw [ex11b.1, ex11b.2.1, ex11b.2.2]
  have B5 := hide (B4.out.trans (b5.mono B4.out.size))
  clear b5
  go_wp2_with fail
  refine (HC.out.opens ⟨#[1, 2, 0, 253, 254, 97, 98]⟩ 9 _ (by decide) (by decide) (by decide)).mono ?_
  rintro e w6 ⟨rfl, _, b6⟩
  rw [ex11j]
  have B6 := hide (B5.out.trans (b6.mono B5.out.size))
  clear b6
  generalize strOf (openO ⟨#[1, 2, 0, 253, 254, 97, 98]⟩ 9) = y6
  generalize openN ⟨#[1, 2, 0, 253, 254, 97, 98]⟩ 9 = n6
  go_wp2
  go_ret
  exact ⟨rfl, B6.out⟩

end Go.Proofs.YtaalbaiglkadlaaGreat
