/- What the program's layer 12 must be; the document's examples; the statements' 'awake'. -/
import Derived.Test.YtgakjojdjnhpaaaDoorVUtf
import Derived.Test.YtgakjojdjnhpaaaDoorVMath
namespace Go.Proofs.YtgakjojdjnhpaaaDoor
open Go.RowKit Go.Lib

/-- The contracts of the program's calls. -/
structure NSpec : Prop where
  right : ∀ (s : ByteArray) (W : World), Tabs W → s.size ≤ 3000 → Calls Tryd.prog 8 #[.string s] W fun e w' => e = .returned (.bool (rightN s.data.toList)) ∧ Below W.heap.size W w'
  note : ∀ (s : ByteArray) (W : World), Tabs W → s.size ≤ 3000 → Calls Tryd.prog 10 #[.string s] W fun e w' => e = .returned (.bool (noteN s.data.toList)) ∧ Below W.heap.size W w'
  file : ∀ (s : ByteArray) (W : World), Tabs W → s.size ≤ 3000 → Calls Tryd.prog 14 #[.string s] W fun e w' => e = .returned (.bool (fileN s.data.toList)) ∧ Below W.heap.size W w'

/-- Ascii's contract, apart: not every statement's program has the call. -/
structure NSpecA : Prop where
  ascii : ∀ (s : ByteArray) (W : World), s.size ≤ 3000 → Calls Tryd.prog 12 #[.string s] W fun e w' => e = .returned (.bool (asciiN s.data.toList)) ∧ Below W.heap.size W w'

theorem ex12_0 : rightN (⟨#[97, 47, 98, 46, 116, 120, 116]⟩ : ByteArray).data.toList = true := by decide +kernel
theorem ex12_1 : rightN (⟨#[]⟩ : ByteArray).data.toList = false := by decide +kernel
theorem ex12_2 : rightN (⟨#[47, 97]⟩ : ByteArray).data.toList = false := by decide +kernel
theorem ex12_3 : rightN (⟨#[97, 47, 46, 46, 47, 98]⟩ : ByteArray).data.toList = false := by decide +kernel
theorem ex12_4 : rightN (⟨#[97, 47, 47, 98]⟩ : ByteArray).data.toList = false := by decide +kernel
theorem ex12_5 : rightN (⟨#[97, 47]⟩ : ByteArray).data.toList = false := by decide +kernel
theorem ex12_6 : rightN (⟨#[97, 92, 98]⟩ : ByteArray).data.toList = false := by decide +kernel
theorem ex12_7 : rightN (⟨#[99, 58, 97]⟩ : ByteArray).data.toList = false := by decide +kernel
theorem ex12_8 : rightN (⟨#[195, 169]⟩ : ByteArray).data.toList = true := by decide +kernel
theorem ex12_9 : rightN (⟨#[233]⟩ : ByteArray).data.toList = false := by decide +kernel
theorem ex12_10 : noteN (⟨#[]⟩ : ByteArray).data.toList = true := by decide +kernel
theorem ex12_11 : noteN (⟨#[10]⟩ : ByteArray).data.toList = false := by decide +kernel
theorem ex12_12 : asciiN (⟨#[97]⟩ : ByteArray).data.toList = true := by decide +kernel
theorem ex12_13 : asciiN (⟨#[195, 169]⟩ : ByteArray).data.toList = false := by decide +kernel
theorem ex12_14 : fileN (⟨#[97, 46, 122, 105, 112]⟩ : ByteArray).data.toList = true := by decide +kernel
theorem ex12_15 : fileN (⟨#[97, 46, 116, 97, 114]⟩ : ByteArray).data.toList = false := by decide +kernel
theorem ex12_16 : fileN (⟨#[98, 47, 97, 46, 122, 105, 112]⟩ : ByteArray).data.toList = false := by decide +kernel
theorem ex12_17 : fileN (⟨#[46, 122, 105, 112]⟩ : ByteArray).data.toList = false := by decide +kernel

set_option maxRecDepth 20000 in
set_option maxHeartbeats 16000000 in
theorem awake12_any (C : NSpec) (D : NSpecA) (W : World) (hT : Tabs W) :
    Calls Tryd.prog 7 #[] W fun e w' => e = .returned (.bool true) ∧ Below W.heap.size W w' := by
  have HC := hide C
  have HD := hide D
  have HT := hide hT
  have B0 := hide (Below.refl W.heap.size W)
  clear C D hT
  go_enter Tryd.func7, Tryd.ntmps7
  go_wp2_with fail
  refine (HC.out.right ⟨#[97, 47, 98, 46, 116, 120, 116]⟩ _ (HT.out.from B0.out) (by decide)).mono ?_
  rintro e w1 ⟨rfl, b⟩
  rw [ex12_0]
  have B1 := hide (B0.out.trans (b.mono B0.out.size))
  clear b
  go_wp2_with fail
  refine (HC.out.right ⟨#[]⟩ _ (HT.out.from B1.out) (by decide)).mono ?_
  rintro e w2 ⟨rfl, b⟩
  rw [ex12_1]
  have B2 := hide (B1.out.trans (b.mono B1.out.size))
  clear b
  go_wp2_with fail
  refine (HC.out.right ⟨#[47, 97]⟩ _ (HT.out.from B2.out) (by decide)).mono ?_
  rintro e w3 ⟨rfl, b⟩
  rw [ex12_2]
  have B3 := hide (B2.out.trans (b.mono B2.out.size))
  clear b
  go_wp2_with fail
  refine (HC.out.right ⟨#[97, 47, 46, 46, 47, 98]⟩ _ (HT.out.from B3.out) (by decide)).mono ?_
  rintro e w4 ⟨rfl, b⟩
  rw [ex12_3]
  have B4 := hide (B3.out.trans (b.mono B3.out.size))
  clear b
  go_wp2_with fail
  refine (HC.out.right ⟨#[97, 47, 47, 98]⟩ _ (HT.out.from B4.out) (by decide)).mono ?_
  rintro e w5 ⟨rfl, b⟩
  rw [ex12_4]
  have B5 := hide (B4.out.trans (b.mono B4.out.size))
  clear b
  go_wp2_with fail
  refine (HC.out.right ⟨#[97, 47]⟩ _ (HT.out.from B5.out) (by decide)).mono ?_
  rintro e w6 ⟨rfl, b⟩
  rw [ex12_5]
  have B6 := hide (B5.out.trans (b.mono B5.out.size))
  clear b
  go_wp2_with fail
  refine (HC.out.right ⟨#[97, 92, 98]⟩ _ (HT.out.from B6.out) (by decide)).mono ?_
  rintro e w7 ⟨rfl, b⟩
  rw [ex12_6]
  have B7 := hide (B6.out.trans (b.mono B6.out.size))
  clear b
  go_wp2_with fail
  refine (HC.out.right ⟨#[99, 58, 97]⟩ _ (HT.out.from B7.out) (by decide)).mono ?_
  rintro e w8 ⟨rfl, b⟩
  rw [ex12_7]
  have B8 := hide (B7.out.trans (b.mono B7.out.size))
  clear b
  go_wp2_with fail
  refine (HC.out.right ⟨#[195, 169]⟩ _ (HT.out.from B8.out) (by decide)).mono ?_
  rintro e w9 ⟨rfl, b⟩
  rw [ex12_8]
  have B9 := hide (B8.out.trans (b.mono B8.out.size))
  clear b
  go_wp2_with fail
  refine (HC.out.right ⟨#[233]⟩ _ (HT.out.from B9.out) (by decide)).mono ?_
  rintro e w10 ⟨rfl, b⟩
  rw [ex12_9]
  have B10 := hide (B9.out.trans (b.mono B9.out.size))
  clear b
  go_wp2_with fail
  refine (HC.out.note ⟨#[]⟩ _ (HT.out.from B10.out) (by decide)).mono ?_
  rintro e w11 ⟨rfl, b⟩
  rw [ex12_10]
  have B11 := hide (B10.out.trans (b.mono B10.out.size))
  clear b
  go_wp2_with fail
  refine (HC.out.note ⟨#[10]⟩ _ (HT.out.from B11.out) (by decide)).mono ?_
  rintro e w12 ⟨rfl, b⟩
  rw [ex12_11]
  have B12 := hide (B11.out.trans (b.mono B11.out.size))
  clear b
  go_wp2_with fail
  refine (HD.out.ascii ⟨#[97]⟩ _ (by decide)).mono ?_
  rintro e w13 ⟨rfl, b⟩
  rw [ex12_12]
  have B13 := hide (B12.out.trans (b.mono B12.out.size))
  clear b
  go_wp2_with fail
  refine (HD.out.ascii ⟨#[195, 169]⟩ _ (by decide)).mono ?_
  rintro e w14 ⟨rfl, b⟩
  rw [ex12_13]
  have B14 := hide (B13.out.trans (b.mono B13.out.size))
  clear b
  go_wp2_with fail
  refine (HC.out.file ⟨#[97, 46, 122, 105, 112]⟩ _ (HT.out.from B14.out) (by decide)).mono ?_
  rintro e w15 ⟨rfl, b⟩
  rw [ex12_14]
  have B15 := hide (B14.out.trans (b.mono B14.out.size))
  clear b
  go_wp2_with fail
  refine (HC.out.file ⟨#[97, 46, 116, 97, 114]⟩ _ (HT.out.from B15.out) (by decide)).mono ?_
  rintro e w16 ⟨rfl, b⟩
  rw [ex12_15]
  have B16 := hide (B15.out.trans (b.mono B15.out.size))
  clear b
  go_wp2_with fail
  refine (HC.out.file ⟨#[98, 47, 97, 46, 122, 105, 112]⟩ _ (HT.out.from B16.out) (by decide)).mono ?_
  rintro e w17 ⟨rfl, b⟩
  rw [ex12_16]
  have B17 := hide (B16.out.trans (b.mono B16.out.size))
  clear b
  go_wp2_with fail
  refine (HC.out.file ⟨#[46, 122, 105, 112]⟩ _ (HT.out.from B17.out) (by decide)).mono ?_
  rintro e w18 ⟨rfl, b⟩
  rw [ex12_17]
  have B18 := hide (B17.out.trans (b.mono B17.out.size))
  clear b
  go_wp2
  go_ret
  exact ⟨rfl, B18.out⟩

end Go.Proofs.YtgakjojdjnhpaaaDoor
