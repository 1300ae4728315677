/- unicode/utf8.ValidString at this program: the kit's contract, laid by its numbers; the two tables that it reads. -/
import Derived.Test.YtgakjojdjnhpaaaDoorRows
import Derived.Test.YtgakjojdjnhpaaaDoorWorld
import Derived.Shelf.Unicode.ValidAny
import Derived.Lib.LaidU8T
import Derived.PinnedBridge
import Derived.MakeChecks
namespace Go.Proofs.YtgakjojdjnhpaaaDoor
open Go.RowKit Go.Lib Go.Shelf

def Tryd.laysValid_ren : Go.Shelf.Ren := ⟨fun | 196 => 21 | 259 => 24 | n => n, fun | 9 => 9 | 4 => 4 | 3 => 3 | 5 => 5 | 12 => 12 | 119 => 28 | 0 => 0 | 46 => 32 | 139 => 31 | 138 => 30 | 53 => 33 | n => n, fun | 3 => 0 | 4 => 1 | n => n⟩
theorem Tryd.laysValid : Go.Proofs.Lays.n196 Tryd.prog Tryd.laysValid_ren := {
  mixed := by kernel_rfl
  f196 := Tryd.func21.trans (congrArg some (by kernel_rfl))
  f259 := Tryd.func24.trans (congrArg some (by kernel_rfl))
  t0 := Tryd.underlying0
  a0 := Tryd.isAgg0
  z0 := Tryd.sizeOf0
  v0 := Tryd.zeroValue0
  t3 := Tryd.underlying3
  a3 := Tryd.isAgg3
  z3 := Tryd.sizeOf3
  v3 := Tryd.zeroValue3
  t4 := Tryd.underlying4
  a4 := Tryd.isAgg4
  z4 := Tryd.sizeOf4
  v4 := Tryd.zeroValue4
  t5 := Tryd.underlying5
  a5 := Tryd.isAgg5
  z5 := Tryd.sizeOf5
  v5 := Tryd.zeroValue5
  t9 := Tryd.underlying9
  a9 := Tryd.isAgg9
  z9 := Tryd.sizeOf9
  v9 := Tryd.zeroValue9
  t12 := Tryd.underlying12
  a12 := Tryd.isAgg12
  z12 := Tryd.sizeOf12
  v12 := Tryd.zeroValue12
  t46 := Tryd.underlying32
  a46 := Tryd.isAgg32
  z46 := Tryd.sizeOf32
  v46 := Tryd.zeroValue32
  t53 := Tryd.underlying33
  a53 := Tryd.isAgg33
  z53 := Tryd.sizeOf33
  v53 := Tryd.zeroValue33
  t119 := Tryd.underlying28
  a119 := Tryd.isAgg28
  z119 := Tryd.sizeOf28
  t138 := Tryd.underlying30
  a138 := Tryd.isAgg30
  z138 := Tryd.sizeOf30
  v138 := Tryd.zeroValue30
  t139 := Tryd.underlying31
  a139 := Tryd.isAgg31
  z139 := Tryd.sizeOf31
  v139 := Tryd.zeroValue31
  g3 := by kernel_rfl
  g4 := by kernel_rfl }

/-- The two tables of package utf8 lie as its initialisers lay them. -/
def Tabs (w : World) : Prop := Utf8Tabs 0 1 w
theorem Tabs.below {w w' : World} (h : Tabs w) (b : Below w.heap.size w w') : Tabs w' := Utf8Tabs_below h b
theorem Tabs.from {W w : World} (h : Tabs W) (b : Below W.heap.size W w) : Tabs w := Utf8Tabs_below h b
theorem valid_any (s : ByteArray) (w : World) (hs : s.size ≤ 9223372036854775807) (hT : Tabs w) :
    Calls Tryd.prog 21 #[.string s] w fun e w' => e = .returned (.bool (validD s.data.toList)) ∧ Below w.heap.size w w' :=
  Any.utf8_ValidString Tryd.laysValid s w hs hT
/-- What a row lists says so. -/
theorem tabs_of {W : World} {l : List (String × DataW Unit)} (hL : laidMetH Tryd.prog l W) (hp : l = [("unicode/utf8.acceptRanges", acceptData), ("unicode/utf8.first", firstData)]) : Tabs W := by
  subst hp
  rw [MakeChecks.laidMetH_plain _ _ _ (by kernel_rfl)] at hL
  exact utf8Tabs_of_readsT (U8Types.of196 Tryd.laysValid) ⟨by kernel_rfl, by kernel_rfl, by kernel_rfl, by kernel_rfl, by kernel_rfl, by kernel_rfl, by kernel_rfl⟩ (laidMet.reads hL (.tail _ (.head _))) (laidMet.reads hL (.head _))

end Go.Proofs.YtgakjojdjnhpaaaDoor
