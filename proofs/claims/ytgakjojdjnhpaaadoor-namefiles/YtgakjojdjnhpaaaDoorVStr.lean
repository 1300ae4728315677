/- strings.HasSuffix, strings.Contains at one byte: the kit's contracts, laid by this program's numbers. -/
import Derived.Test.YtgakjojdjnhpaaaDoorRows
import Derived.Test.YtgakjojdjnhpaaaDoorVMath
import Derived.Shelf.Strings.Prefix
import Derived.Shelf.Strings.Search3
namespace Go.Proofs.YtgakjojdjnhpaaaDoor
open Go.RowKit Go.Lib Go.Shelf

def Tryd.laysSuf_ren : Go.Shelf.Ren := ⟨fun | 100 => 19 | 207 => 22 | n => n, fun | 3 => 3 | 4 => 4 | 9 => 9 | n => n, fun n => n⟩
theorem Tryd.laysSuf : Go.Proofs.Lays.n100 Tryd.prog Tryd.laysSuf_ren := {
  mixed := by kernel_rfl
  f100 := Tryd.func19.trans (congrArg some (by kernel_rfl))
  f207 := Tryd.func22.trans (congrArg some (by kernel_rfl))
  t3 := Tryd.underlying3
  a3 := Tryd.isAgg3
  z3 := Tryd.sizeOf3
  v3 := Tryd.zeroValue3
  t4 := Tryd.underlying4
  a4 := Tryd.isAgg4
  z4 := Tryd.sizeOf4
  v4 := Tryd.zeroValue4
  t9 := Tryd.underlying9
  a9 := Tryd.isAgg9
  z9 := Tryd.sizeOf9
  v9 := Tryd.zeroValue9 }
def Tryd.laysCon_ren : Go.Shelf.Ren := ⟨fun | 143 => 23 | 144 => 20 | 217 => 26 | 219 => 25 | 224 => 28 | 225 => 27 | 266 => 30 | 267 => 29 | 314 => 31 | n => n, fun | 3 => 3 | 4 => 4 | 5 => 5 | 9 => 9 | 46 => 32 | 51 => 36 | 146 => 37 | n => n, fun | 1 => 2 | n => n⟩
theorem Tryd.laysCon : Go.Proofs.Lays.n144 Tryd.prog Tryd.laysCon_ren := {
  mixed := by kernel_rfl
  f143 := Tryd.func23.trans (congrArg some (by kernel_rfl))
  f144 := Tryd.func20.trans (congrArg some (by kernel_rfl))
  f217 := Tryd.func26.trans (congrArg some (by kernel_rfl))
  f219 := Tryd.func25.trans (congrArg some (by kernel_rfl))
  f224 := Tryd.func28.trans (congrArg some (by kernel_rfl))
  f225 := Tryd.func27.trans (congrArg some (by kernel_rfl))
  f266 := Tryd.func30.trans (congrArg some (by kernel_rfl))
  f267 := Tryd.func29.trans (congrArg some (by kernel_rfl))
  f314 := Tryd.func31.trans (congrArg some (by kernel_rfl))
  t3 := Tryd.underlying3
  a3 := Tryd.isAgg3
  z3 := Tryd.sizeOf3
  v3 := Tryd.zeroValue3
  t4 := Tryd.underlying4
  a4 := Tryd.isAgg4
  z4 := Tryd.sizeOf4
  v4 := Tryd.zeroValue4
  t5 := Tryd.underlying5
  a5 := Tryd.isAgg5
  z5 := Tryd.sizeOf5
  v5 := Tryd.zeroValue5
  t9 := Tryd.underlying9
  a9 := Tryd.isAgg9
  z9 := Tryd.sizeOf9
  v9 := Tryd.zeroValue9
  t46 := Tryd.underlying32
  a46 := Tryd.isAgg32
  z46 := Tryd.sizeOf32
  v46 := Tryd.zeroValue32
  t51 := Tryd.underlying36
  a51 := Tryd.isAgg36
  z51 := Tryd.sizeOf36
  v51 := Tryd.zeroValue36
  t146 := Tryd.underlying37
  a146 := Tryd.isAgg37
  z146 := Tryd.sizeOf37
  v146 := Tryd.zeroValue37
  g1 := by kernel_rfl }

theorem index_has : ∀ (l : List UInt8) (c : UInt8), decide (0 ≤ Lib.indexByte l c) = l.contains c
  | [], _ => rfl
  | b :: l, c => by
    have ih := index_has l c
    have hg := indexByte_ge l c
    rw [List.contains_cons]
    unfold Lib.indexByte
    by_cases h : b = c
    · subst h
      rw [beq_self_eq_true, if_pos rfl]
      rfl
    · have h1 : (b == c) = false := beq_eq_false_iff_ne.2 h
      have h2 : (c == b) = false := beq_eq_false_iff_ne.2 (fun e => h e.symm)
      rw [h1, h2, if_neg (by decide), Bool.false_or, ← ih]
      by_cases h3 : Lib.indexByte l c = -1
      · rw [h3]; decide
      · have h4 : (Lib.indexByte l c == -1) = false := beq_eq_false_iff_ne.2 h3
        rw [h4, if_neg (by decide), decide_eq_true (show 0 ≤ Lib.indexByte l c + 1 by omega), decide_eq_true (show 0 ≤ Lib.indexByte l c by omega)]
/-- strings.Contains(s, "/"). -/
theorem slash_any (s : ByteArray) (w : World) :
    Calls Tryd.prog 20 #[.string s, .string ⟨#[47]⟩] w fun e w' => e = .returned (.bool (s.data.toList.contains 47)) ∧ w = w' := by
  refine (Any.strings_Contains_one Tryd.laysCon s 47 w).mono ?_
  rintro e w' ⟨rfl, rfl⟩
  exact ⟨by rw [index_has], rfl⟩
/-- strings.HasSuffix. -/
theorem suffix_any (s : ByteArray) (p : List UInt8) (w : World) (hs : s.size ≤ 9223372036854775807) :
    Calls Tryd.prog 19 #[.string s, .string ⟨p.toArray⟩] w fun e w' => e = .returned (.bool (hasSuffix s.data.toList p)) ∧ w = w' := by
  refine (Any.strings_HasSuffix Tryd.laysSuf s ⟨p.toArray⟩ w hs).mono ?_
  rintro e w' ⟨rfl, rfl⟩
  exact ⟨rfl, rfl⟩
theorem suffix_drop {l : List UInt8} {n : Nat} (hn : l.length = n) (_h : 4 ≤ n) : hasSuffix l zipL = decide (l.drop (n - 4) = zipL) := by
  subst hn
  unfold hasSuffix
  rw [Bool.eq_iff_iff, List.isSuffixOf_iff_suffix, decide_eq_true_eq, List.suffix_iff_eq_drop]
  exact eq_comm

end Go.Proofs.YtgakjojdjnhpaaaDoor
