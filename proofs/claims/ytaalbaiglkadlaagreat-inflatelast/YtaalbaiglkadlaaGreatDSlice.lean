/- Slices of tokens and of texts, as the walk meets them. -/
import Derived.Test.YtaalbaiglkadlaaGreatIRow
import Derived.Laws.Tables
namespace Go.Proofs.YtaalbaiglkadlaaGreat
open Go.RowKit Go.Lib

theorem Tryz.tokInfo : (Tryz.prog.info? 58).map (fun i => (i.zero, i.size, i.bytes)) = some (some (.agg #[.int .i64 0, .int .i64 0, .int .u8 0]), 3, 24) := by kernel_rfl
theorem Tryz.tokElem : Tryz.prog.elem 38 = 58 := by kernel_rfl
theorem Tryz.tokUnder : Tryz.prog.underlying 38 = some (.slice (Tryz.prog.elem 38)) := by rw [Tryz.tokElem]; exact Tryz.underlying38
theorem size_tok (w : World) : (sizeOf (Tryz.prog.elem 38)).run Tryz.prog w = .ok 3 w := by
  obtain ⟨i1, ki, _, kz1, _⟩ := info_parts Tryz.tokInfo
  rw [Tryz.tokElem]
  simp [sizeOf, typeInfo, ki, kz1]
theorem slice_to (a : Option Addr) (n c k : Nat) (hk : k ≤ c) (w : World) : (Instr.slice 38 (.slice a n c) none (some (.int .i64 (k : Nat))) none).run Tryz.prog w = .ok (.slice a k c) w := by
  rw [run_slice_h (P := Tryz.prog) w 38 a n c Tryz.tokUnder .i64 (k : Int) (by omega) (by omega), size_tok]
  cases a with
  | none => simp [Result.andThen, sliced]
  | some x => simp [Result.andThen, sliced, Addr.add]
/-- Where what is left of a slice lies. -/
def leftA (a : Option Addr) (c k : Nat) : Option Addr := if c = k then a else a.map (·.add (k * 3))
theorem slice_from (a : Option Addr) (n c k : Nat) (hk : k ≤ n) (w : World) : (Instr.slice 38 (.slice a n c) (some (.int .i64 (k : Nat))) none none).run Tryz.prog w = .ok (.slice (leftA a c k) (n - k) (c - k)) w := by
  rw [run_slice_l (P := Tryz.prog) w 38 a n c Tryz.tokUnder .i64 (k : Int) (by omega) (by omega), size_tok]
  simp only [Result.andThen, sliced, Int.toNat_natCast]
  rfl

/-- A part of a text. -/
def subB (s : ByteArray) (i n : Nat) : ByteArray := ⟨((s.data.toList.drop i).take n).toArray⟩
theorem ext_sub (s : ByteArray) (i n : Nat) : s.extract i (i + n) = subB s i n := by
  apply ByteArray.ext
  apply Array.toList_inj.1
  rw [ByteArray.data_extract, Array.toList_extract, List.extract_eq_take_drop, show i + n - i = n by omega]
  rfl
theorem text_sub (s : ByteArray) (i n : Nat) (h : i + n ≤ s.size) (w : World) : (Instr.slice 9 (.string s) (some (.int .i64 (i : Nat))) (some (.int .i64 ((i : Int) + (n : Int)))) none).run Tryz.prog w = .ok (.string (subB s i n)) w := by
  rw [run_slice_string (P := Tryz.prog) w 9 s .i64 .i64 (i : Int) ((i : Int) + (n : Int)) Tryz.underlying9 (by omega) (by omega) (by omega)]
  rw [← ext_sub, Int.toNat_natCast, show ((i : Int) + (n : Int)).toNat = i + n by omega]
theorem text_all (s : ByteArray) (w : World) : (Instr.slice 9 (.string s) none (some (.int .i64 (s.size : Nat))) none).run Tryz.prog w = .ok (.string s) w := by
  rw [run_slice_string_h (P := Tryz.prog) w 9 s Tryz.underlying9 .i64 (s.size : Int) (by omega) (by omega)]
  simp
theorem text_none (s : ByteArray) (w : World) : (Instr.slice 9 (.string s) (some (.int .i64 (s.size : Nat))) none none).run Tryz.prog w = .ok (.string ⟨#[]⟩) w := by
  rw [run_slice_string_l (P := Tryz.prog) w 9 s Tryz.underlying9 .i64 (s.size : Int) (by omega) (by omega)]
  simp
  rfl
/-- What is left of a text. -/
def dropB (s : ByteArray) (i : Nat) : ByteArray := ⟨(s.data.toList.drop i).toArray⟩
theorem dropB_zero (s : ByteArray) : dropB s 0 = s := by
  apply ByteArray.ext
  show (s.data.toList.drop 0).toArray = s.data
  rw [List.drop_zero]
theorem dropB_size (s : ByteArray) (i : Nat) : (dropB s i).size = s.size - i := by
  show ((s.data.toList.drop i).toArray).size = _
  have : s.data.toList.length = s.size := by rw [Array.length_toList]; rfl
  rw [List.size_toArray, List.length_drop, this]
theorem dropB_drop (s : ByteArray) (i n : Nat) : dropB (dropB s i) n = dropB s (i + n) := by
  apply ByteArray.ext
  show ((s.data.toList.drop i).toArray.toList.drop n).toArray = (s.data.toList.drop (i + n)).toArray
  rw [List.toList_toArray, List.drop_drop]
theorem dropB_sub (s : ByteArray) (i n : Nat) : subB (dropB s i) 0 n = subB s i n := by
  apply ByteArray.ext
  show (((s.data.toList.drop i).toArray.toList.drop 0).take n).toArray = ((s.data.toList.drop i).take n).toArray
  rw [List.toList_toArray, List.drop_zero]
theorem text_to (s : ByteArray) (n : Nat) (h : n ≤ s.size) (w : World) : (Instr.slice 9 (.string s) none (some (.int .i64 (n : Nat))) none).run Tryz.prog w = .ok (.string (subB s 0 n)) w := by
  rw [run_slice_string_h (P := Tryz.prog) w 9 s Tryz.underlying9 .i64 (n : Int) (by omega) (by omega)]
  rw [← ext_sub, Nat.zero_add, Int.toNat_natCast]
theorem text_from (s : ByteArray) (n : Nat) (h : n ≤ s.size) (w : World) : (Instr.slice 9 (.string s) (some (.int .i64 (n : Nat))) none none).run Tryz.prog w = .ok (.string (dropB s n)) w := by
  rw [run_slice_string_l (P := Tryz.prog) w 9 s Tryz.underlying9 .i64 (n : Int) (by omega) (by omega)]
  have e : s.extract n s.size = dropB s n := by
    apply ByteArray.ext
    apply Array.toList_inj.1
    rw [ByteArray.data_extract, Array.toList_extract, List.extract_eq_take_drop]
    show (s.data.toList.drop n).take (s.size - n) = (s.data.toList.drop n)
    have hl : s.data.toList.length = s.size := by rw [Array.length_toList]; rfl
    rw [List.take_of_length_le (by rw [List.length_drop]; omega)]
  rw [Int.toNat_natCast, e]

end Go.Proofs.YtaalbaiglkadlaaGreat
