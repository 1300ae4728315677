/- Slices of tokens and of texts, as the walk meets them. -/
import Derived.Test.YtpgkmbakohfpkaaIRow
import Derived.Laws.Tables
namespace Go.Proofs.Ytpgkmbakohfpkaa
open Go.RowKit Go.Lib

theorem Try.tokInfo : (Try.prog.info? 45).map (fun i => (i.zero, i.size, i.bytes)) = some (some (.agg #[.int .i64 0, .int .i64 0, .int .u8 0]), 3, 24) := by kernel_rfl
theorem Try.tokElem : Try.prog.elem 34 = 45 := by kernel_rfl
theorem Try.tokUnder : Try.prog.underlying 34 = some (.slice (Try.prog.elem 34)) := by rw [Try.tokElem]; exact Try.underlying34
theorem size_tok (w : World) : (sizeOf (Try.prog.elem 34)).run Try.prog w = .ok 3 w := by
  obtain ⟨i1, ki, _, kz1, _⟩ := info_parts Try.tokInfo
  rw [Try.tokElem]
  simp [sizeOf, typeInfo, ki, kz1]
theorem slice_to (a : Option Addr) (n c k : Nat) (hk : k ≤ c) (w : World) : (Instr.slice 34 (.slice a n c) none (some (.int .i64 (k : Nat))) none).run Try.prog w = .ok (.slice a k c) w := by
  rw [run_slice_h (P := Try.prog) w 34 a n c Try.tokUnder .i64 (k : Int) (by omega) (by omega), size_tok]
  cases a with
  | none => simp [Result.andThen, sliced]
  | some x => simp [Result.andThen, sliced, Addr.add]
/-- Where what is left of a slice lies. -/
def leftA (a : Option Addr) (c k : Nat) : Option Addr := if c = k then a else a.map (·.add (k * 3))
theorem slice_from (a : Option Addr) (n c k : Nat) (hk : k ≤ n) (w : World) : (Instr.slice 34 (.slice a n c) (some (.int .i64 (k : Nat))) none none).run Try.prog w = .ok (.slice (leftA a c k) (n - k) (c - k)) w := by
  rw [run_slice_l (P := Try.prog) w 34 a n c Try.tokUnder .i64 (k : Int) (by omega) (by omega), size_tok]
  simp only [Result.andThen, sliced, Int.toNat_natCast]
  rfl

/-- A part of a text. -/
def subB (s : ByteArray) (i n : Nat) : ByteArray := ⟨((s.data.toList.drop i).take n).toArray⟩
theorem ext_sub (s : ByteArray) (i n : Nat) : s.extract i (i + n) = subB s i n := by
  apply ByteArray.ext
  apply Array.toList_inj.1
  rw [ByteArray.data_extract, Array.toList_extract, List.extract_eq_take_drop, show i + n - i = n by omega]
  rfl
theorem text_sub (s : ByteArray) (i n : Nat) (h : i + n ≤ s.size) (w : World) : (Instr.slice 9 (.string s) (some (.int .i64 (i : Nat))) (some (.int .i64 ((i : Int) + (n : Int)))) none).run Try.prog w = .ok (.string (subB s i n)) w := by
  rw [run_slice_string (P := Try.prog) w 9 s .i64 .i64 (i : Int) ((i : Int) + (n : Int)) Try.underlying9 (by omega) (by omega) (by omega)]
  rw [← ext_sub, Int.toNat_natCast, show ((i : Int) + (n : Int)).toNat = i + n by omega]
theorem text_all (s : ByteArray) (w : World) : (Instr.slice 9 (.string s) none (some (.int .i64 (s.size : Nat))) none).run Try.prog w = .ok (.string s) w := by
  rw [run_slice_string_h (P := Try.prog) w 9 s Try.underlying9 .i64 (s.size : Int) (by omega) (by omega)]
  simp
theorem text_none (s : ByteArray) (w : World) : (Instr.slice 9 (.string s) (some (.int .i64 (s.size : Nat))) none none).run Try.prog w = .ok (.string ⟨#[]⟩) w := by
  rw [run_slice_string_l (P := Try.prog) w 9 s Try.underlying9 .i64 (s.size : Int) (by omega) (by omega)]
  simp
  rfl

end Go.Proofs.Ytpgkmbakohfpkaa
