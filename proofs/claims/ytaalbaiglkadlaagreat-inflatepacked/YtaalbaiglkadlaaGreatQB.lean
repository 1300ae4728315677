import Derived.Test.YtaalbaiglkadlaaGreatBitsA
import Derived.Deep.LoopGhost
/- Contracts of the document's Writer: Bit. -/
namespace Go.Proofs.YtaalbaiglkadlaaGreat
open Go.RowKit Go.Lib

section
variable {w : World} {p : Nat} {v : Value} {out : List UInt8} {N : Nat}
end
/-- What the document's writer sets. -/
theorem or_codeQ (x : UInt8) (k : Nat) (hk : k < 8) (b : Int) (hb : b % 2 = 1) : bits .or .u8 (x.toNat : Int) (2 ^ k % 256) = ((orBit x b k).toNat : Int) := by
  have h := or_code x b k hk
  rw [hb, Int.one_mul] at h
  exact h
end Go.Proofs.YtaalbaiglkadlaaGreat

/- Contracts of the document's Writer over lists of bits: Put, Turn, Align, Text, Bytes. -/
namespace Go.Proofs.YtaalbaiglkadlaaGreat
open Go.RowKit Go.Lib

theorem align_step (bs : List Bool) (h : bs.length % 8 ≠ 0) : alignBits (bs ++ [false]) = alignBits bs := by
  unfold alignBits
  rw [List.append_assoc]
  congr 1
  rw [List.length_append, List.length_singleton]
  obtain ⟨m, hm⟩ : ∃ m, (bs.length + 7) / 8 * 8 - bs.length = m + 1 := ⟨(bs.length + 7) / 8 * 8 - bs.length - 1, by omega⟩
  rw [hm, show (bs.length + 1 + 7) / 8 * 8 - (bs.length + 1) = m by omega]
  rfl
theorem align_done (bs : List Bool) (h : bs.length % 8 = 0) : alignBits bs = bs := by
  unfold alignBits
  rw [show (bs.length + 7) / 8 * 8 - bs.length = 0 by omega]
  simp

theorem byte_bits (x : UInt8) : lowBits ((x.toNat : Nat) : Int) 8 = (List.range 8).map fun j => x.toNat.testBit j := by
  unfold lowBits
  apply List.map_congr_left
  intro i hi
  rw [Nat.testBit_eq_decide_div_mod_eq]
  have e : ((x.toNat : Int) / 2 ^ i % 2) = ((x.toNat / 2 ^ i % 2 : Nat) : Int) := by
    rw [Int.natCast_emod, Int.natCast_ediv, Int.natCast_pow]
    rfl
  rw [e]
  apply decide_eq_decide.2
  omega
theorem bytes_snoc (l : List UInt8) (x : UInt8) : bytesBits (l ++ [x]) = bytesBits l ++ lowBits ((x.toNat : Nat) : Int) 8 := by
  rw [byte_bits]
  induction l with
  | nil => simp [bytesBits]
  | cons y l ih => rw [List.cons_append, bytesBits, ih, bytesBits, List.append_assoc]

def bAt (s : ByteArray) (i : Nat) : Nat := (s.data.toList.getD i 0).toNat
theorem bAt_get (s : ByteArray) (i : Nat) (h : i < s.size) : s[i].toNat = bAt s i := by
  unfold bAt
  have hk : i < s.data.toList.length := by simpa using h
  rw [List.getD_eq_getElem?_getD, List.getElem?_eq_getElem hk]
  rfl
theorem str_index (s : ByteArray) (i : Nat) (h : i < s.size) (w : World) : (Instr.index 9 (.string s) (.int .i64 (i : Nat))).run Tryz.prog w = .ok (.int .u8 (bAt s i : Nat)) w := by
  have hg := bAt_get s i h
  simp [Instr.index, asIntOf, run_underlying Tryz.underlying9, h, hg]

end Go.Proofs.YtaalbaiglkadlaaGreat
