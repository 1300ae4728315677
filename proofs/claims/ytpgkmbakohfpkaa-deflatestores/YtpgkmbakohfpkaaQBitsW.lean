/- Contracts of the document's Writer: Bit. -/
import Derived.Test.YtpgkmbakohfpkaaBitsA
namespace Go.Proofs.Ytpgkmbakohfpkaa
open Go.RowKit Go.Lib

section
variable {w : World} {p : Nat} {v : Value} {out : List UInt8} {N : Nat}
end
/-- What the document's writer sets. -/
theorem or_codeQ (x : UInt8) (k : Nat) (hk : k < 8) (b : Int) (hb : b % 2 = 1) : bits .or .u8 (x.toNat : Int) (2 ^ k % 256) = ((orBit x b k).toNat : Int) := by
  have h := or_code x b k hk
  rw [hb, Int.one_mul] at h
  exact h
end Go.Proofs.Ytpgkmbakohfpkaa
