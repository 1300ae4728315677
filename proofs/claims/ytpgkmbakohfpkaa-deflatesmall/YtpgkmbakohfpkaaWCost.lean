/- Contracts of layer 4's small calls: the document's Cost, and the statements' 'same'. -/
import Derived.Test.YtpgkmbakohfpkaaWLen
import Derived.Test.YtpgkmbakohfpkaaIRow
namespace Go.Proofs.Ytpgkmbakohfpkaa
open Go.RowKit Go.Lib

/-- What the first j products come to, going round. -/
def costW (a b : List Int) : Nat → Int
  | 0 => 0
  | j + 1 => wrap64 (costW a b j + wrap64 (a.getD j 0 * b.getD j 0))

end Go.Proofs.Ytpgkmbakohfpkaa
