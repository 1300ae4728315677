/- Contract of the document's 'Write' of layer 9. -/
import Derived.Test.YtpgkmbakohfpkaaBBlock
import Derived.Test.YtpgkmbakohfpkaaBHead
import Derived.Deep.DeepCutAuto
import Derived.Deep.CutBlock
namespace Go.Proofs.Ytpgkmbakohfpkaa
open Go.RowKit Go.Lib

def lastI (b : Bool) : Int := if b = true then 1 else 0
theorem lastI_odd (b : Bool) : decide (lastI b % 2 = 1) = b := by cases b <;> rfl

end Go.Proofs.Ytpgkmbakohfpkaa
