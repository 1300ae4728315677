/- The walks of layer 13 and the code that they speak of. -/
import Derived.Test.YtiiopconhkligaaTLaw
import Derived.Test.YtiiopconhkligaaTCode
namespace Go.Proofs.Ytiiopconhkligaa
theorem tfrm : True := trivial
end Go.Proofs.Ytiiopconhkligaa
