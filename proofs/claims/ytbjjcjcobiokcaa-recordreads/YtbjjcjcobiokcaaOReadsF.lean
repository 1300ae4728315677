/- RecordReads, and the code that it speaks of. -/
import Derived.Test.YtbjjcjcobiokcaaOReadsW
import Derived.Test.YtbjjcjcobiokcaaOCode
namespace Go.Proofs.Ytbjjcjcobiokcaa
end Go.Proofs.Ytbjjcjcobiokcaa
