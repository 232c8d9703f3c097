/- Layer 3: the document's numbers and texts as bytes: watchfireref01.Uint, Int, Long. -/
import Derived.Test.YtileaoanekphaaaBcl
import Derived.Test.YtileaoanekphaaaPkPlain
import Derived.Lib.AppendStr
namespace Go.Proofs.Ytileaoanekphaaa
open Go.RowKit

end Go.Proofs.Ytileaoanekphaaa
