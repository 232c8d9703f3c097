/- Layer 2: the document's own sum, bit by bit; a number's four bytes. -/
import Derived.Test.YtgcfofnlgdfmoaaCrcShift
import Derived.Test.YtgcfofnlgdfmoaaCrcMem
namespace Go.Proofs.Ytgcfofnlgdfmoaa
open Go.RowKit

end Go.Proofs.Ytgcfofnlgdfmoaa
