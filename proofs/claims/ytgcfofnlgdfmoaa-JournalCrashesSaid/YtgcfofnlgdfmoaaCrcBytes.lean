/- Layer 2: bytes.Clone, slices.Grow of nil, slices.Concat of two parts. -/
import Derived.Test.YtgcfofnlgdfmoaaCrcAdd
import Derived.Test.YtgcfofnlgdfmoaaBcl
import Derived.Lib.AppendZeros
import Derived.WalkSpells
import Derived.Lib.SliceRun
import Derived.LoopN
namespace Go.Proofs.Ytgcfofnlgdfmoaa
open Go.RowKit

end Go.Proofs.Ytgcfofnlgdfmoaa
