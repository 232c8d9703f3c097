/- Layer 2: bytes.Clone, slices.Grow of nil, slices.Concat of two parts. -/
import Derived.Test.YtheojokfgndheaaCrcAdd
import Derived.Test.YtheojokfgndheaaBcl
import Derived.Lib.AppendZeros
import Derived.WalkSpells
import Derived.Lib.SliceRun
import Derived.LoopN
namespace Go.Proofs.Ytheojokfgndheaa
open Go.RowKit

end Go.Proofs.Ytheojokfgndheaa
