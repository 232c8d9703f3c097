/- Layer 13: the document's row of points: a slice that may begin in the midst of its block; one more at its end; cut at its head. -/
import Derived.Test.YthggaedpbmjclaaDoorCdOrd
import Derived.ArgAppend
namespace Go.Proofs.YthggaedpbmjclaaDoor
open Go.RowKit Go.Proofs

section
variable {w w' : World} {B s : Nat} {v : Value} {L : List Pt}
end
end Go.Proofs.YthggaedpbmjclaaDoor
