/- Layer 4: item.Span, item.Lasts; the document's Span. -/
import Derived.Test.YtileaoanekphaaaItPlain
import Derived.BigQuiet
namespace Go.Proofs.Ytileaoanekphaaa
open Go.RowKit

def spO (x : It) : Nat := if x.g then x.ga else x.o
def spF (x : It) : Nat := if x.g then x.gf else x.q
def spT (x : It) : Nat := if x.g then x.gt else x.q

def lastB (x : It) : Bool := x.g || decide (0 < x.w)
end Go.Proofs.Ytileaoanekphaaa
