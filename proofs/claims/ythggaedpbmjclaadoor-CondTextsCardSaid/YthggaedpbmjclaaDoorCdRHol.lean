/- Layer 13: the document's Holds. -/
import Derived.Test.YthggaedpbmjclaaDoorCdRow
import Derived.Test.YthggaedpbmjclaaDoorCdRef
namespace Go.Proofs.YthggaedpbmjclaaDoor
open Go.RowKit Go.Proofs

section
variable {B s : Nat} {L : List Pt} {p : Pt}
/-- one point of the row, in its kind's word -/
def oneB (k : Nat) (p : Pt) (lim : Int) (tk now : Nat) (q : Pt) : Bool := if k = 4 then risesB p lim tk now q else fallsB p lim tk now q
theorem holds_45 {k : Nat} {lim : Int} {tk now : Nat} (hk : 4 ≤ k) : holdsK k lim tk L p now = L.any (oneB k p lim tk now) := by
  unfold holdsK
  rw [if_neg (by omega), if_neg (by omega), if_neg (by omega)]
  by_cases h : k = 4
  · rw [if_pos h]; congr 1; funext q; unfold oneB; rw [if_pos h]
  · rw [if_neg h]; congr 1; funext q; unfold oneB; rw [if_neg h]
end
end Go.Proofs.YthggaedpbmjclaaDoor
