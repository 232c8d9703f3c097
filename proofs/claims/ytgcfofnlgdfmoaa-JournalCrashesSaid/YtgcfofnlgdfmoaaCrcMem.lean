/- Layer 2: how a slice of bytes lies in memory. No program is named here. -/
import Derived.Test.YtgcfofnlgdfmoaaCrcPlain
import Derived.Test.YtgcfofnlgdfmoaaByt
import Derived.Below
import Derived.OneCell
import Derived.Laws.OwnMore
import Derived.Lib.Hide
import Derived.Deep.AppendLies
import Derived.Deep.Draws
namespace Go.Proofs.Ytgcfofnlgdfmoaa
open Go.RowKit

section
variable {w w' : World} {B B' : Nat} {A : Option Addr} {l : List Nat}
end
theorem take_succ_nat {l : List Nat} {k x : Nat} (h : l[k]? = some x) : l.take (k + 1) = l.take k ++ [x] := by
  obtain ⟨h1, rfl⟩ := List.getElem?_eq_some_iff.1 h
  exact List.take_succ_eq_append_getElem h1
theorem reg_succ {l : List Nat} {k x : Nat} (s : Nat) (h : l[k]? = some x) : reg s (l.take (k + 1)) = byteUp (reg s (l.take k)) x := by
  rw [take_succ_nat h, reg_append]; rfl
end Go.Proofs.Ytgcfofnlgdfmoaa
