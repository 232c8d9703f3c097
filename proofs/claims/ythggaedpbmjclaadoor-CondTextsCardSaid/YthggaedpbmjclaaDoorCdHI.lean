/- Layer 13: CondHolds in numbers: the series and the document's row side by side. -/
import Derived.Test.YthggaedpbmjclaaDoorCdRHol
import Derived.Test.YthggaedpbmjclaaDoorCdSmall
namespace Go.Proofs.YthggaedpbmjclaaDoor
open Go.RowKit Go.Proofs

section
variable {w wx w' : World} {s now : Nat} {v : Value} {L : List Pt}
theorem addP_app (L : List Pt) (p : Pt) (h : L.length ≤ 32) : addP L p = if 32 < (L ++ [p]).length then (L ++ [p]).drop 1 else L ++ [p] := by
  unfold addP
  by_cases e : L.length = 32
  · rw [if_pos e, if_pos (by simp; omega), List.drop_append_of_le_length (by omega)]
  · rw [if_neg e, if_neg (by simp; omega)]
end
/-- a point as it comes in: how long behind the last one, its number -/
structure Pi where
  d : Nat
  z : Int
structure OkPi (p : Pi) : Prop where
  d : p.d < 256
  lo : -9223372036854775808 ≤ p.z
  hi : p.z < 9223372036854775808
/-- The slice at A reads as these points. -/
def RdPi (w : World) (A : Option Addr) (l : List Pi) : Prop :=
  0 < l.length → ∃ b o, A = some ⟨b, o, none⟩ ∧ b < w.heap.size ∧ ∀ (i : Nat) x, l[i]? = some x → w.rangeAt b (o + i * 2) [.int .u8 x.d, .int .i64 x.z]
theorem RdPi.at_ {w w' : World} {A : Option Addr} {l : List Pi} {k : Nat} (h : RdPi w A l) (hb : Below w.heap.size w w') (hk : k < l.length) :
    ∃ b o x, A = some ⟨b, o, none⟩ ∧ l[k]? = some x ∧ w'.rangeAt b (o + k * 2) [.int .u8 x.d, .int .i64 x.z] := by
  obtain ⟨b, o, e, hlt, hc⟩ := h (by omega)
  have hx : l[k]? = some l[k] := List.getElem?_eq_getElem hk
  exact ⟨b, o, l[k], e, hx, fun j u hj => (hb.cell (p := ⟨b, o + k * 2 + j, none⟩) hlt).trans (hc k _ hx j u hj)⟩
end Go.Proofs.YthggaedpbmjclaaDoor
