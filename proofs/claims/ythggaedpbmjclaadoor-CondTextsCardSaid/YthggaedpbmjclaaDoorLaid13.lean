/- Layer 13: the listed variables in a world for the witness; what they hold when the call begins. -/
import Derived.Test.YthggaedpbmjclaaDoorCards
import Derived.Test.YthggaedpbmjclaaDoorTie
import Derived.Test.YthggaedpbmjclaaDoorCdNum
import Derived.Test.YthggaedpbmjclaaDoorOpen
import Derived.Deep.DeepHandedRow
import Derived.Lib.LaidTab
import Derived.LaidLaws
namespace Go.Proofs.YthggaedpbmjclaaDoor
open Go.RowKit

/-- a datum's numbers, as cells -/
def litV : DataW Unit → Value | .lit (.int k n) => .int k n | _ => undef
def litR : DataW Unit → List Value | .agg l => l.map litV | _ => []
def tab32V : Array Value := (litR Rows.laid_math_bits_deBruijn32tab).toArray
def tab64V : Array Value := (litR Rows.laid_math_bits_deBruijn64tab).toArray
def pow10V : Array Value := (litR Rows.laid_internal_strconv_uint64pow10).toArray
def rangeS : ByteArray := ⟨#[118, 97, 108, 117, 101, 32, 111, 117, 116, 32, 111, 102, 32, 114, 97, 110, 103, 101]⟩
def syntaxS : ByteArray := ⟨#[105, 110, 118, 97, 108, 105, 100, 32, 115, 121, 110, 116, 97, 120]⟩
def relay (cs : Array Value) : Obj → Obj
  | .cells _ t frozen => .cells cs t frozen
  | o => o
noncomputable def low13 : Nat := (World.holding Tryd.prog default ⟨#[], #[], []⟩).heap.size
/-- a world for the witness -/
noncomputable def laidWorld (os : Os) : World :=
  let w0 := World.holding Tryd.prog os ⟨#[.cells #[.string rangeS] 124, .cells #[.string syntaxS] 124], #[], []⟩
  { w0 with heap := ((((w0.heap.modify 5 (relay tab32V)).modify 6 (relay tab64V)).modify 1 (relay pow10V)).modify 3 (relay #[.iface 122 (.pointer (some ⟨low13, 0, none⟩))])).modify 2 (relay #[.iface 122 (.pointer (some ⟨low13 + 1, 0, none⟩))]) }
theorem synName : Tryd.prog.globalNamed "strconv.ErrSyntax" = some 2 := by kernel_rfl
theorem synType : (Tryd.prog.globals[2]?).map (·.type) = some 70 := by kernel_rfl
theorem gl_of_laid {W : World} (h : laidMetH Tryd.prog Rows.condNumbersRow.laid W) : GlC W := by
  have h : laidMet Tryd.prog Rows.condNumbersRow.laid W := h
  obtain ⟨ps, hL, -⟩ := h
  obtain ⟨g0, t0, cs0, f0, p0, q0, hg0, ht0, hv0, hd0, ⟨g1, t1, cs1, f1, p1, q1, hg1, ht1, hv1, hd1, ⟨g2, t2, cs2, f2, p2, q2, hg2, ht2, hv2, hd2, ⟨g3, t3, cs3, f3, p3, q3, hg3, ht3, hv3, hd3, ⟨g4, t4, cs4, f4, p4, q4, hg4, ht4, hv4, hd4, -⟩, -⟩, -⟩, -⟩, -⟩ := hL
  obtain rfl := Option.some.inj (synName.symm.trans hg4)
  obtain rfl := Option.some.inj (synType.symm.trans ht4)
  obtain ⟨f', u, v, hcs, -, -⟩ := iface_of_trod Tryd.underlying70 hd4
  obtain ⟨l4⟩ := cs4
  have hcs : l4 = [.iface u v] := hcs
  subst hcs
  have hc : W.cell? ⟨2, 0, none⟩ = some (.iface u v) := by simpa using World.var?_cell hg4 hv4 0
  exact ⟨.iface u v, hc, .inr ⟨u, v, rfl⟩⟩
end Go.Proofs.YthggaedpbmjclaaDoor
