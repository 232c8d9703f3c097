/- Layer 2: (*Table).Seal and Open. -/
import Derived.Test.YtgcfofnlgdfmoaaCrcBytes
import Derived.Deep.RegionHeld3
namespace Go.Proofs.Ytgcfofnlgdfmoaa
open Go.RowKit

theorem TurnsIn.of_below {w w' : World} {g : Nat} {P : Nat → Prop} (hg : g < w.heap.size) (h : Below w.heap.size w w') : TurnsIn w w' g P :=
  ⟨⟨h.os, h.tape, h.output, h.size, fun k hk _ => h.block k hk⟩, fun o _ => h.cell (p := ⟨g, o, none⟩) hg, fun o => h.frozen (p := ⟨g, o, none⟩) hg⟩
theorem Tab.turned {w w' : World} {g d s b : Nat} (h : Tab w g d s b) (ht : TurnsIn w w' g (fun _ => False)) : Tab w' g d s b :=
  { lt := Nat.lt_of_lt_of_le h.lt ht.grown.size
    c0 := (ht.cell 0 id).trans h.c0
    c1 := (ht.cell 1 id).trans h.c1
    tab := fun j hj => by
      obtain ⟨x, hx, hx2⟩ := h.tab j hj
      exact ⟨x, (ht.cell _ id).trans hx, hx2⟩
    sums := (ht.cell 259 id).trans h.sums
    bytes := (ht.cell 260 id).trans h.bytes
    fz := fun o => (ht.fz o).trans (h.fz o) }
theorem Tab.below {w w' : World} {g d s b : Nat} (h : Tab w g d s b) (hb : Below w.heap.size w w') : Tab w' g d s b := h.turned (TurnsIn.of_below h.lt hb)
theorem Tab.drew {w : World} {g d s b : Nat} (h : Tab w g d s b) : Tab w.drew g d s b := h.turned (TurnsIn.refl w g _).drew
theorem Tab.alloc {w : World} {g d s b : Nat} (h : Tab w g d s b) (o : Obj) : Tab (w.alloc o) g d s b := h.turned ((TurnsIn.refl w g _).alloc h.lt o)
theorem TurnsIn.all {w w' : World} {g : Nat} {P : Nat → Prop} (h : TurnsIn w w' g P) : TurnsIn w w' g (fun _ => True) := h.mono fun _ _ => trivial

end Go.Proofs.Ytgcfofnlgdfmoaa
