/- Layer 1: a pair that comes in by value. -/
import Derived.Test.YtbadohcphadjfaaDoorPairs
namespace Go.Proofs.YtbadohcphadjfaaDoor
open Go.RowKit Go.ChangeShapes Go.WideShapes

set_option maxRecDepth 100000 in
theorem open_pair {H : Type} {enc : TypeId × Value → H} {W : World} {base : Nat} {sp : Nat → Bool} {hd : Bool} {r : Reach} {b0 : Nat} {v : Value} {d : DataW H} {ps : List MemPlace}
    (hval : Value.okWide Tryd.prog W r b0 48 v) (h0 : DataW.Trod enc Tryd.prog W base sp hd 48 v d ps) :
    ∃ x : Pr, v = .agg #[.string x.1, .string x.2] := by
  obtain ⟨cs, rfl, hs⟩ := okWide_struct Tryd.underlying48 hval
  have hc : Tryd.prog.cellsOf 48 = 2 := by kernel_rfl
  have hs2 : cs.size = 2 := hs.trans hc
  obtain ⟨c0, c1, rfl⟩ : ∃ c0 c1, cs = #[c0, c1] := by
    obtain ⟨l⟩ := cs
    match l, hs2 with
    | [a, b], _ => exact ⟨a, b, rfl⟩
  obtain ⟨fuel, hf⟩ := h0
  obtain ⟨y0, y1, n, _, _, t0, t1⟩ := trod_struct2 Tryd.underlying48 hf
  obtain ⟨s0, e0, _, _⟩ := DataW.trod_string Tryd.underlying9 t0
  obtain ⟨s1, e1, _, _⟩ := DataW.trod_string Tryd.underlying9 t1
  obtain rfl := (List.cons.inj e0).1
  obtain rfl := (List.cons.inj e1).1
  exact ⟨(s0, s1), rfl⟩
end Go.Proofs.YtbadohcphadjfaaDoor
