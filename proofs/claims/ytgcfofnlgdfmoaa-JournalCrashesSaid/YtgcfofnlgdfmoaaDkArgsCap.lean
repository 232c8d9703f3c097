/- A slice of rows that is handed over: no longer than its room. -/
import Derived.Test.YtgcfofnlgdfmoaaDkArgs
namespace Go.Proofs.Ytgcfofnlgdfmoaa
open Go.RowKit Go.ChangeShapes Go.WideShapes
section
variable {H : Type} {enc : TypeId × Value → H} {W : World} {base : Nat} {hd : Bool}
theorem parts_cap {a : Option Addr} {n c : Nat} {d : DataW H} {ps : List MemPlace} (h0 : DataW.Trod enc Try.prog W base (fun _ => true) hd 22 (.slice a n c) d ps) : n ≤ c := by
  obtain ⟨fuel, hf⟩ := h0
  rcases Go.Deep.open_int_rows Try.underlying22 Try.underlying37 Try.underlying5 (by kernel_rfl) (by kernel_rfl) hf with ⟨hcs, hx⟩ | ⟨ad, len, cap, Ar, L, C, Z, hcs, hb, hl, hm, hx, hr⟩
  · have e : a = none ∧ n = 0 ∧ c = 0 := by simpa [Value.cells] using hcs
    omega
  · have e : a = some ad ∧ n = len ∧ c = cap := by simpa [Value.cells] using hcs
    omega
end
set_option maxRecDepth 100000 in
theorem open_tear {H : Type} {enc : TypeId × Value → H} {W : World} {base : Nat} {sp : Nat → Bool} {hd : Bool} {r : Reach} {b0 : Nat} {v : Value} {d : DataW H} {ps : List MemPlace}
    (hval : Value.okWide Try.prog W r b0 25 v) (h0 : DataW.Trod enc Try.prog W base sp hd 25 v d ps) :
    ∃ x y : Nat, v = .agg #[.int .u16 x, .int .u16 y] ∧ x < 65536 ∧ y < 65536 := by
  obtain ⟨cs, rfl, hs⟩ := okWide_struct Try.underlying25 hval
  have hc : Try.prog.cellsOf 25 = 2 := by kernel_rfl
  have hs2 : cs.size = 2 := hs.trans hc
  obtain ⟨c0, c1, rfl⟩ : ∃ c0 c1, cs = #[c0, c1] := by
    obtain ⟨l⟩ := cs
    match l, hs2 with
    | [a, b], _ => exact ⟨a, b, rfl⟩
  obtain ⟨fuel, hf⟩ := h0
  obtain ⟨y0, y1, n, _, _, t0, t1⟩ := trod_struct2 Try.underlying25 hf
  obtain ⟨s0, e0, _, z0⟩ := DataW.trod_int Try.underlying23 t0
  obtain ⟨s1, e1, _, z1⟩ := DataW.trod_int Try.underlying23 t1
  obtain rfl := (List.cons.inj e0).1
  obtain rfl := (List.cons.inj e1).1
  obtain ⟨x0, rfl, h0⟩ := nat_of_u16 z0
  obtain ⟨x1, rfl, h1⟩ := nat_of_u16 z1
  exact ⟨x0, x1, rfl, h0, h1⟩
end Go.Proofs.Ytgcfofnlgdfmoaa
