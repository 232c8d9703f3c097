/- A slice of rows that is handed over: no longer than its room. -/
import Derived.Test.YtheojokfgndheaaDkArgs
namespace Go.Proofs.Ytheojokfgndheaa
open Go.RowKit
section
variable {H : Type} {enc : TypeId × Value → H} {W : World} {base : Nat} {hd : Bool}
theorem parts_cap {a : Option Addr} {n c : Nat} {d : DataW H} {ps : List MemPlace} (h0 : DataW.Trod enc Try.prog W base (fun _ => true) hd 55 (.slice a n c) d ps) : n ≤ c := by
  obtain ⟨fuel, hf⟩ := h0
  rcases Go.Deep.open_int_rows Try.underlying55 Try.underlying30 Try.underlying5 (by kernel_rfl) (by kernel_rfl) hf with ⟨hcs, hx⟩ | ⟨ad, len, cap, Ar, L, C, Z, hcs, hb, hl, hm, hx, hr⟩
  · have e : a = none ∧ n = 0 ∧ c = 0 := by simpa [Value.cells] using hcs
    omega
  · have e : a = some ad ∧ n = len ∧ c = cap := by simpa [Value.cells] using hcs
    omega
end
end Go.Proofs.Ytheojokfgndheaa
