/- Layer 13: what comes in: numbers. -/
import Derived.Test.YthggaedpbmjclaaDoorOpen
import Derived.Test.YthggaedpbmjclaaDoorCdOrd
namespace Go.Proofs.YthggaedpbmjclaaDoor
open Go.RowKit
theorem nat_of_u64 {z : Int} (h : (Lit.int .u64 z).wf = true) : ∃ x : Nat, z = x ∧ x < 18446744073709551616 := by
  have hmin : IntKind.u64.min = 0 := rfl
  have hmax : IntKind.u64.max = 18446744073709551615 := rfl
  simp only [Lit.wf, Bool.and_eq_true, decide_eq_true_eq, hmin, hmax] at h
  exact ⟨z.toNat, by omega, by omega⟩
theorem bounds_i64 {z : Int} (h : (Lit.int .i64 z).wf = true) : -9223372036854775808 ≤ z ∧ z < 9223372036854775808 := by
  have hmin : IntKind.i64.min = -9223372036854775808 := rfl
  have hmax : IntKind.i64.max = 9223372036854775807 := rfl
  simp only [Lit.wf, Bool.and_eq_true, decide_eq_true_eq, hmin, hmax] at h
  omega
theorem map_nat64 : ∀ (zs : List Int), (∀ z ∈ zs, (Lit.int .u64 z).wf = true) → ∃ xs : List Nat, zs = xs.map (fun x : Nat => (x : Int)) ∧ ∀ x ∈ xs, x < 18446744073709551616
  | [], _ => ⟨[], rfl, fun x hx => (by cases hx)⟩
  | z :: zs, h => by
    obtain ⟨x, rfl, hx⟩ := nat_of_u64 (h z (by simp))
    obtain ⟨xs, rfl, hxs⟩ := map_nat64 zs fun y hy => h y (by simp [hy])
    exact ⟨x :: xs, rfl, fun y hy => by simp at hy; rcases hy with rfl | hy; exact hx; exact hxs y hy⟩
section
open Go.WideShapes Go.ChangeShapes
variable {H : Type} {enc : TypeId × Value → H}
end
end Go.Proofs.YthggaedpbmjclaaDoor
