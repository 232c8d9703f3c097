/- Layer 13: what comes in: numbers. -/
import Derived.Test.YthggaedpbmjclaaOpen
import Derived.Test.YthggaedpbmjclaaCdOrd
namespace Go.Proofs.Ythggaedpbmjclaa
open Go.RowKit
theorem nat_of_u64 {z : Int} (h : (Lit.int .u64 z).wf = true) : ∃ x : Nat, z = x ∧ x < 18446744073709551616 := by
  have hmin : IntKind.u64.min = 0 := rfl
  have hmax : IntKind.u64.max = 18446744073709551615 := rfl
  simp only [Lit.wf, Bool.and_eq_true, decide_eq_true_eq, hmin, hmax] at h
  exact ⟨z.toNat, by omega, by omega⟩
theorem bounds_i64 {z : Int} (h : (Lit.int .i64 z).wf = true) : -9223372036854775808 ≤ z ∧ z < 9223372036854775808 := by
  have hmin : IntKind.i64.min = -9223372036854775808 := rfl
  have hmax : IntKind.i64.max = 9223372036854775807 := rfl
  simp only [Lit.wf, Bool.and_eq_true, decide_eq_true_eq, hmin, hmax] at h
  omega
theorem map_nat64 : ∀ (zs : List Int), (∀ z ∈ zs, (Lit.int .u64 z).wf = true) → ∃ xs : List Nat, zs = xs.map (fun x : Nat => (x : Int)) ∧ ∀ x ∈ xs, x < 18446744073709551616
  | [], _ => ⟨[], rfl, fun x hx => (by cases hx)⟩
  | z :: zs, h => by
    obtain ⟨x, rfl, hx⟩ := nat_of_u64 (h z (by simp))
    obtain ⟨xs, rfl, hxs⟩ := map_nat64 zs fun y hy => h y (by simp [hy])
    exact ⟨x :: xs, rfl, fun y hy => by simp at hy; rcases hy with rfl | hy; exact hx; exact hxs y hy⟩
section
open Go.WideShapes Go.ChangeShapes
variable {H : Type} {enc : TypeId × Value → H}
set_option maxRecDepth 100000 in
theorem open_u64s {W : World} {base : Nat} {sp : Nat → Bool} {hd : Bool} {r : Reach} {b0 : Nat} {v : Value} {d : DataW H} {ps : List MemPlace}
    (hval : Value.okWide Try.prog W r b0 52 v) (h0 : DataW.Trod enc Try.prog W base sp hd 52 v d ps) :
    ∃ (A : Option Addr) (n c : Nat) (l : List Nat), v = .slice A n c ∧ n = l.length ∧ n ≤ maxLen ∧ (A = none → n = 0) ∧ RdU W W.heap.size A l ∧ (∀ x ∈ l, x < 18446744073709551616) ∧ n ≤ c := by
  obtain ⟨a, n, c, rfl⟩ := okWide_slice Try.underlying52 hval
  have hsp : ∀ ad, a = some ad → ad.spot = none := by
    rintro ad rfl
    simp only [Value.okWide, Try.underlying52, Cell.okWide, Cell.ok] at hval
    exact hval.2.2.2.1
  obtain ⟨fuel, hf⟩ := h0
  rcases open_ints Try.underlying52 Try.underlying24 (by kernel_rfl) hf with ⟨hcs, hx⟩ | ⟨ad, len, cap, zs, hcs, hb, hl, hm, hlen, hx, hc, hz⟩
  · have e : a = none ∧ n = 0 ∧ c = 0 := by simpa [Value.cells] using hcs
    obtain ⟨rfl, rfl, rfl⟩ := e
    exact ⟨none, 0, 0, [], rfl, rfl, Nat.zero_le _, fun _ => rfl, fun h => absurd h (by simp), fun x h => (by cases h), Nat.le_refl _⟩
  · have e : a = some ad ∧ n = len ∧ c = cap := by simpa [Value.cells] using hcs
    obtain ⟨rfl, rfl, rfl⟩ := e
    have hspot := hsp ad rfl
    obtain ⟨b, o, s⟩ := ad
    obtain rfl : s = none := hspot
    obtain ⟨xs, rfl, hok⟩ := map_nat64 zs hz
    rw [List.length_map] at hlen hc
    have hls : n ≤ xs.length := by rw [hlen]; split <;> omega
    refine ⟨some ⟨b, o, none⟩, n, c, xs.take n, rfl, by simp; omega, Nat.le_trans hl hm, fun h => (by cases h), fun h => ⟨b, o, rfl, ?_, fun i x hi => ?_⟩, fun x hx => hok x (List.mem_of_mem_take hx), hl⟩
    · have h0 : 0 < n := by have := h; simp at this; omega
      exact World.block_lt_of_cell? _ _ (hc 0 (by omega))
    · obtain ⟨h1, h2⟩ := List.getElem?_eq_some_iff.1 hi
      rw [List.length_take] at h1
      have h3 := hc i (by omega)
      rw [Addr.add_lit] at h3
      rw [h3, ← h2, List.getElem_take, List.getD_eq_getElem?_getD, List.getElem?_eq_getElem (by simp; omega)]
      simp
end
end Go.Proofs.Ythggaedpbmjclaa
