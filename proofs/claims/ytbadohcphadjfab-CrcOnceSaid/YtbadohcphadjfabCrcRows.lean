/- Layer 2: a list of rows of bytes that comes in: how it lies. -/
import Derived.Test.YtbadohcphadjfabCrcOpen
import Derived.Deep.Matrix
namespace Go.Proofs.Ytbadohcphadjfab
open Go.RowKit Go.ChangeShapes Go.WideShapes

/-- The slice at A holds n slices of bytes; all of it lies below block B. -/
def RdR (w : World) (B : Nat) (A : Option Addr) (n : Nat) : Prop :=
  0 < n → ∃ b o, A = some ⟨b, o, none⟩ ∧ b < B ∧ ∀ i, i < n → ∃ (Ar : Option Addr) (nr cr : Nat) (lr : List Nat), w.cell? ⟨b, o + i, none⟩ = some (.slice Ar nr cr) ∧ nr = lr.length ∧ nr ≤ maxLen ∧ RdB w B Ar lr ∧ OkB lr

theorem spot_none {w : World} {a : Addr} {v : Value} (h : w.cell? a = some v) : a.spot = none := by
  unfold World.cell? at h
  split at h
  · split at h
    · cases h
    · rename_i hs
      simpa using hs
  · cases h

set_option maxRecDepth 100000 in
theorem open_rows {H : Type} {enc : TypeId × Value → H} {W : World} {base : Nat} {hd : Bool} {r : Reach} {b0 : Nat} {v : Value} {d : DataW H} {ps : List MemPlace}
    (hval : Value.okWide Try.prog W r b0 39 v) (h0 : DataW.Trod enc Try.prog W base (fun _ => true) hd 39 v d ps) :
    ∃ (A : Option Addr) (n c : Nat), v = .slice A n c ∧ n ≤ maxLen ∧ RdR W W.heap.size A n := by
  obtain ⟨a, n, c, rfl⟩ := okWide_slice Try.underlying39 hval
  have hsp : ∀ ad, a = some ad → ad.spot = none := by
    rintro ad rfl
    simp only [Value.okWide, Try.underlying39, Cell.okWide, Cell.ok] at hval
    exact hval.2.2.2.1
  obtain ⟨fuel, hf⟩ := h0
  rcases Go.Deep.open_int_rows Try.underlying39 Try.underlying22 Try.underlying5 (by kernel_rfl) (by kernel_rfl) hf with ⟨hcs, hx⟩ | ⟨ad, len, cap, Ar, L, C, Z, hcs, hb, hl, hm, hx, hr⟩
  · have e : a = none ∧ n = 0 ∧ c = 0 := by simpa [Value.cells] using hcs
    obtain ⟨rfl, rfl, rfl⟩ := e
    exact ⟨none, 0, 0, rfl, Nat.zero_le _, fun h => absurd h (by simp)⟩
  · have e : a = some ad ∧ n = len ∧ c = cap := by simpa [Value.cells] using hcs
    obtain ⟨rfl, rfl, rfl⟩ := e
    have hspot := hsp ad rfl
    obtain ⟨b, o, s⟩ := ad
    obtain rfl : s = none := hspot
    refine ⟨some ⟨b, o, none⟩, n, c, rfl, Nat.le_trans hl hm, fun h => ⟨b, o, rfl, World.block_lt_of_cell? _ _ (hr 0 (by omega)).1, fun i hi => ?_⟩⟩
    obtain ⟨c1, c2, c3, c4, c5, c6, c7⟩ := hr i (by omega)
    rw [Addr.add_lit] at c1
    obtain ⟨xs, hxs, hok⟩ := map_nat (Z i) c5
    rw [hxs, List.length_map] at c4
    refine ⟨Ar i, L i, C i, xs.take (L i), c1, by simp; omega, by omega, fun h1 => ?_, hok.take _⟩
    have h1' : 0 < L i := by rw [List.length_take] at h1; omega
    cases hA : Ar i with
    | none => have := c6 hA; omega
    | some a' =>
      obtain ⟨_, hc⟩ := c7 a' hA
      have h0 := hc 0 (by omega)
      have hs0 : a'.spot = none := spot_none (a := a'.add 0) h0
      obtain ⟨b', o', s⟩ := a'
      obtain rfl : s = none := hs0
      refine ⟨b', o', rfl, World.block_lt_of_cell? _ _ h0, fun j x hj => ?_⟩
      obtain ⟨h2, h3⟩ := List.getElem?_eq_some_iff.1 hj
      rw [List.length_take] at h2
      have h4 := hc j (by omega)
      rw [Addr.add_lit] at h4
      rw [h4, ← h3, List.getElem_take, hxs, List.getD_eq_getElem?_getD, List.getElem?_eq_getElem (by simp; omega)]
      simp
end Go.Proofs.Ytbadohcphadjfab
