/- Layer 6: a list of rows of bytes, and a list of tears, that come in: how they lie. -/
import Derived.Test.YtgcfofnlgdfmoaaDkOpen
import Derived.Test.YtgcfofnlgdfmoaaDkCrashAny
import Derived.Deep.Matrix
import Derived.Deep.SlicePairs
namespace Go.Proofs.Ytgcfofnlgdfmoaa
open Go.RowKit Go.ChangeShapes Go.WideShapes

/-- The slice at A holds n slices of bytes; all of it lies below block B. -/
def RdW (w : World) (B : Nat) (A : Option Addr) (n : Nat) : Prop :=
  0 < n → ∃ b o, A = some ⟨b, o, none⟩ ∧ b < B ∧ ∀ i, i < n → ∃ (Ar : Option Addr) (nr cr : Nat) (lr : List Nat), w.cell? ⟨b, o + i, none⟩ = some (.slice Ar nr cr) ∧ nr = lr.length ∧ nr ≤ maxLen ∧ (Ar = none → nr = 0) ∧ RdB w B Ar lr ∧ OkB lr

theorem spot_no {w : World} {a : Addr} {v : Value} (h : w.cell? a = some v) : a.spot = none := by
  unfold World.cell? at h
  split at h
  · split at h
    · cases h
    · rename_i hs
      simpa using hs
  · cases h

section
variable {H : Type} {enc : TypeId × Value → H} {W : World} {base : Nat} {hd : Bool}
set_option maxRecDepth 100000 in
theorem open_parts {r : Reach} {b0 : Nat} {v : Value} {d : DataW H} {ps : List MemPlace}
    (hval : Value.okWide Try.prog W r b0 22 v) (h0 : DataW.Trod enc Try.prog W base (fun _ => true) hd 22 v d ps) :
    ∃ (A : Option Addr) (n c : Nat), v = .slice A n c ∧ n ≤ maxLen ∧ RdW W W.heap.size A n := by
  obtain ⟨a, n, c, rfl⟩ := okWide_slice Try.underlying22 hval
  have hsp : ∀ ad, a = some ad → ad.spot = none := by
    rintro ad rfl
    simp only [Value.okWide, Try.underlying22, Cell.okWide, Cell.ok] at hval
    exact hval.2.2.2.1
  obtain ⟨fuel, hf⟩ := h0
  rcases Go.Deep.open_int_rows Try.underlying22 Try.underlying37 Try.underlying5 (by kernel_rfl) (by kernel_rfl) hf with ⟨hcs, hx⟩ | ⟨ad, len, cap, Ar, L, C, Z, hcs, hb, hl, hm, hx, hr⟩
  · have e : a = none ∧ n = 0 ∧ c = 0 := by simpa [Value.cells] using hcs
    obtain ⟨rfl, rfl, rfl⟩ := e
    exact ⟨none, 0, 0, rfl, Nat.zero_le _, fun h => absurd h (by simp)⟩
  · have e : a = some ad ∧ n = len ∧ c = cap := by simpa [Value.cells] using hcs
    obtain ⟨rfl, rfl, rfl⟩ := e
    have hspot := hsp ad rfl
    obtain ⟨b, o, s⟩ := ad
    obtain rfl : s = none := hspot
    refine ⟨some ⟨b, o, none⟩, n, c, rfl, Nat.le_trans hl hm, fun h => ⟨b, o, rfl, World.block_lt_of_cell? _ _ (hr 0 (by omega)).1, fun i hi => ?_⟩⟩
    obtain ⟨c1, c2, c3, c4, c5, c6, c7⟩ := hr i (by omega)
    rw [Addr.add_lit] at c1
    obtain ⟨xs, hxs, hok⟩ := map_nat (Z i) c5
    rw [hxs, List.length_map] at c4
    refine ⟨Ar i, L i, C i, xs.take (L i), c1, by simp; omega, by omega, fun hA => by have := c6 hA; omega, fun h1 => ?_, hok.take _⟩
    have h1' : 0 < L i := by rw [List.length_take] at h1; omega
    cases hA : Ar i with
    | none => have := c6 hA; omega
    | some a' =>
      obtain ⟨_, hc⟩ := c7 a' hA
      have h0 := hc 0 (by omega)
      have hs0 : a'.spot = none := spot_no (a := a'.add 0) h0
      obtain ⟨b', o', s⟩ := a'
      obtain rfl : s = none := hs0
      refine ⟨b', o', rfl, World.block_lt_of_cell? _ _ h0, fun j x hj => ?_⟩
      obtain ⟨h2, h3⟩ := List.getElem?_eq_some_iff.1 hj
      rw [List.length_take] at h2
      have h4 := hc j (by omega)
      rw [Addr.add_lit] at h4
      rw [h4, ← h3, List.getElem_take, hxs, List.getD_eq_getElem?_getD, List.getElem?_eq_getElem (by simp; omega)]
      simp

set_option maxRecDepth 100000 in
/-- from the cells of a slice of tears -/
theorem tears_cells {fuel : Nat} {a : Option Addr} {n c : Nat} {x : DataW H × List MemPlace} {sp : Nat → Bool} (hsp : ∀ ad, a = some ad → ad.spot = none)
    (hf : DataW.trod enc Try.prog W base sp hd fuel 123 [.slice a n c] = some x) :
    ∃ (l : List (Nat × Nat)), n = l.length ∧ n ≤ maxLen ∧ n * 4 ≤ 4 * maxLen ∧ RdT W W.heap.size a l ∧ OkT l := by
  rcases Go.Deep.open_slice_pairs Try.underlying123 Try.underlying25 (by kernel_rfl) rfl rfl (by kernel_rfl) (by kernel_rfl) hf with ⟨hcs, hx⟩ | ⟨ad, len, cap, m, k, V0, V1, D0, D1, P0, P1, hcs, hb, hl, hm, hmm, hx, hi⟩
  · have e : a = none ∧ n = 0 ∧ c = 0 := by simpa [Value.cells] using hcs
    obtain ⟨rfl, rfl, rfl⟩ := e
    exact ⟨[], rfl, Nat.zero_le _, by omega, fun h => absurd h (by simp), fun t h => (by cases h)⟩
  · have e : a = some ad ∧ n = len ∧ c = cap := by simpa [Value.cells] using hcs
    obtain ⟨rfl, rfl, rfl⟩ := e
    have hspot := hsp ad rfl
    obtain ⟨b, o, s⟩ := ad
    obtain rfl : s = none := hspot
    have hlm : n ≤ m := by rw [hmm]; split <;> omega
    have each : ∀ i, i < n → ∃ p : Nat × Nat, V0 i = .int .u16 p.1 ∧ V1 i = .int .u16 p.2 ∧ p.1 < 65536 ∧ p.2 < 65536 := fun i h => by
      obtain ⟨_, _, t0, t1⟩ := hi i (by omega)
      obtain ⟨s0, e0, x0, z0⟩ := DataW.trod_int Try.underlying23 t0
      obtain ⟨s1, e1, x1, z1⟩ := DataW.trod_int Try.underlying23 t1
      obtain ⟨y0, rfl, h0⟩ := nat_of_u16 z0
      obtain ⟨y1, rfl, h1⟩ := nat_of_u16 z1
      exact ⟨(y0, y1), (List.cons.inj e0).1, (List.cons.inj e1).1, h0, h1⟩
    have pick : ∃ f : Nat → Nat × Nat, ∀ i, i < n → V0 i = .int .u16 (f i).1 ∧ V1 i = .int .u16 (f i).2 ∧ (f i).1 < 65536 ∧ (f i).2 < 65536 :=
      ⟨fun i => if h : i < n then (each i h).choose else (0, 0), fun i h => by simp only [dif_pos h]; exact (each i h).choose_spec⟩
    obtain ⟨f, hf'⟩ := pick
    have hget : ∀ (i : Nat) (p : Nat × Nat), ((List.range n).map f)[i]? = some p → i < n ∧ p = f i := fun i p hp => by
      rw [List.getElem?_map] at hp
      obtain ⟨j, hj, rfl⟩ := Option.map_eq_some_iff.1 hp
      obtain ⟨h1, h2⟩ := List.getElem?_eq_some_iff.1 hj
      rw [List.length_range] at h1
      rw [List.getElem_range] at h2
      exact ⟨h1, by rw [h2]⟩
    refine ⟨(List.range n).map f, by simp, Nat.le_trans hl hm, by omega, fun h0 => ⟨b, o, rfl, ?_, fun i p hp => ?_⟩, fun t ht => ?_⟩
    · have h0' : 0 < n := by simpa using h0
      exact World.block_lt_of_cell? _ _ ((hi 0 (by omega)).1)
    · obtain ⟨hin, rfl⟩ := hget i p hp
      obtain ⟨c0, c1, _, _⟩ := hi i (by omega)
      obtain ⟨v0, v1, _, _⟩ := hf' i hin
      rw [Addr.add_lit] at c0 c1
      rw [v0] at c0; rw [v1] at c1
      exact ⟨c0, by rw [Nat.add_assoc]; exact c1⟩
    · obtain ⟨i, hi'⟩ := List.mem_iff_getElem?.1 ht
      obtain ⟨hin, rfl⟩ := hget i t hi'
      exact (hf' i hin).2.2
set_option maxRecDepth 100000 in
theorem open_tears {r : Reach} {b0 : Nat} {v : Value} {d : DataW H} {ps : List MemPlace} {sp : Nat → Bool}
    (hval : Value.okWide Try.prog W r b0 123 v) (h0 : DataW.Trod enc Try.prog W base sp hd 123 v d ps) :
    ∃ (A : Option Addr) (n c : Nat) (l : List (Nat × Nat)), v = .slice A n c ∧ n = l.length ∧ n ≤ maxLen ∧ RdT W W.heap.size A l ∧ OkT l := by
  obtain ⟨a, n, c, rfl⟩ := okWide_slice Try.underlying123 hval
  have hsp : ∀ ad, a = some ad → ad.spot = none := by
    rintro ad rfl
    simp only [Value.okWide, Try.underlying123, Cell.okWide, Cell.ok] at hval
    exact hval.2.2.2.1
  obtain ⟨fuel, hf⟩ := h0
  obtain ⟨l, h1, h2, _, h3, h4⟩ := tears_cells hsp hf
  exact ⟨a, n, c, l, rfl, h1, h2, h3, h4⟩
end
end Go.Proofs.Ytgcfofnlgdfmoaa
