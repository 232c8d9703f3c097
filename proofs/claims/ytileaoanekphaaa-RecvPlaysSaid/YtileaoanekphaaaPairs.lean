/- Layer 1: a list of pairs that comes in: how it is read, and how it lies. -/
import Derived.Test.YtileaoanekphaaaClone
import Derived.Deep.SlicePairs
namespace Go.Proofs.Ytileaoanekphaaa
open Go.RowKit Go.ChangeShapes Go.WideShapes

/-- a pair as it is read -/
def dP {H : Type} (p : Pr) : DataW H := .agg [.lit (.string p.1.data.toList), .lit (.string p.2.data.toList)]

set_option maxRecDepth 100000 in
theorem open_pairs {H : Type} {enc : TypeId × Value → H} {W : World} {base : Nat} {sp : Nat → Bool} {hd : Bool} {r : Reach} {b0 : Nat} {v : Value} {d : DataW H} {ps : List MemPlace}
    (hval : Value.okWide Try.prog W r b0 36 v) (h0 : DataW.Trod enc Try.prog W base sp hd 36 v d ps) :
    ∃ (A : Option Addr) (n c : Nat) (l : List Pr), v = .slice A n c ∧ n = l.length ∧ n ≤ maxLen ∧ OkA A n ∧ RdP W W.heap.size A l ∧ OkP l ∧ ((A = none ∧ d = .nil ∧ l = []) ∨ ∃ spare, d = .slice (l.map dP) spare) := by
  obtain ⟨a, n, c, rfl⟩ := okWide_slice Try.underlying36 hval
  have hsp : ∀ ad, a = some ad → ad.spot = none := by
    rintro ad rfl
    simp only [Value.okWide, Try.underlying36, Cell.okWide, Cell.ok] at hval
    exact hval.2.2.2.1
  obtain ⟨fuel, hf⟩ := h0
  rcases Go.Deep.open_slice_pairs Try.underlying36 Try.underlying66 (by kernel_rfl) rfl rfl (by kernel_rfl) (by kernel_rfl) hf with ⟨hcs, hx⟩ | ⟨ad, len, cap, m, k, V0, V1, D0, D1, P0, P1, hcs, hb, hl, hm, hmm, hx, hi⟩
  · have e : a = none ∧ n = 0 ∧ c = 0 := by simpa [Value.cells] using hcs
    obtain ⟨rfl, rfl, rfl⟩ := e
    exact ⟨none, 0, 0, [], rfl, rfl, Nat.zero_le _, ⟨fun _ => rfl, fun _ h => (by cases h)⟩, RdP.none_, fun i p h => (by simp at h), .inl ⟨rfl, (Prod.mk.inj hx).1, rfl⟩⟩
  · have e : a = some ad ∧ n = len ∧ c = cap := by simpa [Value.cells] using hcs
    obtain ⟨rfl, rfl, rfl⟩ := e
    have hspot := hsp ad rfl
    obtain ⟨b, o, s⟩ := ad
    obtain rfl : s = none := hspot
    have hlm : n ≤ m := by rw [hmm]; split <;> omega
    have each : ∀ i, i < n → ∃ p : Pr, V0 i = .string p.1 ∧ V1 i = .string p.2 ∧ D0 i = .lit (.string p.1.data.toList) ∧ D1 i = .lit (.string p.2.data.toList) ∧ p.1.size ≤ maxLen ∧ p.2.size ≤ maxLen := fun i h => by
      obtain ⟨_, _, t0, t1⟩ := hi i (by omega)
      obtain ⟨s0, e0, x0, z0⟩ := DataW.trod_string Try.underlying9 t0
      obtain ⟨s1, e1, x1, z1⟩ := DataW.trod_string Try.underlying9 t1
      exact ⟨(s0, s1), (List.cons.inj e0).1, (List.cons.inj e1).1, (Prod.mk.inj x0).1, (Prod.mk.inj x1).1, z0, z1⟩
    have pick : ∃ f : Nat → Pr, ∀ i, i < n → V0 i = .string (f i).1 ∧ V1 i = .string (f i).2 ∧ D0 i = .lit (.string (f i).1.data.toList) ∧ D1 i = .lit (.string (f i).2.data.toList) ∧ (f i).1.size ≤ maxLen ∧ (f i).2.size ≤ maxLen :=
      ⟨fun i => if h : i < n then (each i h).choose else (⟨#[]⟩, ⟨#[]⟩), fun i h => by simp only [dif_pos h]; exact (each i h).choose_spec⟩
    obtain ⟨f, hf'⟩ := pick
    have hget : ∀ (i : Nat) (p : Pr), ((List.range n).map f)[i]? = some p → i < n ∧ p = f i := fun i p hp => by
      rw [List.getElem?_map] at hp
      obtain ⟨j, hj, rfl⟩ := Option.map_eq_some_iff.1 hp
      obtain ⟨h1, h2⟩ := List.getElem?_eq_some_iff.1 hj
      rw [List.length_range] at h1
      rw [List.getElem_range] at h2
      exact ⟨h1, by rw [h2]⟩
    refine ⟨some ⟨b, o, none⟩, n, c, (List.range n).map f, rfl, by simp, Nat.le_trans hl hm, ⟨fun h => (by cases h), fun a h => (by cases h; exact ⟨b, o, rfl⟩)⟩, fun h0 => ⟨b, o, rfl, ?_, fun i p hp => ?_⟩, fun i p hp => ?_, .inr ⟨(List.range (m - n)).map fun j => .agg [D0 (n + j), D1 (n + j)], ?_⟩⟩
    · have h0' : 0 < n := by simpa using h0
      exact World.block_lt_of_cell? _ _ ((hi 0 (by omega)).1)
    · obtain ⟨hin, rfl⟩ := hget i p hp
      obtain ⟨c0, c1, _, _⟩ := hi i (by omega)
      obtain ⟨v0, v1, _, _⟩ := hf' i hin
      rw [Addr.add_lit] at c0 c1
      rw [v0] at c0; rw [v1] at c1
      exact ⟨c0, by rw [Nat.add_assoc]; exact c1⟩
    · obtain ⟨hin, rfl⟩ := hget i p hp
      exact (hf' i hin).2.2.2.2
    · have h1 := (Prod.mk.inj hx).1
      rw [h1, List.map_map]
      congr 1
      refine List.map_congr_left fun i hi' => ?_
      obtain ⟨_, _, e0, e1, _⟩ := hf' i (List.mem_range.1 hi')
      rw [e0, e1]
      rfl
end Go.Proofs.Ytileaoanekphaaa
