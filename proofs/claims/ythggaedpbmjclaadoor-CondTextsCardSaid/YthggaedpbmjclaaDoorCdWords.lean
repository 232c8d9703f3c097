/- Layer 13: words that come in: how they lie. -/
import Derived.Test.YthggaedpbmjclaaDoorCdOpen2
import Derived.Test.YthggaedpbmjclaaDoorCdPar
import Derived.SliceStrings
namespace Go.Proofs.YthggaedpbmjclaaDoor
open Go.RowKit Go.ChangeShapes Go.WideShapes

set_option maxRecDepth 100000 in
theorem open_words {H : Type} {enc : TypeId × Value → H} {W : World} {base : Nat} {sp : Nat → Bool} {hd : Bool} {r : Reach} {b0 : Nat} {v : Value} {d : DataW H} {ps : List MemPlace}
    (hval : Value.okWide Tryd.prog W r b0 22 v) (h0 : DataW.Trod enc Tryd.prog W base sp hd 22 v d ps) :
    ∃ (A : Option Addr) (n c : Nat) (l : List ByteArray), v = .slice A n c ∧ n = l.length ∧ n ≤ c ∧ n ≤ maxLen ∧ RdW W W.heap.size A l ∧ (∀ s ∈ l, s.size ≤ 9223372036854775807) := by
  obtain ⟨a, n, c, rfl⟩ := okWide_slice Tryd.underlying22 hval
  have hsp : ∀ ad, a = some ad → ad.spot = none := by
    rintro ad rfl
    simp only [Value.okWide, Tryd.underlying22, Cell.okWide, Cell.ok] at hval
    exact hval.2.2.2.1
  obtain ⟨fuel, hf⟩ := h0
  rcases open_strings Tryd.underlying22 Tryd.underlying9 (by kernel_rfl) hf with ⟨hcs, hx⟩ | ⟨ad, len, cap, ss, hcs, hb, hl, hm, hlen, hx, hc, hs⟩
  · have e : a = none ∧ n = 0 ∧ c = 0 := by simpa [Value.cells] using hcs
    obtain ⟨rfl, rfl, rfl⟩ := e
    exact ⟨none, 0, 0, [], rfl, rfl, Nat.le_refl _, Nat.zero_le _, fun h => absurd h (by simp), fun s h => (by simp at h)⟩
  · have e : a = some ad ∧ n = len ∧ c = cap := by simpa [Value.cells] using hcs
    obtain ⟨rfl, rfl, rfl⟩ := e
    have hspot := hsp ad rfl
    obtain ⟨b, o, s⟩ := ad
    obtain rfl : s = none := hspot
    have hls : n ≤ ss.length := by rw [hlen]; split <;> omega
    refine ⟨some ⟨b, o, none⟩, n, c, ss.take n, rfl, by simp; omega, hl, Nat.le_trans hl hm, fun h => ⟨b, o, rfl, ?_, fun i s hi => ?_⟩, fun s h => hs s (List.mem_of_mem_take h)⟩
    · have h0 : 0 < n := by have := h; simp at this; omega
      exact World.block_lt_of_cell? _ _ (hc 0 (by omega))
    · obtain ⟨h1, h2⟩ := List.getElem?_eq_some_iff.1 hi
      rw [List.length_take] at h1
      have h3 := hc i (by omega)
      rw [Addr.add_lit] at h3
      rw [h3, ← h2, List.getElem_take, List.getD_eq_getElem?_getD, List.getElem?_eq_getElem (by omega)]
      rfl
end Go.Proofs.YthggaedpbmjclaaDoor
