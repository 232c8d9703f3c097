/- Layer 13: slices.Clone of points; Points of a series. -/
import Derived.Test.YthggaedpbmjclaaDoorCdAdd
import Derived.Test.YthggaedpbmjclaaDoorApp
namespace Go.Proofs.YthggaedpbmjclaaDoor
open Go.RowKit

theorem Tryd.infoPt3 : (Tryd.prog.info? 51).map (fun i => (i.zero, i.size, i.bytes)) = some (some (.agg #[.int .u64 0, .int .i64 0]), 2, 16) := by kernel_rfl
theorem ptown_below {w w' : World} {base : Nat} {e : TypeId} {size n : Nat} {v : Value} {xs : List Value} (h : w.ownsRow base e size v n xs) (hb : Below w.heap.size w w') : w'.ownsRow base e size v n xs :=
  h.kept (row := none) ⟨hb.os, hb.tape, hb.output, hb.size, fun k hk _ => hb.block k hk⟩ (by
    rcases h.2 with ⟨rfl, _⟩ | ⟨g, cap, cur, rfl, _⟩
    · exact Or.inl rfl
    · exact Or.inr (by simp [Value.ownBlock]))
theorem ptown_slice {W : World} {base : Nat} {e : TypeId} {size n : Nat} {v : Value} {xs : List Value} (h : W.ownsRow base e size v n xs) : ∃ A c, v = .slice A n c := by
  rcases h.2 with ⟨rfl, rfl⟩ | ⟨g, cap, cur, rfl, _⟩
  · exact ⟨none, 0, rfl⟩
  · exact ⟨_, _, rfl⟩
/-- the cells of a row that a slice owns -/
theorem ptown_cells {w : World} {base n : Nat} {e : TypeId} {v : Value} {L : List Pt} (h : w.ownsRow base e 2 v n (cellsPt L)) (hn : 0 < n) :
    ∃ g c, v = .slice (some ⟨g, 0, none⟩) n c ∧ base ≤ g ∧ g < w.heap.size ∧ ∀ k p, L[k]? = some p → w.rangeAt g (k * 2) (ptC p) := by
  rcases h.2 with ⟨rfl, rfl⟩ | ⟨g, cap, cur, rfl, h1, h2, h3, h4, h5, h6⟩
  · omega
  · refine ⟨g, cap, rfl, h1, (Array.getElem?_eq_some_iff.1 h2).1, fun k p hk j u hj => ?_⟩
    have hg := cellsPt_get hk hj
    rw [← h6, List.getElem?_take] at hg
    split at hg
    · rw [cell_of_row _ _ _ _ _ _ h2, ← Array.getElem?_toList]; simpa using hg
    · cases hg
section
variable {s : Nat} {L : List Pt}
theorem src_pt {w : World} (h : SerAt w s L) {n : Nat} (hn : n = L.length) : Src w (some ⟨s, 0, none⟩) n 2 (cellsPt L) := by
  subst hn
  refine ⟨cellsPt_length L, fun h0 => ?_⟩
  refine ⟨_, rfl, fun j u hj => ?_⟩
  have hjl : j < L.length * 2 := by
    have := (List.getElem?_eq_some_iff.1 hj).1
    rwa [cellsPt_length] at this
  have hp : L[j / 2]? = some (L[j / 2]'(by omega)) := List.getElem?_eq_getElem (by omega)
  rw [Addr.add_lit]
  rcases Nat.mod_two_eq_zero_or_one j with hm2 | hm2
  · have c := cellsPt_get (j := 0) hp rfl
    have d := h.pt hp 0 _ rfl
    rw [show j / 2 * 2 + 0 = j from by omega] at c d
    rw [show 0 + j = j from by omega, d, ← c, hj]
  · have c := cellsPt_get (j := 1) hp rfl
    have d := h.pt hp 1 _ rfl
    rw [show j / 2 * 2 + 1 = j from by omega] at c d
    rw [show 0 + j = j from by omega, d, ← c, hj]
end
end Go.Proofs.YthggaedpbmjclaaDoor
