/- Layer 13: the document's row of points: a slice that may begin in the midst of its block; one more at its end; cut at its head. -/
import Derived.Test.YthggaedpbmjclaaCdOrd
import Derived.ArgAppend
namespace Go.Proofs.Ythggaedpbmjclaa
open Go.RowKit Go.Proofs

theorem Try.infoRp3 : (Try.prog.info? 41).map (fun i => (i.zero, i.size, i.bytes)) = some (some (.agg #[.int .u64 0, .int .i64 0]), 2, 16) := by kernel_rfl
theorem Try.infoRp : (Try.prog.info? 41).map (·.size) = some 2 := by kernel_rfl
/-- the slice v reads as these points; its row is a block above B that is not s -/
structure RowP (w : World) (B s : Nat) (v : Value) (L : List Pt) : Prop where
  ex : (v = .slice none 0 0 ∧ L = []) ∨ ∃ g o c cur, v = .slice (some ⟨g, o, none⟩) L.length c ∧ B ≤ g ∧ g ≠ s ∧ w.heap[g]? = some (.cells cur 41 (0, 0)) ∧ L.length ≤ c ∧ o + c * 2 ≤ cur.size ∧ ∀ (j : Nat) u, (cellsPt L)[j]? = some u → cur[o + j]? = some u
section
variable {w w' : World} {B s : Nat} {v : Value} {L : List Pt}
theorem RowP.below (h : RowP w B s v L) (hb : Below w.heap.size w w') : RowP w' B s v L := by
  rcases h.ex with h1 | ⟨g, o, c, cur, h1, h2, h3, h4, h5⟩
  · exact ⟨.inl h1⟩
  · exact ⟨.inr ⟨g, o, c, cur, h1, h2, h3, (hb.block g (Array.getElem?_eq_some_iff.1 h4).1).trans h4, h5⟩⟩
theorem RowP.only (h : RowP w B s v L) (hb : Only13 s w w') : RowP w' B s v L := by
  rcases h.ex with h1 | ⟨g, o, c, cur, h1, h2, h3, h4, h5⟩
  · exact ⟨.inl h1⟩
  · exact ⟨.inr ⟨g, o, c, cur, h1, h2, h3, (hb.block g (Array.getElem?_eq_some_iff.1 h4).1 h3).trans h4, h5⟩⟩
theorem RowP.slice (h : RowP w B s v L) : ∃ A c, v = .slice A L.length c := by
  rcases h.ex with ⟨rfl, rfl⟩ | ⟨g, o, c, cur, h1, _⟩
  · exact ⟨none, 0, rfl⟩
  · exact ⟨_, _, h1⟩
theorem RowP.at_ (h : RowP w B s v L) {k : Nat} {p : Pt} (hk : L[k]? = some p) : ∃ g o c, v = .slice (some ⟨g, o, none⟩) L.length c ∧ w.rangeAt g (o + k * 2) (ptC p) := by
  rcases h.ex with ⟨rfl, rfl⟩ | ⟨g, o, c, cur, h1, h2, h3, h4, h5, h6, h7⟩
  · simp at hk
  · refine ⟨g, o, c, h1, fun j u hj => ?_⟩
    rw [cell_of_row _ _ _ _ _ _ h4, Nat.add_assoc]
    exact h7 _ _ (cellsPt_get hk hj)
/-- the first one is left out -/
theorem RowP.cut {g o c : Nat} (h : RowP w B s (.slice (some ⟨g, o, none⟩) L.length c) L) (hL : 0 < L.length) : RowP w B s (.slice (some ⟨g, o + 2, none⟩) (L.length - 1) (c - 1)) (L.drop 1) := by
  rcases h.ex with ⟨h1, rfl⟩ | ⟨g', o', c', cur, h1, h2, h3, h4, h5, h6, h7⟩
  · simp at hL
  · injection h1 with e1 e2 e3
    injection e1 with e1
    have e0 : o = o' := congrArg Addr.off e1
    have e1 : g = g' := congrArg Addr.block e1
    subst e1; subst e0; subst e3
    refine ⟨.inr ⟨g, o + 2, c - 1, cur, by rw [List.length_drop], h2, h3, h4, by rw [List.length_drop]; omega, by omega, fun j u hj => ?_⟩⟩
    have e : cellsPt L = cellsPt (L.take 1) ++ cellsPt (L.drop 1) := by rw [← cellsPt_append, List.take_append_drop]
    have hl : (cellsPt (L.take 1)).length = 2 := by rw [cellsPt_length, List.length_take]; omega
    rw [Nat.add_assoc]
    apply h7
    rw [e, List.getElem?_append_right (by omega), hl, show 2 + j - 2 = j from by omega]
    exact hj
/-- one more, at the end -/
theorem RowP.app (h : RowP w B s v L) (hL : L.length ≤ 1000) {ad : Addr} {c2 : Nat} {p : Pt} (hx : ∀ (j : Nat) u, (ptC p)[j]? = some u → w.cell? (ad.add j) = some u) (hB : B ≤ w.heap.size) (hs : s < w.heap.size) (ty : TypeId) :
    ∃ v' w', (Builtin.append_ #[36, 36] ty #[v, .slice (some ad) 1 c2]).run Try.prog w = .ok v' w' ∧ RowP w' B s v' (L ++ [p]) ∧ (∀ w0, Below B w0 w → Below B w0 w') ∧ w'.heap[s]? = w.heap[s]? := by
  obtain ⟨i0, hi, hz0, hz1, hz2⟩ := info_parts Try.infoRp3
  have hp1 : ∀ u ∈ ptC p, u.oneCell' = true := fun u hu => cellsPt_one [p] u (by simpa [cellsPt] using hu)
  have hlc : (cellsPt (L ++ [p])).length = (L.length + 1) * 2 := by rw [cellsPt_length, List.length_append]; rfl
  have grow : ∀ v' w', w'.ownsRow w.heap.size 41 2 v' (L.length + 1) (cellsPt L ++ ptC p) → w.grownBy w' none → RowP w' B s v' (L ++ [p]) ∧ (∀ w0, Below B w0 w → Below B w0 w') ∧ w'.heap[s]? = w.heap[s]? := fun v' w' ho hg => by
    refine ⟨⟨.inr ?_⟩, fun w0 h0 => h0.trans ⟨hg.os, hg.tape, hg.output, hg.size, fun k hk => hg.block k (by omega) (by simp)⟩, hg.block s hs (by simp)⟩
    rcases ho.2 with ⟨_, e2⟩ | ⟨g, cap, cur, e1, h1, h2, h3, h4, h5, h6⟩
    · omega
    · refine ⟨g, 0, cap, cur, by rw [e1, List.length_append]; rfl, by omega, by omega, h2, by rw [List.length_append]; exact h3, by omega, fun j u hj => ?_⟩
      have hj2 : j < (L.length + 1) * 2 := by have := (List.getElem?_eq_some_iff.1 hj).1; omega
      rw [cellsPt_append] at hj
      have hj3 : (cellsPt L ++ ptC p)[j]? = some u := hj
      rw [← h6, List.getElem?_take_of_lt hj2] at hj3
      rw [Nat.zero_add, ← Array.getElem?_toList]; exact hj3
  rcases h.ex with ⟨rfl, rfl⟩ | ⟨g, o, c, cur, rfl, h2, h3, h4, h5, h6, h7⟩
  · obtain ⟨v', w', hrun, ho, hg, -⟩ := run_append_own (P := Try.prog) w w.heap.size 36 ty 41 i0 _ 2 16 Try.underlying36 hi hz0 hz1 hz2 rfl (by decide) (.slice none 0 0) 0 [] (World.ownsRow_nil w _ _ _) ad 1 c2 (ptC p) rfl hx hp1 (by unfold maxLen; omega) (by omega) (Nat.le_refl _)
    exact ⟨v', w', hrun, grow v' w' ho hg⟩
  · have hold : ∀ j u, (cellsPt L)[j]? = some u → w.cell? ((⟨g, o, none⟩ : Addr).add j) = some u := fun j u hj => by
      rw [Addr.add_lit, cell_of_row _ _ _ _ _ _ h4]
      exact h7 j u hj
    by_cases hc : L.length + 1 ≤ c
    · have hrun := run_append_room_cells (P := Try.prog) w 36 ty 41 i0 Try.underlying36 hi g o L.length c ad 1 c2 (ptC p) (by rw [hz1]; rfl) hx hp1 hc (fun j hj => by
        rw [cell_of_row _ _ _ _ _ _ h4, hz1, Array.getElem?_eq_getElem (by have : j < 2 := hj; omega)]; rfl) (fun j hj => frozen_of_row _ _ _ _ _ h4)
      rw [hz1] at hrun
      have h8 := heap_setCell_same _ g (o + L.length * 2) _ _ (.int .u64 p.t) h4
      have h9 := heap_setCell_same _ g (o + L.length * 2 + 1) _ _ (.int .i64 p.v) h8
      have ho : Only13 g w (w.setCells g (o + L.length * 2) (ptC p)) := (Only13.setCell _ _ _ _).trans (Only13.setCell _ _ _ _)
      refine ⟨_, _, hrun, ⟨.inr ⟨g, o, c, _, by rw [List.length_append]; rfl, h2, h3, h9, by rw [List.length_append]; exact hc, by simpa using h6, fun j u hj => ?_⟩⟩, fun w0 h0 => ho.below h0 hB h2, ho.block s hs (fun e => h3 e.symm)⟩
      have hj2 : j < (L.length + 1) * 2 := by have := (List.getElem?_eq_some_iff.1 hj).1; omega
      rw [cellsPt_append] at hj
      have hl := cellsPt_length L
      by_cases hjl : j < L.length * 2
      · rw [List.getElem?_append_left (by omega)] at hj
        rw [Array.getElem?_setIfInBounds_ne (by omega), Array.getElem?_setIfInBounds_ne (by omega)]
        exact h7 j u hj
      · rw [List.getElem?_append_right (by omega), hl] at hj
        have hj3 : j = L.length * 2 ∨ j = L.length * 2 + 1 := by omega
        rcases hj3 with rfl | rfl
        · rw [Nat.sub_self] at hj
          rw [Array.getElem?_setIfInBounds_ne (by omega), Array.getElem?_setIfInBounds_self_of_lt (by omega)]
          exact hj
        · rw [Nat.add_sub_cancel_left] at hj
          rw [show o + (L.length * 2 + 1) = o + L.length * 2 + 1 from by omega, Array.getElem?_setIfInBounds_self_of_lt (by simp; omega)]
          exact hj
    · obtain ⟨v', w', hrun, ho, hg⟩ := run_append_arg_grows (P := Try.prog) w 36 ty 41 i0 _ 2 16 Try.underlying36 hi hz0 hz1 hz2 rfl (by decide) ⟨g, o, none⟩ L.length c (cellsPt L) (cellsPt_length L) hold ad 1 c2 (ptC p) rfl hx (by omega) (by unfold maxLen; omega) (by omega)
      exact ⟨v', w', hrun, grow v' w' ho hg⟩
end
end Go.Proofs.Ythggaedpbmjclaa
