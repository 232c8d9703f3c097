/- Layer 13: slices.Clone of points; Points of a series. -/
import Derived.Test.YthggaedpbmjclaaCdAdd
import Derived.Test.YthggaedpbmjclaaApp
namespace Go.Proofs.Ythggaedpbmjclaa
open Go.RowKit

theorem Try.infoPt3 : (Try.prog.info? 32).map (fun i => (i.zero, i.size, i.bytes)) = some (some (.agg #[.int .u64 0, .int .i64 0]), 2, 16) := by kernel_rfl
theorem ptown_below {w w' : World} {base : Nat} {e : TypeId} {size n : Nat} {v : Value} {xs : List Value} (h : w.ownsRow base e size v n xs) (hb : Below w.heap.size w w') : w'.ownsRow base e size v n xs :=
  h.kept (row := none) ⟨hb.os, hb.tape, hb.output, hb.size, fun k hk _ => hb.block k hk⟩ (by
    rcases h.2 with ⟨rfl, _⟩ | ⟨g, cap, cur, rfl, _⟩
    · exact Or.inl rfl
    · exact Or.inr (by simp [Value.ownBlock]))
theorem ptown_slice {W : World} {base : Nat} {e : TypeId} {size n : Nat} {v : Value} {xs : List Value} (h : W.ownsRow base e size v n xs) : ∃ A c, v = .slice A n c := by
  rcases h.2 with ⟨rfl, rfl⟩ | ⟨g, cap, cur, rfl, _⟩
  · exact ⟨none, 0, rfl⟩
  · exact ⟨_, _, rfl⟩
/-- the cells of a row that a slice owns -/
theorem ptown_cells {w : World} {base n : Nat} {e : TypeId} {v : Value} {L : List Pt} (h : w.ownsRow base e 2 v n (cellsPt L)) (hn : 0 < n) :
    ∃ g c, v = .slice (some ⟨g, 0, none⟩) n c ∧ base ≤ g ∧ g < w.heap.size ∧ ∀ k p, L[k]? = some p → w.rangeAt g (k * 2) (ptC p) := by
  rcases h.2 with ⟨rfl, rfl⟩ | ⟨g, cap, cur, rfl, h1, h2, h3, h4, h5, h6⟩
  · omega
  · refine ⟨g, cap, rfl, h1, (Array.getElem?_eq_some_iff.1 h2).1, fun k p hk j u hj => ?_⟩
    have hg := cellsPt_get hk hj
    rw [← h6, List.getElem?_take] at hg
    split at hg
    · rw [cell_of_row _ _ _ _ _ _ h2, ← Array.getElem?_toList]; simpa using hg
    · cases hg
section
variable {s : Nat} {L : List Pt}
theorem src_pt {w : World} (h : SerAt w s L) {n : Nat} (hn : n = L.length) : Src w (some ⟨s, 0, none⟩) n 2 (cellsPt L) := by
  subst hn
  refine ⟨cellsPt_length L, fun h0 => ?_⟩
  refine ⟨_, rfl, fun j u hj => ?_⟩
  have hjl : j < L.length * 2 := by
    have := (List.getElem?_eq_some_iff.1 hj).1
    rwa [cellsPt_length] at this
  have hp : L[j / 2]? = some (L[j / 2]'(by omega)) := List.getElem?_eq_getElem (by omega)
  rw [Addr.add_lit]
  rcases Nat.mod_two_eq_zero_or_one j with hm2 | hm2
  · have c := cellsPt_get (j := 0) hp rfl
    have d := h.pt hp 0 _ rfl
    rw [show j / 2 * 2 + 0 = j from by omega] at c d
    rw [show 0 + j = j from by omega, d, ← c, hj]
  · have c := cellsPt_get (j := 1) hp rfl
    have d := h.pt hp 1 _ rfl
    rw [show j / 2 * 2 + 1 = j from by omega] at c d
    rw [show 0 + j = j from by omega, d, ← c, hj]
set_option maxRecDepth 100000 in
set_option maxHeartbeats 400000 in
/-- a copy of the series' points -/
theorem ptclone_any {n : Nat} (w : World) (h : SerAt w s L) (hn : n = L.length) :
    Calls Try.prog 14 #[.slice (some ⟨s, 0, none⟩) n 32] w fun e w' => ∃ v, e = .returned v ∧ w'.ownsRow w.heap.size 32 2 v n (cellsPt L) ∧ Below w.heap.size w w' := by
  obtain ⟨i0, hi, hz0, hz1, hz2⟩ := info_parts Try.infoPt3
  have q22 : ∀ (w : World) (a : Option Addr) (n c n' c' : Nat), (binOp .eql 42 (.slice a n c) (.slice none n' c')).run Try.prog w = .ok (.bool a.isNone) w := fun w a n c n' c' => Lib.run_eql_slice_nil w _ _ a n c n' c' Try.underlying42
  have hm := h.few
  rw [← hn] at hm
  have hs1 : Src (w.alloc (.cells #[] 32)) (some ⟨s, 0, none⟩) n 2 (cellsPt L) := src_pt (h.below ((Below.refl _ w).alloc (Nat.le_refl _) _)) hn
  have HS := Lib.hid hs1
  have Hm := Lib.hid hm
  clear hs1 hn hm h
  go_enter Try.func14, Try.ntmps14
  go_wp2_with (at_builtin; refine wpList_append_src (base := w.heap.size) rfl _ _ rfl Try.underlying42 hi hz0 hz1 hz2 rfl (by decide) rfl (World.ownsRow_made _ #[] 0 (Nat.le_refl _) (Nat.zero_le _) rfl) rfl HS.out (cellsPt_one _) (by have := Hm.out; unfold maxLen; omega) (by have := Hm.out; omega) (by simp) ?_; intro v1 w1 hr1 hg1 hb1; replace hb1 : Below w.heap.size w w1 := ((Below.refl _ w).alloc (Nat.le_refl _) _).grown hg1 (by simp) (fun q hq => by cases hq; exact Nat.le_refl _); replace hr1 := Lib.hid hr1; clear hg1)
  go_ret
  have h := hr1.out
  rw [Nat.zero_add, List.nil_append] at h
  exact ⟨_, rfl, h, hb1⟩
set_option maxRecDepth 100000 in
set_option maxHeartbeats 400000 in
theorem cpoints_any {n : Nat} (w : World) (h : SerAt w s L) (hn : n = L.length) :
    Calls Try.prog 7 #[.pointer (some ⟨s, 0, none⟩)] w fun e w' => ∃ v, e = .returned v ∧ w'.ownsRow w.heap.size 32 2 v n (cellsPt L) ∧ Below w.heap.size w w' := by
  have HM : Hid (∀ W, Below w.heap.size w W → W.cell? ⟨s, 64, none⟩ = some (.int .i64 n)) := fun W hW => by rw [hn]; exact (h.below hW).many
  have HC := Lib.hid (ptclone_any w.drew (h.below (Below.refl _ _).drew) hn)
  have hm := h.few
  rw [← hn] at hm
  have hm1 : (n : Int) ≤ 32 := by omega
  have hw : IntKind.i64.wrap (n : Int) = (n : Int) := by rw [IntKind.wrap_i64]; omega
  clear h hn
  go_enter Try.func7, Try.ntmps7
  go_upto_region 3 with fail
  refine wp_region_noPanic ?_
  refine wp_region_held_drew (S := fun W => Below w.heap.size w W) (by kernel_rfl) ?_ (fun hHeld => ?_)
  · exact (Below.refl _ w).drew
  try simp only [heldPut, List.set]
  refine heldTake (i := 0) (v := ?_) rfl (by kernel_rfl) (by kernel_rfl) (by kernel_rfl) (fun _ _ _ h => h) (Or.inl ⟨by rfl, ?_⟩) (by assumption) ?_
  rotate_left
  · (intro W hSw; (try dsimp only at hSw); have f1 := HM.out W hSw; go_simp; try with_reducible rfl)
  try simp only [heldPut, List.set]
  refine heldTake (i := 1) (v := ?_) rfl (by kernel_rfl) (by kernel_rfl) (by kernel_rfl) (fun _ _ _ h => h) (Or.inl ⟨by rfl, ?_⟩) (by assumption) ?_
  rotate_left
  · (intro W hSw; (try dsimp only at hSw); have f1 := HM.out W hSw; go_simp; try with_reducible rfl)
  try simp only [heldPut, List.set]
  refine heldTake (i := 2) (v := ?_) rfl (by kernel_rfl) (by kernel_rfl) (by kernel_rfl) (fun _ _ _ h => h) (Or.inl ⟨by rfl, ?_⟩) (by assumption) ?_
  rotate_left
  · (intro W hSw; (try dsimp only at hSw); have f1 := HM.out W hSw; go_simp; try with_reducible rfl)
  try simp only [heldPut, List.set]
  refine heldTake (i := 3) (v := ?_) rfl (by kernel_rfl) (by kernel_rfl) (by kernel_rfl) (fun _ _ _ h => h) (Or.inl ⟨by rfl, ?_⟩) (by assumption) ?_
  rotate_left
  · (intro W hSw; (try dsimp only at hSw); have f1 := HM.out W hSw; go_simp; try with_reducible rfl)
  try simp only [heldPut, List.set]
  refine heldTake (i := 4) (v := ?_) rfl (by kernel_rfl) (by kernel_rfl) (by kernel_rfl) (fun _ _ _ h => h) (Or.inl ⟨by rfl, ?_⟩) (by assumption) ?_
  rotate_left
  · (intro W hSw; (try dsimp only at hSw); have f1 := HM.out W hSw; go_simp; try with_reducible rfl)
  try simp only [heldPut, List.set]
  refine heldTake (i := 5) (v := ?_) rfl (by kernel_rfl) (by kernel_rfl) (by kernel_rfl) (fun _ _ _ h => h) (Or.inl ⟨by rfl, ?_⟩) (by assumption) ?_
  rotate_left
  · (intro W hSw; (try dsimp only at hSw); have f1 := HM.out W hSw; go_simp; try with_reducible rfl)
  try simp only [heldPut, List.set]
  refine heldTake (i := 6) (v := ?_) rfl (by kernel_rfl) (by kernel_rfl) (by kernel_rfl) (fun _ _ _ h => h) (Or.inl ⟨by rfl, ?_⟩) (by assumption) ?_
  rotate_left
  · (intro W hSw; (try dsimp only at hSw); have f1 := HM.out W hSw; go_simp; try with_reducible rfl)
  try simp only [heldPut, List.set]
  refine heldTake (i := 7) (v := (.slice (some ⟨s, 0, none⟩) n 32)) rfl (by kernel_rfl) (by kernel_rfl) (by kernel_rfl) (fun _ _ _ h => h) (Or.inl ⟨by rfl, ?_⟩) (by assumption) ?_
  · (intro W hSw; go_simp)
  try simp only [heldPut, List.set]
  refine heldOne (i := 8) rfl (by kernel_rfl) (fun K hK => ?_)
  go_simp
  refine HC.out.mono ?_
  rintro _ w1 ⟨v, rfl, ho, hb1⟩
  have HO := Lib.hid ho
  have HB := Lib.hid ((Below.refl _ w).drew.trans hb1)
  clear ho hb1
  go_wp2_with fail
  refine hK.out _ _ ?_ (fun hHeld => ?_)
  · exact HB.out
  clear hK K
  try simp only [heldPut, List.set]
  refine heldTake (i := 9) (v := ?_) rfl (by kernel_rfl) (by kernel_rfl) (by kernel_rfl) (fun _ _ _ h => h) (Or.inl ⟨by rfl, ?_⟩) (by assumption) ?_
  rotate_left
  · (intro W hSw; (try dsimp only at hSw); go_simp; try with_reducible rfl)
  try simp only [heldPut, List.set]
  refine wpAnyH_done (by kernel_rfl) ?_ _
  refine NoPanic.normal ?_
  go_wp2
  go_ret
  exact ⟨v, rfl, HO.out, HB.out⟩
end
end Go.Proofs.Ythggaedpbmjclaa
