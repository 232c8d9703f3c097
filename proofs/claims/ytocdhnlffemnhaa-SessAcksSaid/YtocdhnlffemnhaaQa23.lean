/- Several texts in one: SsIn2. -/
import Derived.Test.YtocdhnlffemnhaaQa22
/- Layer 12: the taking end: NewIn, Answer. -/
namespace Go.Proofs.Ytocdhnlffemnhaa
open Go.RowKit
set_option maxRecDepth 100000 in
set_option maxHeartbeats 1000000 in
theorem newIn_ends (a b l : Nat) (z n : Int) (w : World) (hn : n ≠ 0)
    (HE : ∀ W, Calls Try.prog 22 #[.int .u8 a, .int .u8 b, .int .u64 l] W fun e w' => e = .returned (.tuple #[.agg #[.int .u8 0, .int .u8 0, .int .u64 0], .int .i64 n]) ∧ Below W.heap.size W w') :
    Calls Try.prog 11 #[.int .u8 a, .int .u8 b, .int .u64 l, .int .i64 z] w fun e w' => e = .returned (.tuple #[.pointer none, .int .i64 n]) ∧ Below w.heap.size w w' := by
  have HEE := Lib.hid HE
  have d1 : (n == 0) = false := by rw [beq_eq_false_iff_ne]; exact hn
  have d2 : (n != 0) = true := by rw [bne, d1]; rfl
  clear HE hn
  go_enter Try.func11, Try.ntmps11
  go_wp2_with fail
  refine (HEE.out _).mono ?_
  rintro _ w1 ⟨rfl, hb1⟩
  have HB1 := Lib.hid hb1
  have HX := Lib.hid (heap_alloc_new w1 (.cells #[.int .u8 0, .int .u8 0, .int .u64 0] 66))
  clear hb1
  go_upto_region 2 with (first | (refine wpList_store_row rfl _ _ _ rfl w1.heap.size _ rfl rfl _ _ HX.out Try.infoEnds rfl (by simp [Value.oneCell']) ?_) | fail)
  have hb2 := HB1.out.trans ((below_row (w := w1) (cs := #[.int .u8 0, .int .u8 0, .int .u64 0]) (cs' := #[.int .u8 0, .int .u8 0, .int .u64 0]) (t := 66)).mono HB1.out.size)
  have HB2 := Lib.hid hb2
  clear hb2
  go_wp2
  go_ret2
  exact ⟨rfl, HB2.out⟩
def inZ (a b l : Nat) (z : Int) : Array Value := #[.int .u8 a, .int .u8 b, .int .u64 l, .int .i64 z, .int .u64 0, .pointer none]
set_option maxRecDepth 100000 in
set_option maxHeartbeats 1000000 in
theorem newIn_of (a b l : Nat) (z n : Int) (Q : World → World → Nat → Prop) (w : World) (ha : a ≤ 31) (hb : b ≤ 31) (hab : a ≠ b) (hl : 1 ≤ l) (hl2 : l ≤ 1048575)
    (HR : ∀ W o, W.heap[o]? = some (.cells (inZ a b l z) 80 (0, 0)) → Calls Try.prog 27 #[.pointer (some ⟨o, 0, none⟩), .int .u64 0] W fun e w' => e = .returned (.int .i64 n) ∧ Q W w' o) :
    Calls Try.prog 11 #[.int .u8 a, .int .u8 b, .int .u64 l, .int .i64 z] w fun e w' => ∃ W o, Below w.heap.size w W ∧ w.heap.size ≤ o ∧ o < W.heap.size ∧ Q W w' o ∧ e = .returned (.tuple #[.pointer (if n = 0 then some ⟨o, 0, none⟩ else none), .int .i64 n]) := by
  have HEE := Lib.hid (fun W => newEnds_any a b l ha hb hab hl hl2 W)
  have HRR := Lib.hid HR
  clear HR ha hb hab hl hl2
  go_enter Try.func11, Try.ntmps11
  go_wp2_with fail
  refine (HEE.out _).mono ?_
  rintro _ w1 ⟨rfl, hb1⟩
  have HB1 := Lib.hid hb1
  have HX := Lib.hid (heap_alloc_new w1 (.cells #[.int .u8 0, .int .u8 0, .int .u64 0] 66))
  clear hb1 HEE
  go_upto_region 2 with (first | (refine wpList_store_row rfl _ _ _ rfl w1.heap.size _ rfl rfl _ _ HX.out Try.infoEnds rfl (by simp [Value.oneCell']) ?_) | fail)
  obtain ⟨U, hU⟩ : ∃ U, U = (w1.alloc (.cells #[.int .u8 0, .int .u8 0, .int .u64 0] 66)).setRow w1.heap.size #[.int .u8 a, .int .u8 b, .int .u64 l] := ⟨_, rfl⟩
  rw [← hU]
  have hbU : Below w1.heap.size w1 U := by rw [hU]; exact below_row
  have hxU : U.heap[w1.heap.size]? = some (.cells #[.int .u8 a, .int .u8 b, .int .u64 l] 66 (0, 0)) := by rw [hU]; exact setRow_heap _ _ _ _ _ _ HX.out
  have HXU := Lib.hid hxU
  have HBU := Lib.hid (HB1.out.trans (hbU.mono HB1.out.size))
  clear hU hbU hxU HX
  go_upto_region 5 with (first
    | (refine wpList_load_row rfl _ _ rfl w1.heap.size rfl _ _ _ _ HXU.out Try.underlying66 rfl Try.infoEnds ?_)
    | fail)
  have HNB := Lib.hid (heap_alloc_new U (.cells (inZ a b l z) 80))
  obtain ⟨Y, hY⟩ : ∃ Y, Y = U.alloc (.cells (inZ a b l z) 80) := ⟨_, rfl⟩
  rw [← hY] at HNB
  have hY2 := hY
  unfold inZ at hY2
  rw [← hY2]
  have HBY : Hid (Below w.heap.size w Y ∧ w.heap.size ≤ U.heap.size ∧ U.heap.size < Y.heap.size) := by
    have h1 := HBU.out.size
    rw [hY]
    exact ⟨HBU.out.alloc h1 _, h1, by simp⟩
  have HRY := Lib.hid (HRR.out Y _ HNB.out)
  clear hY hY2
  go_wp2_with fail
  refine HRY.out.mono ?_
  rintro _ w2 ⟨rfl, hq⟩
  have HQ := Lib.hid hq
  clear hq HRY HRR
  by_cases hn : n = 0
  · have d1 : (n == 0) = true := by rw [beq_iff_eq]; exact hn
    have d2 : (n != 0) = false := by rw [bne, d1]; rfl
    go_wp2
    go_ret2
    refine ⟨Y, HBY.out.1, U.heap.size, HBY.out.2.1, HBY.out.2.2, HQ.out, ?_⟩
    first | rfl | (rw [hn]; rfl) | (rw [if_pos hn, hn]; rfl)
  · have d1 : (n == 0) = false := by rw [beq_eq_false_iff_ne]; exact hn
    have d2 : (n != 0) = true := by rw [bne, d1]; rfl
    have hn' := hn
    go_wp2
    go_ret2
    refine ⟨Y, HBY.out.1, U.heap.size, HBY.out.2.1, HBY.out.2.2, HQ.out, ?_⟩
    first | rfl | (rw [if_neg hn]; rfl)
theorem newIn_bad (a b l : Nat) (z n : Int) (w : World) (ha : a ≤ 31) (hb : b ≤ 31) (hab : a ≠ b) (hl : 1 ≤ l) (hl2 : l ≤ 1048575) (hn : n ≠ 0)
    (HN : ∀ W, Calls Try.prog 10 #[.int .i64 z] W fun e w' => e = .returned (.tuple #[.pointer none, .int .i64 n]) ∧ W = w') :
    Calls Try.prog 11 #[.int .u8 a, .int .u8 b, .int .u64 l, .int .i64 z] w fun e w' => e = .returned (.tuple #[.pointer none, .int .i64 n]) ∧ Below w.heap.size w w' := by
  refine (newIn_of a b l z n (fun W w' _ => W = w') w ha hb hab hl hl2 fun W o hW => ?_).mono ?_
  · exact ibegin_bad 0 W (cell_of_row _ _ 3 _ _ _ hW) hn HN
  · rintro e w' ⟨W, o, h1, h2, h3, rfl, h5⟩
    rw [if_neg hn] at h5
    exact ⟨h5, h1⟩
/-- a taking end, which saw no epoch -/
theorem newIn_any (a b l z : Nat) (w : World) (ha : a ≤ 31) (hb : b ≤ 31) (hab : a ≠ b) (hl : 1 ≤ l) (hl2 : l ≤ 1048575) (h1 : 1 ≤ z) (h2 : z ≤ 64) :
    Calls Try.prog 11 #[.int .u8 a, .int .u8 b, .int .u64 l, .int .i64 z] w fun e w' => ∃ S i, e = .returned (.tuple #[.pointer (some ⟨i, 0, none⟩), .int .i64 0]) ∧ InAt w' S i ⟨a, b, l, z, 0⟩ ⟨z, 0, 0⟩ (fun _ => none) 0 ∧ (∀ k, S k → w.heap.size ≤ k) ∧ Below w.heap.size w w' := by
  refine (newIn_of a b l z 0 (fun W w' i => ∃ S', InAt w' S' i ⟨a, b, l, z, 0⟩ ⟨z, 0, 0⟩ (fun _ => none) 0 ∧ Step W (fun k => k = i) w' S') w ha hb hab hl hl2 fun W i hW => ?_).mono ?_
  · have hil := (Array.getElem?_eq_some_iff.1 hW).1
    exact ibegin_gen (S := fun k => k = i) (I := ⟨a, b, l, z, 0⟩) (v := .pointer none) W hW rfl (fun k hk => by rw [hk]; exact hil) h1 h2
  · rintro e w' ⟨W, i, g1, g2, g3, ⟨S', g4, g5⟩, g7⟩
    refine ⟨S', i, by rw [if_pos rfl] at g7; exact g7, g4, fun k hk => ?_, g1.trans (g5.only.below g1.size (fun k hk => by rw [hk]; exact g2))⟩
    have := g1.size
    rcases g5.new k hk with h | h
    · rw [h]; exact g2
    · omega
section
variable {S : Nat → Prop} {i k : Nat} {I : Ix} {V : Rv} {F : Hs}
/-- an empty frame's cells -/
def zFm : Fm := ⟨0, 0, 0, 0, 0, ⟨false, 0, 0, 0, ⟨#[]⟩, [], 0, 0, 0, 0, 0, 0, 0⟩, none, 0, 0, 0, 0⟩
/-- an answer -/
def ansF (I : Ix) (t b : Nat) : Fm := { zFm with k := 2, f := I.me, t := I.pe, e := I.ep, c := t, b := b, l := I.li }
set_option maxRecDepth 100000 in
set_option maxHeartbeats 1000000 in
theorem ianswer_nil (w : World) : Calls Try.prog 12 #[.pointer none] w fun e w' => e = .returned (.tuple #[.agg (frmC zFm).toArray, .bool false]) ∧ Below w.heap.size w w' := by
  have HX := Lib.hid (heap_alloc_new w (.cells (frmC zFm).toArray 32))
  go_enter Try.func12, Try.ntmps12
  go_wp2_with (refine wpList_store_row rfl _ _ _ rfl w.heap.size _ rfl rfl _ _ HX.out Try.infoFr rfl (by simp [Value.oneCell']) ?_)
  refine bodyPost_ret (v := .tuple #[.agg (frmC zFm).toArray, .bool false]) (results_cell_two rfl _ _ w.heap.size _ _ _ _ rfl rfl (setRow_heap _ _ _ _ _ _ HX.out) Try.underlying32 rfl Try.infoFr) rfl ⟨rfl, below_row⟩
set_option maxRecDepth 100000 in
set_option maxHeartbeats 1000000 in
theorem ianswer_none (w : World) (h : InAt w S i I V F k) (he : I.ep = 0) : Calls Try.prog 12 #[.pointer (some ⟨i, 0, none⟩)] w fun e w' => e = .returned (.tuple #[.agg (frmC zFm).toArray, .bool false]) ∧ Below w.heap.size w w' := by
  have HX := Lib.hid (heap_alloc_new w (.cells (frmC zFm).toArray 32))
  obtain ⟨s, m, c0, c1, c2, c3, c4, c5, hf, hr, _⟩ := (h.below ((Below.refl w.heap.size w).alloc (Nat.le_refl _) (.cells (frmC zFm).toArray 32))).cells
  rw [he] at c4
  obtain ⟨U, hU⟩ : ∃ U, U = w.alloc (.cells (frmC zFm).toArray 32) := ⟨_, rfl⟩
  have HU := Lib.hid hU
  rw [← hU] at c4 HX
  have hU2 : U = w.alloc (.cells #[.int .u8 0, .int .u8 0, .int .u8 0, .int .u64 0, .int .u64 0, .bool false, .int .u8 0, .int .u64 0, .int .u64 0, .string ⟨#[]⟩, .slice none 0 0, .int .u8 0, .int .u8 0, .int .i64 0, .int .u8 0, .int .u8 0, .int .u64 0, .int .u64 0, .int .u64 0, .int .u64 0, .int .u64 0] 32) := hU
  clear h he c0 c1 c2 c3 c5 hf hr hU
  go_enter Try.func12, Try.ntmps12
  go_upto_region 1 with fail
  rw [← hU2]
  clear hU2
  go_wp2_with (refine wpList_store_row rfl _ _ _ rfl w.heap.size _ rfl rfl _ _ HX.out Try.infoFr rfl (by simp [Value.oneCell']) ?_)
  refine bodyPost_ret (v := .tuple #[.agg (frmC zFm).toArray, .bool false]) (results_cell_two rfl _ _ w.heap.size _ _ _ _ rfl rfl (setRow_heap _ _ _ _ _ _ HX.out) Try.underlying32 rfl Try.infoFr) rfl ⟨rfl, ?_⟩
  rw [HU.out]
  exact below_row
set_option maxRecDepth 100000 in
set_option maxHeartbeats 2000000 in
theorem ianswer_any (w : World) (h : InAt w S i I V F k) (he : 0 < I.ep) (ht : V.t ≤ 1099511627776) (hW : 1 ≤ V.W) (hW2 : V.W ≤ 64) : Calls Try.prog 12 #[.pointer (some ⟨i, 0, none⟩)] w fun e w' => ∃ b, e = .returned (.tuple #[.agg (frmC (ansF I V.t b)).toArray, .bool true]) ∧ Below w.heap.size w w' := by
  have HX := Lib.hid (heap_alloc_new w (.cells (frmC zFm).toArray 32))
  obtain ⟨U, hU⟩ : ∃ U, U = w.alloc (.cells (frmC zFm).toArray 32) := ⟨_, rfl⟩
  have hbU : Below w.heap.size w U := by rw [hU]; exact (Below.refl _ _).alloc (Nat.le_refl _) _
  have HBU := Lib.hid hbU
  have HI := Lib.hid (h.below hbU)
  have HIL := Lib.hid (h.lt i h.iS)
  obtain ⟨s, m, c0, c1, c2, c3, c4, c5, hf, hr, _⟩ := (h.below hbU).cells
  obtain ⟨b, hb⟩ : ∃ b, b = bitsN (heldB F (V.t + 1)) (V.W - 1) := ⟨_, rfl⟩
  have HAK := Lib.hid (rack_any (n := V.t + 1) U hr rfl ht hW hW2)
  rw [← hb] at HAK
  rw [← hU] at HX
  have hU2 : U = w.alloc (.cells #[.int .u8 0, .int .u8 0, .int .u8 0, .int .u64 0, .int .u64 0, .bool false, .int .u8 0, .int .u64 0, .int .u64 0, .string ⟨#[]⟩, .slice none 0 0, .int .u8 0, .int .u8 0, .int .i64 0, .int .u8 0, .int .u8 0, .int .u64 0, .int .u64 0, .int .u64 0, .int .u64 0, .int .u64 0] 32) := hU
  have d1 : ((I.ep : Int) == 0) = false := by rw [beq_eq_false_iff_ne]; omega
  obtain ⟨t, ht2⟩ : ∃ t, t = V.t := ⟨_, rfl⟩
  rw [← ht2] at HAK ⊢
  clear h he c0 c1 c2 c3 hf hr hU hbU ht hW hW2 hb ht2
  go_enter Try.func12, Try.ntmps12
  go_upto_region 1 with fail
  rw [← hU2]
  clear hU2
  go_wp2_with fail
  refine HAK.out.mono ?_
  rintro _ w1 ⟨rfl, hb1⟩
  have HB1 := Lib.hid hb1
  have HI1 := Lib.hid (HI.out.below hb1)
  have HX1 := Lib.hid ((hb1.block _ (Array.getElem?_eq_some_iff.1 HX.out).1).trans HX.out)
  clear hb1 HAK HX HI c4 c5
  go_upto_region 4 with fail
  have HC : Hid (∀ W, Below w.heap.size w1 W → W.cell? ⟨i, 0, none⟩ = some (.int .u8 I.me) ∧ W.cell? ⟨i, 1, none⟩ = some (.int .u8 I.pe) ∧ W.cell? ⟨i, 2, none⟩ = some (.int .u64 I.li) ∧ W.cell? ⟨i, 4, none⟩ = some (.int .u64 I.ep)) := fun W hW => by
    obtain ⟨s, m, c0, c1, c2, c3, c4, c5, _⟩ := HI1.out.cells
    have hil := HIL.out
    exact ⟨(hW.cell (p := ⟨i, 0, none⟩) hil).trans c0, (hW.cell (p := ⟨i, 1, none⟩) hil).trans c1, (hW.cell (p := ⟨i, 2, none⟩) hil).trans c2, (hW.cell (p := ⟨i, 4, none⟩) hil).trans c4⟩
  refine wp_region_noPanic ?_
  refine wp_region_held_drew (S := fun W => Below w.heap.size w1 W) (by kernel_rfl) ?_ (fun hHeld => ?_)
  · exact (Below.refl _ _).drew
  try simp only [heldPut, List.set]
  refine heldTake (i := 0) (v := ?_) rfl (by kernel_rfl) (by kernel_rfl) (by kernel_rfl) (fun _ _ _ h => h) (Or.inl ⟨by rfl, ?_⟩) (by assumption) ?_
  rotate_left
  · (intro W hSw; (try dsimp only at hSw); obtain ⟨c0, c1, c2, c4⟩ := HC.out W hSw; go_simp; try with_reducible rfl)
  try simp only [heldPut, List.set]
  refine heldTake (i := 1) (v := ?_) rfl (by kernel_rfl) (by kernel_rfl) (by kernel_rfl) (fun _ _ _ h => h) (Or.inl ⟨by rfl, ?_⟩) (by assumption) ?_
  rotate_left
  · (intro W hSw; (try dsimp only at hSw); obtain ⟨c0, c1, c2, c4⟩ := HC.out W hSw; go_simp; try with_reducible rfl)
  try simp only [heldPut, List.set]
  refine heldTake (i := 2) (v := ?_) rfl (by kernel_rfl) (by kernel_rfl) (by kernel_rfl) (fun _ _ _ h => h) (Or.inl ⟨by rfl, ?_⟩) (by assumption) ?_
  rotate_left
  · (intro W hSw; (try dsimp only at hSw); obtain ⟨c0, c1, c2, c4⟩ := HC.out W hSw; go_simp; try with_reducible rfl)
  try simp only [heldPut, List.set]
  refine heldTake (i := 3) (v := ?_) rfl (by kernel_rfl) (by kernel_rfl) (by kernel_rfl) (fun _ _ _ h => h) (Or.inl ⟨by rfl, ?_⟩) (by assumption) ?_
  rotate_left
  · (intro W hSw; (try dsimp only at hSw); obtain ⟨c0, c1, c2, c4⟩ := HC.out W hSw; go_simp; try with_reducible rfl)
  try simp only [heldPut, List.set]
  refine heldTake (i := 4) (v := ?_) rfl (by kernel_rfl) (by kernel_rfl) (by kernel_rfl) (fun _ _ _ h => h) (Or.inl ⟨by rfl, ?_⟩) (by assumption) ?_
  rotate_left
  · (intro W hSw; (try dsimp only at hSw); obtain ⟨c0, c1, c2, c4⟩ := HC.out W hSw; go_simp; try with_reducible rfl)
  try simp only [heldPut, List.set]
  refine heldTake (i := 5) (v := ?_) rfl (by kernel_rfl) (by kernel_rfl) (by kernel_rfl) (fun _ _ _ h => h) (Or.inl ⟨by rfl, ?_⟩) (by assumption) ?_
  rotate_left
  · (intro W hSw; (try dsimp only at hSw); obtain ⟨c0, c1, c2, c4⟩ := HC.out W hSw; go_simp; try with_reducible rfl)
  try simp only [heldPut, List.set]
  refine heldTake (i := 6) (v := ?_) rfl (by kernel_rfl) (by kernel_rfl) (by kernel_rfl) (fun _ _ _ h => h) (Or.inl ⟨by rfl, ?_⟩) (by assumption) ?_
  rotate_left
  · (intro W hSw; (try dsimp only at hSw); obtain ⟨c0, c1, c2, c4⟩ := HC.out W hSw; go_simp; try with_reducible rfl)
  try simp only [heldPut, List.set]
  refine heldTake (i := 7) (v := ?_) rfl (by kernel_rfl) (by kernel_rfl) (by kernel_rfl) (fun _ _ _ h => h) (Or.inl ⟨by rfl, ?_⟩) (by assumption) ?_
  rotate_left
  · (intro W hSw; (try dsimp only at hSw); obtain ⟨c0, c1, c2, c4⟩ := HC.out W hSw; go_simp; try with_reducible rfl)
  try simp only [heldPut, List.set]
  refine heldTake (i := 8) (v := ?_) rfl (by kernel_rfl) (by kernel_rfl) (by kernel_rfl) (fun _ _ _ h => h) (Or.inl ⟨by rfl, ?_⟩) (by assumption) ?_
  rotate_left
  · (intro W hSw; (try dsimp only at hSw); obtain ⟨c0, c1, c2, c4⟩ := HC.out W hSw; go_simp; try with_reducible rfl)
  try simp only [heldPut, List.set]
  refine heldTake (i := 9) (v := ?_) rfl (by kernel_rfl) (by kernel_rfl) (by kernel_rfl) (fun _ _ _ h => h) (Or.inl ⟨by rfl, ?_⟩) (by assumption) ?_
  rotate_left
  · (intro W hSw; (try dsimp only at hSw); obtain ⟨c0, c1, c2, c4⟩ := HC.out W hSw; go_simp; try with_reducible rfl)
  try simp only [heldPut, List.set]
  refine heldTake (i := 10) (v := ?_) rfl (by kernel_rfl) (by kernel_rfl) (by kernel_rfl) (fun _ _ _ h => h) (Or.inl ⟨by rfl, ?_⟩) (by assumption) ?_
  rotate_left
  · (intro W hSw; (try dsimp only at hSw); obtain ⟨c0, c1, c2, c4⟩ := HC.out W hSw; go_simp; try with_reducible rfl)
  try simp only [heldPut, List.set]
  refine heldTake (i := 11) (v := ?_) rfl (by kernel_rfl) (by kernel_rfl) (by kernel_rfl) (fun _ _ _ h => h) (Or.inl ⟨by rfl, ?_⟩) (by assumption) ?_
  rotate_left
  · (intro W hSw; (try dsimp only at hSw); obtain ⟨c0, c1, c2, c4⟩ := HC.out W hSw; go_simp; try with_reducible rfl)
  try simp only [heldPut, List.set]
  refine heldTake (i := 12) (v := ?_) rfl (by kernel_rfl) (by kernel_rfl) (by kernel_rfl) (fun _ _ _ h => h) (Or.inl ⟨by rfl, ?_⟩) (by assumption) ?_
  rotate_left
  · (intro W hSw; (try dsimp only at hSw); obtain ⟨c0, c1, c2, c4⟩ := HC.out W hSw; go_simp; try with_reducible rfl)
  try simp only [heldPut, List.set]
  refine heldTake (i := 13) (v := ?_) rfl (by kernel_rfl) (by kernel_rfl) (by kernel_rfl) (fun _ _ _ h => h) (Or.inl ⟨by rfl, ?_⟩) (by assumption) ?_
  rotate_left
  · (intro W hSw; (try dsimp only at hSw); obtain ⟨c0, c1, c2, c4⟩ := HC.out W hSw; go_simp; try with_reducible rfl)
  try simp only [heldPut, List.set]
  refine heldTake (i := 14) (v := ?_) rfl (by kernel_rfl) (by kernel_rfl) (by kernel_rfl) (fun _ _ _ h => h) (Or.inl ⟨by rfl, ?_⟩) (by assumption) ?_
  rotate_left
  · (intro W hSw; (try dsimp only at hSw); obtain ⟨c0, c1, c2, c4⟩ := HC.out W hSw; go_simp; try with_reducible rfl)
  try simp only [heldPut, List.set]
  refine heldTake (i := 15) (v := ?_) rfl (by kernel_rfl) (by kernel_rfl) (by kernel_rfl) (fun _ _ _ h => h) (Or.inl ⟨by rfl, ?_⟩) (by assumption) ?_
  rotate_left
  · (intro W hSw; (try dsimp only at hSw); obtain ⟨c0, c1, c2, c4⟩ := HC.out W hSw; go_simp; try with_reducible rfl)
  try simp only [heldPut, List.set]
  refine heldTake (i := 16) (v := ?_) rfl (by kernel_rfl) (by kernel_rfl) (by kernel_rfl) (fun _ _ _ h => h) (Or.inl ⟨by rfl, ?_⟩) (by assumption) ?_
  rotate_left
  · (intro W hSw; (try dsimp only at hSw); obtain ⟨c0, c1, c2, c4⟩ := HC.out W hSw; go_simp; try with_reducible rfl)
  try simp only [heldPut, List.set]
  refine heldTake (i := 17) (v := ?_) rfl (by kernel_rfl) (by kernel_rfl) (by kernel_rfl) (fun _ _ _ h => h) (Or.inl ⟨by rfl, ?_⟩) (by assumption) ?_
  rotate_left
  · (intro W hSw; (try dsimp only at hSw); obtain ⟨c0, c1, c2, c4⟩ := HC.out W hSw; go_simp; try with_reducible rfl)
  try simp only [heldPut, List.set]
  refine heldTake (i := 18) (v := ?_) rfl (by kernel_rfl) (by kernel_rfl) (by kernel_rfl) (fun _ _ _ h => h) (Or.inl ⟨by rfl, ?_⟩) (by assumption) ?_
  rotate_left
  · (intro W hSw; (try dsimp only at hSw); obtain ⟨c0, c1, c2, c4⟩ := HC.out W hSw; go_simp; try with_reducible rfl)
  try simp only [heldPut, List.set]
  refine heldTake (i := 19) (v := ?_) rfl (by kernel_rfl) (by kernel_rfl) (by kernel_rfl) (fun _ _ _ h => h) (Or.inl ⟨by rfl, ?_⟩) (by assumption) ?_
  rotate_left
  · (intro W hSw; (try dsimp only at hSw); obtain ⟨c0, c1, c2, c4⟩ := HC.out W hSw; go_simp; try with_reducible rfl)
  try simp only [heldPut, List.set]
  refine heldTake (i := 20) (v := ?_) rfl (by kernel_rfl) (by kernel_rfl) (by kernel_rfl) (fun _ _ _ h => h) (Or.inl ⟨by rfl, ?_⟩) (by assumption) ?_
  rotate_left
  · (intro W hSw; (try dsimp only at hSw); obtain ⟨c0, c1, c2, c4⟩ := HC.out W hSw; go_simp; try with_reducible rfl)
  try simp only [heldPut, List.set]
  refine heldTake (i := 21) (v := .agg (frmC (ansF I t b)).toArray) rfl (by kernel_rfl) (by kernel_rfl) (by kernel_rfl) (fun _ _ _ h => h) (Or.inl ⟨by rfl, ?_⟩) (by assumption) ?_
  · (intro W hSw; (go_simp; rfl))
  try simp only [heldPut, List.set]
  have HB2 := Lib.hid (HBU.out.trans (HB1.out.mono HBU.out.size))
  have hxd : w1.drew.heap[w.heap.size]? = some (.cells (frmC zFm).toArray 32 (0, 0)) := HX1.out
  have hbd : Below w.heap.size w1 (w1.drew.setRow w.heap.size (frmC (ansF I t b)).toArray) := below_setRow ((Below.refl _ _).drew) (Nat.le_refl _) _
  have HXD := Lib.hid (⟨hxd, hbd⟩ : _ ∧ _)
  clear hxd hbd HB1 HX1 HC
  refine heldOne (i := 22) rfl (by kernel_rfl) (fun K hK => ?_)
  rw [if_pos (by rfl)]
  refine wp_store_row _ _ _ rfl w.heap.size (frmC (ansF I t b)).toArray rfl rfl _ _ HXD.out.1 Try.infoFr rfl (by simp [Value.oneCell', frmC, itC]) ?_
  refine hK.out _ _ ?_ (fun hHeld => ?_)
  · exact HXD.out.2
  clear hK K
  try simp only [heldPut, List.set]
  refine heldTake (i := 23) (v := ?_) rfl (by kernel_rfl) (by kernel_rfl) (by kernel_rfl) (fun _ _ _ h => h) (Or.inl ⟨by rfl, ?_⟩) (by assumption) ?_
  rotate_left
  · (intro W hSw; (try dsimp only at hSw); go_simp; try with_reducible rfl)
  try simp only [heldPut, List.set]
  refine wpAnyH_done (by kernel_rfl) ?_ _
  refine NoPanic.normal ?_
  clear hHeld
  go_wp2
  refine bodyPost_ret (v := .tuple #[.agg (frmC (ansF I t b)).toArray, .bool true]) (results_cell_two rfl _ _ w.heap.size _ _ _ _ rfl rfl (setRow_heap _ _ _ _ _ _ HXD.out.1) Try.underlying32 rfl Try.infoFr) rfl ⟨b, rfl, HB2.out.trans HXD.out.2⟩
end
end Go.Proofs.Ytocdhnlffemnhaa
