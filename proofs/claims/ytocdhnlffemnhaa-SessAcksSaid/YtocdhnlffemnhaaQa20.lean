/- Several texts in one: SsOut. -/
import Derived.Test.YtocdhnlffemnhaaQa19
/- Layer 12: the sending end: Epoch, Sender, Restart, NewOut. -/
namespace Go.Proofs.Ytocdhnlffemnhaa
open Go.RowKit
section
variable {S : Nat → Prop} {o : Nat} {O : Ou} {X : Sd} {L : List Fg}
set_option maxRecDepth 100000 in
set_option maxHeartbeats 400000 in
theorem oepoch_nil (w : World) : Calls Try.prog 8 #[.pointer none] w fun e w' => e = .returned (.int .u64 0) ∧ w = w' := by
  go_enter Try.func8, Try.ntmps8
  go_wp2
  go_ret
  exact ⟨rfl, rfl⟩
set_option maxRecDepth 100000 in
set_option maxHeartbeats 400000 in
theorem oepoch_any (w : World) (h : OutAt w S o O X L) (hl : O.li ≤ 1048575) (hs : O.ss ≤ 1048575) :
    Calls Try.prog 8 #[.pointer (some ⟨o, 0, none⟩)] w fun e w' => e = .returned (.int .u64 O.ep) ∧ Below w.heap.size w w' := by
  obtain ⟨s, T, c0, c1, c2, c3, c4, c5, c6, c7, c8, hf, h1, h2⟩ := h.cells
  have e1 : IntKind.u64.wrap ((O.li : Int) * 1048576) = (O.li : Int) * 1048576 := by rw [IntKind.wrap_u64]; omega
  have e2 : IntKind.u64.wrap ((O.li : Int) * 1048576 + O.ss) = (O.li : Int) * 1048576 + O.ss := by rw [IntKind.wrap_u64]; omega
  have e3 : (O.li : Int) * 1048576 + O.ss = ((O.ep : Nat) : Int) := by unfold Ou.ep; omega
  clear h h1 h2
  go_enter Try.func8, Try.ntmps8
  go_wp2
  go_quiet (fail)
  go_wp2
  go_ret
  exact ⟨by first | rfl | rw [e3], cbelow_drewN (Below.refl _ _) _⟩
set_option maxRecDepth 100000 in
set_option maxHeartbeats 400000 in
theorem osender_nil (w : World) : Calls Try.prog 20 #[.pointer none] w fun e w' => e = .returned (.pointer none) ∧ w = w' := by
  go_enter Try.func20, Try.ntmps20
  go_wp2
  go_ret
  exact ⟨rfl, rfl⟩
set_option maxRecDepth 100000 in
set_option maxHeartbeats 400000 in
theorem osender_any {s : Nat} (w : World) (c7 : w.cell? ⟨o, 7, none⟩ = some (.pointer (some ⟨s, 0, none⟩))) :
    Calls Try.prog 20 #[.pointer (some ⟨o, 0, none⟩)] w fun e w' => e = .returned (.pointer (some ⟨s, 0, none⟩)) ∧ w = w' := by
  go_enter Try.func20, Try.ntmps20
  go_wp2
  go_ret
  exact ⟨rfl, rfl⟩
set_option maxRecDepth 100000 in
set_option maxHeartbeats 400000 in
theorem restart_nil (w : World) : Calls Try.prog 15 #[.pointer none] w fun e w' => e = .returned (.int .i64 1) ∧ w = w' := by
  go_enter Try.func15, Try.ntmps15
  go_wp2
  go_ret
  exact ⟨rfl, rfl⟩
/-- the cells that Restart reads -/
structure TimC (w : World) (o ss : Nat) (z : Int) (f m : Nat) : Prop where
  c3 : w.cell? ⟨o, 3, none⟩ = some (.int .i64 z)
  c4 : w.cell? ⟨o, 4, none⟩ = some (.int .u64 f)
  c5 : w.cell? ⟨o, 5, none⟩ = some (.int .u64 m)
  c6 : w.cell? ⟨o, 6, none⟩ = some (.int .u64 ss)
  lt : o < w.heap.size
theorem TimC.below {w w' : World} {o ss f m : Nat} {z : Int} (h : TimC w o ss z f m) (hb : Below w.heap.size w w') : TimC w' o ss z f m :=
  ⟨(hb.cell (p := ⟨o, 3, none⟩) h.lt).trans h.c3, (hb.cell (p := ⟨o, 4, none⟩) h.lt).trans h.c4, (hb.cell (p := ⟨o, 5, none⟩) h.lt).trans h.c5, (hb.cell (p := ⟨o, 6, none⟩) h.lt).trans h.c6, Nat.lt_of_lt_of_le h.lt hb.size⟩
/-- Restart where no sender can be made -/
theorem restart_bad {ss f m : Nat} {z n : Int} (w : World) (h : TimC w o ss z f m) (hs : ss < 1048575) (hn : n ≠ 0)
    (HN : ∀ W, Below w.heap.size w W → Calls Try.prog 9 #[.int .i64 z, .int .u64 f, .int .u64 m] W fun e w' => e = .returned (.tuple #[.pointer none, .int .i64 n]) ∧ W = w') :
    Calls Try.prog 15 #[.pointer (some ⟨o, 0, none⟩)] w fun e w' => e = .returned (.int .i64 n) ∧ Below w.heap.size w w' := by
  have HC := Lib.hid (fun W (hW : Below w.heap.size w W) => h.below hW)
  have HNN := Lib.hid HN
  have d1 : decide (1048575 ≤ ss) = false := decide_eq_false (by omega)
  have d2 : decide ((1048575 : Int) ≤ (ss : Int)) = false := decide_eq_false (by omega)
  have d3 : (n == 0) = false := by rw [beq_eq_false_iff_ne]; exact hn
  have c6 := h.c6
  clear h HN hs hn
  go_enter Try.func15, Try.ntmps15
  go_upto_region 5 with fail
  refine wp_region_noPanic ?_
  refine wp_region_held_drew (S := fun W => Below w.heap.size w W) (by kernel_rfl) ?_ (fun hHeld => ?_)
  · exact (Below.refl _ _).drew
  try simp only [heldPut, List.set]
  refine heldTake (i := 0) (v := ?_) rfl (by kernel_rfl) (by kernel_rfl) (by kernel_rfl) (fun _ _ _ h => h) (Or.inl ⟨by rfl, ?_⟩) (by assumption) ?_
  rotate_left
  · (intro W hSw; (try dsimp only at hSw); obtain ⟨k3, k4, k5, k6, _⟩ := HC.out W hSw; go_simp; try with_reducible rfl)
  try simp only [heldPut, List.set]
  refine heldTake (i := 1) (v := ?_) rfl (by kernel_rfl) (by kernel_rfl) (by kernel_rfl) (fun _ _ _ h => h) (Or.inl ⟨by rfl, ?_⟩) (by assumption) ?_
  rotate_left
  · (intro W hSw; (try dsimp only at hSw); obtain ⟨k3, k4, k5, k6, _⟩ := HC.out W hSw; go_simp; try with_reducible rfl)
  try simp only [heldPut, List.set]
  refine heldTake (i := 2) (v := ?_) rfl (by kernel_rfl) (by kernel_rfl) (by kernel_rfl) (fun _ _ _ h => h) (Or.inl ⟨by rfl, ?_⟩) (by assumption) ?_
  rotate_left
  · (intro W hSw; (try dsimp only at hSw); obtain ⟨k3, k4, k5, k6, _⟩ := HC.out W hSw; go_simp; try with_reducible rfl)
  try simp only [heldPut, List.set]
  refine heldTake (i := 3) (v := ?_) rfl (by kernel_rfl) (by kernel_rfl) (by kernel_rfl) (fun _ _ _ h => h) (Or.inl ⟨by rfl, ?_⟩) (by assumption) ?_
  rotate_left
  · (intro W hSw; (try dsimp only at hSw); obtain ⟨k3, k4, k5, k6, _⟩ := HC.out W hSw; go_simp; try with_reducible rfl)
  try simp only [heldPut, List.set]
  refine heldTake (i := 4) (v := ?_) rfl (by kernel_rfl) (by kernel_rfl) (by kernel_rfl) (fun _ _ _ h => h) (Or.inl ⟨by rfl, ?_⟩) (by assumption) ?_
  rotate_left
  · (intro W hSw; (try dsimp only at hSw); obtain ⟨k3, k4, k5, k6, _⟩ := HC.out W hSw; go_simp; try with_reducible rfl)
  try simp only [heldPut, List.set]
  refine heldTake (i := 5) (v := ?_) rfl (by kernel_rfl) (by kernel_rfl) (by kernel_rfl) (fun _ _ _ h => h) (Or.inl ⟨by rfl, ?_⟩) (by assumption) ?_
  rotate_left
  · (intro W hSw; (try dsimp only at hSw); obtain ⟨k3, k4, k5, k6, _⟩ := HC.out W hSw; go_simp; try with_reducible rfl)
  try simp only [heldPut, List.set]
  refine heldTake (i := 6) (v := ?_) rfl (by kernel_rfl) (by kernel_rfl) (by kernel_rfl) (fun _ _ _ h => h) (Or.inl ⟨by rfl, ?_⟩) (by assumption) ?_
  rotate_left
  · (intro W hSw; (try dsimp only at hSw); obtain ⟨k3, k4, k5, k6, _⟩ := HC.out W hSw; go_simp; try with_reducible rfl)
  try simp only [heldPut, List.set]
  refine heldTake (i := 7) (v := ?_) rfl (by kernel_rfl) (by kernel_rfl) (by kernel_rfl) (fun _ _ _ h => h) (Or.inl ⟨by rfl, ?_⟩) (by assumption) ?_
  rotate_left
  · (intro W hSw; (try dsimp only at hSw); obtain ⟨k3, k4, k5, k6, _⟩ := HC.out W hSw; go_simp; try with_reducible rfl)
  try simp only [heldPut, List.set]
  refine heldTake (i := 8) (v := ?_) rfl (by kernel_rfl) (by kernel_rfl) (by kernel_rfl) (fun _ _ _ h => h) (Or.inl ⟨by rfl, ?_⟩) (by assumption) ?_
  rotate_left
  · (intro W hSw; (try dsimp only at hSw); obtain ⟨k3, k4, k5, k6, _⟩ := HC.out W hSw; go_simp; try with_reducible rfl)
  try simp only [heldPut, List.set]
  refine heldTake (i := 9) (v := ?_) rfl (by kernel_rfl) (by kernel_rfl) (by kernel_rfl) (fun _ _ _ h => h) (Or.inl ⟨by rfl, ?_⟩) (by assumption) ?_
  rotate_left
  · (intro W hSw; (try dsimp only at hSw); obtain ⟨k3, k4, k5, k6, _⟩ := HC.out W hSw; go_simp; try with_reducible rfl)
  try simp only [heldPut, List.set]
  refine heldTake (i := 10) (v := ?_) rfl (by kernel_rfl) (by kernel_rfl) (by kernel_rfl) (fun _ _ _ h => h) (Or.inl ⟨by rfl, ?_⟩) (by assumption) ?_
  rotate_left
  · (intro W hSw; (try dsimp only at hSw); obtain ⟨k3, k4, k5, k6, _⟩ := HC.out W hSw; go_simp; try with_reducible rfl)
  try simp only [heldPut, List.set]
  refine heldTake (i := 11) (v := ?_) rfl (by kernel_rfl) (by kernel_rfl) (by kernel_rfl) (fun _ _ _ h => h) (Or.inl ⟨by rfl, ?_⟩) (by assumption) ?_
  rotate_left
  · (intro W hSw; (try dsimp only at hSw); obtain ⟨k3, k4, k5, k6, _⟩ := HC.out W hSw; go_simp; try with_reducible rfl)
  try simp only [heldPut, List.set]
  refine heldTake (i := 12) (v := ?_) rfl (by kernel_rfl) (by kernel_rfl) (by kernel_rfl) (fun _ _ _ h => h) (Or.inl ⟨by rfl, ?_⟩) (by assumption) ?_
  rotate_left
  · (intro W hSw; (try dsimp only at hSw); obtain ⟨k3, k4, k5, k6, _⟩ := HC.out W hSw; go_simp; try with_reducible rfl)
  try simp only [heldPut, List.set]
  refine heldTake (i := 13) (v := ?_) rfl (by kernel_rfl) (by kernel_rfl) (by kernel_rfl) (fun _ _ _ h => h) (Or.inl ⟨by rfl, ?_⟩) (by assumption) ?_
  rotate_left
  · (intro W hSw; (try dsimp only at hSw); obtain ⟨k3, k4, k5, k6, _⟩ := HC.out W hSw; go_simp; try with_reducible rfl)
  try simp only [heldPut, List.set]
  refine heldTake (i := 14) (v := ?_) rfl (by kernel_rfl) (by kernel_rfl) (by kernel_rfl) (fun _ _ _ h => h) (Or.inl ⟨by rfl, ?_⟩) (by assumption) ?_
  rotate_left
  · (intro W hSw; (try dsimp only at hSw); obtain ⟨k3, k4, k5, k6, _⟩ := HC.out W hSw; go_simp; try with_reducible rfl)
  try simp only [heldPut, List.set]
  refine heldOne (i := 15) rfl (by kernel_rfl) (fun K hK => ?_)
  go_simp
  refine (HNN.out _ ((Below.refl _ _).drew)).mono ?_
  rintro _ _ ⟨rfl, rfl⟩
  go_wp2_with fail
  refine hK.out _ _ ?_ (fun hHeld => ?_)
  · exact (Below.refl _ _).drew
  clear hK K
  try simp only [heldPut, List.set]
  refine heldTake (i := 16) (v := ?_) rfl (by kernel_rfl) (by kernel_rfl) (by kernel_rfl) (fun _ _ _ h => h) (Or.inl ⟨by rfl, ?_⟩) (by assumption) ?_
  rotate_left
  · (intro W hSw; (try dsimp only at hSw); go_simp; try with_reducible rfl)
  try simp only [heldPut, List.set]
  refine heldTake (i := 17) (v := ?_) rfl (by kernel_rfl) (by kernel_rfl) (by kernel_rfl) (fun _ _ _ h => h) (Or.inl ⟨by rfl, ?_⟩) (by assumption) ?_
  rotate_left
  · (intro W hSw; (try dsimp only at hSw); go_simp; try with_reducible rfl)
  try simp only [heldPut, List.set]
  refine heldTake (i := 18) (v := ?_) rfl (by kernel_rfl) (by kernel_rfl) (by kernel_rfl) (fun _ _ _ h => h) (Or.inl ⟨by rfl, ?_⟩) (by assumption) ?_
  rotate_left
  · (intro W hSw; (try dsimp only at hSw); go_simp; try with_reducible rfl)
  try simp only [heldPut, List.set]
  refine heldTake (i := 19) (v := ?_) rfl (by kernel_rfl) (by kernel_rfl) (by kernel_rfl) (fun _ _ _ h => h) (Or.inl ⟨by rfl, ?_⟩) (by assumption) ?_
  rotate_left
  · (intro W hSw; (try dsimp only at hSw); go_simp; try with_reducible rfl)
  try simp only [heldPut, List.set]
  refine heldTake (i := 20) (v := ?_) rfl (by kernel_rfl) (by kernel_rfl) (by kernel_rfl) (fun _ _ _ h => h) (Or.inl ⟨by rfl, ?_⟩) (by assumption) ?_
  rotate_left
  · (intro W hSw; (try dsimp only at hSw); go_simp; try with_reducible rfl)
  try simp only [heldPut, List.set]
  refine wpAnyH_done (by kernel_rfl) ?_ _
  refine NoPanic.normal ?_
  go_wp2
  go_ret
  exact ⟨rfl, (Below.refl _ _).drew⟩
theorem restart_gen {v : Value} (w : World) (h : w.heap[o]? = some (.cells (outC O v) 70 (0, 0))) (oS : S o) (hlt : ∀ k, S k → k < w.heap.size) (hs : O.ss < 1048575) (h1 : 1 ≤ O.W) (h2 : O.W ≤ 64) (h3 : 0 < O.f) (h4 : O.f ≤ O.m) (h5 : O.m ≤ 1048576) :
    Calls Try.prog 15 #[.pointer (some ⟨o, 0, none⟩)] w fun e w' => e = .returned (.int .i64 0) ∧ ∃ S', OutAt w' S' o { O with ss := O.ss + 1 } ⟨O.W, O.f, O.m, 0, 0, 0⟩ [] ∧ Step w S w' S' ∧ ∀ k, S' k → S k ∨ w.heap.size ≤ k := by
  have HH := Lib.hid h
  have HL := Lib.hid (⟨oS, hlt⟩ : _ ∧ _)
  have HNN := Lib.hid (fun W => sdnew_any O.W O.f O.m h1 h2 h3 h4 h5 W)
  have HC := Lib.hid (fun W (hW : Below w.heap.size w W) => (show TimC w o O.ss O.W O.f O.m from ⟨cell_of_row _ _ 3 _ _ _ h, cell_of_row _ _ 4 _ _ _ h, cell_of_row _ _ 5 _ _ _ h, cell_of_row _ _ 6 _ _ _ h, hlt o oS⟩).below hW)
  have c6 : w.cell? ⟨o, 6, none⟩ = some (.int .u64 O.ss) := cell_of_row _ _ 6 _ _ _ h
  have d1 : decide (1048575 ≤ O.ss) = false := decide_eq_false (by omega)
  have d2 : decide ((1048575 : Int) ≤ (O.ss : Int)) = false := decide_eq_false (by omega)
  obtain ⟨s1, hs1⟩ : ∃ s1, s1 = O.ss + 1 := ⟨_, rfl⟩
  have e1 : (O.ss : Int) + 1 = (s1 : Int) := by omega
  have e2 : IntKind.u64.wrap ((O.ss : Int) + 1) = (s1 : Int) := by rw [IntKind.wrap_u64]; omega
  have hss : s1 ≤ 1048575 := by omega
  rw [← hs1]
  clear h hs h1 h2 h3 h4 h5 hs1 oS hlt
  go_enter Try.func15, Try.ntmps15
  go_upto_region 5 with fail
  clear c6
  refine wp_region_noPanic ?_
  refine wp_region_held_drew (S := fun W => Below w.heap.size w W) (by kernel_rfl) ?_ (fun hHeld => ?_)
  · exact (Below.refl _ _).drew
  try simp only [heldPut, List.set]
  refine heldTake (i := 0) (v := ?_) rfl (by kernel_rfl) (by kernel_rfl) (by kernel_rfl) (fun _ _ _ h => h) (Or.inl ⟨by rfl, ?_⟩) (by assumption) ?_
  rotate_left
  · (intro W hSw; (try dsimp only at hSw); obtain ⟨k3, k4, k5, k6, _⟩ := HC.out W hSw; go_simp; try with_reducible rfl)
  try simp only [heldPut, List.set]
  refine heldTake (i := 1) (v := ?_) rfl (by kernel_rfl) (by kernel_rfl) (by kernel_rfl) (fun _ _ _ h => h) (Or.inl ⟨by rfl, ?_⟩) (by assumption) ?_
  rotate_left
  · (intro W hSw; (try dsimp only at hSw); obtain ⟨k3, k4, k5, k6, _⟩ := HC.out W hSw; go_simp; try with_reducible rfl)
  try simp only [heldPut, List.set]
  refine heldTake (i := 2) (v := ?_) rfl (by kernel_rfl) (by kernel_rfl) (by kernel_rfl) (fun _ _ _ h => h) (Or.inl ⟨by rfl, ?_⟩) (by assumption) ?_
  rotate_left
  · (intro W hSw; (try dsimp only at hSw); obtain ⟨k3, k4, k5, k6, _⟩ := HC.out W hSw; go_simp; try with_reducible rfl)
  try simp only [heldPut, List.set]
  refine heldTake (i := 3) (v := ?_) rfl (by kernel_rfl) (by kernel_rfl) (by kernel_rfl) (fun _ _ _ h => h) (Or.inl ⟨by rfl, ?_⟩) (by assumption) ?_
  rotate_left
  · (intro W hSw; (try dsimp only at hSw); obtain ⟨k3, k4, k5, k6, _⟩ := HC.out W hSw; go_simp; try with_reducible rfl)
  try simp only [heldPut, List.set]
  refine heldTake (i := 4) (v := ?_) rfl (by kernel_rfl) (by kernel_rfl) (by kernel_rfl) (fun _ _ _ h => h) (Or.inl ⟨by rfl, ?_⟩) (by assumption) ?_
  rotate_left
  · (intro W hSw; (try dsimp only at hSw); obtain ⟨k3, k4, k5, k6, _⟩ := HC.out W hSw; go_simp; try with_reducible rfl)
  try simp only [heldPut, List.set]
  refine heldTake (i := 5) (v := ?_) rfl (by kernel_rfl) (by kernel_rfl) (by kernel_rfl) (fun _ _ _ h => h) (Or.inl ⟨by rfl, ?_⟩) (by assumption) ?_
  rotate_left
  · (intro W hSw; (try dsimp only at hSw); obtain ⟨k3, k4, k5, k6, _⟩ := HC.out W hSw; go_simp; try with_reducible rfl)
  try simp only [heldPut, List.set]
  refine heldTake (i := 6) (v := ?_) rfl (by kernel_rfl) (by kernel_rfl) (by kernel_rfl) (fun _ _ _ h => h) (Or.inl ⟨by rfl, ?_⟩) (by assumption) ?_
  rotate_left
  · (intro W hSw; (try dsimp only at hSw); obtain ⟨k3, k4, k5, k6, _⟩ := HC.out W hSw; go_simp; try with_reducible rfl)
  try simp only [heldPut, List.set]
  refine heldTake (i := 7) (v := ?_) rfl (by kernel_rfl) (by kernel_rfl) (by kernel_rfl) (fun _ _ _ h => h) (Or.inl ⟨by rfl, ?_⟩) (by assumption) ?_
  rotate_left
  · (intro W hSw; (try dsimp only at hSw); obtain ⟨k3, k4, k5, k6, _⟩ := HC.out W hSw; go_simp; try with_reducible rfl)
  try simp only [heldPut, List.set]
  refine heldTake (i := 8) (v := ?_) rfl (by kernel_rfl) (by kernel_rfl) (by kernel_rfl) (fun _ _ _ h => h) (Or.inl ⟨by rfl, ?_⟩) (by assumption) ?_
  rotate_left
  · (intro W hSw; (try dsimp only at hSw); obtain ⟨k3, k4, k5, k6, _⟩ := HC.out W hSw; go_simp; try with_reducible rfl)
  try simp only [heldPut, List.set]
  refine heldTake (i := 9) (v := ?_) rfl (by kernel_rfl) (by kernel_rfl) (by kernel_rfl) (fun _ _ _ h => h) (Or.inl ⟨by rfl, ?_⟩) (by assumption) ?_
  rotate_left
  · (intro W hSw; (try dsimp only at hSw); obtain ⟨k3, k4, k5, k6, _⟩ := HC.out W hSw; go_simp; try with_reducible rfl)
  try simp only [heldPut, List.set]
  refine heldTake (i := 10) (v := ?_) rfl (by kernel_rfl) (by kernel_rfl) (by kernel_rfl) (fun _ _ _ h => h) (Or.inl ⟨by rfl, ?_⟩) (by assumption) ?_
  rotate_left
  · (intro W hSw; (try dsimp only at hSw); obtain ⟨k3, k4, k5, k6, _⟩ := HC.out W hSw; go_simp; try with_reducible rfl)
  try simp only [heldPut, List.set]
  refine heldTake (i := 11) (v := ?_) rfl (by kernel_rfl) (by kernel_rfl) (by kernel_rfl) (fun _ _ _ h => h) (Or.inl ⟨by rfl, ?_⟩) (by assumption) ?_
  rotate_left
  · (intro W hSw; (try dsimp only at hSw); obtain ⟨k3, k4, k5, k6, _⟩ := HC.out W hSw; go_simp; try with_reducible rfl)
  try simp only [heldPut, List.set]
  refine heldTake (i := 12) (v := ?_) rfl (by kernel_rfl) (by kernel_rfl) (by kernel_rfl) (fun _ _ _ h => h) (Or.inl ⟨by rfl, ?_⟩) (by assumption) ?_
  rotate_left
  · (intro W hSw; (try dsimp only at hSw); obtain ⟨k3, k4, k5, k6, _⟩ := HC.out W hSw; go_simp; try with_reducible rfl)
  try simp only [heldPut, List.set]
  refine heldTake (i := 13) (v := ?_) rfl (by kernel_rfl) (by kernel_rfl) (by kernel_rfl) (fun _ _ _ h => h) (Or.inl ⟨by rfl, ?_⟩) (by assumption) ?_
  rotate_left
  · (intro W hSw; (try dsimp only at hSw); obtain ⟨k3, k4, k5, k6, _⟩ := HC.out W hSw; go_simp; try with_reducible rfl)
  try simp only [heldPut, List.set]
  refine heldTake (i := 14) (v := ?_) rfl (by kernel_rfl) (by kernel_rfl) (by kernel_rfl) (fun _ _ _ h => h) (Or.inl ⟨by rfl, ?_⟩) (by assumption) ?_
  rotate_left
  · (intro W hSw; (try dsimp only at hSw); obtain ⟨k3, k4, k5, k6, _⟩ := HC.out W hSw; go_simp; try with_reducible rfl)
  try simp only [heldPut, List.set]
  refine heldOne (i := 15) rfl (by kernel_rfl) (fun K hK => ?_)
  go_simp
  refine (HNN.out _).mono ?_
  rintro _ w1 ⟨rfl, hs1, hb1⟩
  have HS1 := Lib.hid hs1
  have HB1 := Lib.hid (((Below.refl w.heap.size w).drew).trans (hb1.mono (by simp)))
  clear hs1 hb1
  go_wp2_with fail
  refine hK.out _ _ ?_ (fun hHeld => ?_)
  · exact HB1.out
  clear hK K
  try simp only [heldPut, List.set]
  refine heldTake (i := 16) (v := ?_) rfl (by kernel_rfl) (by kernel_rfl) (by kernel_rfl) (fun _ _ _ h => h) (Or.inl ⟨by rfl, ?_⟩) (by assumption) ?_
  rotate_left
  · (intro W hSw; (try dsimp only at hSw); go_simp; try with_reducible rfl)
  try simp only [heldPut, List.set]
  refine heldTake (i := 17) (v := ?_) rfl (by kernel_rfl) (by kernel_rfl) (by kernel_rfl) (fun _ _ _ h => h) (Or.inl ⟨by rfl, ?_⟩) (by assumption) ?_
  rotate_left
  · (intro W hSw; (try dsimp only at hSw); go_simp; try with_reducible rfl)
  try simp only [heldPut, List.set]
  refine heldTake (i := 18) (v := ?_) rfl (by kernel_rfl) (by kernel_rfl) (by kernel_rfl) (fun _ _ _ h => h) (Or.inl ⟨by rfl, ?_⟩) (by assumption) ?_
  rotate_left
  · (intro W hSw; (try dsimp only at hSw); go_simp; try with_reducible rfl)
  try simp only [heldPut, List.set]
  refine heldTake (i := 19) (v := ?_) rfl (by kernel_rfl) (by kernel_rfl) (by kernel_rfl) (fun _ _ _ h => h) (Or.inl ⟨by rfl, ?_⟩) (by assumption) ?_
  rotate_left
  · (intro W hSw; (try dsimp only at hSw); go_simp; try with_reducible rfl)
  try simp only [heldPut, List.set]
  refine heldTake (i := 20) (v := ?_) rfl (by kernel_rfl) (by kernel_rfl) (by kernel_rfl) (fun _ _ _ h => h) (Or.inl ⟨by rfl, ?_⟩) (by assumption) ?_
  rotate_left
  · (intro W hSw; (try dsimp only at hSw); go_simp; try with_reducible rfl)
  try simp only [heldPut, List.set]
  refine wpAnyH_done (by kernel_rfl) ?_ _
  refine NoPanic.normal ?_
  clear hHeld
  have c6 := (HC.out w1 HB1.out).c6
  have hb := (HB1.out.block o (HL.out.2 o HL.out.1)).trans HH.out
  have HBK := Lib.hid hb
  have c7 : w1.cell? ⟨o, 7, none⟩ = some v := cell_of_row _ _ 7 _ _ _ hb
  have f6 : w1.frozen? ⟨o, 6, none⟩ = false := frozen_of_row _ _ 6 _ _ hb
  have f7 : w1.frozen? ⟨o, 7, none⟩ = false := frozen_of_row _ _ 7 _ _ hb
  clear hb
  go_wp2
  go_ret
  have hT : ∀ k, k = w.drew.heap.size → w.heap.size ≤ k := fun k hk => by simp at hk; omega
  refine ⟨rfl, _, out_fresh HBK.out HL.out.1 (fun k hk => Nat.lt_of_lt_of_le (HL.out.2 k hk) HB1.out.size) HS1.out (fun k hk hS => ?_) _ _ rfl (fun _ _ => rfl), ⟨?_, fun k hk => ?_⟩, fun k hk => ?_⟩
  · have h1 := HL.out.2 k hS
    have h2 := hT k hk
    omega
  · refine (Only.of_below HB1.out S).trans (T' := fun k => k = o) ((Only.setCell (T := fun k => k = o) _ _ _ rfl).trans (Only.setCell (T := fun k => k = o) _ _ _ rfl) (fun _ h => .inl h)) (fun k hk => .inl (by rw [hk]; exact HL.out.1))
  · exact hk.imp id (hT k)
  · exact hk.imp id (hT k)
theorem restart_any (w : World) (h : OutAt w S o O X L) (hs : O.ss < 1048575) (h1 : 1 ≤ O.W) (h2 : O.W ≤ 64) (h3 : 0 < O.f) (h4 : O.f ≤ O.m) (h5 : O.m ≤ 1048576) :
    Calls Try.prog 15 #[.pointer (some ⟨o, 0, none⟩)] w fun e w' => e = .returned (.int .i64 0) ∧ ∃ S', OutAt w' S' o { O with ss := O.ss + 1 } ⟨O.W, O.f, O.m, 0, 0, 0⟩ [] ∧ Step w S w' S' := by
  obtain ⟨s, T, q1, q2, q3⟩ := h.row
  refine (restart_gen w q1 h.oS h.lt hs h1 h2 h3 h4 h5).mono ?_
  rintro e w' ⟨k1, S', k2, k3, _⟩
  exact ⟨k1, S', k2, k3⟩
end
end Go.Proofs.Ytocdhnlffemnhaa
