/- Several texts in one: SsAck. -/
import Derived.Test.YtocdhnlffemnhaaQa20
import Derived.Test.YtocdhnlffemnhaaQa24
import Derived.Test.YtocdhnlffemnhaaQa27
/- Layer 12: what an acknowledgement does. -/
namespace Go.Proofs.Ytocdhnlffemnhaa
open Go.RowKit
section
variable {S : Nat → Prop} {o : Nat} {O : Ou} {X : Sd} {L : List Fg}
set_option maxRecDepth 100000 in
set_option maxHeartbeats 400000 in
theorem osees_any {l : Nat} {b : Bool} (w : World) (h : OutAt w S o O X L) (hb : b = (decide (O.se ≠ 0) && decide (O.se < l))) :
    Calls Try.prog 24 #[.pointer (some ⟨o, 0, none⟩), .int .u64 l] w fun e w' => e = .returned (.bool b) ∧ OutAt w' S o { O with se := l } X L ∧ Step w S w' S := by
  obtain ⟨s, T, c0, c1, c2, c3, c4, c5, c6, c7, c8, hf, q1, q2⟩ := h.cells
  have f8 := hf 8
  have HS := Lib.hid (h.set (O' := { O with se := l }) 8 (.int .u64 l) (fun _ => rfl))
  obtain ⟨b1, hb1⟩ : ∃ b1, b1 = ((O.se : Int) != 0) := ⟨_, rfl⟩
  obtain ⟨b2, hb2⟩ : ∃ b2, b2 = decide (O.se < l) := ⟨_, rfl⟩
  have g1 : ((O.se : Int) != 0) = b1 := hb1.symm
  have g2 : decide (O.se < l) = b2 := hb2.symm
  have g3 : decide ((O.se : Int) < (l : Int)) = b2 := by rw [hb2]; exact decide_eq_decide.2 (by omega)
  have HE := Lib.hid (show b = (b1 && b2) by
    have e1 : b1 = decide (O.se ≠ 0) := by rw [hb1, Bool.eq_iff_iff, bne_iff_ne, decide_eq_true_iff]; omega
    rw [hb, e1, hb2])
  clear h hf c0 c1 c2 c3 c4 c5 c6 c7 q1 q2 hb1 hb2 hb
  go_enter Try.func24, Try.ntmps24
  cases b1 <;> cases b2
  all_goals
    go_wp2
    go_ret
    exact ⟨by rw [HE.out]; rfl, HS.out⟩
set_option maxRecDepth 100000 in
set_option maxHeartbeats 400000 in
theorem orenew_any (w : World) (h : OutAt w S o O X L) (hs : O.ss < 1048575) (h1 : 1 ≤ O.W) (h2 : O.W ≤ 64) (h3 : 0 < O.f) (h4 : O.f ≤ O.m) (h5 : O.m ≤ 1048576) :
    Calls Try.prog 25 #[.pointer (some ⟨o, 0, none⟩)] w fun e w' => e = .returned (.int .i64 18) ∧ ∃ S', OutAt w' S' o { O with ss := O.ss + 1 } ⟨O.W, O.f, O.m, 0, 0, 0⟩ [] ∧ Step w S w' S' := by
  have HR := Lib.hid (restart_any w h hs h1 h2 h3 h4 h5)
  clear h hs h1 h2 h3 h4 h5
  go_enter Try.func25, Try.ntmps25
  go_wp2_with fail
  refine HR.out.mono ?_
  rintro _ w1 ⟨rfl, h1⟩
  have H1 := Lib.hid h1
  clear h1
  go_wp2
  go_ret
  exact ⟨rfl, H1.out⟩
set_option maxRecDepth 100000 in
set_option maxHeartbeats 400000 in
theorem oack_nil (f : Fm) (w : World) : Calls Try.prog 7 #[.pointer none, .agg (frmC f).toArray] w fun e w' => e = .returned (.tuple #[.int .u64 0, .int .i64 1]) ∧ Below w.heap.size w w' := by
  obtain ⟨V, hV⟩ : ∃ V, V = w.alloc (.cells (frmC f).toArray 32) := ⟨_, rfl⟩
  have hb : Below w.heap.size w V := by rw [hV]; exact (Below.refl _ _).alloc (Nat.le_refl _) _
  have HB := Lib.hid hb
  clear hb
  go_enter Try.func7, Try.ntmps7
  go_upto_region 1 with fail
  rw [← hV]
  clear hV
  go_wp2
  go_ret2
  exact ⟨rfl, HB.out⟩
/-- what stands ahead of the check's answer -/
structure AckW (w V : World) (S : Nat → Prop) (o : Nat) (O : Ou) (X : Sd) (L : List Fg) (f : Fm) : Prop where
  at_ : OutAt V S o O X L
  fr : V.heap[w.heap.size]? = some (.cells (frmC f).toArray 32 (0, 0))
  bl : Below w.heap.size w V
  lt : ∀ k, S k → k < w.heap.size
theorem AckW.first (w : World) (f : Fm) (h : OutAt w S o O X L) : AckW w (w.alloc (.cells (frmC f).toArray 32)) S o O X L f :=
  ⟨h.below ((Below.refl _ _).alloc (Nat.le_refl _) _), heap_alloc_new _ _, (Below.refl _ _).alloc (Nat.le_refl _) _, h.lt⟩
theorem AckW.below {w V W : World} {f : Fm} (h : AckW w V S o O X L f) (hb : Below V.heap.size V W) : AckW w W S o O X L f :=
  ⟨h.at_.below hb, (hb.block _ (Array.getElem?_eq_some_iff.1 h.fr).1).trans h.fr, h.bl.trans (hb.mono h.bl.size), h.lt⟩
/-- the three ends' cells and the frame's -/
theorem AckW.reads {w V : World} {f : Fm} (h : AckW w V S o O X L f) : V.rangeAt o 0 [.int .u8 O.me, .int .u8 O.pe, .int .u64 O.li] ∧ V.cell? ⟨w.heap.size, 3, none⟩ = some (.int .u64 f.e) ∧ V.cell? ⟨w.heap.size, 18, none⟩ = some (.int .u64 f.c) ∧ V.cell? ⟨w.heap.size, 19, none⟩ = some (.int .u64 f.b) ∧ V.cell? ⟨w.heap.size, 20, none⟩ = some (.int .u64 f.l) ∧ V.cell? ⟨o, 8, none⟩ = some (.int .u64 O.se) := by
  obtain ⟨s, T, c0, c1, c2, c3, c4, c5, c6, c7, c8, hf, q1, q2⟩ := h.at_.cells
  refine ⟨fun j u hj => ?_, cell_of_row _ _ 3 _ _ _ h.fr, cell_of_row _ _ 18 _ _ _ h.fr, cell_of_row _ _ 19 _ _ _ h.fr, cell_of_row _ _ 20 _ _ _ h.fr, c8⟩
  have hj3 := (List.getElem?_eq_some_iff.1 hj).1
  rw [Nat.zero_add]
  match j, hj3 with
  | 0, _ => rw [c0]; exact hj
  | 1, _ => rw [c1]; exact hj
  | 2, _ => rw [c2]; exact hj
set_option maxRecDepth 100000 in
set_option maxHeartbeats 1000000 in
theorem oack_wrong {f : Fm} (w : World) (h : OutAt w S o O X L) (hz : wayE O.me O.pe 2 f ≠ 0) :
    Calls Try.prog 7 #[.pointer (some ⟨o, 0, none⟩), .agg (frmC f).toArray] w fun e w' => e = .returned (.tuple #[.int .u64 0, .int .i64 (wayE O.me O.pe 2 f : Nat)]) ∧ Below w.heap.size w w' := by
  obtain ⟨z, hzz⟩ : ∃ z, z = wayE O.me O.pe 2 f := ⟨_, rfl⟩
  have HCK := Lib.hid (fun W => echeck_any O.me O.pe O.li 2 f W)
  rw [← hzz] at hz HCK ⊢
  have d1 : ((z : Int) == 0) = false := by rw [beq_eq_false_iff_ne]; omega
  have d2 : ((z : Int) != 0) = true := by rw [bne, d1]; rfl
  obtain ⟨V, hV⟩ : ∃ V, V = w.alloc (.cells (frmC f).toArray 32) := ⟨_, rfl⟩
  have HV : Hid (AckW w V S o O X L f) := by rw [hV]; exact AckW.first w f h
  clear h hz hzz
  go_enter Try.func7, Try.ntmps7
  go_upto_region 3 with fail
  rw [← hV]
  clear hV
  refine wp_region_noPanic ?_
  refine wp_region_held_drew (S := fun W => Below V.heap.size V W) (by kernel_rfl) ?_ (fun hHeld => ?_)
  · exact (Below.refl _ _).drew
  try simp only [heldPut, List.set]
  refine heldTake (i := 0) (v := ?_) rfl (by kernel_rfl) (by kernel_rfl) (by kernel_rfl) (fun _ _ _ h => h) (Or.inl ⟨by rfl, ?_⟩) (by assumption) ?_
  rotate_left
  · (intro W hSw; (try dsimp only at hSw); go_simp; try with_reducible rfl)
  try simp only [heldPut, List.set]
  refine heldTake (i := 1) (v := ?_) rfl (by kernel_rfl) (by kernel_rfl) (by kernel_rfl) (fun _ _ _ h => h) (Or.inl ⟨by rfl, ?_⟩) (by assumption) ?_
  rotate_left
  · (intro W hSw; (try dsimp only at hSw); go_simp; try with_reducible rfl)
  try simp only [heldPut, List.set]
  refine heldTake (i := 2) (v := ?_) rfl (by kernel_rfl) (by kernel_rfl) (by kernel_rfl) (fun _ _ _ h => h) (Or.inl ⟨by rfl, ?_⟩) (by assumption) ?_
  rotate_left
  · (intro W hSw; (try dsimp only at hSw); go_simp; try with_reducible rfl)
  try simp only [heldPut, List.set]
  refine heldTake (i := 3) (v := .agg #[.int .u8 O.me, .int .u8 O.pe, .int .u64 O.li]) rfl (by kernel_rfl) (by kernel_rfl) (by kernel_rfl) (fun _ _ _ h => h) (Or.inl ⟨by rfl, ?_⟩) (by assumption) ?_
  · (intro W hSw; (exact exec_load_mid 66 _ rfl o 0 rfl _ _ (HV.out.below hSw).reads.1 Try.underlying66 rfl Try.infoEnds))
  try simp only [heldPut, List.set]
  refine heldTake (i := 4) (v := .agg (frmC f).toArray) rfl (by kernel_rfl) (by kernel_rfl) (by kernel_rfl) (fun _ _ _ h => h) (Or.inl ⟨by rfl, ?_⟩) (by assumption) ?_
  · (intro W hSw; (exact exec_load_row 32 _ rfl w.heap.size rfl _ _ _ _ (HV.out.below hSw).fr Try.underlying32 rfl Try.infoFr))
  try simp only [heldPut, List.set]
  refine heldOne (i := 5) rfl (by kernel_rfl) (fun K hK => ?_)
  go_simp
  refine (HCK.out _).mono ?_
  rintro _ w1 ⟨rfl, hb1⟩
  have HB1 := Lib.hid ((Below.refl V.heap.size V).drew.trans (hb1.mono (by simp)))
  clear hb1
  go_wp2_with fail
  refine hK.out _ _ ?_ (fun hHeld => ?_)
  · exact HB1.out
  clear hK K
  try simp only [heldPut, List.set]
  refine heldTake (i := 6) (v := ?_) rfl (by kernel_rfl) (by kernel_rfl) (by kernel_rfl) (fun _ _ _ h => h) (Or.inl ⟨by rfl, ?_⟩) (by assumption) ?_
  rotate_left
  · (intro W hSw; (try dsimp only at hSw); go_simp; try with_reducible rfl)
  try simp only [heldPut, List.set]
  refine wpAnyH_done (by kernel_rfl) ?_ _
  refine NoPanic.normal ?_
  clear hHeld
  go_wp2
  go_ret2
  exact ⟨rfl, (HV.out.below HB1.out).bl⟩
set_option maxRecDepth 100000 in
set_option maxHeartbeats 2000000 in
theorem oack_epoch {f : Fm} (w : World) (h : OutAt w S o O X L) (hz : wayE O.me O.pe 2 f = 0) (hli : O.li ≤ 1048575) (hss : O.ss ≤ 1048575) (he : f.e ≠ O.ep) :
    Calls Try.prog 7 #[.pointer (some ⟨o, 0, none⟩), .agg (frmC f).toArray] w fun e w' => e = .returned (.tuple #[.int .u64 0, .int .i64 17]) ∧ Below w.heap.size w w' := by
  have HCK := Lib.hid (fun W => echeck_any O.me O.pe O.li 2 f W)
  rw [hz] at HCK
  have HEP := Lib.hid (fun W (hW : OutAt W S o O X L) => oepoch_any W hW hli hss)
  obtain ⟨V, hV⟩ : ∃ V, V = w.alloc (.cells (frmC f).toArray 32) := ⟨_, rfl⟩
  have HV : Hid (AckW w V S o O X L f) := by rw [hV]; exact AckW.first w f h
  have d1 : ((f.e : Int) == (O.ep : Int)) = false := by rw [beq_eq_false_iff_ne]; omega
  have d2 : ((f.e : Int) != (O.ep : Int)) = true := by rw [bne, d1]; rfl
  clear h hz he hli hss
  go_enter Try.func7, Try.ntmps7
  go_upto_region 3 with fail
  rw [← hV]
  clear hV
  refine wp_region_noPanic ?_
  refine wp_region_held_drew (S := fun W => Below V.heap.size V W) (by kernel_rfl) ?_ (fun hHeld => ?_)
  · exact (Below.refl _ _).drew
  try simp only [heldPut, List.set]
  refine heldTake (i := 0) (v := ?_) rfl (by kernel_rfl) (by kernel_rfl) (by kernel_rfl) (fun _ _ _ h => h) (Or.inl ⟨by rfl, ?_⟩) (by assumption) ?_
  rotate_left
  · (intro W hSw; (try dsimp only at hSw); go_simp; try with_reducible rfl)
  try simp only [heldPut, List.set]
  refine heldTake (i := 1) (v := ?_) rfl (by kernel_rfl) (by kernel_rfl) (by kernel_rfl) (fun _ _ _ h => h) (Or.inl ⟨by rfl, ?_⟩) (by assumption) ?_
  rotate_left
  · (intro W hSw; (try dsimp only at hSw); go_simp; try with_reducible rfl)
  try simp only [heldPut, List.set]
  refine heldTake (i := 2) (v := ?_) rfl (by kernel_rfl) (by kernel_rfl) (by kernel_rfl) (fun _ _ _ h => h) (Or.inl ⟨by rfl, ?_⟩) (by assumption) ?_
  rotate_left
  · (intro W hSw; (try dsimp only at hSw); go_simp; try with_reducible rfl)
  try simp only [heldPut, List.set]
  refine heldTake (i := 3) (v := .agg #[.int .u8 O.me, .int .u8 O.pe, .int .u64 O.li]) rfl (by kernel_rfl) (by kernel_rfl) (by kernel_rfl) (fun _ _ _ h => h) (Or.inl ⟨by rfl, ?_⟩) (by assumption) ?_
  · (intro W hSw; (exact exec_load_mid 66 _ rfl o 0 rfl _ _ (HV.out.below hSw).reads.1 Try.underlying66 rfl Try.infoEnds))
  try simp only [heldPut, List.set]
  refine heldTake (i := 4) (v := .agg (frmC f).toArray) rfl (by kernel_rfl) (by kernel_rfl) (by kernel_rfl) (fun _ _ _ h => h) (Or.inl ⟨by rfl, ?_⟩) (by assumption) ?_
  · (intro W hSw; (exact exec_load_row 32 _ rfl w.heap.size rfl _ _ _ _ (HV.out.below hSw).fr Try.underlying32 rfl Try.infoFr))
  try simp only [heldPut, List.set]
  refine heldOne (i := 5) rfl (by kernel_rfl) (fun K hK => ?_)
  go_simp
  refine (HCK.out _).mono ?_
  rintro _ w1 ⟨rfl, hb1⟩
  have HB1 := Lib.hid ((Below.refl V.heap.size V).drew.trans (hb1.mono (by simp)))
  clear hb1
  go_wp2_with fail
  refine hK.out _ _ ?_ (fun hHeld => ?_)
  · exact HB1.out
  clear hK K
  try simp only [heldPut, List.set]
  refine heldTake (i := 6) (v := ?_) rfl (by kernel_rfl) (by kernel_rfl) (by kernel_rfl) (fun _ _ _ h => h) (Or.inl ⟨by rfl, ?_⟩) (by assumption) ?_
  rotate_left
  · (intro W hSw; (try dsimp only at hSw); go_simp; try with_reducible rfl)
  try simp only [heldPut, List.set]
  refine wpAnyH_done (by kernel_rfl) ?_ _
  refine NoPanic.normal ?_
  clear hHeld
  have HV1 := Lib.hid (HV.out.below HB1.out)
  clear HCK HB1 HV
  go_upto_region 6 with fail
  refine wp_region_noPanic ?_
  refine wp_region_held_drew (S := fun W => Below w1.heap.size w1 W) (by kernel_rfl) ?_ (fun hHeld => ?_)
  · exact (Below.refl _ _).drew
  try simp only [heldPut, List.set]
  refine heldTake (i := 0) (v := ?_) rfl (by kernel_rfl) (by kernel_rfl) (by kernel_rfl) (fun _ _ _ h => h) (Or.inl ⟨by rfl, ?_⟩) (by assumption) ?_
  rotate_left
  · (intro W hSw; (try dsimp only at hSw); obtain ⟨-, k3, k18, k19, k20, k8⟩ := (HV1.out.below hSw).reads; go_simp; try with_reducible rfl)
  try simp only [heldPut, List.set]
  refine heldTake (i := 1) (v := ?_) rfl (by kernel_rfl) (by kernel_rfl) (by kernel_rfl) (fun _ _ _ h => h) (Or.inl ⟨by rfl, ?_⟩) (by assumption) ?_
  rotate_left
  · (intro W hSw; (try dsimp only at hSw); obtain ⟨-, k3, k18, k19, k20, k8⟩ := (HV1.out.below hSw).reads; go_simp; try with_reducible rfl)
  try simp only [heldPut, List.set]
  refine heldTake (i := 2) (v := ?_) rfl (by kernel_rfl) (by kernel_rfl) (by kernel_rfl) (fun _ _ _ h => h) (Or.inl ⟨by rfl, ?_⟩) (by assumption) ?_
  rotate_left
  · (intro W hSw; (try dsimp only at hSw); obtain ⟨-, k3, k18, k19, k20, k8⟩ := (HV1.out.below hSw).reads; go_simp; try with_reducible rfl)
  try simp only [heldPut, List.set]
  refine heldOne (i := 3) rfl (by kernel_rfl) (fun K hK => ?_)
  go_simp
  refine (HEP.out _ (HV1.out.below ((Below.refl _ _).drew)).at_).mono ?_
  rintro _ w2 ⟨rfl, hb2⟩
  have HB2 := Lib.hid ((Below.refl w1.heap.size w1).drew.trans (hb2.mono (by simp)))
  clear hb2
  go_wp2_with fail
  refine hK.out _ _ ?_ (fun hHeld => ?_)
  · exact HB2.out
  clear hK K
  try simp only [heldPut, List.set]
  refine heldTake (i := 4) (v := ?_) rfl (by kernel_rfl) (by kernel_rfl) (by kernel_rfl) (fun _ _ _ h => h) (Or.inl ⟨by rfl, ?_⟩) (by assumption) ?_
  rotate_left
  · (intro W hSw; (try dsimp only at hSw); go_simp; try with_reducible rfl)
  try simp only [heldPut, List.set]
  refine heldTake (i := 5) (v := ?_) rfl (by kernel_rfl) (by kernel_rfl) (by kernel_rfl) (fun _ _ _ h => h) (Or.inl ⟨by rfl, ?_⟩) (by assumption) ?_
  rotate_left
  · (intro W hSw; (try dsimp only at hSw); go_simp; try with_reducible rfl)
  try simp only [heldPut, List.set]
  refine heldTake (i := 6) (v := undef) rfl (by kernel_rfl) (by kernel_rfl) (by kernel_rfl) (fun _ _ _ h => h) (Or.inr ⟨by rfl, rfl⟩) (by assumption) ?_
  try simp only [heldPut, List.set]
  refine heldTake (i := 7) (v := undef) rfl (by kernel_rfl) (by kernel_rfl) (by kernel_rfl) (fun _ _ _ h => h) (Or.inr ⟨by rfl, rfl⟩) (by assumption) ?_
  try simp only [heldPut, List.set]
  refine heldTake (i := 8) (v := undef) rfl (by kernel_rfl) (by kernel_rfl) (by kernel_rfl) (fun _ _ _ h => h) (Or.inr ⟨by rfl, rfl⟩) (by assumption) ?_
  try simp only [heldPut, List.set]
  refine heldTake (i := 9) (v := undef) rfl (by kernel_rfl) (by kernel_rfl) (by kernel_rfl) (fun _ _ _ h => h) (Or.inr ⟨by rfl, rfl⟩) (by assumption) ?_
  try simp only [heldPut, List.set]
  refine heldTake (i := 10) (v := undef) rfl (by kernel_rfl) (by kernel_rfl) (by kernel_rfl) (fun _ _ _ h => h) (Or.inr ⟨by rfl, rfl⟩) (by assumption) ?_
  try simp only [heldPut, List.set]
  refine heldTake (i := 11) (v := undef) rfl (by kernel_rfl) (by kernel_rfl) (by kernel_rfl) (fun _ _ _ h => h) (Or.inr ⟨by rfl, rfl⟩) (by assumption) ?_
  try simp only [heldPut, List.set]
  refine heldTake (i := 12) (v := undef) rfl (by kernel_rfl) (by kernel_rfl) (by kernel_rfl) (fun _ _ _ h => h) (Or.inr ⟨by rfl, rfl⟩) (by assumption) ?_
  try simp only [heldPut, List.set]
  refine heldTake (i := 13) (v := ?_) rfl (by kernel_rfl) (by kernel_rfl) (by kernel_rfl) (fun _ _ _ h => h) (Or.inl ⟨by rfl, ?_⟩) (by assumption) ?_
  rotate_left
  · (intro W hSw; (try dsimp only at hSw); go_simp; try with_reducible rfl)
  try simp only [heldPut, List.set]
  refine wpAnyH_done (by kernel_rfl) ?_ _
  refine NoPanic.normal ?_
  clear hHeld
  have HV2 := Lib.hid (HV1.out.below HB2.out)
  clear HV1 HB2 HEP
  go_wp2
  go_ret2
  exact ⟨rfl, HV2.out.bl⟩
set_option maxRecDepth 100000 in
set_option maxHeartbeats 2000000 in
theorem oack_life {f : Fm} (w : World) (h : OutAt w S o O X L) (hz : wayE O.me O.pe 2 f = 0) (hli : O.li ≤ 1048575) (hss : O.ss ≤ 1048575) (he : f.e = O.ep) (hl : f.l < O.se) :
    Calls Try.prog 7 #[.pointer (some ⟨o, 0, none⟩), .agg (frmC f).toArray] w fun e w' => e = .returned (.tuple #[.int .u64 0, .int .i64 17]) ∧ Below w.heap.size w w' := by
  have HCK := Lib.hid (fun W => echeck_any O.me O.pe O.li 2 f W)
  rw [hz] at HCK
  have HEP := Lib.hid (fun W (hW : OutAt W S o O X L) => oepoch_any W hW hli hss)
  obtain ⟨V, hV⟩ : ∃ V, V = w.alloc (.cells (frmC f).toArray 32) := ⟨_, rfl⟩
  have HV : Hid (AckW w V S o O X L f) := by rw [hV]; exact AckW.first w f h
  have d1 : ((f.e : Int) == (O.ep : Int)) = true := by rw [beq_iff_eq]; omega
  have d2 : ((f.e : Int) != (O.ep : Int)) = false := by rw [bne, d1]; rfl
  have d3 : decide (f.l < O.se) = true := decide_eq_true hl
  have d4 : decide ((f.l : Int) < (O.se : Int)) = true := decide_eq_true (by omega)
  clear h hz he hli hss
  go_enter Try.func7, Try.ntmps7
  go_upto_region 3 with fail
  rw [← hV]
  clear hV
  refine wp_region_noPanic ?_
  refine wp_region_held_drew (S := fun W => Below V.heap.size V W) (by kernel_rfl) ?_ (fun hHeld => ?_)
  · exact (Below.refl _ _).drew
  try simp only [heldPut, List.set]
  refine heldTake (i := 0) (v := ?_) rfl (by kernel_rfl) (by kernel_rfl) (by kernel_rfl) (fun _ _ _ h => h) (Or.inl ⟨by rfl, ?_⟩) (by assumption) ?_
  rotate_left
  · (intro W hSw; (try dsimp only at hSw); go_simp; try with_reducible rfl)
  try simp only [heldPut, List.set]
  refine heldTake (i := 1) (v := ?_) rfl (by kernel_rfl) (by kernel_rfl) (by kernel_rfl) (fun _ _ _ h => h) (Or.inl ⟨by rfl, ?_⟩) (by assumption) ?_
  rotate_left
  · (intro W hSw; (try dsimp only at hSw); go_simp; try with_reducible rfl)
  try simp only [heldPut, List.set]
  refine heldTake (i := 2) (v := ?_) rfl (by kernel_rfl) (by kernel_rfl) (by kernel_rfl) (fun _ _ _ h => h) (Or.inl ⟨by rfl, ?_⟩) (by assumption) ?_
  rotate_left
  · (intro W hSw; (try dsimp only at hSw); go_simp; try with_reducible rfl)
  try simp only [heldPut, List.set]
  refine heldTake (i := 3) (v := .agg #[.int .u8 O.me, .int .u8 O.pe, .int .u64 O.li]) rfl (by kernel_rfl) (by kernel_rfl) (by kernel_rfl) (fun _ _ _ h => h) (Or.inl ⟨by rfl, ?_⟩) (by assumption) ?_
  · (intro W hSw; (exact exec_load_mid 66 _ rfl o 0 rfl _ _ (HV.out.below hSw).reads.1 Try.underlying66 rfl Try.infoEnds))
  try simp only [heldPut, List.set]
  refine heldTake (i := 4) (v := .agg (frmC f).toArray) rfl (by kernel_rfl) (by kernel_rfl) (by kernel_rfl) (fun _ _ _ h => h) (Or.inl ⟨by rfl, ?_⟩) (by assumption) ?_
  · (intro W hSw; (exact exec_load_row 32 _ rfl w.heap.size rfl _ _ _ _ (HV.out.below hSw).fr Try.underlying32 rfl Try.infoFr))
  try simp only [heldPut, List.set]
  refine heldOne (i := 5) rfl (by kernel_rfl) (fun K hK => ?_)
  go_simp
  refine (HCK.out _).mono ?_
  rintro _ w1 ⟨rfl, hb1⟩
  have HB1 := Lib.hid ((Below.refl V.heap.size V).drew.trans (hb1.mono (by simp)))
  clear hb1
  go_wp2_with fail
  refine hK.out _ _ ?_ (fun hHeld => ?_)
  · exact HB1.out
  clear hK K
  try simp only [heldPut, List.set]
  refine heldTake (i := 6) (v := ?_) rfl (by kernel_rfl) (by kernel_rfl) (by kernel_rfl) (fun _ _ _ h => h) (Or.inl ⟨by rfl, ?_⟩) (by assumption) ?_
  rotate_left
  · (intro W hSw; (try dsimp only at hSw); go_simp; try with_reducible rfl)
  try simp only [heldPut, List.set]
  refine wpAnyH_done (by kernel_rfl) ?_ _
  refine NoPanic.normal ?_
  clear hHeld
  have HV1 := Lib.hid (HV.out.below HB1.out)
  clear HCK HB1 HV
  go_upto_region 6 with fail
  refine wp_region_noPanic ?_
  refine wp_region_held_drew (S := fun W => Below w1.heap.size w1 W) (by kernel_rfl) ?_ (fun hHeld => ?_)
  · exact (Below.refl _ _).drew
  try simp only [heldPut, List.set]
  refine heldTake (i := 0) (v := ?_) rfl (by kernel_rfl) (by kernel_rfl) (by kernel_rfl) (fun _ _ _ h => h) (Or.inl ⟨by rfl, ?_⟩) (by assumption) ?_
  rotate_left
  · (intro W hSw; (try dsimp only at hSw); obtain ⟨-, k3, k18, k19, k20, k8⟩ := (HV1.out.below hSw).reads; go_simp; try with_reducible rfl)
  try simp only [heldPut, List.set]
  refine heldTake (i := 1) (v := ?_) rfl (by kernel_rfl) (by kernel_rfl) (by kernel_rfl) (fun _ _ _ h => h) (Or.inl ⟨by rfl, ?_⟩) (by assumption) ?_
  rotate_left
  · (intro W hSw; (try dsimp only at hSw); obtain ⟨-, k3, k18, k19, k20, k8⟩ := (HV1.out.below hSw).reads; go_simp; try with_reducible rfl)
  try simp only [heldPut, List.set]
  refine heldTake (i := 2) (v := ?_) rfl (by kernel_rfl) (by kernel_rfl) (by kernel_rfl) (fun _ _ _ h => h) (Or.inl ⟨by rfl, ?_⟩) (by assumption) ?_
  rotate_left
  · (intro W hSw; (try dsimp only at hSw); obtain ⟨-, k3, k18, k19, k20, k8⟩ := (HV1.out.below hSw).reads; go_simp; try with_reducible rfl)
  try simp only [heldPut, List.set]
  refine heldOne (i := 3) rfl (by kernel_rfl) (fun K hK => ?_)
  go_simp
  refine (HEP.out _ (HV1.out.below ((Below.refl _ _).drew)).at_).mono ?_
  rintro _ w2 ⟨rfl, hb2⟩
  have HB2 := Lib.hid ((Below.refl w1.heap.size w1).drew.trans (hb2.mono (by simp)))
  clear hb2
  go_wp2_with fail
  refine hK.out _ _ ?_ (fun hHeld => ?_)
  · exact HB2.out
  clear hK K
  try simp only [heldPut, List.set]
  refine heldTake (i := 4) (v := ?_) rfl (by kernel_rfl) (by kernel_rfl) (by kernel_rfl) (fun _ _ _ h => h) (Or.inl ⟨by rfl, ?_⟩) (by assumption) ?_
  rotate_left
  · (intro W hSw; (try dsimp only at hSw); obtain ⟨-, k3, k18, k19, k20, k8⟩ := (HV1.out.below hSw).reads; go_simp; try with_reducible rfl)
  try simp only [heldPut, List.set]
  refine heldTake (i := 5) (v := ?_) rfl (by kernel_rfl) (by kernel_rfl) (by kernel_rfl) (fun _ _ _ h => h) (Or.inl ⟨by rfl, ?_⟩) (by assumption) ?_
  rotate_left
  · (intro W hSw; (try dsimp only at hSw); obtain ⟨-, k3, k18, k19, k20, k8⟩ := (HV1.out.below hSw).reads; go_simp; try with_reducible rfl)
  try simp only [heldPut, List.set]
  refine heldTake (i := 6) (v := ?_) rfl (by kernel_rfl) (by kernel_rfl) (by kernel_rfl) (fun _ _ _ h => h) (Or.inl ⟨by rfl, ?_⟩) (by assumption) ?_
  rotate_left
  · (intro W hSw; (try dsimp only at hSw); obtain ⟨-, k3, k18, k19, k20, k8⟩ := (HV1.out.below hSw).reads; go_simp; try with_reducible rfl)
  try simp only [heldPut, List.set]
  refine heldTake (i := 7) (v := ?_) rfl (by kernel_rfl) (by kernel_rfl) (by kernel_rfl) (fun _ _ _ h => h) (Or.inl ⟨by rfl, ?_⟩) (by assumption) ?_
  rotate_left
  · (intro W hSw; (try dsimp only at hSw); obtain ⟨-, k3, k18, k19, k20, k8⟩ := (HV1.out.below hSw).reads; go_simp; try with_reducible rfl)
  try simp only [heldPut, List.set]
  refine heldTake (i := 8) (v := ?_) rfl (by kernel_rfl) (by kernel_rfl) (by kernel_rfl) (fun _ _ _ h => h) (Or.inl ⟨by rfl, ?_⟩) (by assumption) ?_
  rotate_left
  · (intro W hSw; (try dsimp only at hSw); obtain ⟨-, k3, k18, k19, k20, k8⟩ := (HV1.out.below hSw).reads; go_simp; try with_reducible rfl)
  try simp only [heldPut, List.set]
  refine heldTake (i := 9) (v := ?_) rfl (by kernel_rfl) (by kernel_rfl) (by kernel_rfl) (fun _ _ _ h => h) (Or.inl ⟨by rfl, ?_⟩) (by assumption) ?_
  rotate_left
  · (intro W hSw; (try dsimp only at hSw); obtain ⟨-, k3, k18, k19, k20, k8⟩ := (HV1.out.below hSw).reads; go_simp; try with_reducible rfl)
  try simp only [heldPut, List.set]
  refine heldTake (i := 10) (v := ?_) rfl (by kernel_rfl) (by kernel_rfl) (by kernel_rfl) (fun _ _ _ h => h) (Or.inl ⟨by rfl, ?_⟩) (by assumption) ?_
  rotate_left
  · (intro W hSw; (try dsimp only at hSw); obtain ⟨-, k3, k18, k19, k20, k8⟩ := (HV1.out.below hSw).reads; go_simp; try with_reducible rfl)
  try simp only [heldPut, List.set]
  refine heldTake (i := 11) (v := ?_) rfl (by kernel_rfl) (by kernel_rfl) (by kernel_rfl) (fun _ _ _ h => h) (Or.inl ⟨by rfl, ?_⟩) (by assumption) ?_
  rotate_left
  · (intro W hSw; (try dsimp only at hSw); obtain ⟨-, k3, k18, k19, k20, k8⟩ := (HV1.out.below hSw).reads; go_simp; try with_reducible rfl)
  try simp only [heldPut, List.set]
  refine heldTake (i := 12) (v := ?_) rfl (by kernel_rfl) (by kernel_rfl) (by kernel_rfl) (fun _ _ _ h => h) (Or.inl ⟨by rfl, ?_⟩) (by assumption) ?_
  rotate_left
  · (intro W hSw; (try dsimp only at hSw); obtain ⟨-, k3, k18, k19, k20, k8⟩ := (HV1.out.below hSw).reads; go_simp; try with_reducible rfl)
  try simp only [heldPut, List.set]
  refine heldTake (i := 13) (v := ?_) rfl (by kernel_rfl) (by kernel_rfl) (by kernel_rfl) (fun _ _ _ h => h) (Or.inl ⟨by rfl, ?_⟩) (by assumption) ?_
  rotate_left
  · (intro W hSw; (try dsimp only at hSw); obtain ⟨-, k3, k18, k19, k20, k8⟩ := (HV1.out.below hSw).reads; go_simp; try with_reducible rfl)
  try simp only [heldPut, List.set]
  refine wpAnyH_done (by kernel_rfl) ?_ _
  refine NoPanic.normal ?_
  clear hHeld
  have HV2 := Lib.hid (HV1.out.below HB2.out)
  clear HV1 HB2 HEP
  go_wp2
  go_ret2
  exact ⟨rfl, HV2.out.bl⟩
set_option maxRecDepth 100000 in
set_option maxHeartbeats 2000000 in
theorem oack_new {f : Fm} (w : World) (h : OutAt w S o O X L) (hz : wayE O.me O.pe 2 f = 0) (hli : O.li ≤ 1048575) (hs : O.ss < 1048575) (h1 : 1 ≤ O.W) (h2 : O.W ≤ 64) (h3 : 0 < O.f) (h4 : O.f ≤ O.m) (h5 : O.m ≤ 1048576) (he : f.e = O.ep) (hl : O.se < f.l) (hse : 0 < O.se) :
    Calls Try.prog 7 #[.pointer (some ⟨o, 0, none⟩), .agg (frmC f).toArray] w fun e w' => e = .returned (.tuple #[.int .u64 0, .int .i64 18]) ∧ ∃ S', OutAt w' S' o { O with ss := O.ss + 1, se := f.l } ⟨O.W, O.f, O.m, 0, 0, 0⟩ [] ∧ Step w S w' S' := by
  have hss : O.ss ≤ 1048575 := by omega
  have HCK := Lib.hid (fun W => echeck_any O.me O.pe O.li 2 f W)
  rw [hz] at HCK
  have HEP := Lib.hid (fun W (hW : OutAt W S o O X L) => oepoch_any W hW hli hss)
  obtain ⟨V, hV⟩ : ∃ V, V = w.alloc (.cells (frmC f).toArray 32) := ⟨_, rfl⟩
  have HV : Hid (AckW w V S o O X L f) := by rw [hV]; exact AckW.first w f h
  have d1 : ((f.e : Int) == (O.ep : Int)) = true := by rw [beq_iff_eq]; omega
  have d2 : ((f.e : Int) != (O.ep : Int)) = false := by rw [bne, d1]; rfl
  have d3 : decide (f.l < O.se) = false := decide_eq_false (by omega)
  have d4 : decide ((f.l : Int) < (O.se : Int)) = false := decide_eq_false (by omega)
  have HSE := Lib.hid (fun W (hW : OutAt W S o O X L) => osees_any (l := f.l) (b := true) W hW (by rw [decide_eq_true (show O.se ≠ 0 by omega), decide_eq_true hl]; rfl))
  have HRN := Lib.hid (fun W (hW : OutAt W S o { O with se := f.l } X L) => orenew_any W hW hs h1 h2 h3 h4 h5)
  clear h hz he hli hss hl hse hs h1 h2 h3 h4 h5
  go_enter Try.func7, Try.ntmps7
  go_upto_region 3 with fail
  rw [← hV]
  clear hV
  refine wp_region_noPanic ?_
  refine wp_region_held_drew (S := fun W => Below V.heap.size V W) (by kernel_rfl) ?_ (fun hHeld => ?_)
  · exact (Below.refl _ _).drew
  try simp only [heldPut, List.set]
  refine heldTake (i := 0) (v := ?_) rfl (by kernel_rfl) (by kernel_rfl) (by kernel_rfl) (fun _ _ _ h => h) (Or.inl ⟨by rfl, ?_⟩) (by assumption) ?_
  rotate_left
  · (intro W hSw; (try dsimp only at hSw); go_simp; try with_reducible rfl)
  try simp only [heldPut, List.set]
  refine heldTake (i := 1) (v := ?_) rfl (by kernel_rfl) (by kernel_rfl) (by kernel_rfl) (fun _ _ _ h => h) (Or.inl ⟨by rfl, ?_⟩) (by assumption) ?_
  rotate_left
  · (intro W hSw; (try dsimp only at hSw); go_simp; try with_reducible rfl)
  try simp only [heldPut, List.set]
  refine heldTake (i := 2) (v := ?_) rfl (by kernel_rfl) (by kernel_rfl) (by kernel_rfl) (fun _ _ _ h => h) (Or.inl ⟨by rfl, ?_⟩) (by assumption) ?_
  rotate_left
  · (intro W hSw; (try dsimp only at hSw); go_simp; try with_reducible rfl)
  try simp only [heldPut, List.set]
  refine heldTake (i := 3) (v := .agg #[.int .u8 O.me, .int .u8 O.pe, .int .u64 O.li]) rfl (by kernel_rfl) (by kernel_rfl) (by kernel_rfl) (fun _ _ _ h => h) (Or.inl ⟨by rfl, ?_⟩) (by assumption) ?_
  · (intro W hSw; (exact exec_load_mid 66 _ rfl o 0 rfl _ _ (HV.out.below hSw).reads.1 Try.underlying66 rfl Try.infoEnds))
  try simp only [heldPut, List.set]
  refine heldTake (i := 4) (v := .agg (frmC f).toArray) rfl (by kernel_rfl) (by kernel_rfl) (by kernel_rfl) (fun _ _ _ h => h) (Or.inl ⟨by rfl, ?_⟩) (by assumption) ?_
  · (intro W hSw; (exact exec_load_row 32 _ rfl w.heap.size rfl _ _ _ _ (HV.out.below hSw).fr Try.underlying32 rfl Try.infoFr))
  try simp only [heldPut, List.set]
  refine heldOne (i := 5) rfl (by kernel_rfl) (fun K hK => ?_)
  go_simp
  refine (HCK.out _).mono ?_
  rintro _ w1 ⟨rfl, hb1⟩
  have HB1 := Lib.hid ((Below.refl V.heap.size V).drew.trans (hb1.mono (by simp)))
  clear hb1
  go_wp2_with fail
  refine hK.out _ _ ?_ (fun hHeld => ?_)
  · exact HB1.out
  clear hK K
  try simp only [heldPut, List.set]
  refine heldTake (i := 6) (v := ?_) rfl (by kernel_rfl) (by kernel_rfl) (by kernel_rfl) (fun _ _ _ h => h) (Or.inl ⟨by rfl, ?_⟩) (by assumption) ?_
  rotate_left
  · (intro W hSw; (try dsimp only at hSw); go_simp; try with_reducible rfl)
  try simp only [heldPut, List.set]
  refine wpAnyH_done (by kernel_rfl) ?_ _
  refine NoPanic.normal ?_
  clear hHeld
  have HV1 := Lib.hid (HV.out.below HB1.out)
  clear HCK HB1 HV
  go_upto_region 6 with fail
  refine wp_region_noPanic ?_
  refine wp_region_held_drew (S := fun W => Below w1.heap.size w1 W) (by kernel_rfl) ?_ (fun hHeld => ?_)
  · exact (Below.refl _ _).drew
  try simp only [heldPut, List.set]
  refine heldTake (i := 0) (v := ?_) rfl (by kernel_rfl) (by kernel_rfl) (by kernel_rfl) (fun _ _ _ h => h) (Or.inl ⟨by rfl, ?_⟩) (by assumption) ?_
  rotate_left
  · (intro W hSw; (try dsimp only at hSw); obtain ⟨-, k3, k18, k19, k20, k8⟩ := (HV1.out.below hSw).reads; go_simp; try with_reducible rfl)
  try simp only [heldPut, List.set]
  refine heldTake (i := 1) (v := ?_) rfl (by kernel_rfl) (by kernel_rfl) (by kernel_rfl) (fun _ _ _ h => h) (Or.inl ⟨by rfl, ?_⟩) (by assumption) ?_
  rotate_left
  · (intro W hSw; (try dsimp only at hSw); obtain ⟨-, k3, k18, k19, k20, k8⟩ := (HV1.out.below hSw).reads; go_simp; try with_reducible rfl)
  try simp only [heldPut, List.set]
  refine heldTake (i := 2) (v := ?_) rfl (by kernel_rfl) (by kernel_rfl) (by kernel_rfl) (fun _ _ _ h => h) (Or.inl ⟨by rfl, ?_⟩) (by assumption) ?_
  rotate_left
  · (intro W hSw; (try dsimp only at hSw); obtain ⟨-, k3, k18, k19, k20, k8⟩ := (HV1.out.below hSw).reads; go_simp; try with_reducible rfl)
  try simp only [heldPut, List.set]
  refine heldOne (i := 3) rfl (by kernel_rfl) (fun K hK => ?_)
  go_simp
  refine (HEP.out _ (HV1.out.below ((Below.refl _ _).drew)).at_).mono ?_
  rintro _ w2 ⟨rfl, hb2⟩
  have HB2 := Lib.hid ((Below.refl w1.heap.size w1).drew.trans (hb2.mono (by simp)))
  clear hb2
  go_wp2_with fail
  refine hK.out _ _ ?_ (fun hHeld => ?_)
  · exact HB2.out
  clear hK K
  try simp only [heldPut, List.set]
  refine heldTake (i := 4) (v := ?_) rfl (by kernel_rfl) (by kernel_rfl) (by kernel_rfl) (fun _ _ _ h => h) (Or.inl ⟨by rfl, ?_⟩) (by assumption) ?_
  rotate_left
  · (intro W hSw; (try dsimp only at hSw); obtain ⟨-, k3, k18, k19, k20, k8⟩ := (HV1.out.below hSw).reads; go_simp; try with_reducible rfl)
  try simp only [heldPut, List.set]
  refine heldTake (i := 5) (v := ?_) rfl (by kernel_rfl) (by kernel_rfl) (by kernel_rfl) (fun _ _ _ h => h) (Or.inl ⟨by rfl, ?_⟩) (by assumption) ?_
  rotate_left
  · (intro W hSw; (try dsimp only at hSw); obtain ⟨-, k3, k18, k19, k20, k8⟩ := (HV1.out.below hSw).reads; go_simp; try with_reducible rfl)
  try simp only [heldPut, List.set]
  refine heldTake (i := 6) (v := ?_) rfl (by kernel_rfl) (by kernel_rfl) (by kernel_rfl) (fun _ _ _ h => h) (Or.inl ⟨by rfl, ?_⟩) (by assumption) ?_
  rotate_left
  · (intro W hSw; (try dsimp only at hSw); obtain ⟨-, k3, k18, k19, k20, k8⟩ := (HV1.out.below hSw).reads; go_simp; try with_reducible rfl)
  try simp only [heldPut, List.set]
  refine heldTake (i := 7) (v := ?_) rfl (by kernel_rfl) (by kernel_rfl) (by kernel_rfl) (fun _ _ _ h => h) (Or.inl ⟨by rfl, ?_⟩) (by assumption) ?_
  rotate_left
  · (intro W hSw; (try dsimp only at hSw); obtain ⟨-, k3, k18, k19, k20, k8⟩ := (HV1.out.below hSw).reads; go_simp; try with_reducible rfl)
  try simp only [heldPut, List.set]
  refine heldTake (i := 8) (v := ?_) rfl (by kernel_rfl) (by kernel_rfl) (by kernel_rfl) (fun _ _ _ h => h) (Or.inl ⟨by rfl, ?_⟩) (by assumption) ?_
  rotate_left
  · (intro W hSw; (try dsimp only at hSw); obtain ⟨-, k3, k18, k19, k20, k8⟩ := (HV1.out.below hSw).reads; go_simp; try with_reducible rfl)
  try simp only [heldPut, List.set]
  refine heldTake (i := 9) (v := ?_) rfl (by kernel_rfl) (by kernel_rfl) (by kernel_rfl) (fun _ _ _ h => h) (Or.inl ⟨by rfl, ?_⟩) (by assumption) ?_
  rotate_left
  · (intro W hSw; (try dsimp only at hSw); obtain ⟨-, k3, k18, k19, k20, k8⟩ := (HV1.out.below hSw).reads; go_simp; try with_reducible rfl)
  try simp only [heldPut, List.set]
  refine heldTake (i := 10) (v := ?_) rfl (by kernel_rfl) (by kernel_rfl) (by kernel_rfl) (fun _ _ _ h => h) (Or.inl ⟨by rfl, ?_⟩) (by assumption) ?_
  rotate_left
  · (intro W hSw; (try dsimp only at hSw); obtain ⟨-, k3, k18, k19, k20, k8⟩ := (HV1.out.below hSw).reads; go_simp; try with_reducible rfl)
  try simp only [heldPut, List.set]
  refine heldTake (i := 11) (v := ?_) rfl (by kernel_rfl) (by kernel_rfl) (by kernel_rfl) (fun _ _ _ h => h) (Or.inl ⟨by rfl, ?_⟩) (by assumption) ?_
  rotate_left
  · (intro W hSw; (try dsimp only at hSw); obtain ⟨-, k3, k18, k19, k20, k8⟩ := (HV1.out.below hSw).reads; go_simp; try with_reducible rfl)
  try simp only [heldPut, List.set]
  refine heldTake (i := 12) (v := ?_) rfl (by kernel_rfl) (by kernel_rfl) (by kernel_rfl) (fun _ _ _ h => h) (Or.inl ⟨by rfl, ?_⟩) (by assumption) ?_
  rotate_left
  · (intro W hSw; (try dsimp only at hSw); obtain ⟨-, k3, k18, k19, k20, k8⟩ := (HV1.out.below hSw).reads; go_simp; try with_reducible rfl)
  try simp only [heldPut, List.set]
  refine heldTake (i := 13) (v := ?_) rfl (by kernel_rfl) (by kernel_rfl) (by kernel_rfl) (fun _ _ _ h => h) (Or.inl ⟨by rfl, ?_⟩) (by assumption) ?_
  rotate_left
  · (intro W hSw; (try dsimp only at hSw); obtain ⟨-, k3, k18, k19, k20, k8⟩ := (HV1.out.below hSw).reads; go_simp; try with_reducible rfl)
  try simp only [heldPut, List.set]
  refine wpAnyH_done (by kernel_rfl) ?_ _
  refine NoPanic.normal ?_
  clear hHeld
  have HV2 := Lib.hid (HV1.out.below HB2.out)
  clear HV1 HB2 HEP
  go_upto_region 8 with fail
  obtain ⟨-, k3, k18, k19, k20, k8⟩ := HV2.out.reads
  go_wp2_with fail
  refine (HSE.out _ HV2.out.at_).mono ?_
  rintro _ w3 ⟨rfl, hs3, ht3⟩
  have HT3 := Lib.hid ((Step.of_below S HV2.out.bl).trans ht3)
  have HR3 := Lib.hid (HRN.out _ hs3)
  clear hs3 ht3 HRN HSE k3 k18 k19 k20 k8
  go_wp2_with fail
  refine HR3.out.mono ?_
  rintro _ w4 ⟨rfl, S4, hs4, ht4⟩
  have HF := Lib.hid (⟨hs4, HT3.out.trans ht4⟩ : _ ∧ _)
  clear hs4 ht4 HR3 HT3
  go_wp2
  go_ret2
  exact ⟨rfl, S4, HF.out⟩
set_option maxRecDepth 100000 in
set_option maxHeartbeats 2000000 in
/-- of this epoch and life: the sender's own answer -/
theorem oack_same {f : Fm} {ix z : Nat} {X' : Sd} {L' : List Fg} (w : World) (h : OutAt w S o O X L) (hz : wayE O.me O.pe 2 f = 0) (hli : O.li ≤ 1048575) (hss : O.ss ≤ 1048575) (he : f.e = O.ep) (hl : O.se = 0 ∨ O.se = f.l)
    (HA : ∀ W s T, SdAt W T s X L → Calls Try.prog 26 #[.pointer (some ⟨s, 0, none⟩), .int .u64 f.c, .int .u64 f.b] W fun e w' => e = .returned (.tuple #[.int .u64 ix, .int .i64 z]) ∧ ∃ T', SdAt w' T' s X' L' ∧ Step W T w' T') :
    Calls Try.prog 7 #[.pointer (some ⟨o, 0, none⟩), .agg (frmC f).toArray] w fun e w' => e = .returned (.tuple #[.int .u64 ix, .int .i64 z]) ∧ ∃ S', OutAt w' S' o { O with se := f.l } X' L' ∧ Step w S w' S' := by
  have HCK := Lib.hid (fun W => echeck_any O.me O.pe O.li 2 f W)
  rw [hz] at HCK
  have HEP := Lib.hid (fun W (hW : OutAt W S o O X L) => oepoch_any W hW hli hss)
  obtain ⟨V, hV⟩ : ∃ V, V = w.alloc (.cells (frmC f).toArray 32) := ⟨_, rfl⟩
  have HV : Hid (AckW w V S o O X L f) := by rw [hV]; exact AckW.first w f h
  have d1 : ((f.e : Int) == (O.ep : Int)) = true := by rw [beq_iff_eq]; omega
  have d2 : ((f.e : Int) != (O.ep : Int)) = false := by rw [bne, d1]; rfl
  have d3 : decide (f.l < O.se) = false := decide_eq_false (by omega)
  have d4 : decide ((f.l : Int) < (O.se : Int)) = false := decide_eq_false (by omega)
  have HSE := Lib.hid (fun W (hW : OutAt W S o O X L) => osees_any (l := f.l) (b := false) W hW (by
    rcases hl with h | h
    · rw [decide_eq_false (show ¬ O.se ≠ 0 by omega)]; rfl
    · rw [decide_eq_false (show ¬ O.se < f.l by omega), Bool.and_false]))
  have HAA := Lib.hid HA
  clear h hz he hli hss hl HA
  go_enter Try.func7, Try.ntmps7
  go_upto_region 3 with fail
  rw [← hV]
  clear hV
  refine wp_region_noPanic ?_
  refine wp_region_held_drew (S := fun W => Below V.heap.size V W) (by kernel_rfl) ?_ (fun hHeld => ?_)
  · exact (Below.refl _ _).drew
  try simp only [heldPut, List.set]
  refine heldTake (i := 0) (v := ?_) rfl (by kernel_rfl) (by kernel_rfl) (by kernel_rfl) (fun _ _ _ h => h) (Or.inl ⟨by rfl, ?_⟩) (by assumption) ?_
  rotate_left
  · (intro W hSw; (try dsimp only at hSw); go_simp; try with_reducible rfl)
  try simp only [heldPut, List.set]
  refine heldTake (i := 1) (v := ?_) rfl (by kernel_rfl) (by kernel_rfl) (by kernel_rfl) (fun _ _ _ h => h) (Or.inl ⟨by rfl, ?_⟩) (by assumption) ?_
  rotate_left
  · (intro W hSw; (try dsimp only at hSw); go_simp; try with_reducible rfl)
  try simp only [heldPut, List.set]
  refine heldTake (i := 2) (v := ?_) rfl (by kernel_rfl) (by kernel_rfl) (by kernel_rfl) (fun _ _ _ h => h) (Or.inl ⟨by rfl, ?_⟩) (by assumption) ?_
  rotate_left
  · (intro W hSw; (try dsimp only at hSw); go_simp; try with_reducible rfl)
  try simp only [heldPut, List.set]
  refine heldTake (i := 3) (v := .agg #[.int .u8 O.me, .int .u8 O.pe, .int .u64 O.li]) rfl (by kernel_rfl) (by kernel_rfl) (by kernel_rfl) (fun _ _ _ h => h) (Or.inl ⟨by rfl, ?_⟩) (by assumption) ?_
  · (intro W hSw; (exact exec_load_mid 66 _ rfl o 0 rfl _ _ (HV.out.below hSw).reads.1 Try.underlying66 rfl Try.infoEnds))
  try simp only [heldPut, List.set]
  refine heldTake (i := 4) (v := .agg (frmC f).toArray) rfl (by kernel_rfl) (by kernel_rfl) (by kernel_rfl) (fun _ _ _ h => h) (Or.inl ⟨by rfl, ?_⟩) (by assumption) ?_
  · (intro W hSw; (exact exec_load_row 32 _ rfl w.heap.size rfl _ _ _ _ (HV.out.below hSw).fr Try.underlying32 rfl Try.infoFr))
  try simp only [heldPut, List.set]
  refine heldOne (i := 5) rfl (by kernel_rfl) (fun K hK => ?_)
  go_simp
  refine (HCK.out _).mono ?_
  rintro _ w1 ⟨rfl, hb1⟩
  have HB1 := Lib.hid ((Below.refl V.heap.size V).drew.trans (hb1.mono (by simp)))
  clear hb1
  go_wp2_with fail
  refine hK.out _ _ ?_ (fun hHeld => ?_)
  · exact HB1.out
  clear hK K
  try simp only [heldPut, List.set]
  refine heldTake (i := 6) (v := ?_) rfl (by kernel_rfl) (by kernel_rfl) (by kernel_rfl) (fun _ _ _ h => h) (Or.inl ⟨by rfl, ?_⟩) (by assumption) ?_
  rotate_left
  · (intro W hSw; (try dsimp only at hSw); go_simp; try with_reducible rfl)
  try simp only [heldPut, List.set]
  refine wpAnyH_done (by kernel_rfl) ?_ _
  refine NoPanic.normal ?_
  clear hHeld
  have HV1 := Lib.hid (HV.out.below HB1.out)
  clear HCK HB1 HV
  go_upto_region 6 with fail
  refine wp_region_noPanic ?_
  refine wp_region_held_drew (S := fun W => Below w1.heap.size w1 W) (by kernel_rfl) ?_ (fun hHeld => ?_)
  · exact (Below.refl _ _).drew
  try simp only [heldPut, List.set]
  refine heldTake (i := 0) (v := ?_) rfl (by kernel_rfl) (by kernel_rfl) (by kernel_rfl) (fun _ _ _ h => h) (Or.inl ⟨by rfl, ?_⟩) (by assumption) ?_
  rotate_left
  · (intro W hSw; (try dsimp only at hSw); obtain ⟨-, k3, k18, k19, k20, k8⟩ := (HV1.out.below hSw).reads; go_simp; try with_reducible rfl)
  try simp only [heldPut, List.set]
  refine heldTake (i := 1) (v := ?_) rfl (by kernel_rfl) (by kernel_rfl) (by kernel_rfl) (fun _ _ _ h => h) (Or.inl ⟨by rfl, ?_⟩) (by assumption) ?_
  rotate_left
  · (intro W hSw; (try dsimp only at hSw); obtain ⟨-, k3, k18, k19, k20, k8⟩ := (HV1.out.below hSw).reads; go_simp; try with_reducible rfl)
  try simp only [heldPut, List.set]
  refine heldTake (i := 2) (v := ?_) rfl (by kernel_rfl) (by kernel_rfl) (by kernel_rfl) (fun _ _ _ h => h) (Or.inl ⟨by rfl, ?_⟩) (by assumption) ?_
  rotate_left
  · (intro W hSw; (try dsimp only at hSw); obtain ⟨-, k3, k18, k19, k20, k8⟩ := (HV1.out.below hSw).reads; go_simp; try with_reducible rfl)
  try simp only [heldPut, List.set]
  refine heldOne (i := 3) rfl (by kernel_rfl) (fun K hK => ?_)
  go_simp
  refine (HEP.out _ (HV1.out.below ((Below.refl _ _).drew)).at_).mono ?_
  rintro _ w2 ⟨rfl, hb2⟩
  have HB2 := Lib.hid ((Below.refl w1.heap.size w1).drew.trans (hb2.mono (by simp)))
  clear hb2
  go_wp2_with fail
  refine hK.out _ _ ?_ (fun hHeld => ?_)
  · exact HB2.out
  clear hK K
  try simp only [heldPut, List.set]
  refine heldTake (i := 4) (v := ?_) rfl (by kernel_rfl) (by kernel_rfl) (by kernel_rfl) (fun _ _ _ h => h) (Or.inl ⟨by rfl, ?_⟩) (by assumption) ?_
  rotate_left
  · (intro W hSw; (try dsimp only at hSw); obtain ⟨-, k3, k18, k19, k20, k8⟩ := (HV1.out.below hSw).reads; go_simp; try with_reducible rfl)
  try simp only [heldPut, List.set]
  refine heldTake (i := 5) (v := ?_) rfl (by kernel_rfl) (by kernel_rfl) (by kernel_rfl) (fun _ _ _ h => h) (Or.inl ⟨by rfl, ?_⟩) (by assumption) ?_
  rotate_left
  · (intro W hSw; (try dsimp only at hSw); obtain ⟨-, k3, k18, k19, k20, k8⟩ := (HV1.out.below hSw).reads; go_simp; try with_reducible rfl)
  try simp only [heldPut, List.set]
  refine heldTake (i := 6) (v := ?_) rfl (by kernel_rfl) (by kernel_rfl) (by kernel_rfl) (fun _ _ _ h => h) (Or.inl ⟨by rfl, ?_⟩) (by assumption) ?_
  rotate_left
  · (intro W hSw; (try dsimp only at hSw); obtain ⟨-, k3, k18, k19, k20, k8⟩ := (HV1.out.below hSw).reads; go_simp; try with_reducible rfl)
  try simp only [heldPut, List.set]
  refine heldTake (i := 7) (v := ?_) rfl (by kernel_rfl) (by kernel_rfl) (by kernel_rfl) (fun _ _ _ h => h) (Or.inl ⟨by rfl, ?_⟩) (by assumption) ?_
  rotate_left
  · (intro W hSw; (try dsimp only at hSw); obtain ⟨-, k3, k18, k19, k20, k8⟩ := (HV1.out.below hSw).reads; go_simp; try with_reducible rfl)
  try simp only [heldPut, List.set]
  refine heldTake (i := 8) (v := ?_) rfl (by kernel_rfl) (by kernel_rfl) (by kernel_rfl) (fun _ _ _ h => h) (Or.inl ⟨by rfl, ?_⟩) (by assumption) ?_
  rotate_left
  · (intro W hSw; (try dsimp only at hSw); obtain ⟨-, k3, k18, k19, k20, k8⟩ := (HV1.out.below hSw).reads; go_simp; try with_reducible rfl)
  try simp only [heldPut, List.set]
  refine heldTake (i := 9) (v := ?_) rfl (by kernel_rfl) (by kernel_rfl) (by kernel_rfl) (fun _ _ _ h => h) (Or.inl ⟨by rfl, ?_⟩) (by assumption) ?_
  rotate_left
  · (intro W hSw; (try dsimp only at hSw); obtain ⟨-, k3, k18, k19, k20, k8⟩ := (HV1.out.below hSw).reads; go_simp; try with_reducible rfl)
  try simp only [heldPut, List.set]
  refine heldTake (i := 10) (v := ?_) rfl (by kernel_rfl) (by kernel_rfl) (by kernel_rfl) (fun _ _ _ h => h) (Or.inl ⟨by rfl, ?_⟩) (by assumption) ?_
  rotate_left
  · (intro W hSw; (try dsimp only at hSw); obtain ⟨-, k3, k18, k19, k20, k8⟩ := (HV1.out.below hSw).reads; go_simp; try with_reducible rfl)
  try simp only [heldPut, List.set]
  refine heldTake (i := 11) (v := ?_) rfl (by kernel_rfl) (by kernel_rfl) (by kernel_rfl) (fun _ _ _ h => h) (Or.inl ⟨by rfl, ?_⟩) (by assumption) ?_
  rotate_left
  · (intro W hSw; (try dsimp only at hSw); obtain ⟨-, k3, k18, k19, k20, k8⟩ := (HV1.out.below hSw).reads; go_simp; try with_reducible rfl)
  try simp only [heldPut, List.set]
  refine heldTake (i := 12) (v := ?_) rfl (by kernel_rfl) (by kernel_rfl) (by kernel_rfl) (fun _ _ _ h => h) (Or.inl ⟨by rfl, ?_⟩) (by assumption) ?_
  rotate_left
  · (intro W hSw; (try dsimp only at hSw); obtain ⟨-, k3, k18, k19, k20, k8⟩ := (HV1.out.below hSw).reads; go_simp; try with_reducible rfl)
  try simp only [heldPut, List.set]
  refine heldTake (i := 13) (v := ?_) rfl (by kernel_rfl) (by kernel_rfl) (by kernel_rfl) (fun _ _ _ h => h) (Or.inl ⟨by rfl, ?_⟩) (by assumption) ?_
  rotate_left
  · (intro W hSw; (try dsimp only at hSw); obtain ⟨-, k3, k18, k19, k20, k8⟩ := (HV1.out.below hSw).reads; go_simp; try with_reducible rfl)
  try simp only [heldPut, List.set]
  refine wpAnyH_done (by kernel_rfl) ?_ _
  refine NoPanic.normal ?_
  clear hHeld
  have HV2 := Lib.hid (HV1.out.below HB2.out)
  clear HV1 HB2 HEP
  go_upto_region 8 with fail
  obtain ⟨-, k3, k18, k19, k20, k8⟩ := HV2.out.reads
  go_wp2_with fail
  refine (HSE.out _ HV2.out.at_).mono ?_
  rintro _ w3 ⟨rfl, hs3, ht3⟩
  have HT3 := Lib.hid ((Step.of_below S HV2.out.bl).trans ht3)
  have hog : w.heap.size < (w2).heap.size := (Array.getElem?_eq_some_iff.1 HV2.out.fr).1
  have hnS : ¬ S w.heap.size := fun h => Nat.lt_irrefl _ (HV2.out.lt _ h)
  have HF3 := Lib.hid ((ht3.only.block _ hog hnS).trans HV2.out.fr)
  obtain ⟨s, T, _, _, _, _, _, _, _, c7, _, _, hsd, hT⟩ := hs3.cells
  have HC : Hid (∀ W, Below w3.heap.size w3 W → W.cell? ⟨o, 7, none⟩ = some (.pointer (some ⟨s, 0, none⟩)) ∧ W.cell? ⟨w.heap.size, 18, none⟩ = some (.int .u64 f.c) ∧ W.cell? ⟨w.heap.size, 19, none⟩ = some (.int .u64 f.b)) := fun W hW => by
    have hb : W.heap[w.heap.size]? = _ := (hW.block _ (Array.getElem?_eq_some_iff.1 HF3.out).1).trans HF3.out
    exact ⟨(hW.cell (p := ⟨o, 7, none⟩) (hs3.lt o hs3.oS)).trans c7, cell_of_row _ _ 18 _ _ _ hb, cell_of_row _ _ 19 _ _ _ hb⟩
  have HS3 := Lib.hid hs3
  have HA3 := Lib.hid (fun W (hW : Below w3.heap.size w3 W) => HAA.out W s T (hsd.below hW))
  have HT := Lib.hid hT
  have HNS := Lib.hid hnS
  clear hs3 ht3 HSE k3 k18 k19 k20 k8 hog hnS HV2 c7 hsd hT HF3 HAA
  go_upto_region 10 with fail
  refine wp_region_noPanic ?_
  refine wp_region_held_drew (S := fun W => W.cell? ⟨o, 7, none⟩ = some (.pointer (some ⟨s, 0, none⟩)) ∧ W.cell? ⟨w.heap.size, 18, none⟩ = some (.int .u64 f.c) ∧ W.cell? ⟨w.heap.size, 19, none⟩ = some (.int .u64 f.b)) (by kernel_rfl) ?_ (fun hHeld => ?_)
  · exact HC.out _ ((Below.refl _ _).drew)
  try simp only [heldPut, List.set]
  refine heldTake (i := 0) (v := ?_) rfl (by kernel_rfl) (by kernel_rfl) (by kernel_rfl) (fun _ _ _ h => h) (Or.inl ⟨by rfl, ?_⟩) (by assumption) ?_
  rotate_left
  · (intro W hSw; (try dsimp only at hSw); obtain ⟨k7, k18, k19⟩ := hSw; go_simp; try with_reducible rfl)
  try simp only [heldPut, List.set]
  refine heldTake (i := 1) (v := ?_) rfl (by kernel_rfl) (by kernel_rfl) (by kernel_rfl) (fun _ _ _ h => h) (Or.inl ⟨by rfl, ?_⟩) (by assumption) ?_
  rotate_left
  · (intro W hSw; (try dsimp only at hSw); obtain ⟨k7, k18, k19⟩ := hSw; go_simp; try with_reducible rfl)
  try simp only [heldPut, List.set]
  refine heldTake (i := 2) (v := ?_) rfl (by kernel_rfl) (by kernel_rfl) (by kernel_rfl) (fun _ _ _ h => h) (Or.inl ⟨by rfl, ?_⟩) (by assumption) ?_
  rotate_left
  · (intro W hSw; (try dsimp only at hSw); obtain ⟨k7, k18, k19⟩ := hSw; go_simp; try with_reducible rfl)
  try simp only [heldPut, List.set]
  refine heldTake (i := 3) (v := ?_) rfl (by kernel_rfl) (by kernel_rfl) (by kernel_rfl) (fun _ _ _ h => h) (Or.inl ⟨by rfl, ?_⟩) (by assumption) ?_
  rotate_left
  · (intro W hSw; (try dsimp only at hSw); obtain ⟨k7, k18, k19⟩ := hSw; go_simp; try with_reducible rfl)
  try simp only [heldPut, List.set]
  refine heldTake (i := 4) (v := ?_) rfl (by kernel_rfl) (by kernel_rfl) (by kernel_rfl) (fun _ _ _ h => h) (Or.inl ⟨by rfl, ?_⟩) (by assumption) ?_
  rotate_left
  · (intro W hSw; (try dsimp only at hSw); obtain ⟨k7, k18, k19⟩ := hSw; go_simp; try with_reducible rfl)
  try simp only [heldPut, List.set]
  refine heldTake (i := 5) (v := ?_) rfl (by kernel_rfl) (by kernel_rfl) (by kernel_rfl) (fun _ _ _ h => h) (Or.inl ⟨by rfl, ?_⟩) (by assumption) ?_
  rotate_left
  · (intro W hSw; (try dsimp only at hSw); obtain ⟨k7, k18, k19⟩ := hSw; go_simp; try with_reducible rfl)
  try simp only [heldPut, List.set]
  refine heldTake (i := 6) (v := ?_) rfl (by kernel_rfl) (by kernel_rfl) (by kernel_rfl) (fun _ _ _ h => h) (Or.inl ⟨by rfl, ?_⟩) (by assumption) ?_
  rotate_left
  · (intro W hSw; (try dsimp only at hSw); obtain ⟨k7, k18, k19⟩ := hSw; go_simp; try with_reducible rfl)
  try simp only [heldPut, List.set]
  refine heldTake (i := 7) (v := ?_) rfl (by kernel_rfl) (by kernel_rfl) (by kernel_rfl) (fun _ _ _ h => h) (Or.inl ⟨by rfl, ?_⟩) (by assumption) ?_
  rotate_left
  · (intro W hSw; (try dsimp only at hSw); obtain ⟨k7, k18, k19⟩ := hSw; go_simp; try with_reducible rfl)
  try simp only [heldPut, List.set]
  refine heldOne (i := 8) rfl (by kernel_rfl) (fun K hK => ?_)
  go_simp
  refine (HA3.out _ ((Below.refl _ _).drew)).mono ?_
  rintro _ w4 ⟨rfl, T4, hd4, ht4⟩
  have hbd : Below w3.heap.size w3 w3.drew := (Below.refl _ _).drew
  obtain ⟨k7, k18, k19⟩ := HC.out _ hbd
  obtain ⟨ho4, hst4⟩ := (HS3.out.below hbd).turn k7 HT.out ht4 hd4
  have hol : o < w3.drew.heap.size := HS3.out.lt o HS3.out.oS
  have hnT : ¬ T w.heap.size := fun h => by
    exact HNS.out (HT.out _ h).1
  have HC4 := Lib.hid (⟨(ht4.only.cell (p := ⟨o, 7, none⟩) hol (fun h => (HT.out o h).2 rfl)).trans k7, (ht4.only.cell (p := ⟨w.heap.size, 18, none⟩) (World.block_lt_of_cell? _ _ k18) hnT).trans k18, (ht4.only.cell (p := ⟨w.heap.size, 19, none⟩) (World.block_lt_of_cell? _ _ k19) hnT).trans k19⟩ : _ ∧ _ ∧ _)
  have HF := Lib.hid (⟨ho4, HT3.out.trans ((Step.of_below S hbd).trans hst4)⟩ : _ ∧ _)
  clear hd4 ht4 hbd k7 k18 k19 ho4 hst4 hol hnT HA3 HC HS3 HT3
  go_wp2_with fail
  refine hK.out _ _ ?_ (fun hHeld => ?_)
  · exact HC4.out
  clear hK K
  try simp only [heldPut, List.set]
  refine heldTake (i := 9) (v := ?_) rfl (by kernel_rfl) (by kernel_rfl) (by kernel_rfl) (fun _ _ _ h => h) (Or.inl ⟨by rfl, ?_⟩) (by assumption) ?_
  rotate_left
  · (intro W hSw; (try dsimp only at hSw); go_simp; try with_reducible rfl)
  try simp only [heldPut, List.set]
  refine heldTake (i := 10) (v := ?_) rfl (by kernel_rfl) (by kernel_rfl) (by kernel_rfl) (fun _ _ _ h => h) (Or.inl ⟨by rfl, ?_⟩) (by assumption) ?_
  rotate_left
  · (intro W hSw; (try dsimp only at hSw); go_simp; try with_reducible rfl)
  try simp only [heldPut, List.set]
  refine heldTake (i := 11) (v := ?_) rfl (by kernel_rfl) (by kernel_rfl) (by kernel_rfl) (fun _ _ _ h => h) (Or.inl ⟨by rfl, ?_⟩) (by assumption) ?_
  rotate_left
  · (intro W hSw; (try dsimp only at hSw); go_simp; try with_reducible rfl)
  try simp only [heldPut, List.set]
  refine heldTake (i := 12) (v := ?_) rfl (by kernel_rfl) (by kernel_rfl) (by kernel_rfl) (fun _ _ _ h => h) (Or.inl ⟨by rfl, ?_⟩) (by assumption) ?_
  rotate_left
  · (intro W hSw; (try dsimp only at hSw); go_simp; try with_reducible rfl)
  try simp only [heldPut, List.set]
  refine wpAnyH_done (by kernel_rfl) ?_ _
  refine NoPanic.normal ?_
  clear hHeld
  go_wp2
  go_ret2
  exact ⟨rfl, _, HF.out⟩
end
end Go.Proofs.Ytocdhnlffemnhaa
