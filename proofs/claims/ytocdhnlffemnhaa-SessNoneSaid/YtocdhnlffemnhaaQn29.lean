/- Several texts in one: SsData. -/
import Derived.Test.YtocdhnlffemnhaaQn22
import Derived.Test.YtocdhnlffemnhaaQn24
/- Layer 12: what data does. -/
namespace Go.Proofs.Ytocdhnlffemnhaa
open Go.RowKit
section
variable {S : Nat → Prop} {i k : Nat} {I : Ix} {V : Rv} {F : Hs}
set_option maxRecDepth 100000 in
set_option maxHeartbeats 400000 in
theorem idata_nil (f : Fm) (w : World) : Calls Try.prog 14 #[.pointer none, .agg (frmC f).toArray] w fun e w' => e = .returned (.int .i64 1) ∧ Below w.heap.size w w' := by
  obtain ⟨U, hU⟩ : ∃ U, U = w.alloc (.cells (frmC f).toArray 32) := ⟨_, rfl⟩
  have HB : Hid (Below w.heap.size w U) := by rw [hU]; exact (Below.refl _ _).alloc (Nat.le_refl _) _
  go_enter Try.func14, Try.ntmps14
  go_upto_region 1 with fail
  rw [← hU]
  clear hU
  go_wp2
  go_ret
  exact ⟨rfl, HB.out⟩
/-- the world ahead of and behind the check -/
structure DatW (w U : World) (S : Nat → Prop) (i : Nat) (I : Ix) (V : Rv) (F : Hs) (k : Nat) (f : Fm) : Prop where
  at_ : InAt U S i I V F k
  fr : U.heap[w.heap.size]? = some (.cells (frmC f).toArray 32 (0, 0))
  bl : Below w.heap.size w U
  lt : ∀ k, S k → k < w.heap.size
theorem DatW.first (w : World) (f : Fm) (h : InAt w S i I V F k) : DatW w (w.alloc (.cells (frmC f).toArray 32)) S i I V F k f :=
  ⟨h.below ((Below.refl _ _).alloc (Nat.le_refl _) _), heap_alloc_new _ _, (Below.refl _ _).alloc (Nat.le_refl _) _, h.lt⟩
theorem DatW.below {w U W : World} {f : Fm} (h : DatW w U S i I V F k f) (hb : Below U.heap.size U W) : DatW w W S i I V F k f :=
  ⟨h.at_.below hb, (hb.block _ (Array.getElem?_eq_some_iff.1 h.fr).1).trans h.fr, h.bl.trans (hb.mono h.bl.size), h.lt⟩
theorem DatW.reads {w U : World} {f : Fm} (h : DatW w U S i I V F k f) : U.rangeAt i 0 [.int .u8 I.me, .int .u8 I.pe, .int .u64 I.li] ∧ U.cell? ⟨w.heap.size, 3, none⟩ = some (.int .u64 f.e) ∧ U.cell? ⟨w.heap.size, 4, none⟩ = some (.int .u64 f.q) ∧ U.cell? ⟨i, 4, none⟩ = some (.int .u64 I.ep) ∧ U.rangeAt w.heap.size 5 (itC f.x f.A f.z) := by
  obtain ⟨s, m, c0, c1, c2, c3, c4, c5, _⟩ := h.at_.cells
  refine ⟨fun j u hj => ?_, cell_of_row _ _ 3 _ _ _ h.fr, cell_of_row _ _ 4 _ _ _ h.fr, c4, fun j u hj => ?_⟩
  · have hj3 := (List.getElem?_eq_some_iff.1 hj).1
    rw [Nat.zero_add]
    match j, hj3 with
    | 0, _ => rw [c0]; exact hj
    | 1, _ => rw [c1]; exact hj
    | 2, _ => rw [c2]; exact hj
  · have hj13 : j < 13 := (List.getElem?_eq_some_iff.1 hj).1
    rw [cell_of_row _ _ (5 + j) _ _ _ h.fr, List.getElem?_toArray]
    unfold frmC
    rw [List.getElem?_append_right (by simp), List.getElem?_append_left (by rw [show ([.int .u8 f.k, .int .u8 f.f, .int .u8 f.t, .int .u64 f.e, .int .u64 f.q] : List Value).length = 5 from rfl]; show 5 + j - 5 < 13; omega)]
    rw [show ([.int .u8 f.k, .int .u8 f.f, .int .u8 f.t, .int .u64 f.e, .int .u64 f.q] : List Value).length = 5 from rfl, Nat.add_sub_cancel_left]
    exact hj
set_option maxRecDepth 100000 in
set_option maxHeartbeats 1000000 in
theorem idata_wrong {f : Fm} (w : World) (h : InAt w S i I V F k) (hz : wayE I.me I.pe 1 f ≠ 0) :
    Calls Try.prog 14 #[.pointer (some ⟨i, 0, none⟩), .agg (frmC f).toArray] w fun e w' => e = .returned (.int .i64 (wayE I.me I.pe 1 f : Nat)) ∧ Below w.heap.size w w' := by
  obtain ⟨z, hzz⟩ : ∃ z, z = wayE I.me I.pe 1 f := ⟨_, rfl⟩
  have HCK := Lib.hid (fun W => echeck_any I.me I.pe I.li 1 f W)
  rw [← hzz] at hz HCK ⊢
  have d1 : ((z : Int) == 0) = false := by rw [beq_eq_false_iff_ne]; omega
  have d2 : ((z : Int) != 0) = true := by rw [bne, d1]; rfl
  obtain ⟨U, hU⟩ : ∃ U, U = w.alloc (.cells (frmC f).toArray 32) := ⟨_, rfl⟩
  have HV : Hid (DatW w U S i I V F k f) := by rw [hU]; exact DatW.first w f h
  clear h hz hzz
  go_enter Try.func14, Try.ntmps14
  go_upto_region 3 with fail
  rw [← hU]
  clear hU
  refine wp_region_noPanic ?_
  refine wp_region_held_drew (S := fun W => Below U.heap.size U W) (by kernel_rfl) ?_ (fun hHeld => ?_)
  · exact (Below.refl _ _).drew
  try simp only [heldPut, List.set]
  refine heldTake (i := 0) (v := ?_) rfl (by kernel_rfl) (by kernel_rfl) (by kernel_rfl) (fun _ _ _ h => h) (Or.inl ⟨by rfl, ?_⟩) (by assumption) ?_
  rotate_left
  · (intro W hSw; (try dsimp only at hSw); go_simp; try with_reducible rfl)
  try simp only [heldPut, List.set]
  refine heldTake (i := 1) (v := ?_) rfl (by kernel_rfl) (by kernel_rfl) (by kernel_rfl) (fun _ _ _ h => h) (Or.inl ⟨by rfl, ?_⟩) (by assumption) ?_
  rotate_left
  · (intro W hSw; (try dsimp only at hSw); go_simp; try with_reducible rfl)
  try simp only [heldPut, List.set]
  refine heldTake (i := 2) (v := ?_) rfl (by kernel_rfl) (by kernel_rfl) (by kernel_rfl) (fun _ _ _ h => h) (Or.inl ⟨by rfl, ?_⟩) (by assumption) ?_
  rotate_left
  · (intro W hSw; (try dsimp only at hSw); go_simp; try with_reducible rfl)
  try simp only [heldPut, List.set]
  refine heldTake (i := 3) (v := .agg #[.int .u8 I.me, .int .u8 I.pe, .int .u64 I.li]) rfl (by kernel_rfl) (by kernel_rfl) (by kernel_rfl) (fun _ _ _ h => h) (Or.inl ⟨by rfl, ?_⟩) (by assumption) ?_
  · (intro W hSw; (exact exec_load_mid 66 _ rfl i 0 rfl _ _ (HV.out.below hSw).reads.1 Try.underlying66 rfl Try.infoEnds))
  try simp only [heldPut, List.set]
  refine heldTake (i := 4) (v := .agg (frmC f).toArray) rfl (by kernel_rfl) (by kernel_rfl) (by kernel_rfl) (fun _ _ _ h => h) (Or.inl ⟨by rfl, ?_⟩) (by assumption) ?_
  · (intro W hSw; (exact exec_load_row 32 _ rfl w.heap.size rfl _ _ _ _ (HV.out.below hSw).fr Try.underlying32 rfl Try.infoFr))
  try simp only [heldPut, List.set]
  refine heldOne (i := 5) rfl (by kernel_rfl) (fun K hK => ?_)
  go_simp
  refine (HCK.out _).mono ?_
  rintro _ w1 ⟨rfl, hb1⟩
  have HB1 := Lib.hid ((Below.refl U.heap.size U).drew.trans (hb1.mono (by simp)))
  clear hb1
  go_wp2_with fail
  refine hK.out _ _ ?_ (fun hHeld => ?_)
  · exact HB1.out
  clear hK K
  try simp only [heldPut, List.set]
  refine heldTake (i := 6) (v := ?_) rfl (by kernel_rfl) (by kernel_rfl) (by kernel_rfl) (fun _ _ _ h => h) (Or.inl ⟨by rfl, ?_⟩) (by assumption) ?_
  rotate_left
  · (intro W hSw; (try dsimp only at hSw); go_simp; try with_reducible rfl)
  try simp only [heldPut, List.set]
  refine wpAnyH_done (by kernel_rfl) ?_ _
  refine NoPanic.normal ?_
  clear hHeld
  go_wp2
  go_ret
  exact ⟨rfl, (HV.out.below HB1.out).bl⟩
set_option maxRecDepth 100000 in
set_option maxHeartbeats 1000000 in
theorem idata_old {f : Fm} (w : World) (h : InAt w S i I V F k) (hz : wayE I.me I.pe 1 f = 0) (he : f.e < I.ep) :
    Calls Try.prog 14 #[.pointer (some ⟨i, 0, none⟩), .agg (frmC f).toArray] w fun e w' => e = .returned (.int .i64 17) ∧ Below w.heap.size w w' := by
  have HCK := Lib.hid (fun W => echeck_any I.me I.pe I.li 1 f W)
  rw [hz] at HCK
  obtain ⟨U, hU⟩ : ∃ U, U = w.alloc (.cells (frmC f).toArray 32) := ⟨_, rfl⟩
  have HV : Hid (DatW w U S i I V F k f) := by rw [hU]; exact DatW.first w f h
  have d1 : decide (f.e < I.ep) = true := decide_eq_true he
  have d2 : decide ((f.e : Int) < (I.ep : Int)) = true := decide_eq_true (by omega)
  clear h hz he
  go_enter Try.func14, Try.ntmps14
  go_upto_region 3 with fail
  rw [← hU]
  clear hU
  refine wp_region_noPanic ?_
  refine wp_region_held_drew (S := fun W => Below U.heap.size U W) (by kernel_rfl) ?_ (fun hHeld => ?_)
  · exact (Below.refl _ _).drew
  try simp only [heldPut, List.set]
  refine heldTake (i := 0) (v := ?_) rfl (by kernel_rfl) (by kernel_rfl) (by kernel_rfl) (fun _ _ _ h => h) (Or.inl ⟨by rfl, ?_⟩) (by assumption) ?_
  rotate_left
  · (intro W hSw; (try dsimp only at hSw); go_simp; try with_reducible rfl)
  try simp only [heldPut, List.set]
  refine heldTake (i := 1) (v := ?_) rfl (by kernel_rfl) (by kernel_rfl) (by kernel_rfl) (fun _ _ _ h => h) (Or.inl ⟨by rfl, ?_⟩) (by assumption) ?_
  rotate_left
  · (intro W hSw; (try dsimp only at hSw); go_simp; try with_reducible rfl)
  try simp only [heldPut, List.set]
  refine heldTake (i := 2) (v := ?_) rfl (by kernel_rfl) (by kernel_rfl) (by kernel_rfl) (fun _ _ _ h => h) (Or.inl ⟨by rfl, ?_⟩) (by assumption) ?_
  rotate_left
  · (intro W hSw; (try dsimp only at hSw); go_simp; try with_reducible rfl)
  try simp only [heldPut, List.set]
  refine heldTake (i := 3) (v := .agg #[.int .u8 I.me, .int .u8 I.pe, .int .u64 I.li]) rfl (by kernel_rfl) (by kernel_rfl) (by kernel_rfl) (fun _ _ _ h => h) (Or.inl ⟨by rfl, ?_⟩) (by assumption) ?_
  · (intro W hSw; (exact exec_load_mid 66 _ rfl i 0 rfl _ _ (HV.out.below hSw).reads.1 Try.underlying66 rfl Try.infoEnds))
  try simp only [heldPut, List.set]
  refine heldTake (i := 4) (v := .agg (frmC f).toArray) rfl (by kernel_rfl) (by kernel_rfl) (by kernel_rfl) (fun _ _ _ h => h) (Or.inl ⟨by rfl, ?_⟩) (by assumption) ?_
  · (intro W hSw; (exact exec_load_row 32 _ rfl w.heap.size rfl _ _ _ _ (HV.out.below hSw).fr Try.underlying32 rfl Try.infoFr))
  try simp only [heldPut, List.set]
  refine heldOne (i := 5) rfl (by kernel_rfl) (fun K hK => ?_)
  go_simp
  refine (HCK.out _).mono ?_
  rintro _ w1 ⟨rfl, hb1⟩
  have HB1 := Lib.hid ((Below.refl U.heap.size U).drew.trans (hb1.mono (by simp)))
  clear hb1
  go_wp2_with fail
  refine hK.out _ _ ?_ (fun hHeld => ?_)
  · exact HB1.out
  clear hK K
  try simp only [heldPut, List.set]
  refine heldTake (i := 6) (v := ?_) rfl (by kernel_rfl) (by kernel_rfl) (by kernel_rfl) (fun _ _ _ h => h) (Or.inl ⟨by rfl, ?_⟩) (by assumption) ?_
  rotate_left
  · (intro W hSw; (try dsimp only at hSw); go_simp; try with_reducible rfl)
  try simp only [heldPut, List.set]
  refine wpAnyH_done (by kernel_rfl) ?_ _
  refine NoPanic.normal ?_
  clear hHeld
  have HV1 := Lib.hid (HV.out.below HB1.out)
  clear HCK HB1 HV
  go_upto_region 6 with fail
  refine wp_region_noPanic ?_
  refine wp_region_held_drew (S := fun W => Below w1.heap.size w1 W) (by kernel_rfl) ?_ (fun hHeld => ?_)
  · exact (Below.refl _ _).drew
  try simp only [heldPut, List.set]
  refine heldTake (i := 0) (v := ?_) rfl (by kernel_rfl) (by kernel_rfl) (by kernel_rfl) (fun _ _ _ h => h) (Or.inl ⟨by rfl, ?_⟩) (by assumption) ?_
  rotate_left
  · (intro W hSw; (try dsimp only at hSw); obtain ⟨-, k3, k4, c4, -⟩ := (HV1.out.below hSw).reads; go_simp; try with_reducible rfl)
  try simp only [heldPut, List.set]
  refine heldTake (i := 1) (v := ?_) rfl (by kernel_rfl) (by kernel_rfl) (by kernel_rfl) (fun _ _ _ h => h) (Or.inl ⟨by rfl, ?_⟩) (by assumption) ?_
  rotate_left
  · (intro W hSw; (try dsimp only at hSw); obtain ⟨-, k3, k4, c4, -⟩ := (HV1.out.below hSw).reads; go_simp; try with_reducible rfl)
  try simp only [heldPut, List.set]
  refine heldTake (i := 2) (v := ?_) rfl (by kernel_rfl) (by kernel_rfl) (by kernel_rfl) (fun _ _ _ h => h) (Or.inl ⟨by rfl, ?_⟩) (by assumption) ?_
  rotate_left
  · (intro W hSw; (try dsimp only at hSw); obtain ⟨-, k3, k4, c4, -⟩ := (HV1.out.below hSw).reads; go_simp; try with_reducible rfl)
  try simp only [heldPut, List.set]
  refine heldTake (i := 3) (v := ?_) rfl (by kernel_rfl) (by kernel_rfl) (by kernel_rfl) (fun _ _ _ h => h) (Or.inl ⟨by rfl, ?_⟩) (by assumption) ?_
  rotate_left
  · (intro W hSw; (try dsimp only at hSw); obtain ⟨-, k3, k4, c4, -⟩ := (HV1.out.below hSw).reads; go_simp; try with_reducible rfl)
  try simp only [heldPut, List.set]
  refine heldTake (i := 4) (v := ?_) rfl (by kernel_rfl) (by kernel_rfl) (by kernel_rfl) (fun _ _ _ h => h) (Or.inl ⟨by rfl, ?_⟩) (by assumption) ?_
  rotate_left
  · (intro W hSw; (try dsimp only at hSw); obtain ⟨-, k3, k4, c4, -⟩ := (HV1.out.below hSw).reads; go_simp; try with_reducible rfl)
  try simp only [heldPut, List.set]
  refine heldTake (i := 5) (v := ?_) rfl (by kernel_rfl) (by kernel_rfl) (by kernel_rfl) (fun _ _ _ h => h) (Or.inl ⟨by rfl, ?_⟩) (by assumption) ?_
  rotate_left
  · (intro W hSw; (try dsimp only at hSw); obtain ⟨-, k3, k4, c4, -⟩ := (HV1.out.below hSw).reads; go_simp; try with_reducible rfl)
  try simp only [heldPut, List.set]
  refine heldTake (i := 6) (v := ?_) rfl (by kernel_rfl) (by kernel_rfl) (by kernel_rfl) (fun _ _ _ h => h) (Or.inl ⟨by rfl, ?_⟩) (by assumption) ?_
  rotate_left
  · (intro W hSw; (try dsimp only at hSw); obtain ⟨-, k3, k4, c4, -⟩ := (HV1.out.below hSw).reads; go_simp; try with_reducible rfl)
  try simp only [heldPut, List.set]
  refine wpAnyH_done (by kernel_rfl) ?_ _
  refine NoPanic.normal ?_
  have HV2 := Lib.hid (HV1.out.below hHeld)
  clear hHeld HV1
  go_wp2
  go_ret
  exact ⟨rfl, HV2.out.bl⟩
/-- what Take answers, for a receiver -/
def TakeP (f : Fm) (V : Rv) (F : Hs) (k : Nat) (z : Int) (R : Rv → Hs → Nat → Prop) : Prop :=
  ∀ W s m, RvAt W s m V F k → RdP W W.heap.size f.A f.x.l → Calls Try.prog 29 #[.pointer (some ⟨s, 0, none⟩), .int .u64 f.q, .agg (itC f.x f.A f.z).toArray] W fun e w' => e = .returned (.int .i64 z) ∧
    ∃ V' F' k', RvAt w' s m V' F' k' ∧ Only (fun k => k = s ∨ k = m) W w' ∧ R V' F' k' ∧ ∀ q x, F' q = some x → F q = some x ∨ ∀ a, x.A = some a → 0 < x.x.l.length → W.heap.size ≤ a.block
/-- what is left of Data: Take -/
structure TailW (w U : World) (S S' : Nat → Prop) (i : Nat) (I : Ix) (V : Rv) (F : Hs) (k : Nat) (f : Fm) : Prop where
  at_ : InAt U S' i I V F k
  fr : U.heap[w.heap.size]? = some (.cells (frmC f).toArray 32 (0, 0))
  st : Step w S U S'
  nS : ¬ S' w.heap.size
  rd : RdP U U.heap.size f.A f.x.l
  ap : ∀ a, f.A = some a → 0 < f.x.l.length → ¬ S' a.block
theorem TailW.below {w U W : World} {S' : Nat → Prop} {f : Fm} (h : TailW w U S S' i I V F k f) (hb : Below U.heap.size U W) : TailW w W S S' i I V F k f :=
  ⟨h.at_.below hb, (hb.block _ (Array.getElem?_eq_some_iff.1 h.fr).1).trans h.fr, h.st.trans (Step.of_below S' hb), h.nS, rdP_keep8 h.rd hb, h.ap⟩
theorem fr_reads {w : World} {g : Nat} {f : Fm} (h : w.heap[g]? = some (.cells (frmC f).toArray 32 (0, 0))) : w.cell? ⟨g, 4, none⟩ = some (.int .u64 f.q) ∧ w.rangeAt g 5 (itC f.x f.A f.z) := by
  refine ⟨cell_of_row _ _ 4 _ _ _ h, fun j u hj => ?_⟩
  have hj13 : j < 13 := (List.getElem?_eq_some_iff.1 hj).1
  rw [cell_of_row _ _ (5 + j) _ _ _ h, List.getElem?_toArray]
  unfold frmC
  rw [List.getElem?_append_right (by simp), List.getElem?_append_left (by rw [show ([.int .u8 f.k, .int .u8 f.f, .int .u8 f.t, .int .u64 f.e, .int .u64 f.q] : List Value).length = 5 from rfl]; show 5 + j - 5 < 13; omega)]
  rw [show ([.int .u8 f.k, .int .u8 f.f, .int .u8 f.t, .int .u64 f.e, .int .u64 f.q] : List Value).length = 5 from rfl, Nat.add_sub_cancel_left]
  exact hj
/-- what Data leaves -/
def DataP (w : World) (S : Nat → Prop) (i : Nat) (I : Ix) (z : Int) (R : Rv → Hs → Nat → Prop) (e : Ending) (w' : World) : Prop :=
  e = .returned (.int .i64 z) ∧ ∃ V' F' k' S', InAt w' S' i I V' F' k' ∧ Step w S w' S' ∧ R V' F' k'
set_option maxRecDepth 100000 in
set_option maxHeartbeats 2000000 in
theorem idata_same {f : Fm} {z : Int} {R : Rv → Hs → Nat → Prop} (w : World) (h : InAt w S i I V F k) (hz : wayE I.me I.pe 1 f = 0) (he : f.e = I.ep) (hA : ∀ a, f.A = some a → 0 < f.x.l.length → ¬ S a.block) (hr : RdP w w.heap.size f.A f.x.l) (hT : TakeP f V F k z R) :
    Calls Try.prog 14 #[.pointer (some ⟨i, 0, none⟩), .agg (frmC f).toArray] w (DataP w S i I z R) := by
  have HCK := Lib.hid (fun W => echeck_any I.me I.pe I.li 1 f W)
  rw [hz] at HCK
  obtain ⟨U, hU⟩ : ∃ U, U = w.alloc (.cells (frmC f).toArray 32) := ⟨_, rfl⟩
  have HV : Hid (DatW w U S i I V F k f) := by rw [hU]; exact DatW.first w f h
  have HTK := Lib.hid hT
  have HRD := Lib.hid (⟨hA, hr, h.lt⟩ : _ ∧ _ ∧ _)
  have d1 : decide (f.e < I.ep) = false := decide_eq_false (by omega)
  have d2 : decide ((f.e : Int) < (I.ep : Int)) = false := decide_eq_false (by omega)
  have d3 : decide (I.ep < f.e) = false := decide_eq_false (by omega)
  have d4 : decide ((I.ep : Int) < (f.e : Int)) = false := decide_eq_false (by omega)
  clear h hz he hA hr hT
  go_enter Try.func14, Try.ntmps14
  go_upto_region 3 with fail
  rw [← hU]
  clear hU
  refine wp_region_noPanic ?_
  refine wp_region_held_drew (S := fun W => Below U.heap.size U W) (by kernel_rfl) ?_ (fun hHeld => ?_)
  · exact (Below.refl _ _).drew
  try simp only [heldPut, List.set]
  refine heldTake (i := 0) (v := ?_) rfl (by kernel_rfl) (by kernel_rfl) (by kernel_rfl) (fun _ _ _ h => h) (Or.inl ⟨by rfl, ?_⟩) (by assumption) ?_
  rotate_left
  · (intro W hSw; (try dsimp only at hSw); go_simp; try with_reducible rfl)
  try simp only [heldPut, List.set]
  refine heldTake (i := 1) (v := ?_) rfl (by kernel_rfl) (by kernel_rfl) (by kernel_rfl) (fun _ _ _ h => h) (Or.inl ⟨by rfl, ?_⟩) (by assumption) ?_
  rotate_left
  · (intro W hSw; (try dsimp only at hSw); go_simp; try with_reducible rfl)
  try simp only [heldPut, List.set]
  refine heldTake (i := 2) (v := ?_) rfl (by kernel_rfl) (by kernel_rfl) (by kernel_rfl) (fun _ _ _ h => h) (Or.inl ⟨by rfl, ?_⟩) (by assumption) ?_
  rotate_left
  · (intro W hSw; (try dsimp only at hSw); go_simp; try with_reducible rfl)
  try simp only [heldPut, List.set]
  refine heldTake (i := 3) (v := .agg #[.int .u8 I.me, .int .u8 I.pe, .int .u64 I.li]) rfl (by kernel_rfl) (by kernel_rfl) (by kernel_rfl) (fun _ _ _ h => h) (Or.inl ⟨by rfl, ?_⟩) (by assumption) ?_
  · (intro W hSw; (exact exec_load_mid 66 _ rfl i 0 rfl _ _ (HV.out.below hSw).reads.1 Try.underlying66 rfl Try.infoEnds))
  try simp only [heldPut, List.set]
  refine heldTake (i := 4) (v := .agg (frmC f).toArray) rfl (by kernel_rfl) (by kernel_rfl) (by kernel_rfl) (fun _ _ _ h => h) (Or.inl ⟨by rfl, ?_⟩) (by assumption) ?_
  · (intro W hSw; (exact exec_load_row 32 _ rfl w.heap.size rfl _ _ _ _ (HV.out.below hSw).fr Try.underlying32 rfl Try.infoFr))
  try simp only [heldPut, List.set]
  refine heldOne (i := 5) rfl (by kernel_rfl) (fun K hK => ?_)
  go_simp
  refine (HCK.out _).mono ?_
  rintro _ w1 ⟨rfl, hb1⟩
  have HB1 := Lib.hid ((Below.refl U.heap.size U).drew.trans (hb1.mono (by simp)))
  clear hb1
  go_wp2_with fail
  refine hK.out _ _ ?_ (fun hHeld => ?_)
  · exact HB1.out
  clear hK K
  try simp only [heldPut, List.set]
  refine heldTake (i := 6) (v := ?_) rfl (by kernel_rfl) (by kernel_rfl) (by kernel_rfl) (fun _ _ _ h => h) (Or.inl ⟨by rfl, ?_⟩) (by assumption) ?_
  rotate_left
  · (intro W hSw; (try dsimp only at hSw); go_simp; try with_reducible rfl)
  try simp only [heldPut, List.set]
  refine wpAnyH_done (by kernel_rfl) ?_ _
  refine NoPanic.normal ?_
  clear hHeld
  have HV1 := Lib.hid (HV.out.below HB1.out)
  clear HCK HB1 HV
  go_upto_region 6 with fail
  refine wp_region_noPanic ?_
  refine wp_region_held_drew (S := fun W => Below w1.heap.size w1 W) (by kernel_rfl) ?_ (fun hHeld => ?_)
  · exact (Below.refl _ _).drew
  try simp only [heldPut, List.set]
  refine heldTake (i := 0) (v := ?_) rfl (by kernel_rfl) (by kernel_rfl) (by kernel_rfl) (fun _ _ _ h => h) (Or.inl ⟨by rfl, ?_⟩) (by assumption) ?_
  rotate_left
  · (intro W hSw; (try dsimp only at hSw); obtain ⟨-, k3, k4, c4, -⟩ := (HV1.out.below hSw).reads; go_simp; try with_reducible rfl)
  try simp only [heldPut, List.set]
  refine heldTake (i := 1) (v := ?_) rfl (by kernel_rfl) (by kernel_rfl) (by kernel_rfl) (fun _ _ _ h => h) (Or.inl ⟨by rfl, ?_⟩) (by assumption) ?_
  rotate_left
  · (intro W hSw; (try dsimp only at hSw); obtain ⟨-, k3, k4, c4, -⟩ := (HV1.out.below hSw).reads; go_simp; try with_reducible rfl)
  try simp only [heldPut, List.set]
  refine heldTake (i := 2) (v := ?_) rfl (by kernel_rfl) (by kernel_rfl) (by kernel_rfl) (fun _ _ _ h => h) (Or.inl ⟨by rfl, ?_⟩) (by assumption) ?_
  rotate_left
  · (intro W hSw; (try dsimp only at hSw); obtain ⟨-, k3, k4, c4, -⟩ := (HV1.out.below hSw).reads; go_simp; try with_reducible rfl)
  try simp only [heldPut, List.set]
  refine heldTake (i := 3) (v := ?_) rfl (by kernel_rfl) (by kernel_rfl) (by kernel_rfl) (fun _ _ _ h => h) (Or.inl ⟨by rfl, ?_⟩) (by assumption) ?_
  rotate_left
  · (intro W hSw; (try dsimp only at hSw); obtain ⟨-, k3, k4, c4, -⟩ := (HV1.out.below hSw).reads; go_simp; try with_reducible rfl)
  try simp only [heldPut, List.set]
  refine heldTake (i := 4) (v := ?_) rfl (by kernel_rfl) (by kernel_rfl) (by kernel_rfl) (fun _ _ _ h => h) (Or.inl ⟨by rfl, ?_⟩) (by assumption) ?_
  rotate_left
  · (intro W hSw; (try dsimp only at hSw); obtain ⟨-, k3, k4, c4, -⟩ := (HV1.out.below hSw).reads; go_simp; try with_reducible rfl)
  try simp only [heldPut, List.set]
  refine heldTake (i := 5) (v := ?_) rfl (by kernel_rfl) (by kernel_rfl) (by kernel_rfl) (fun _ _ _ h => h) (Or.inl ⟨by rfl, ?_⟩) (by assumption) ?_
  rotate_left
  · (intro W hSw; (try dsimp only at hSw); obtain ⟨-, k3, k4, c4, -⟩ := (HV1.out.below hSw).reads; go_simp; try with_reducible rfl)
  try simp only [heldPut, List.set]
  refine heldTake (i := 6) (v := ?_) rfl (by kernel_rfl) (by kernel_rfl) (by kernel_rfl) (fun _ _ _ h => h) (Or.inl ⟨by rfl, ?_⟩) (by assumption) ?_
  rotate_left
  · (intro W hSw; (try dsimp only at hSw); obtain ⟨-, k3, k4, c4, -⟩ := (HV1.out.below hSw).reads; go_simp; try with_reducible rfl)
  try simp only [heldPut, List.set]
  refine wpAnyH_done (by kernel_rfl) ?_ _
  refine NoPanic.normal ?_
  have HV2 := Lib.hid (HV1.out.below hHeld)
  clear hHeld HV1
  go_upto_region 8 with fail
  obtain ⟨w2, hw2⟩ : ∃ w2, w2 = w1.drew := ⟨_, rfl⟩
  rw [← hw2] at HV2 ⊢
  clear hw2
  refine wp_region_noPanic ?_
  refine wp_region_held_drew (S := fun W => Below w2.heap.size w2 W) (by kernel_rfl) ?_ (fun hHeld => ?_)
  · exact (Below.refl _ _).drew
  try simp only [heldPut, List.set]
  refine heldTake (i := 0) (v := ?_) rfl (by kernel_rfl) (by kernel_rfl) (by kernel_rfl) (fun _ _ _ h => h) (Or.inl ⟨by rfl, ?_⟩) (by assumption) ?_
  rotate_left
  · (intro W hSw; (try dsimp only at hSw); obtain ⟨-, k3, k4, c4, -⟩ := (HV2.out.below hSw).reads; go_simp; try with_reducible rfl)
  try simp only [heldPut, List.set]
  refine heldTake (i := 1) (v := ?_) rfl (by kernel_rfl) (by kernel_rfl) (by kernel_rfl) (fun _ _ _ h => h) (Or.inl ⟨by rfl, ?_⟩) (by assumption) ?_
  rotate_left
  · (intro W hSw; (try dsimp only at hSw); obtain ⟨-, k3, k4, c4, -⟩ := (HV2.out.below hSw).reads; go_simp; try with_reducible rfl)
  try simp only [heldPut, List.set]
  refine heldTake (i := 2) (v := ?_) rfl (by kernel_rfl) (by kernel_rfl) (by kernel_rfl) (fun _ _ _ h => h) (Or.inl ⟨by rfl, ?_⟩) (by assumption) ?_
  rotate_left
  · (intro W hSw; (try dsimp only at hSw); obtain ⟨-, k3, k4, c4, -⟩ := (HV2.out.below hSw).reads; go_simp; try with_reducible rfl)
  try simp only [heldPut, List.set]
  refine heldTake (i := 3) (v := ?_) rfl (by kernel_rfl) (by kernel_rfl) (by kernel_rfl) (fun _ _ _ h => h) (Or.inl ⟨by rfl, ?_⟩) (by assumption) ?_
  rotate_left
  · (intro W hSw; (try dsimp only at hSw); obtain ⟨-, k3, k4, c4, -⟩ := (HV2.out.below hSw).reads; go_simp; try with_reducible rfl)
  try simp only [heldPut, List.set]
  refine heldTake (i := 4) (v := ?_) rfl (by kernel_rfl) (by kernel_rfl) (by kernel_rfl) (fun _ _ _ h => h) (Or.inl ⟨by rfl, ?_⟩) (by assumption) ?_
  rotate_left
  · (intro W hSw; (try dsimp only at hSw); obtain ⟨-, k3, k4, c4, -⟩ := (HV2.out.below hSw).reads; go_simp; try with_reducible rfl)
  try simp only [heldPut, List.set]
  refine heldTake (i := 5) (v := ?_) rfl (by kernel_rfl) (by kernel_rfl) (by kernel_rfl) (fun _ _ _ h => h) (Or.inl ⟨by rfl, ?_⟩) (by assumption) ?_
  rotate_left
  · (intro W hSw; (try dsimp only at hSw); obtain ⟨-, k3, k4, c4, -⟩ := (HV2.out.below hSw).reads; go_simp; try with_reducible rfl)
  try simp only [heldPut, List.set]
  refine heldTake (i := 6) (v := ?_) rfl (by kernel_rfl) (by kernel_rfl) (by kernel_rfl) (fun _ _ _ h => h) (Or.inl ⟨by rfl, ?_⟩) (by assumption) ?_
  rotate_left
  · (intro W hSw; (try dsimp only at hSw); obtain ⟨-, k3, k4, c4, -⟩ := (HV2.out.below hSw).reads; go_simp; try with_reducible rfl)
  try simp only [heldPut, List.set]
  refine wpAnyH_done (by kernel_rfl) ?_ _
  refine NoPanic.normal ?_
  have HV3 := Lib.hid (HV2.out.below hHeld)
  clear hHeld HV2
  obtain ⟨w4, hw4⟩ : ∃ w4, w4 = w2.drew := ⟨_, rfl⟩
  rw [← hw4] at HV3 ⊢
  clear hw4
  have HT : Hid (TailW w w4 S S i I V F k f) := ⟨HV3.out.at_, HV3.out.fr, Step.of_below S HV3.out.bl, fun h => Nat.lt_irrefl _ (HRD.out.2.2 _ h), rdP_keep8 HRD.out.2.1 HV3.out.bl, HRD.out.1⟩
  clear HV3 HRD
  obtain ⟨s, m, _, _, _, _, _, c5, _, hr, hSs, hSm, hsi, hmi⟩ := HT.out.at_.cells
  have HC : Hid (∀ W, Below w4.heap.size w4 W → W.cell? ⟨i, 5, none⟩ = some (.pointer (some ⟨s, 0, none⟩)) ∧ W.cell? ⟨w.heap.size, 4, none⟩ = some (.int .u64 f.q) ∧ W.rangeAt w.heap.size 5 (itC f.x f.A f.z)) := fun W hW =>
    ⟨(hW.cell (p := ⟨i, 5, none⟩) (HT.out.at_.lt i HT.out.at_.iS)).trans c5, (fr_reads (HT.out.below hW).fr).1, (fr_reads (HT.out.below hW).fr).2⟩
  have HTK2 := Lib.hid (fun W (hW : Below w4.heap.size w4 W) => HTK.out W s m (hr.below hW) (rdP_keep8 HT.out.rd hW))
  have HSM := Lib.hid (⟨c5, hSs, hSm, hsi, hmi⟩ : _ ∧ _ ∧ _ ∧ _ ∧ _)
  clear c5 hr hSs hSm hsi hmi HTK
  go_upto_region 12 with fail
  refine wp_region_noPanic ?_
  refine wp_region_held_drew (S := fun W => W.cell? ⟨i, 5, none⟩ = some (.pointer (some ⟨s, 0, none⟩)) ∧ W.cell? ⟨w.heap.size, 4, none⟩ = some (.int .u64 f.q) ∧ W.rangeAt w.heap.size 5 (itC f.x f.A f.z)) (by kernel_rfl) ?_ (fun hHeld => ?_)
  · exact HC.out _ ((Below.refl _ _).drew)
  try simp only [heldPut, List.set]
  refine heldTake (i := 0) (v := ?_) rfl (by kernel_rfl) (by kernel_rfl) (by kernel_rfl) (fun _ _ _ h => h) (Or.inl ⟨by rfl, ?_⟩) (by assumption) ?_
  rotate_left
  · (intro W hSw; (try dsimp only at hSw); obtain ⟨k5, k4, -⟩ := hSw; go_simp; try with_reducible rfl)
  try simp only [heldPut, List.set]
  refine heldTake (i := 1) (v := ?_) rfl (by kernel_rfl) (by kernel_rfl) (by kernel_rfl) (fun _ _ _ h => h) (Or.inl ⟨by rfl, ?_⟩) (by assumption) ?_
  rotate_left
  · (intro W hSw; (try dsimp only at hSw); obtain ⟨k5, k4, -⟩ := hSw; go_simp; try with_reducible rfl)
  try simp only [heldPut, List.set]
  refine heldTake (i := 2) (v := ?_) rfl (by kernel_rfl) (by kernel_rfl) (by kernel_rfl) (fun _ _ _ h => h) (Or.inl ⟨by rfl, ?_⟩) (by assumption) ?_
  rotate_left
  · (intro W hSw; (try dsimp only at hSw); obtain ⟨k5, k4, -⟩ := hSw; go_simp; try with_reducible rfl)
  try simp only [heldPut, List.set]
  refine heldTake (i := 3) (v := ?_) rfl (by kernel_rfl) (by kernel_rfl) (by kernel_rfl) (fun _ _ _ h => h) (Or.inl ⟨by rfl, ?_⟩) (by assumption) ?_
  rotate_left
  · (intro W hSw; (try dsimp only at hSw); obtain ⟨k5, k4, -⟩ := hSw; go_simp; try with_reducible rfl)
  try simp only [heldPut, List.set]
  refine heldTake (i := 4) (v := ?_) rfl (by kernel_rfl) (by kernel_rfl) (by kernel_rfl) (fun _ _ _ h => h) (Or.inl ⟨by rfl, ?_⟩) (by assumption) ?_
  rotate_left
  · (intro W hSw; (try dsimp only at hSw); obtain ⟨k5, k4, -⟩ := hSw; go_simp; try with_reducible rfl)
  try simp only [heldPut, List.set]
  refine heldTake (i := 5) (v := ?_) rfl (by kernel_rfl) (by kernel_rfl) (by kernel_rfl) (fun _ _ _ h => h) (Or.inl ⟨by rfl, ?_⟩) (by assumption) ?_
  rotate_left
  · (intro W hSw; (try dsimp only at hSw); obtain ⟨k5, k4, -⟩ := hSw; go_simp; try with_reducible rfl)
  try simp only [heldPut, List.set]
  refine heldTake (i := 6) (v := ?_) rfl (by kernel_rfl) (by kernel_rfl) (by kernel_rfl) (fun _ _ _ h => h) (Or.inl ⟨by rfl, ?_⟩) (by assumption) ?_
  rotate_left
  · (intro W hSw; (try dsimp only at hSw); obtain ⟨k5, k4, -⟩ := hSw; go_simp; try with_reducible rfl)
  try simp only [heldPut, List.set]
  refine heldTake (i := 7) (v := .agg (itC f.x f.A f.z).toArray) rfl (by kernel_rfl) (by kernel_rfl) (by kernel_rfl) (fun _ _ _ h => h) (Or.inl ⟨by rfl, ?_⟩) (by assumption) ?_
  · (intro W hSw; (exact exec_load_mid 30 _ rfl w.heap.size 5 rfl _ _ hSw.2.2 Try.underlying30 rfl Try.infoIt))
  try simp only [heldPut, List.set]
  refine heldOne (i := 8) rfl (by kernel_rfl) (fun K hK => ?_)
  go_simp
  refine (HTK2.out _ ((Below.refl _ _).drew)).mono ?_
  rintro _ w5 ⟨rfl, V5, F5, k5, hr5, ho5, hR5, hl5⟩
  have hbd : Below w4.heap.size w4 w4.drew := (Below.refl _ _).drew
  obtain ⟨k7, k8, k9⟩ := HC.out _ hbd
  obtain ⟨c5, hSs, hSm, hsi, hmi⟩ := HSM.out
  have hT := HT.out.below hbd
  obtain ⟨hi5, hs5⟩ := hT.at_.turn k7 hSs hSm hsi hmi ho5 hr5 (fun q x hq => (hl5 q x hq).imp id (fun h a ha h0 hS => by
    have h1 := h a ha h0
    have h2 := hT.at_.lt _ hS
    omega))
  have hng : ¬ (w.heap.size = s ∨ w.heap.size = m) := fun h => HT.out.nS (h.elim (fun e => by rw [e]; exact hSs) (fun e => by rw [e]; exact hSm))
  have hfr5 := (ho5.block _ (Array.getElem?_eq_some_iff.1 hT.fr).1 hng).trans hT.fr
  have hil := hT.at_.lt i hT.at_.iS
  have HC5 := Lib.hid (⟨(ho5.cell (p := ⟨i, 5, none⟩) hil (fun h => h.elim (fun e => hsi e.symm) (fun e => hmi e.symm))).trans k7, (fr_reads hfr5).1, (fr_reads hfr5).2⟩ : _ ∧ _ ∧ _)
  have HF := Lib.hid (⟨hi5, hT.st.trans hs5, hR5⟩ : _ ∧ _ ∧ _)
  clear hr5 ho5 hR5 hl5 hbd k7 k8 k9 c5 hSs hSm hsi hmi hT hi5 hs5 hng hfr5 hil HTK2 HC HSM HT
  go_wp2_with fail
  refine hK.out _ _ ?_ (fun hHeld => ?_)
  · exact HC5.out
  clear hK K
  try simp only [heldPut, List.set]
  refine heldTake (i := 9) (v := ?_) rfl (by kernel_rfl) (by kernel_rfl) (by kernel_rfl) (fun _ _ _ h => h) (Or.inl ⟨by rfl, ?_⟩) (by assumption) ?_
  rotate_left
  · (intro W hSw; (try dsimp only at hSw); go_simp; try with_reducible rfl)
  try simp only [heldPut, List.set]
  refine wpAnyH_done (by kernel_rfl) ?_ _
  refine NoPanic.normal ?_
  clear hHeld
  go_wp2
  go_ret
  exact ⟨rfl, V5, F5, k5, _, HF.out⟩
set_option maxRecDepth 100000 in
set_option maxHeartbeats 2000000 in
theorem idata_new {f : Fm} {z : Int} {R : Rv → Hs → Nat → Prop} (w : World) (h : InAt w S i I V F k) (hz : wayE I.me I.pe 1 f = 0) (he : I.ep < f.e) (h1 : 1 ≤ I.W) (h2 : I.W ≤ 64) (hA : ∀ a, f.A = some a → 0 < f.x.l.length → ¬ S a.block) (hr : RdP w w.heap.size f.A f.x.l) (hT : TakeP f ⟨I.W, 0, 0⟩ (fun _ => none) 0 z R) :
    Calls Try.prog 14 #[.pointer (some ⟨i, 0, none⟩), .agg (frmC f).toArray] w (DataP w S i { I with ep := f.e } z R) := by
  have HCK := Lib.hid (fun W => echeck_any I.me I.pe I.li 1 f W)
  rw [hz] at HCK
  obtain ⟨U, hU⟩ : ∃ U, U = w.alloc (.cells (frmC f).toArray 32) := ⟨_, rfl⟩
  have HV : Hid (DatW w U S i I V F k f) := by rw [hU]; exact DatW.first w f h
  have HTK := Lib.hid hT
  have HRD := Lib.hid (⟨hA, hr, h.lt⟩ : _ ∧ _ ∧ _)
  have HBG := Lib.hid (fun W (hW : InAt W S i I V F k) => ibegin_any (ep := f.e) W hW h1 h2)
  have d1 : decide (f.e < I.ep) = false := decide_eq_false (by omega)
  have d2 : decide ((f.e : Int) < (I.ep : Int)) = false := decide_eq_false (by omega)
  have d3 : decide (I.ep < f.e) = true := decide_eq_true he
  have d4 : decide ((I.ep : Int) < (f.e : Int)) = true := decide_eq_true (by omega)
  clear h hz he hA hr hT h1 h2
  go_enter Try.func14, Try.ntmps14
  go_upto_region 3 with fail
  rw [← hU]
  clear hU
  refine wp_region_noPanic ?_
  refine wp_region_held_drew (S := fun W => Below U.heap.size U W) (by kernel_rfl) ?_ (fun hHeld => ?_)
  · exact (Below.refl _ _).drew
  try simp only [heldPut, List.set]
  refine heldTake (i := 0) (v := ?_) rfl (by kernel_rfl) (by kernel_rfl) (by kernel_rfl) (fun _ _ _ h => h) (Or.inl ⟨by rfl, ?_⟩) (by assumption) ?_
  rotate_left
  · (intro W hSw; (try dsimp only at hSw); go_simp; try with_reducible rfl)
  try simp only [heldPut, List.set]
  refine heldTake (i := 1) (v := ?_) rfl (by kernel_rfl) (by kernel_rfl) (by kernel_rfl) (fun _ _ _ h => h) (Or.inl ⟨by rfl, ?_⟩) (by assumption) ?_
  rotate_left
  · (intro W hSw; (try dsimp only at hSw); go_simp; try with_reducible rfl)
  try simp only [heldPut, List.set]
  refine heldTake (i := 2) (v := ?_) rfl (by kernel_rfl) (by kernel_rfl) (by kernel_rfl) (fun _ _ _ h => h) (Or.inl ⟨by rfl, ?_⟩) (by assumption) ?_
  rotate_left
  · (intro W hSw; (try dsimp only at hSw); go_simp; try with_reducible rfl)
  try simp only [heldPut, List.set]
  refine heldTake (i := 3) (v := .agg #[.int .u8 I.me, .int .u8 I.pe, .int .u64 I.li]) rfl (by kernel_rfl) (by kernel_rfl) (by kernel_rfl) (fun _ _ _ h => h) (Or.inl ⟨by rfl, ?_⟩) (by assumption) ?_
  · (intro W hSw; (exact exec_load_mid 66 _ rfl i 0 rfl _ _ (HV.out.below hSw).reads.1 Try.underlying66 rfl Try.infoEnds))
  try simp only [heldPut, List.set]
  refine heldTake (i := 4) (v := .agg (frmC f).toArray) rfl (by kernel_rfl) (by kernel_rfl) (by kernel_rfl) (fun _ _ _ h => h) (Or.inl ⟨by rfl, ?_⟩) (by assumption) ?_
  · (intro W hSw; (exact exec_load_row 32 _ rfl w.heap.size rfl _ _ _ _ (HV.out.below hSw).fr Try.underlying32 rfl Try.infoFr))
  try simp only [heldPut, List.set]
  refine heldOne (i := 5) rfl (by kernel_rfl) (fun K hK => ?_)
  go_simp
  refine (HCK.out _).mono ?_
  rintro _ w1 ⟨rfl, hb1⟩
  have HB1 := Lib.hid ((Below.refl U.heap.size U).drew.trans (hb1.mono (by simp)))
  clear hb1
  go_wp2_with fail
  refine hK.out _ _ ?_ (fun hHeld => ?_)
  · exact HB1.out
  clear hK K
  try simp only [heldPut, List.set]
  refine heldTake (i := 6) (v := ?_) rfl (by kernel_rfl) (by kernel_rfl) (by kernel_rfl) (fun _ _ _ h => h) (Or.inl ⟨by rfl, ?_⟩) (by assumption) ?_
  rotate_left
  · (intro W hSw; (try dsimp only at hSw); go_simp; try with_reducible rfl)
  try simp only [heldPut, List.set]
  refine wpAnyH_done (by kernel_rfl) ?_ _
  refine NoPanic.normal ?_
  clear hHeld
  have HV1 := Lib.hid (HV.out.below HB1.out)
  clear HCK HB1 HV
  go_upto_region 6 with fail
  refine wp_region_noPanic ?_
  refine wp_region_held_drew (S := fun W => Below w1.heap.size w1 W) (by kernel_rfl) ?_ (fun hHeld => ?_)
  · exact (Below.refl _ _).drew
  try simp only [heldPut, List.set]
  refine heldTake (i := 0) (v := ?_) rfl (by kernel_rfl) (by kernel_rfl) (by kernel_rfl) (fun _ _ _ h => h) (Or.inl ⟨by rfl, ?_⟩) (by assumption) ?_
  rotate_left
  · (intro W hSw; (try dsimp only at hSw); obtain ⟨-, k3, k4, c4, -⟩ := (HV1.out.below hSw).reads; go_simp; try with_reducible rfl)
  try simp only [heldPut, List.set]
  refine heldTake (i := 1) (v := ?_) rfl (by kernel_rfl) (by kernel_rfl) (by kernel_rfl) (fun _ _ _ h => h) (Or.inl ⟨by rfl, ?_⟩) (by assumption) ?_
  rotate_left
  · (intro W hSw; (try dsimp only at hSw); obtain ⟨-, k3, k4, c4, -⟩ := (HV1.out.below hSw).reads; go_simp; try with_reducible rfl)
  try simp only [heldPut, List.set]
  refine heldTake (i := 2) (v := ?_) rfl (by kernel_rfl) (by kernel_rfl) (by kernel_rfl) (fun _ _ _ h => h) (Or.inl ⟨by rfl, ?_⟩) (by assumption) ?_
  rotate_left
  · (intro W hSw; (try dsimp only at hSw); obtain ⟨-, k3, k4, c4, -⟩ := (HV1.out.below hSw).reads; go_simp; try with_reducible rfl)
  try simp only [heldPut, List.set]
  refine heldTake (i := 3) (v := ?_) rfl (by kernel_rfl) (by kernel_rfl) (by kernel_rfl) (fun _ _ _ h => h) (Or.inl ⟨by rfl, ?_⟩) (by assumption) ?_
  rotate_left
  · (intro W hSw; (try dsimp only at hSw); obtain ⟨-, k3, k4, c4, -⟩ := (HV1.out.below hSw).reads; go_simp; try with_reducible rfl)
  try simp only [heldPut, List.set]
  refine heldTake (i := 4) (v := ?_) rfl (by kernel_rfl) (by kernel_rfl) (by kernel_rfl) (fun _ _ _ h => h) (Or.inl ⟨by rfl, ?_⟩) (by assumption) ?_
  rotate_left
  · (intro W hSw; (try dsimp only at hSw); obtain ⟨-, k3, k4, c4, -⟩ := (HV1.out.below hSw).reads; go_simp; try with_reducible rfl)
  try simp only [heldPut, List.set]
  refine heldTake (i := 5) (v := ?_) rfl (by kernel_rfl) (by kernel_rfl) (by kernel_rfl) (fun _ _ _ h => h) (Or.inl ⟨by rfl, ?_⟩) (by assumption) ?_
  rotate_left
  · (intro W hSw; (try dsimp only at hSw); obtain ⟨-, k3, k4, c4, -⟩ := (HV1.out.below hSw).reads; go_simp; try with_reducible rfl)
  try simp only [heldPut, List.set]
  refine heldTake (i := 6) (v := ?_) rfl (by kernel_rfl) (by kernel_rfl) (by kernel_rfl) (fun _ _ _ h => h) (Or.inl ⟨by rfl, ?_⟩) (by assumption) ?_
  rotate_left
  · (intro W hSw; (try dsimp only at hSw); obtain ⟨-, k3, k4, c4, -⟩ := (HV1.out.below hSw).reads; go_simp; try with_reducible rfl)
  try simp only [heldPut, List.set]
  refine wpAnyH_done (by kernel_rfl) ?_ _
  refine NoPanic.normal ?_
  have HV2 := Lib.hid (HV1.out.below hHeld)
  clear hHeld HV1
  go_upto_region 8 with fail
  obtain ⟨w2, hw2⟩ : ∃ w2, w2 = w1.drew := ⟨_, rfl⟩
  rw [← hw2] at HV2 ⊢
  clear hw2
  refine wp_region_noPanic ?_
  refine wp_region_held_drew (S := fun W => Below w2.heap.size w2 W) (by kernel_rfl) ?_ (fun hHeld => ?_)
  · exact (Below.refl _ _).drew
  try simp only [heldPut, List.set]
  refine heldTake (i := 0) (v := ?_) rfl (by kernel_rfl) (by kernel_rfl) (by kernel_rfl) (fun _ _ _ h => h) (Or.inl ⟨by rfl, ?_⟩) (by assumption) ?_
  rotate_left
  · (intro W hSw; (try dsimp only at hSw); obtain ⟨-, k3, k4, c4, -⟩ := (HV2.out.below hSw).reads; go_simp; try with_reducible rfl)
  try simp only [heldPut, List.set]
  refine heldTake (i := 1) (v := ?_) rfl (by kernel_rfl) (by kernel_rfl) (by kernel_rfl) (fun _ _ _ h => h) (Or.inl ⟨by rfl, ?_⟩) (by assumption) ?_
  rotate_left
  · (intro W hSw; (try dsimp only at hSw); obtain ⟨-, k3, k4, c4, -⟩ := (HV2.out.below hSw).reads; go_simp; try with_reducible rfl)
  try simp only [heldPut, List.set]
  refine heldTake (i := 2) (v := ?_) rfl (by kernel_rfl) (by kernel_rfl) (by kernel_rfl) (fun _ _ _ h => h) (Or.inl ⟨by rfl, ?_⟩) (by assumption) ?_
  rotate_left
  · (intro W hSw; (try dsimp only at hSw); obtain ⟨-, k3, k4, c4, -⟩ := (HV2.out.below hSw).reads; go_simp; try with_reducible rfl)
  try simp only [heldPut, List.set]
  refine heldTake (i := 3) (v := ?_) rfl (by kernel_rfl) (by kernel_rfl) (by kernel_rfl) (fun _ _ _ h => h) (Or.inl ⟨by rfl, ?_⟩) (by assumption) ?_
  rotate_left
  · (intro W hSw; (try dsimp only at hSw); obtain ⟨-, k3, k4, c4, -⟩ := (HV2.out.below hSw).reads; go_simp; try with_reducible rfl)
  try simp only [heldPut, List.set]
  refine heldTake (i := 4) (v := ?_) rfl (by kernel_rfl) (by kernel_rfl) (by kernel_rfl) (fun _ _ _ h => h) (Or.inl ⟨by rfl, ?_⟩) (by assumption) ?_
  rotate_left
  · (intro W hSw; (try dsimp only at hSw); obtain ⟨-, k3, k4, c4, -⟩ := (HV2.out.below hSw).reads; go_simp; try with_reducible rfl)
  try simp only [heldPut, List.set]
  refine heldTake (i := 5) (v := ?_) rfl (by kernel_rfl) (by kernel_rfl) (by kernel_rfl) (fun _ _ _ h => h) (Or.inl ⟨by rfl, ?_⟩) (by assumption) ?_
  rotate_left
  · (intro W hSw; (try dsimp only at hSw); obtain ⟨-, k3, k4, c4, -⟩ := (HV2.out.below hSw).reads; go_simp; try with_reducible rfl)
  try simp only [heldPut, List.set]
  refine heldTake (i := 6) (v := ?_) rfl (by kernel_rfl) (by kernel_rfl) (by kernel_rfl) (fun _ _ _ h => h) (Or.inl ⟨by rfl, ?_⟩) (by assumption) ?_
  rotate_left
  · (intro W hSw; (try dsimp only at hSw); obtain ⟨-, k3, k4, c4, -⟩ := (HV2.out.below hSw).reads; go_simp; try with_reducible rfl)
  try simp only [heldPut, List.set]
  refine wpAnyH_done (by kernel_rfl) ?_ _
  refine NoPanic.normal ?_
  have HV3 := Lib.hid (HV2.out.below hHeld)
  clear hHeld HV2
  obtain ⟨w3, hw3⟩ : ∃ w3, w3 = w2.drew := ⟨_, rfl⟩
  rw [← hw3] at HV3 ⊢
  clear hw3
  obtain ⟨-, k3, -⟩ := HV3.out.reads
  have HB3 := Lib.hid (HBG.out w3 HV3.out.at_)
  clear HBG
  go_wp2_with fail
  refine HB3.out.mono ?_
  rintro _ w4 ⟨rfl, S4, hi4, ht4⟩
  have hgl := (Array.getElem?_eq_some_iff.1 HV3.out.fr).1
  have hgS : ¬ S w.heap.size := fun h => Nat.lt_irrefl _ (HRD.out.2.2 _ h)
  have hr3 := rdP_keep8 HRD.out.2.1 HV3.out.bl
  have HT : Hid (TailW w w4 S S4 i { I with ep := f.e } ⟨I.W, 0, 0⟩ (fun _ => none) 0 f) := by
    refine ⟨hi4, (ht4.only.block _ hgl hgS).trans HV3.out.fr, (Step.of_below S HV3.out.bl).trans ht4, fun h => ?_, ht4.only.rdP hr3 HRD.out.1, fun a ha h0 h => ?_⟩
    · rcases ht4.new _ h with h | h
      · exact hgS h
      · omega
    · rcases ht4.new _ h with h | h
      · exact HRD.out.1 a ha h0 h
      · have := rdP_lt hr3 ha h0
        omega
  clear hi4 ht4 hgl hgS hr3 HV3 HRD HB3 k3
  obtain ⟨s, m, _, _, _, _, _, c5, _, hr, hSs, hSm, hsi, hmi⟩ := HT.out.at_.cells
  have HC : Hid (∀ W, Below w4.heap.size w4 W → W.cell? ⟨i, 5, none⟩ = some (.pointer (some ⟨s, 0, none⟩)) ∧ W.cell? ⟨w.heap.size, 4, none⟩ = some (.int .u64 f.q) ∧ W.rangeAt w.heap.size 5 (itC f.x f.A f.z)) := fun W hW =>
    ⟨(hW.cell (p := ⟨i, 5, none⟩) (HT.out.at_.lt i HT.out.at_.iS)).trans c5, (fr_reads (HT.out.below hW).fr).1, (fr_reads (HT.out.below hW).fr).2⟩
  have HTK2 := Lib.hid (fun W (hW : Below w4.heap.size w4 W) => HTK.out W s m (hr.below hW) (rdP_keep8 HT.out.rd hW))
  have HSM := Lib.hid (⟨c5, hSs, hSm, hsi, hmi⟩ : _ ∧ _ ∧ _ ∧ _ ∧ _)
  clear c5 hr hSs hSm hsi hmi HTK
  go_upto_region 12 with fail
  refine wp_region_noPanic ?_
  refine wp_region_held_drew (S := fun W => W.cell? ⟨i, 5, none⟩ = some (.pointer (some ⟨s, 0, none⟩)) ∧ W.cell? ⟨w.heap.size, 4, none⟩ = some (.int .u64 f.q) ∧ W.rangeAt w.heap.size 5 (itC f.x f.A f.z)) (by kernel_rfl) ?_ (fun hHeld => ?_)
  · exact HC.out _ ((Below.refl _ _).drew)
  try simp only [heldPut, List.set]
  refine heldTake (i := 0) (v := ?_) rfl (by kernel_rfl) (by kernel_rfl) (by kernel_rfl) (fun _ _ _ h => h) (Or.inl ⟨by rfl, ?_⟩) (by assumption) ?_
  rotate_left
  · (intro W hSw; (try dsimp only at hSw); obtain ⟨k5, k4, -⟩ := hSw; go_simp; try with_reducible rfl)
  try simp only [heldPut, List.set]
  refine heldTake (i := 1) (v := ?_) rfl (by kernel_rfl) (by kernel_rfl) (by kernel_rfl) (fun _ _ _ h => h) (Or.inl ⟨by rfl, ?_⟩) (by assumption) ?_
  rotate_left
  · (intro W hSw; (try dsimp only at hSw); obtain ⟨k5, k4, -⟩ := hSw; go_simp; try with_reducible rfl)
  try simp only [heldPut, List.set]
  refine heldTake (i := 2) (v := ?_) rfl (by kernel_rfl) (by kernel_rfl) (by kernel_rfl) (fun _ _ _ h => h) (Or.inl ⟨by rfl, ?_⟩) (by assumption) ?_
  rotate_left
  · (intro W hSw; (try dsimp only at hSw); obtain ⟨k5, k4, -⟩ := hSw; go_simp; try with_reducible rfl)
  try simp only [heldPut, List.set]
  refine heldTake (i := 3) (v := ?_) rfl (by kernel_rfl) (by kernel_rfl) (by kernel_rfl) (fun _ _ _ h => h) (Or.inl ⟨by rfl, ?_⟩) (by assumption) ?_
  rotate_left
  · (intro W hSw; (try dsimp only at hSw); obtain ⟨k5, k4, -⟩ := hSw; go_simp; try with_reducible rfl)
  try simp only [heldPut, List.set]
  refine heldTake (i := 4) (v := ?_) rfl (by kernel_rfl) (by kernel_rfl) (by kernel_rfl) (fun _ _ _ h => h) (Or.inl ⟨by rfl, ?_⟩) (by assumption) ?_
  rotate_left
  · (intro W hSw; (try dsimp only at hSw); obtain ⟨k5, k4, -⟩ := hSw; go_simp; try with_reducible rfl)
  try simp only [heldPut, List.set]
  refine heldTake (i := 5) (v := ?_) rfl (by kernel_rfl) (by kernel_rfl) (by kernel_rfl) (fun _ _ _ h => h) (Or.inl ⟨by rfl, ?_⟩) (by assumption) ?_
  rotate_left
  · (intro W hSw; (try dsimp only at hSw); obtain ⟨k5, k4, -⟩ := hSw; go_simp; try with_reducible rfl)
  try simp only [heldPut, List.set]
  refine heldTake (i := 6) (v := ?_) rfl (by kernel_rfl) (by kernel_rfl) (by kernel_rfl) (fun _ _ _ h => h) (Or.inl ⟨by rfl, ?_⟩) (by assumption) ?_
  rotate_left
  · (intro W hSw; (try dsimp only at hSw); obtain ⟨k5, k4, -⟩ := hSw; go_simp; try with_reducible rfl)
  try simp only [heldPut, List.set]
  refine heldTake (i := 7) (v := .agg (itC f.x f.A f.z).toArray) rfl (by kernel_rfl) (by kernel_rfl) (by kernel_rfl) (fun _ _ _ h => h) (Or.inl ⟨by rfl, ?_⟩) (by assumption) ?_
  · (intro W hSw; (exact exec_load_mid 30 _ rfl w.heap.size 5 rfl _ _ hSw.2.2 Try.underlying30 rfl Try.infoIt))
  try simp only [heldPut, List.set]
  refine heldOne (i := 8) rfl (by kernel_rfl) (fun K hK => ?_)
  go_simp
  refine (HTK2.out _ ((Below.refl _ _).drew)).mono ?_
  rintro _ w5 ⟨rfl, V5, F5, k5, hr5, ho5, hR5, hl5⟩
  have hbd : Below w4.heap.size w4 w4.drew := (Below.refl _ _).drew
  obtain ⟨k7, k8, k9⟩ := HC.out _ hbd
  obtain ⟨c5, hSs, hSm, hsi, hmi⟩ := HSM.out
  have hT := HT.out.below hbd
  obtain ⟨hi5, hs5⟩ := hT.at_.turn k7 hSs hSm hsi hmi ho5 hr5 (fun q x hq => (hl5 q x hq).imp id (fun h a ha h0 hS => by
    have h1 := h a ha h0
    have h2 := hT.at_.lt _ hS
    omega))
  have hng : ¬ (w.heap.size = s ∨ w.heap.size = m) := fun h => HT.out.nS (h.elim (fun e => by rw [e]; exact hSs) (fun e => by rw [e]; exact hSm))
  have hfr5 := (ho5.block _ (Array.getElem?_eq_some_iff.1 hT.fr).1 hng).trans hT.fr
  have hil := hT.at_.lt i hT.at_.iS
  have HC5 := Lib.hid (⟨(ho5.cell (p := ⟨i, 5, none⟩) hil (fun h => h.elim (fun e => hsi e.symm) (fun e => hmi e.symm))).trans k7, (fr_reads hfr5).1, (fr_reads hfr5).2⟩ : _ ∧ _ ∧ _)
  have HF := Lib.hid (⟨hi5, hT.st.trans hs5, hR5⟩ : _ ∧ _ ∧ _)
  clear hr5 ho5 hR5 hl5 hbd k7 k8 k9 c5 hSs hSm hsi hmi hT hi5 hs5 hng hfr5 hil HTK2 HC HSM HT
  go_wp2_with fail
  refine hK.out _ _ ?_ (fun hHeld => ?_)
  · exact HC5.out
  clear hK K
  try simp only [heldPut, List.set]
  refine heldTake (i := 9) (v := ?_) rfl (by kernel_rfl) (by kernel_rfl) (by kernel_rfl) (fun _ _ _ h => h) (Or.inl ⟨by rfl, ?_⟩) (by assumption) ?_
  rotate_left
  · (intro W hSw; (try dsimp only at hSw); go_simp; try with_reducible rfl)
  try simp only [heldPut, List.set]
  refine wpAnyH_done (by kernel_rfl) ?_ _
  refine NoPanic.normal ?_
  clear hHeld
  go_wp2
  go_ret
  exact ⟨rfl, V5, F5, k5, _, HF.out⟩
end
end Go.Proofs.Ytocdhnlffemnhaa
