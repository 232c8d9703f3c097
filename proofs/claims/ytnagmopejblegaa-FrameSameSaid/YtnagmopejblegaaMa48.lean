/- Several texts in one: ItRbGap. -/
import Derived.Test.YtnagmopejblegaaMa7
import Derived.Test.YtnagmopejblegaaMa10
import Derived.Test.YtnagmopejblegaaMa12
import Derived.Test.YtnagmopejblegaaMa32
import Derived.Test.YtnagmopejblegaaMa47
/- Layer 4: the document's Bytes: a gap. -/
namespace Go.Proofs.Ytnagmopejblegaa
open Go.RowKit

theorem gap_bytes {x : It} (hg : x.g = true) : ([1, x.ga] ++ leb x.gf) ++ leb x.gt = itemB x := by unfold itemB gapB; rw [if_pos hg]; simp

set_option maxRecDepth 100000 in
set_option maxHeartbeats 2000000 in
theorem refBytes_gap (x : It) (A : Option Addr) (n c : Nat) (hx : OkI x) (hg : x.g = true) (w : World) :
    Calls Try.prog 24 #[.agg #[.bool x.g, .int .u8 x.o, .int .u64 x.q, .int .u64 x.t, .string x.r, .slice A n c, .int .u8 x.s, .int .u8 x.p, .int .i64 x.v, .int .u8 x.w, .int .u8 x.ga, .int .u64 x.gf, .int .u64 x.gt]] w fun e w' => ∃ v', e = .returned v' ∧ w'.ownsRow w.heap.size 5 1 v' (itemB x).length (cellsB (itemB x)) ∧ Below w.heap.size w w' := by
  have hf := hx.gf
  have ht := hx.gt
  have k1 := leb_le10 hf
  have k2 := leb_le10 ht
  obtain ⟨W, hW⟩ : ∃ W, W = w.alloc (.cells #[.bool x.g, .int .u8 x.o, .int .u64 x.q, .int .u64 x.t, .string x.r, .slice A n c, .int .u8 x.s, .int .u8 x.p, .int .i64 x.v, .int .u8 x.w, .int .u8 x.ga, .int .u64 x.gf, .int .u64 x.gt] 42) := ⟨_, rfl⟩
  have hb : Below w.heap.size w W := by rw [hW]; exact (Below.refl _ _).alloc (Nat.le_refl _) _
  have hc : W.heap[w.heap.size]? = some (.cells #[.bool x.g, .int .u8 x.o, .int .u64 x.q, .int .u64 x.t, .string x.r, .slice A n c, .int .u8 x.s, .int .u8 x.p, .int .i64 x.v, .int .u8 x.w, .int .u8 x.ga, .int .u64 x.gf, .int .u64 x.gt] 42 (0, 0)) := by rw [hW]; exact heap_alloc_new _ _
  have hl : w.heap.size < W.heap.size := by rw [hW]; simp
  have c0 : W.cell? ⟨w.heap.size, 0, none⟩ = some (.bool x.g) := cell_of_row _ _ 0 _ _ _ hc
  rw [hg] at c0
  have c10 : W.cell? ⟨w.heap.size, 10, none⟩ = some (.int .u8 x.ga) := cell_of_row _ _ 10 _ _ _ hc
  have HX := Lib.hid (show ∀ V, Below W.heap.size W V → V.heap[w.heap.size]? = some (.cells #[.bool x.g, .int .u8 x.o, .int .u64 x.q, .int .u64 x.t, .string x.r, .slice A n c, .int .u8 x.s, .int .u8 x.p, .int .i64 x.v, .int .u8 x.w, .int .u8 x.ga, .int .u64 x.gf, .int .u64 x.gt] 42 (0, 0)) from fun V hV => (hV.block _ hl).trans hc)
  have HW := Lib.hid hW
  have HB := Lib.hid hb
  have HG := Lib.hid hg
  have HF := Lib.hid hf
  have HT := Lib.hid ht
  have hu1 : ([1, x.ga] : List Nat).length + (leb x.gf).length ≤ 4000000 := by simp; omega
  have hu2 : ([1, x.ga] ++ leb x.gf).length + (leb x.gt).length ≤ 4000000 := by rw [List.length_append]; simp; omega
  have HU1 := Lib.hid hu1
  have HU2 := Lib.hid hu2
  clear hW hb hc hl hg hf ht hx k1 k2 hu1 hu2
  go_enter Try.func24, Try.ntmps24
  go_upto_region 1 with fail
  rw [← HW.out]
  go_upto_region 3 with fail
  have HR := Lib.hid (Rows2.made (l := [1, x.ga]) W #[.int .u8 1, .int .u8 x.ga] 2 rfl rfl (by decide))
  clear c0 c10 HW
  generalize hV : W.alloc (.cells #[.int .u8 1, .int .u8 x.ga] 5) = Vs at *
  clear hV
  go_cut [2] from 13 to 23 (fun p wx => Rows2 W wx p (itemB x))
  case first =>
    refine wp_region_noPanic ?_
    refine wp_region_held_drew (S := (fun V => Below W.heap.size W V)) (by kernel_rfl) ?_ (fun hHeld => ?_)
    · exact HR.out.bl.trans (((Below.refl Vs.heap.size Vs).drew).mono HR.out.bl.size)
    have HR0 := Lib.hid (HR.out.call ((Below.refl Vs.heap.size Vs).drew))
    generalize hV0 : Vs.drew = V0 at *
    clear hV0
    refine heldTake (i := 0) (v := ?_) rfl (by kernel_rfl) (by kernel_rfl) (by kernel_rfl) (fun _ _ _ h => h) (Or.inl ⟨by rfl, ?_⟩) (by assumption) ?_
    rotate_left
    · (intro w hSw; (try dsimp only at hSw); go_simp; try with_reducible rfl)
    try simp only [heldPut, List.set]
    refine heldTake (i := 1) (v := ?_) rfl (by kernel_rfl) (by kernel_rfl) (by kernel_rfl) (fun _ _ _ h => h) (Or.inl ⟨by rfl, ?_⟩) (by assumption) ?_
    rotate_left
    · (intro w hSw; (try dsimp only at hSw); go_simp; try with_reducible rfl)
    try simp only [heldPut, List.set]
    refine heldTake (i := 2) (v := ?_) rfl (by kernel_rfl) (by kernel_rfl) (by kernel_rfl) (fun _ _ _ h => h) (Or.inl ⟨by rfl, ?_⟩) (by assumption) ?_
    rotate_left
    · (intro w hSw; (try dsimp only at hSw); go_simp; try with_reducible rfl)
    try simp only [heldPut, List.set]
    refine heldTake (i := 3) (v := ?_) rfl (by kernel_rfl) (by kernel_rfl) (by kernel_rfl) (fun _ _ _ h => h) (Or.inl ⟨by rfl, ?_⟩) (by assumption) ?_
    rotate_left
    · (intro w hSw; (try dsimp only at hSw); have k11 := cell_of_row _ _ 11 _ _ _ (HX.out _ hSw); have k12 := cell_of_row _ _ 12 _ _ _ (HX.out _ hSw); clear hSw; simp at k11 k12; go_simp; try with_reducible rfl)
    try simp only [heldPut, List.set]
    refine heldTake (i := 6) (v := ?_) rfl (by kernel_rfl) (by kernel_rfl) (by kernel_rfl) (fun _ _ _ h => h) (Or.inl ⟨by rfl, ?_⟩) (by assumption) ?_
    rotate_left
    · (intro w hSw; (try dsimp only at hSw); go_simp; try with_reducible rfl)
    try simp only [heldPut, List.set]
    refine heldTake (i := 7) (v := ?_) rfl (by kernel_rfl) (by kernel_rfl) (by kernel_rfl) (fun _ _ _ h => h) (Or.inl ⟨by rfl, ?_⟩) (by assumption) ?_
    rotate_left
    · (intro w hSw; (try dsimp only at hSw); go_simp; try with_reducible rfl)
    try simp only [heldPut, List.set]
    refine heldTake (i := 8) (v := ?_) rfl (by kernel_rfl) (by kernel_rfl) (by kernel_rfl) (fun _ _ _ h => h) (Or.inl ⟨by rfl, ?_⟩) (by assumption) ?_
    rotate_left
    · (intro w hSw; (try dsimp only at hSw); have k11 := cell_of_row _ _ 11 _ _ _ (HX.out _ hSw); have k12 := cell_of_row _ _ 12 _ _ _ (HX.out _ hSw); clear hSw; simp at k11 k12; go_simp; try with_reducible rfl)
    try simp only [heldPut, List.set]
    refine heldOne (i := 4) rfl (by kernel_rfl) (fun K hK => ?_)
    go_simp
    refine (refUint_any x.gf HF.out V0).mono ?_
    rintro e V1 ⟨u1, rfl, ho, hb⟩
    obtain ⟨A1, c1, rfl⟩ := ownB_slice ho
    have HR1 := Lib.hid (HR0.out.call hb)
    have HP4_1 := Lib.hid (Pend.new HR0.out ho (rfl))
    clear ho hb HR0
    go_wp2_with fail
    refine hK.out _ _ ?_ (fun hHeld1 => ?_)
    · exact HR1.out.bl
    clear hK K hHeld
    try simp only [heldPut, List.set]
    refine heldOne (i := 5) rfl (by kernel_rfl) (fun K hK => ?_)
    refine step_row rfl _ _ rfl HR1.out HP4_1.out (rfl) rfl rfl (HU1.out) ?_
    intro v2 V2 hr hg hb
    have HR2 := Lib.hid hr
    clear hr hg hb HR1 HP4_1
    refine hK.out _ _ ?_ (fun hHeld2 => ?_)
    · exact HR2.out.bl
    clear hK K hHeld1
    try simp only [heldPut, List.set]
    refine heldOne (i := 9) rfl (by kernel_rfl) (fun K hK => ?_)
    go_simp
    refine (refUint_any x.gt HT.out V2).mono ?_
    rintro e V3 ⟨u3, rfl, ho, hb⟩
    obtain ⟨A3, c3, rfl⟩ := ownB_slice ho
    have HR3 := Lib.hid (HR2.out.call hb)
    have HP9_3 := Lib.hid (Pend.new HR2.out ho (rfl))
    clear ho hb HR2
    go_wp2_with fail
    refine hK.out _ _ ?_ (fun hHeld3 => ?_)
    · exact HR3.out.bl
    clear hK K hHeld2
    try simp only [heldPut, List.set]
    refine heldOne (i := 10) rfl (by kernel_rfl) (fun K hK => ?_)
    refine step_row rfl _ _ rfl HR3.out HP9_3.out (rfl) rfl rfl (HU2.out) ?_
    intro v4 V4 hr hg hb
    have HR4 := Lib.hid hr
    clear hr hg hb HR3 HP9_3
    refine hK.out _ _ ?_ (fun hHeld4 => ?_)
    · exact HR4.out.bl
    clear hK K hHeld3
    try simp only [heldPut, List.set]
    refine heldTake (i := 11) (v := ?_) rfl (by kernel_rfl) (by kernel_rfl) (by kernel_rfl) (fun _ _ _ h => h) (Or.inl ⟨by rfl, ?_⟩) (by assumption) ?_
    rotate_left
    · (intro w hSw; (try dsimp only at hSw); go_simp; try with_reducible rfl)
    try simp only [heldPut, List.set]
    refine wpAnyH_done (by kernel_rfl) ?_ _
    refine NoPanic.normal ?_
    go_wp2_with fail
    go_meet
    rw [← gap_bytes HG.out]
    exact HR4.out
  case rest =>
    have HR9 := Lib.hid hcut
    clear hcut
    go_wp2
    go_ret
    exact ⟨_, rfl, ownB_mono HR9.out.ow HB.out.size, HB.out.trans (HR9.out.bl.mono HB.out.size)⟩
end Go.Proofs.Ytnagmopejblegaa
