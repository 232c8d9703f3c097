/- Several texts in one: FrRef. -/
import Derived.Deep.MidRow
import Derived.Deep.CutRange
import Derived.Deep.CutBlock
import Derived.Test.YtnagmopejblegaaGreatMb15
import Derived.Test.YtnagmopejblegaaGreatMb26
import Derived.Test.YtnagmopejblegaaGreatMb30
import Derived.Test.YtnagmopejblegaaGreatMb44
import Derived.Test.YtnagmopejblegaaGreatMb45
/- Layer 5: the document's encode of a frame. -/
namespace Go.Proofs.YtnagmopejblegaaGreat
open Go.RowKit

/-- numbers as bytes, one behind the other -/
def lebs (l : List Nat) : List Nat := l.flatMap leb
theorem lebs_take {l : List Nat} {k y : Nat} (h : l[k]? = some y) : lebs (l.take (k + 1)) = lebs (l.take k) ++ leb y := by
  unfold lebs
  rw [List.take_add_one, h]; simp
theorem body_one {x : Fr} (h : x.k = 1) : ((([183, x.k, x.f, x.t] ++ leb x.e) ++ leb x.q) ++ itemB x.i) = bodyF x := by unfold bodyF tailF; rw [if_pos h]; simp
theorem body_two {x : Fr} (h : x.k = 2) : [183, x.k, x.f, x.t] ++ lebs [x.e, x.c, x.b, x.l] = bodyF x := by unfold bodyF tailF lebs; rw [if_neg (by omega), if_pos h]; simp
theorem body_three {x : Fr} (h1 : x.k ≠ 1) (h2 : x.k ≠ 2) : [183, x.k, x.f, x.t] = bodyF x := by unfold bodyF tailF; rw [if_neg h1, if_neg h2]
section
variable {V V' : World} {v v' : Value} {Y : Nat} {C : Array Value} {t : TypeId}
/-- the four numbers' row, beside the row that grows -/
structure NumAt (V : World) (v : Value) (Y : Nat) (C : Array Value) (t : TypeId) : Prop where
  at_ : V.heap[Y]? = some (.cells C t (0, 0))
  ne : v.ownBlock ≠ some Y
theorem NumAt.lt (h : NumAt V v Y C t) : Y < V.heap.size := (Array.getElem?_eq_some_iff.1 h.at_).1
theorem NumAt.call (h : NumAt V v Y C t) (hb : Below V.heap.size V V') : NumAt V' v Y C t := ⟨(hb.block _ h.lt).trans h.at_, h.ne⟩
theorem NumAt.app (h : NumAt V v Y C t) (hg : V.grownBy V' v.ownBlock) (hb : v'.ownBlock = v.ownBlock ∨ v'.ownBlock = some V.heap.size) : NumAt V' v' Y C t :=
  ⟨(hg.block _ h.lt (fun e => h.ne e.symm)).trans h.at_, fun e => by
    rcases hb with h1 | h1
    · exact h.ne (h1.symm.trans e)
    · rw [h1] at e; injection e with e; have := h.lt; omega⟩
end

set_option maxRecDepth 100000 in
set_option maxHeartbeats 8000000 in
theorem fref_any (x : Fr) (A : Option Addr) (n c : Nat) (hx : OkF x) (hs : ShortF x) (hn : n = x.i.l.length) (w : World) (hr : RdP w w.heap.size A x.i.l) :
    Calls Tryz.prog 6 #[.agg #[.int .u8 x.k, .int .u8 x.f, .int .u8 x.t, .int .u64 x.e, .int .u64 x.q, .bool x.i.g, .int .u8 x.i.o, .int .u64 x.i.q, .int .u64 x.i.t, .string x.i.r, .slice A n c, .int .u8 x.i.s, .int .u8 x.i.p, .int .i64 x.i.v, .int .u8 x.i.w, .int .u8 x.i.ga, .int .u64 x.i.gf, .int .u64 x.i.gt, .int .u64 x.c, .int .u64 x.b, .int .u64 x.l]] w fun e w' => ∃ v', e = .returned v' ∧ w'.ownsRow w.heap.size 5 1 v' (frB x).length (cellsB (frB x)) ∧ Below w.heap.size w w' := by
  have he := leb_le10 hx.e
  have hq := leb_le10 hx.q
  have hbl := bodyF_len hx hs
  have hib := hs.b
  have hmx : n ≤ 1048576 := by rw [hn]; exact hs.l
  have HE := Lib.hid hx.e
  have HQ := Lib.hid hx.q
  have HC := Lib.hid hx.c
  have HBi := Lib.hid hx.b
  have HLi := Lib.hid hx.l
  have HOI := Lib.hid hx.i
  have HSI := Lib.hid hs.i
  have HIB := Lib.hid (show (itemB x.i).length ≤ 1999000 by omega)
  have HN := Lib.hid hn
  have HOk := Lib.hid (bodyF_ok hx hs)
  have HU1 : Hid ([183, x.k, x.f, x.t].length + (leb x.e).length ≤ 4000000) := by show _ ≤ _; simp only [List.length_cons, List.length_nil]; omega
  have HU2 : Hid (([183, x.k, x.f, x.t] ++ leb x.e).length + (leb x.q).length ≤ 4000000) := by show _ ≤ _; simp only [List.length_append, List.length_cons, List.length_nil]; omega
  have HU3 : Hid ((([183, x.k, x.f, x.t] ++ leb x.e) ++ leb x.q).length + (itemB x.i).length ≤ 4000000) := by show _ ≤ _; simp only [List.length_append, List.length_cons, List.length_nil]; omega
  have HU4 : Hid ((bodyF x).length + (four (sumN (bodyF x))).length ≤ 4000000) := by show _ ≤ _; rw [four_len]; omega
  have HBL := Lib.hid (show (bodyF x).length ≤ maxLen by unfold maxLen; omega)
  obtain ⟨W, hW⟩ : ∃ W, W = w.alloc (.cells #[.int .u8 x.k, .int .u8 x.f, .int .u8 x.t, .int .u64 x.e, .int .u64 x.q, .bool x.i.g, .int .u8 x.i.o, .int .u64 x.i.q, .int .u64 x.i.t, .string x.i.r, .slice A n c, .int .u8 x.i.s, .int .u8 x.i.p, .int .i64 x.i.v, .int .u8 x.i.w, .int .u8 x.i.ga, .int .u64 x.i.gf, .int .u64 x.i.gt, .int .u64 x.c, .int .u64 x.b, .int .u64 x.l] 42) := ⟨_, rfl⟩
  have hb : Below w.heap.size w W := by rw [hW]; exact (Below.refl _ _).alloc (Nat.le_refl _) _
  have hc : W.heap[w.heap.size]? = some (.cells #[.int .u8 x.k, .int .u8 x.f, .int .u8 x.t, .int .u64 x.e, .int .u64 x.q, .bool x.i.g, .int .u8 x.i.o, .int .u64 x.i.q, .int .u64 x.i.t, .string x.i.r, .slice A n c, .int .u8 x.i.s, .int .u8 x.i.p, .int .i64 x.i.v, .int .u8 x.i.w, .int .u8 x.i.ga, .int .u64 x.i.gf, .int .u64 x.i.gt, .int .u64 x.c, .int .u64 x.b, .int .u64 x.l] 42 (0, 0)) := by rw [hW]; exact heap_alloc_new _ _
  have hlw : w.heap.size < W.heap.size := by rw [hW]; simp
  have c0 : W.cell? ⟨w.heap.size, 0, none⟩ = some (.int .u8 x.k) := cell_of_row _ _ 0 _ _ _ hc
  have c1 : W.cell? ⟨w.heap.size, 1, none⟩ = some (.int .u8 x.f) := cell_of_row _ _ 1 _ _ _ hc
  have c2 : W.cell? ⟨w.heap.size, 2, none⟩ = some (.int .u8 x.t) := cell_of_row _ _ 2 _ _ _ hc
  have HW := Lib.hid hW
  have HB := Lib.hid hb
  have HX := Lib.hid (show ∀ V, Below W.heap.size W V → V.heap[w.heap.size]? = some (.cells #[.int .u8 x.k, .int .u8 x.f, .int .u8 x.t, .int .u64 x.e, .int .u64 x.q, .bool x.i.g, .int .u8 x.i.o, .int .u64 x.i.q, .int .u64 x.i.t, .string x.i.r, .slice A n c, .int .u8 x.i.s, .int .u8 x.i.p, .int .i64 x.i.v, .int .u8 x.i.w, .int .u8 x.i.ga, .int .u64 x.i.gf, .int .u64 x.i.gt, .int .u64 x.c, .int .u64 x.b, .int .u64 x.l] 42 (0, 0)) from fun V hV => (hV.block _ hlw).trans hc)
  have HRd := Lib.hid (show ∀ V, Below W.heap.size W V → RdP V V.heap.size A x.i.l from fun V hV => (hr.below (hb.trans (hV.mono hb.size))).more (by have := hV.size; omega))
  clear hW hb hc hlw hx hs hn hr he hq hbl hib
  go_enter Tryz.func6, Tryz.ntmps6
  go_upto_region 1 with fail
  rw [← HW.out]
  go_upto_region 2 with fail
  have HR := Lib.hid (Rows2.made (l := [183, x.k, x.f, x.t]) W #[.int .u8 183, .int .u8 x.k, .int .u8 x.f, .int .u8 x.t] 4 rfl rfl (by decide))
  clear c0 c1 c2
  generalize hV : W.alloc (.cells #[.int .u8 183, .int .u8 x.k, .int .u8 x.f, .int .u8 x.t] 5) = Vs at *
  clear hV
  have k0 : Vs.cell? ⟨w.heap.size, 0, none⟩ = some (.int .u8 x.k) := cell_of_row _ _ 0 _ _ _ (HX.out _ HR.out.bl)
  go_upto_block 0 with fail
  clear k0
  go_cut [3] from 15 to 51 (fun p wx => Rows2 W wx p (bodyF x))
  case first =>
    by_cases h1 : x.k = 1
    case pos =>
      have q1 : ((x.k : Int) == 1) = true := by rw [beq_iff_eq]; omega
      have H1 := Lib.hid h1
      clear h1
      go_upto_region 4 with fail
      clear q1
      refine wp_region_noPanic ?_
      refine wp_region_held_drew (S := (fun V => Below W.heap.size W V)) (by kernel_rfl) ?_ (fun hHeld => ?_)
      · exact HR.out.bl.trans (((Below.refl Vs.heap.size Vs).drew).mono HR.out.bl.size)
      have HR0 := Lib.hid (HR.out.call ((Below.refl Vs.heap.size Vs).drew))
      generalize hV0 : Vs.drew = V0 at *
      clear hV0
      refine heldTake (i := 0) (v := ?_) rfl (by kernel_rfl) (by kernel_rfl) (by kernel_rfl) (fun _ _ _ h => h) (Or.inl ⟨by rfl, ?_⟩) (by assumption) ?_
      rotate_left
      · (intro w hSw; (try dsimp only at hSw); go_simp; try with_reducible rfl)
      try simp only [heldPut, List.set]
      refine heldTake (i := 1) (v := ?_) rfl (by kernel_rfl) (by kernel_rfl) (by kernel_rfl) (fun _ _ _ h => h) (Or.inl ⟨by rfl, ?_⟩) (by assumption) ?_
      rotate_left
      · (intro w hSw; (try dsimp only at hSw); go_simp; try with_reducible rfl)
      try simp only [heldPut, List.set]
      refine heldTake (i := 2) (v := ?_) rfl (by kernel_rfl) (by kernel_rfl) (by kernel_rfl) (fun _ _ _ h => h) (Or.inl ⟨by rfl, ?_⟩) (by assumption) ?_
      rotate_left
      · (intro w hSw; (try dsimp only at hSw); have k0 := cell_of_row _ _ 0 _ _ _ (HX.out _ hSw); have k1 := cell_of_row _ _ 1 _ _ _ (HX.out _ hSw); have k2 := cell_of_row _ _ 2 _ _ _ (HX.out _ hSw); have k3 := cell_of_row _ _ 3 _ _ _ (HX.out _ hSw); have k4 := cell_of_row _ _ 4 _ _ _ (HX.out _ hSw); have k5 := cell_of_row _ _ 5 _ _ _ (HX.out _ hSw); have k6 := cell_of_row _ _ 6 _ _ _ (HX.out _ hSw); have k7 := cell_of_row _ _ 7 _ _ _ (HX.out _ hSw); have k8 := cell_of_row _ _ 8 _ _ _ (HX.out _ hSw); have k9 := cell_of_row _ _ 9 _ _ _ (HX.out _ hSw); have k10 := cell_of_row _ _ 10 _ _ _ (HX.out _ hSw); have k11 := cell_of_row _ _ 11 _ _ _ (HX.out _ hSw); have k12 := cell_of_row _ _ 12 _ _ _ (HX.out _ hSw); have k13 := cell_of_row _ _ 13 _ _ _ (HX.out _ hSw); have k14 := cell_of_row _ _ 14 _ _ _ (HX.out _ hSw); have k15 := cell_of_row _ _ 15 _ _ _ (HX.out _ hSw); have k16 := cell_of_row _ _ 16 _ _ _ (HX.out _ hSw); have k17 := cell_of_row _ _ 17 _ _ _ (HX.out _ hSw); have k18 := cell_of_row _ _ 18 _ _ _ (HX.out _ hSw); have k19 := cell_of_row _ _ 19 _ _ _ (HX.out _ hSw); have k20 := cell_of_row _ _ 20 _ _ _ (HX.out _ hSw); clear hSw; simp at k0 k1 k2 k3 k4 k5 k6 k7 k8 k9 k10 k11 k12 k13 k14 k15 k16 k17 k18 k19 k20; go_simp; try with_reducible rfl)
      try simp only [heldPut, List.set]
      refine heldTake (i := 5) (v := ?_) rfl (by kernel_rfl) (by kernel_rfl) (by kernel_rfl) (fun _ _ _ h => h) (Or.inl ⟨by rfl, ?_⟩) (by assumption) ?_
      rotate_left
      · (intro w hSw; (try dsimp only at hSw); go_simp; try with_reducible rfl)
      try simp only [heldPut, List.set]
      refine heldTake (i := 6) (v := ?_) rfl (by kernel_rfl) (by kernel_rfl) (by kernel_rfl) (fun _ _ _ h => h) (Or.inl ⟨by rfl, ?_⟩) (by assumption) ?_
      rotate_left
      · (intro w hSw; (try dsimp only at hSw); have k0 := cell_of_row _ _ 0 _ _ _ (HX.out _ hSw); have k1 := cell_of_row _ _ 1 _ _ _ (HX.out _ hSw); have k2 := cell_of_row _ _ 2 _ _ _ (HX.out _ hSw); have k3 := cell_of_row _ _ 3 _ _ _ (HX.out _ hSw); have k4 := cell_of_row _ _ 4 _ _ _ (HX.out _ hSw); have k5 := cell_of_row _ _ 5 _ _ _ (HX.out _ hSw); have k6 := cell_of_row _ _ 6 _ _ _ (HX.out _ hSw); have k7 := cell_of_row _ _ 7 _ _ _ (HX.out _ hSw); have k8 := cell_of_row _ _ 8 _ _ _ (HX.out _ hSw); have k9 := cell_of_row _ _ 9 _ _ _ (HX.out _ hSw); have k10 := cell_of_row _ _ 10 _ _ _ (HX.out _ hSw); have k11 := cell_of_row _ _ 11 _ _ _ (HX.out _ hSw); have k12 := cell_of_row _ _ 12 _ _ _ (HX.out _ hSw); have k13 := cell_of_row _ _ 13 _ _ _ (HX.out _ hSw); have k14 := cell_of_row _ _ 14 _ _ _ (HX.out _ hSw); have k15 := cell_of_row _ _ 15 _ _ _ (HX.out _ hSw); have k16 := cell_of_row _ _ 16 _ _ _ (HX.out _ hSw); have k17 := cell_of_row _ _ 17 _ _ _ (HX.out _ hSw); have k18 := cell_of_row _ _ 18 _ _ _ (HX.out _ hSw); have k19 := cell_of_row _ _ 19 _ _ _ (HX.out _ hSw); have k20 := cell_of_row _ _ 20 _ _ _ (HX.out _ hSw); clear hSw; simp at k0 k1 k2 k3 k4 k5 k6 k7 k8 k9 k10 k11 k12 k13 k14 k15 k16 k17 k18 k19 k20; go_simp; try with_reducible rfl)
      try simp only [heldPut, List.set]
      refine heldTake (i := 9) (v := ?_) rfl (by kernel_rfl) (by kernel_rfl) (by kernel_rfl) (fun _ _ _ h => h) (Or.inl ⟨by rfl, ?_⟩) (by assumption) ?_
      rotate_left
      · (intro w hSw; (try dsimp only at hSw); go_simp; try with_reducible rfl)
      try simp only [heldPut, List.set]
      refine heldTake (i := 10) (v := ?_) rfl (by kernel_rfl) (by kernel_rfl) (by kernel_rfl) (fun _ _ _ h => h) (Or.inl ⟨by rfl, ?_⟩) (by assumption) ?_
      rotate_left
      · (intro w hSw; (try dsimp only at hSw); have k0 := cell_of_row _ _ 0 _ _ _ (HX.out _ hSw); have k1 := cell_of_row _ _ 1 _ _ _ (HX.out _ hSw); have k2 := cell_of_row _ _ 2 _ _ _ (HX.out _ hSw); have k3 := cell_of_row _ _ 3 _ _ _ (HX.out _ hSw); have k4 := cell_of_row _ _ 4 _ _ _ (HX.out _ hSw); have k5 := cell_of_row _ _ 5 _ _ _ (HX.out _ hSw); have k6 := cell_of_row _ _ 6 _ _ _ (HX.out _ hSw); have k7 := cell_of_row _ _ 7 _ _ _ (HX.out _ hSw); have k8 := cell_of_row _ _ 8 _ _ _ (HX.out _ hSw); have k9 := cell_of_row _ _ 9 _ _ _ (HX.out _ hSw); have k10 := cell_of_row _ _ 10 _ _ _ (HX.out _ hSw); have k11 := cell_of_row _ _ 11 _ _ _ (HX.out _ hSw); have k12 := cell_of_row _ _ 12 _ _ _ (HX.out _ hSw); have k13 := cell_of_row _ _ 13 _ _ _ (HX.out _ hSw); have k14 := cell_of_row _ _ 14 _ _ _ (HX.out _ hSw); have k15 := cell_of_row _ _ 15 _ _ _ (HX.out _ hSw); have k16 := cell_of_row _ _ 16 _ _ _ (HX.out _ hSw); have k17 := cell_of_row _ _ 17 _ _ _ (HX.out _ hSw); have k18 := cell_of_row _ _ 18 _ _ _ (HX.out _ hSw); have k19 := cell_of_row _ _ 19 _ _ _ (HX.out _ hSw); have k20 := cell_of_row _ _ 20 _ _ _ (HX.out _ hSw); clear hSw; simp at k0 k1 k2 k3 k4 k5 k6 k7 k8 k9 k10 k11 k12 k13 k14 k15 k16 k17 k18 k19 k20; go_simp; try with_reducible rfl)
      try simp only [heldPut, List.set]
      refine heldOne (i := 3) rfl (by kernel_rfl) (fun K hK => ?_)
      go_simp
      refine (refUint_any x.e HE.out V0).mono ?_
      rintro e V1 ⟨u1, rfl, ho, hb⟩
      obtain ⟨A1, c1, rfl⟩ := ownB_slice ho
      have HR1 := Lib.hid (HR0.out.call hb)
      have HP3_1 := Lib.hid (Pend.new HR0.out ho (rfl))
      clear ho hb HR0
      go_wp2_with fail
      refine hK.out _ _ ?_ (fun hHeld1 => ?_)
      · exact HR1.out.bl
      clear hK K hHeld
      try simp only [heldPut, List.set]
      refine heldOne (i := 4) rfl (by kernel_rfl) (fun K hK => ?_)
      refine step_row rfl _ _ rfl HR1.out HP3_1.out (rfl) rfl rfl (HU1.out) ?_
      intro v2 V2 hr hg hb
      have HR2 := Lib.hid hr
      clear hr hg hb HR1 HP3_1
      refine hK.out _ _ ?_ (fun hHeld2 => ?_)
      · exact HR2.out.bl
      clear hK K hHeld1
      try simp only [heldPut, List.set]
      refine heldOne (i := 7) rfl (by kernel_rfl) (fun K hK => ?_)
      go_simp
      refine (refUint_any x.q HQ.out V2).mono ?_
      rintro e V3 ⟨u3, rfl, ho, hb⟩
      obtain ⟨A3, c3, rfl⟩ := ownB_slice ho
      have HR3 := Lib.hid (HR2.out.call hb)
      have HP7_3 := Lib.hid (Pend.new HR2.out ho (rfl))
      clear ho hb HR2
      go_wp2_with fail
      refine hK.out _ _ ?_ (fun hHeld3 => ?_)
      · exact HR3.out.bl
      clear hK K hHeld2
      try simp only [heldPut, List.set]
      refine heldOne (i := 8) rfl (by kernel_rfl) (fun K hK => ?_)
      refine step_row rfl _ _ rfl HR3.out HP7_3.out (rfl) rfl rfl (HU2.out) ?_
      intro v4 V4 hr hg hb
      have HR4 := Lib.hid hr
      clear hr hg hb HR3 HP7_3
      refine hK.out _ _ ?_ (fun hHeld4 => ?_)
      · exact HR4.out.bl
      clear hK K hHeld3
      try simp only [heldPut, List.set]
      refine heldOne (i := 11) rfl (by kernel_rfl) (fun K hK => ?_)
      go_simp
      refine (refBytes_any x.i A n c HOI.out HSI.out HN.out hmx V4 HIB.out (HRd.out _ HR4.out.bl)).mono ?_
      rintro e V5 ⟨u5, rfl, ho, hb⟩
      obtain ⟨A5, c5, rfl⟩ := ownB_slice ho
      have HR5 := Lib.hid (HR4.out.call hb)
      have HP11_5 := Lib.hid (Pend.new HR4.out ho (rfl))
      clear ho hb HR4
      go_wp2_with fail
      refine hK.out _ _ ?_ (fun hHeld5 => ?_)
      · exact HR5.out.bl
      clear hK K hHeld4
      try simp only [heldPut, List.set]
      refine heldOne (i := 12) rfl (by kernel_rfl) (fun K hK => ?_)
      refine step_row rfl _ _ rfl HR5.out HP11_5.out (rfl) rfl rfl (HU3.out) ?_
      intro v6 V6 hr hg hb
      have HR6 := Lib.hid hr
      clear hr hg hb HR5 HP11_5
      refine hK.out _ _ ?_ (fun hHeld6 => ?_)
      · exact HR6.out.bl
      clear hK K hHeld5
      try simp only [heldPut, List.set]
      refine heldTake (i := 13) (v := ?_) rfl (by kernel_rfl) (by kernel_rfl) (by kernel_rfl) (fun _ _ _ h => h) (Or.inl ⟨by rfl, ?_⟩) (by assumption) ?_
      rotate_left
      · (intro w hSw; (try dsimp only at hSw); go_simp; try with_reducible rfl)
      try simp only [heldPut, List.set]
      refine wpAnyH_done (by kernel_rfl) ?_ _
      refine NoPanic.normal ?_
      have hfin := HR6.out
      rw [body_one H1.out] at hfin
      have HF := Lib.hid hfin
      clear hfin HR6
      go_wp2_with fail
      go_meet
      exact HF.out
    case neg =>
      have q1 : ((x.k : Int) == 1) = false := by rw [beq_eq_false_iff_ne]; omega
      by_cases h2 : x.k = 2
      case neg =>
        have q2 : ((x.k : Int) == 2) = false := by rw [beq_eq_false_iff_ne]; omega
        have H1 := Lib.hid h1
        have H2 := Lib.hid h2
        clear h1 h2
        go_wp2_with fail
        go_meet
        have h := HR.out
        rw [body_three H1.out H2.out] at h
        exact h
      case pos =>
        have q2 : ((x.k : Int) == 2) = true := by rw [beq_iff_eq]; omega
        have H2 := Lib.hid h2
        clear h1 h2
        go_upto_region 6 with fail
        clear q1 q2
        have k3 : Vs.cell? ⟨w.heap.size, 3, none⟩ = some (.int .u64 x.e) := cell_of_row _ _ 3 _ _ _ (HX.out _ HR.out.bl)
        have k18 : Vs.cell? ⟨w.heap.size, 18, none⟩ = some (.int .u64 x.c) := cell_of_row _ _ 18 _ _ _ (HX.out _ HR.out.bl)
        have k19 : Vs.cell? ⟨w.heap.size, 19, none⟩ = some (.int .u64 x.b) := cell_of_row _ _ 19 _ _ _ (HX.out _ HR.out.bl)
        have k20 : Vs.cell? ⟨w.heap.size, 20, none⟩ = some (.int .u64 x.l) := cell_of_row _ _ 20 _ _ _ (HX.out _ HR.out.bl)
        have hnu : NumAt (Vs.alloc (.cells #[.int .u64 x.e, .int .u64 x.c, .int .u64 x.b, .int .u64 x.l] 24)) (.slice (some ⟨W.heap.size, 0, none⟩) 4 4) Vs.heap.size #[.int .u64 x.e, .int .u64 x.c, .int .u64 x.b, .int .u64 x.l] 24 :=
          ⟨heap_alloc_new _ _, fun e => by
            have h := (HR.out.ow.lt _ e).2
            omega⟩
        have HNu := Lib.hid hnu
        have HR1 := Lib.hid (HR.out.call (V' := Vs.alloc (.cells #[.int .u64 x.e, .int .u64 x.c, .int .u64 x.b, .int .u64 x.l] 24)) ((Below.refl _ _).alloc (Nat.le_refl _) _))
        clear hnu HR
        go_upto_region 7 with fail
        clear k3 k18 k19 k20
        obtain ⟨Y, hY⟩ : ∃ Y, Vs.heap.size = Y := ⟨_, rfl⟩
        generalize hV : Vs.alloc (.cells #[.int .u64 x.e, .int .u64 x.c, .int .u64 x.b, .int .u64 x.l] 24) = V1 at *
        rw [hY] at HNu ⊢
        clear hV hY
        go_loopw [3, 5, 42] (fun x3 _ x42 wr => ∃ (k : Nat), k ≤ 4 ∧ x42 = .int .i64 k ∧ Hid (Rows2 W wr x3 ([183, x.k, x.f, x.t] ++ lebs ([x.e, x.c, x.b, x.l].take k))) ∧ Hid (NumAt wr x3 Y #[.int .u64 x.e, .int .u64 x.c, .int .u64 x.b, .int .u64 x.l] 24)) (fun _ _ x42 _ => 5 - (intOf x42).toNat)
        case atStart => exact ⟨0, by omega, rfl, HR1.out, HNu.out⟩
        case round =>
          obtain ⟨k, hk, rfl, HRk, HNk⟩ := hrel
          obtain ⟨Ak, ck, rfl⟩ := HRk.out.slice
          by_cases hlt : k < 4
          · have hlt2 : (k : Int) < 4 := by omega
            have hk0 : (0 : Int) ≤ k := Int.natCast_nonneg _
            have q1 : decide ((k : Int) < 4) = true := decide_eq_true hlt2
            obtain ⟨y, hy⟩ : ∃ y, [x.e, x.c, x.b, x.l][k]? = some y := ⟨_, List.getElem?_eq_getElem (by simpa using hlt)⟩
            have hyc : (#[.int .u64 x.e, .int .u64 x.c, .int .u64 x.b, .int .u64 x.l] : Array Value)[k]? = some (.int .u64 y) := by
              match k, hlt, hy with
              | 0, _, hy | 1, _, hy | 2, _, hy | 3, _, hy => cases hy; rfl
            have hyb : y < 18446744073709551616 := by
              match k, hlt, hy with
              | 0, _, hy => cases hy; exact HE.out
              | 1, _, hy => cases hy; exact HC.out
              | 2, _, hy => cases hy; exact HBi.out
              | 3, _, hy => cases hy; exact HLi.out
            have hu : ([183, x.k, x.f, x.t] ++ lebs ([x.e, x.c, x.b, x.l].take k)).length + (leb y).length ≤ 4000000 := by
              have h1 := leb_le10 hyb
              have hlk : (lebs ([x.e, x.c, x.b, x.l].take k)).length ≤ 40 := by
                have e1 := leb_le10 HE.out
                have e2 := leb_le10 HC.out
                have e3 := leb_le10 HBi.out
                have e4 := leb_le10 HLi.out
                match k, hlt with
                | 0, _ | 1, _ | 2, _ | 3, _ => simp [lebs]; try omega
              simp only [List.length_append, List.length_cons, List.length_nil]; omega
            have HU := Lib.hid hu
            have HY := Lib.hid hy
            have hcell : wr.cell? ⟨Y, k, none⟩ = some (.int .u64 y) := (cell_of_row _ _ k _ _ _ HNk.out.at_).trans hyc
            clear hu hy hyc
            go_wp2_with fail
            refine (refUint_any y hyb wr).mono ?_
            rintro e V4 ⟨u4, rfl, ho, hb⟩
            obtain ⟨A4, c4, rfl⟩ := ownB_slice ho
            have HR4 := Lib.hid (HRk.out.call hb)
            have HP4 := Lib.hid (Pend.new HRk.out ho rfl)
            have HN4 := Lib.hid (HNk.out.call hb)
            clear ho hb hcell HRk HNk
            go_wp2_with (first | (refine wpList_row rfl _ _ rfl HR4.out HP4.out rfl rfl rfl HU.out ?_; intro v5 V5 hr5 hg5 hb5; replace hr5 := Lib.hid hr5; have HN5 := Lib.hid (HN4.out.app hg5 hb5); clear hg5 hb5) | fail)
            have h7 := hr5.out
            rw [List.append_assoc, ← lebs_take HY.out] at h7
            exact ⟨⟨k + 1, by omega, by go_num, h7, HN5.out⟩, by simp [intOf]; omega⟩
          · obtain rfl : k = 4 := by omega
            clear hlt hk
            go_wp2_with fail
            go_meet
            have h := HRk.out
            rw [show [x.e, x.c, x.b, x.l].take 4 = [x.e, x.c, x.b, x.l] from rfl, body_two H2.out] at h ⊢
            exact h
  case rest =>
    have HR5 := Lib.hid hcut
    obtain ⟨V5, rfl⟩ : ∃ V, V = wc := ⟨_, rfl⟩
    obtain ⟨A5, c5, rfl⟩ := hcut.slice
    have hsl := sumN_lt HOk.out
    clear hcut HR
    go_wp2_with fail
    refine (rsum_any A5 _ c5 (bodyF x) V5 V5.heap.size rfl HBL.out (RdB.of_own HR5.out.ow) HOk.out).mono ?_
    rintro e V6 ⟨rfl, rfl⟩
    go_wp2_with fail
    refine (rfour_any (sumN (bodyF x)) V5 hsl).mono ?_
    rintro e V7 ⟨u7, rfl, ho, hb⟩
    obtain ⟨A7, c7, rfl⟩ := ownB_slice ho
    have HR7 := Lib.hid (HR5.out.call hb)
    have HP7 := Lib.hid (Pend.new (s := four (sumN (bodyF x))) HR5.out ho rfl)
    clear ho hb HR5
    go_wp2_with (first | (refine wpList_row rfl _ _ rfl HR7.out HP7.out rfl rfl rfl HU4.out ?_; intro v8 V8 hr8 hg8 hb8; replace hr8 := Lib.hid hr8; clear hg8 hb8) | fail)
    go_ret
    have h := hr8.out
    exact ⟨_, rfl, ownB_mono h.ow HB.out.size, HB.out.trans (h.bl.mono HB.out.size)⟩
end Go.Proofs.YtnagmopejblegaaGreat
