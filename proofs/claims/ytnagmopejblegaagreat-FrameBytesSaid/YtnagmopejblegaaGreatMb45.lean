/- Several texts in one: ItRbEv. -/
import Derived.Deep.MidRow
import Derived.Deep.CutRange
import Derived.Test.YtnagmopejblegaaGreatMb44
/- Layer 4: the document's Bytes: an event. -/
namespace Go.Proofs.YtnagmopejblegaaGreat
open Go.RowKit

theorem act_put_none2 (a : Act) (v : Value) : a.put none v = a := rfl
theorem ev_bytes {x : It} (hg : x.g = false) : (((((((([0, x.o] ++ leb x.q) ++ leb x.t) ++ (leb x.r.size ++ bytesN x.r)) ++ leb x.l.length) ++ labsB x.l) ++ [x.s, x.p]) ++ leb (zig x.v)) ++ [x.w]) = itemB x := by unfold itemB evB headB tailB textB; rw [hg]; simp
theorem Tryz.infoEv2 : (Tryz.prog.info? 36).map (·.size) = some 9 := by kernel_rfl
theorem ev_range {w : World} {b : Nat} {x : It} {A : Option Addr} {n c : Nat} {t : TypeId} (h : w.heap[b]? = some (.cells #[.bool x.g, .int .u8 x.o, .int .u64 x.q, .int .u64 x.t, .string x.r, .slice A n c, .int .u8 x.s, .int .u8 x.p, .int .i64 x.v, .int .u8 x.w, .int .u8 x.ga, .int .u64 x.gf, .int .u64 x.gt] t (0, 0))) : w.rangeAt b 1 [.int .u8 x.o, .int .u64 x.q, .int .u64 x.t, .string x.r, .slice A n c, .int .u8 x.s, .int .u8 x.p, .int .i64 x.v, .int .u8 x.w] := fun j v hv => by
  rw [cell_of_row w b (1 + j) _ _ _ h, ← hv, Nat.add_comm 1 j]
  match j, hv with
  | 0, _ | 1, _ | 2, _ | 3, _ | 4, _ | 5, _ | 6, _ | 7, _ | 8, _ => rfl
  | j + 9, hv => simp at hv

set_option maxRecDepth 100000 in
set_option maxHeartbeats 8000000 in
theorem refBytes_ev (x : It) (A : Option Addr) (n c : Nat) (hx : OkI x) (hs : ShortI x) (hn : n = x.l.length) (hm : n ≤ 1048576) (hg : x.g = false) (w : World) (hl : (itemB x).length ≤ 1999000) (hr : RdP w w.heap.size A x.l) :
    Calls Tryz.prog 14 #[.agg #[.bool x.g, .int .u8 x.o, .int .u64 x.q, .int .u64 x.t, .string x.r, .slice A n c, .int .u8 x.s, .int .u8 x.p, .int .i64 x.v, .int .u8 x.w, .int .u8 x.ga, .int .u64 x.gf, .int .u64 x.gt]] w fun e w' => ∃ v', e = .returned v' ∧ w'.ownsRow w.heap.size 5 1 v' (itemB x).length (cellsB (itemB x)) ∧ Below w.heap.size w w' := by
  have hq := hx.q
  have ht := hx.t
  have hv0 := hx.v0
  have hv1 := hx.v1
  have hrs := hs.r
  have hlp := hs.l
  have hbd : (((((((([0, x.o] ++ leb x.q) ++ leb x.t) ++ (leb x.r.size ++ bytesN x.r)) ++ leb x.l.length) ++ labsB x.l) ++ [x.s, x.p]) ++ leb (zig x.v)) ++ [x.w]).length ≤ 1999000 := by rw [ev_bytes hg]; exact hl
  simp only [List.length_append] at hbd
  have hu1 : [0, x.o].length + (leb x.q).length ≤ 4000000 := by omega
  have hu2 : ([0, x.o] ++ leb x.q).length + (leb x.t).length ≤ 4000000 := by simp only [List.length_append]; omega
  have hu3 : (([0, x.o] ++ leb x.q) ++ leb x.t).length + (leb x.r.size ++ bytesN x.r).length ≤ 4000000 := by simp only [List.length_append]; omega
  have hu4 : ((([0, x.o] ++ leb x.q) ++ leb x.t) ++ (leb x.r.size ++ bytesN x.r)).length + (leb x.l.length).length ≤ 4000000 := by simp only [List.length_append]; omega
  have hu5 : ((((([0, x.o] ++ leb x.q) ++ leb x.t) ++ (leb x.r.size ++ bytesN x.r)) ++ leb x.l.length) ++ labsB x.l).length + ([x.s, x.p] : List Nat).length ≤ 4000000 := by simp only [List.length_append]; omega
  have hu6 : (((((([0, x.o] ++ leb x.q) ++ leb x.t) ++ (leb x.r.size ++ bytesN x.r)) ++ leb x.l.length) ++ labsB x.l) ++ [x.s, x.p]).length + (leb (zig x.v)).length ≤ 4000000 := by simp only [List.length_append]; omega
  have hu7 : ((((((([0, x.o] ++ leb x.q) ++ leb x.t) ++ (leb x.r.size ++ bytesN x.r)) ++ leb x.l.length) ++ labsB x.l) ++ [x.s, x.p]) ++ leb (zig x.v)).length + ([x.w] : List Nat).length ≤ 4000000 := by simp only [List.length_append]; omega
  have huk : ∀ (k : Nat) (p : Pr), x.l[k]? = some p → ((((([0, x.o] ++ leb x.q) ++ leb x.t) ++ (leb x.r.size ++ bytesN x.r)) ++ leb x.l.length) ++ labsB (x.l.take k)).length + (leb p.1.size ++ bytesN p.1).length ≤ 4000000 ∧ (((((([0, x.o] ++ leb x.q) ++ leb x.t) ++ (leb x.r.size ++ bytesN x.r)) ++ leb x.l.length) ++ labsB (x.l.take k)) ++ (leb p.1.size ++ bytesN p.1)).length + (leb p.2.size ++ bytesN p.2).length ≤ 4000000 := fun k p hp => by
    have h1 := labsB_mem hp
    unfold textB at h1
    simp only [List.length_append] at h1 ⊢
    constructor <;> omega
  have HU1 := Lib.hid hu1
  have HU2 := Lib.hid hu2
  have HU3 := Lib.hid hu3
  have HU4 := Lib.hid hu4
  have HU5 := Lib.hid hu5
  have HU6 := Lib.hid hu6
  have HU7 := Lib.hid hu7
  have HUK := Lib.hid huk
  obtain ⟨W, hW⟩ : ∃ W, W = w.alloc (.cells #[.bool x.g, .int .u8 x.o, .int .u64 x.q, .int .u64 x.t, .string x.r, .slice A n c, .int .u8 x.s, .int .u8 x.p, .int .i64 x.v, .int .u8 x.w, .int .u8 x.ga, .int .u64 x.gf, .int .u64 x.gt] 40) := ⟨_, rfl⟩
  have hb : Below w.heap.size w W := by rw [hW]; exact (Below.refl _ _).alloc (Nat.le_refl _) _
  have hc : W.heap[w.heap.size]? = some (.cells #[.bool x.g, .int .u8 x.o, .int .u64 x.q, .int .u64 x.t, .string x.r, .slice A n c, .int .u8 x.s, .int .u8 x.p, .int .i64 x.v, .int .u8 x.w, .int .u8 x.ga, .int .u64 x.gf, .int .u64 x.gt] 40 (0, 0)) := by rw [hW]; exact heap_alloc_new _ _
  have hlw : w.heap.size < W.heap.size := by rw [hW]; simp
  have c0 : W.cell? ⟨w.heap.size, 0, none⟩ = some (.bool x.g) := cell_of_row _ _ 0 _ _ _ hc
  rw [hg] at c0
  have HER := Lib.hid (ev_range hc)
  have HW := Lib.hid hW
  have HB := Lib.hid hb
  have HG := Lib.hid hg
  have HQ := Lib.hid hq
  have HT := Lib.hid ht
  have HV0 := Lib.hid hv0
  have HV1 := Lib.hid hv1
  have HRS := Lib.hid hrs
  have HLP := Lib.hid hlp
  have HN := Lib.hid hn
  have HRd := Lib.hid hr
  have HLW := Lib.hid hlw
  clear hW hb hc hg hq ht hv0 hv1 hrs hlp hn hr hlw hx hs hl hbd hu1 hu2 hu3 hu4 hu5 hu6 hu7 huk
  go_enter Tryz.func14, Tryz.ntmps14
  go_upto_region 1 with fail
  rw [← HW.out]
  go_upto_region 5 with (first
    | (refine wpList_load_mid rfl _ _ rfl w.heap.size 1 rfl _ _ HER.out Tryz.underlying36 rfl Tryz.infoEv2 ?_)
    | (refine wpList_store_row rfl _ _ _ rfl W.heap.size _ rfl rfl _ _ (heap_alloc_new _ _) Tryz.infoEv2 rfl (by simp [Value.oneCell']) ?_)
    | fail)
  obtain ⟨W1, hW1⟩ : ∃ V, V = (W.alloc (.cells #[.int .u8 0, .int .u64 0, .int .u64 0, .string ⟨#[]⟩, .slice none 0 0, .int .u8 0, .int .u8 0, .int .i64 0, .int .u8 0] 36)).setRow W.heap.size ([.int .u8 x.o, .int .u64 x.q, .int .u64 x.t, .string x.r, .slice A n c, .int .u8 x.s, .int .u8 x.p, .int .i64 x.v, .int .u8 x.w] : List Value).toArray := ⟨_, rfl⟩
  rw [← hW1]
  rw [act_put_none2]
  have hE : W1.heap[W.heap.size]? = some (.cells #[.int .u8 x.o, .int .u64 x.q, .int .u64 x.t, .string x.r, .slice A n c, .int .u8 x.s, .int .u8 x.p, .int .i64 x.v, .int .u8 x.w] 36 (0, 0)) := by rw [hW1]; exact setRow_heap _ _ _ _ _ _ (heap_alloc_new _ _)
  have hb1 : Below w.heap.size w W1 := by rw [hW1]; exact below_setRow (HB.out.alloc HB.out.size _) HB.out.size _
  have hE2 : W.heap.size < W1.heap.size := (Array.getElem?_eq_some_iff.1 hE).1
  have HB1 := Lib.hid hb1
  have HX := Lib.hid (show ∀ V, Below W1.heap.size W1 V → V.heap[W.heap.size]? = some (.cells #[.int .u8 x.o, .int .u64 x.q, .int .u64 x.t, .string x.r, .slice A n c, .int .u8 x.s, .int .u8 x.p, .int .i64 x.v, .int .u8 x.w] 36 (0, 0)) from fun V hV => (hV.block _ hE2).trans hE)
  have e0 : W1.cell? ⟨W.heap.size, 0, none⟩ = some (.int .u8 x.o) := cell_of_row _ _ 0 _ _ _ hE
  obtain ⟨E, hEe⟩ : ∃ k, W.heap.size = k := ⟨_, rfl⟩
  rw [hEe] at HX e0 ⊢
  clear hW1 hE hb1 hE2 hEe c0 HER HW HB
  go_upto_region 6 with fail
  have HR := Lib.hid (Rows2.made (l := [0, x.o]) W1 #[.int .u8 0, .int .u8 x.o] 2 rfl rfl (by decide))
  clear e0
  generalize hV : W1.alloc (.cells #[.int .u8 0, .int .u8 x.o] 5) = Vs at *
  clear hV
  go_cut [5] from 29 to 41 (fun p wx => Rows2 W1 wx p ((([0, x.o] ++ leb x.q) ++ leb x.t) ++ (leb x.r.size ++ bytesN x.r)))
  case first =>
    refine wp_region_noPanic ?_
    refine wp_region_held_drew (S := (fun V => Below W1.heap.size W1 V)) (by kernel_rfl) ?_ (fun hHeld => ?_)
    · exact HR.out.bl.trans (((Below.refl Vs.heap.size Vs).drew).mono HR.out.bl.size)
    have HR0 := Lib.hid (HR.out.call ((Below.refl Vs.heap.size Vs).drew))
    generalize hV0 : Vs.drew = V0 at *
    clear hV0
    refine heldTake (i := 0) (v := ?_) rfl (by kernel_rfl) (by kernel_rfl) (by kernel_rfl) (fun _ _ _ h => h) (Or.inl ⟨by rfl, ?_⟩) (by assumption) ?_
    rotate_left
    · (intro w hSw; (try dsimp only at hSw); go_simp; try with_reducible rfl)
    try simp only [heldPut, List.set]
    refine heldTake (i := 1) (v := ?_) rfl (by kernel_rfl) (by kernel_rfl) (by kernel_rfl) (fun _ _ _ h => h) (Or.inl ⟨by rfl, ?_⟩) (by assumption) ?_
    rotate_left
    · (intro w hSw; (try dsimp only at hSw); go_simp; try with_reducible rfl)
    try simp only [heldPut, List.set]
    refine heldTake (i := 2) (v := ?_) rfl (by kernel_rfl) (by kernel_rfl) (by kernel_rfl) (fun _ _ _ h => h) (Or.inl ⟨by rfl, ?_⟩) (by assumption) ?_
    rotate_left
    · (intro w hSw; (try dsimp only at hSw); have k0 := cell_of_row _ _ 0 _ _ _ (HX.out _ hSw); have k1 := cell_of_row _ _ 1 _ _ _ (HX.out _ hSw); have k2 := cell_of_row _ _ 2 _ _ _ (HX.out _ hSw); have k3 := cell_of_row _ _ 3 _ _ _ (HX.out _ hSw); have k4 := cell_of_row _ _ 4 _ _ _ (HX.out _ hSw); have k5 := cell_of_row _ _ 5 _ _ _ (HX.out _ hSw); have k6 := cell_of_row _ _ 6 _ _ _ (HX.out _ hSw); have k7 := cell_of_row _ _ 7 _ _ _ (HX.out _ hSw); have k8 := cell_of_row _ _ 8 _ _ _ (HX.out _ hSw); clear hSw; simp at k0 k1 k2 k3 k4 k5 k6 k7 k8; go_simp; try with_reducible rfl)
    try simp only [heldPut, List.set]
    refine heldTake (i := 5) (v := ?_) rfl (by kernel_rfl) (by kernel_rfl) (by kernel_rfl) (fun _ _ _ h => h) (Or.inl ⟨by rfl, ?_⟩) (by assumption) ?_
    rotate_left
    · (intro w hSw; (try dsimp only at hSw); go_simp; try with_reducible rfl)
    try simp only [heldPut, List.set]
    refine heldTake (i := 6) (v := ?_) rfl (by kernel_rfl) (by kernel_rfl) (by kernel_rfl) (fun _ _ _ h => h) (Or.inl ⟨by rfl, ?_⟩) (by assumption) ?_
    rotate_left
    · (intro w hSw; (try dsimp only at hSw); have k0 := cell_of_row _ _ 0 _ _ _ (HX.out _ hSw); have k1 := cell_of_row _ _ 1 _ _ _ (HX.out _ hSw); have k2 := cell_of_row _ _ 2 _ _ _ (HX.out _ hSw); have k3 := cell_of_row _ _ 3 _ _ _ (HX.out _ hSw); have k4 := cell_of_row _ _ 4 _ _ _ (HX.out _ hSw); have k5 := cell_of_row _ _ 5 _ _ _ (HX.out _ hSw); have k6 := cell_of_row _ _ 6 _ _ _ (HX.out _ hSw); have k7 := cell_of_row _ _ 7 _ _ _ (HX.out _ hSw); have k8 := cell_of_row _ _ 8 _ _ _ (HX.out _ hSw); clear hSw; simp at k0 k1 k2 k3 k4 k5 k6 k7 k8; go_simp; try with_reducible rfl)
    try simp only [heldPut, List.set]
    refine heldTake (i := 9) (v := ?_) rfl (by kernel_rfl) (by kernel_rfl) (by kernel_rfl) (fun _ _ _ h => h) (Or.inl ⟨by rfl, ?_⟩) (by assumption) ?_
    rotate_left
    · (intro w hSw; (try dsimp only at hSw); go_simp; try with_reducible rfl)
    try simp only [heldPut, List.set]
    refine heldTake (i := 10) (v := ?_) rfl (by kernel_rfl) (by kernel_rfl) (by kernel_rfl) (fun _ _ _ h => h) (Or.inl ⟨by rfl, ?_⟩) (by assumption) ?_
    rotate_left
    · (intro w hSw; (try dsimp only at hSw); have k0 := cell_of_row _ _ 0 _ _ _ (HX.out _ hSw); have k1 := cell_of_row _ _ 1 _ _ _ (HX.out _ hSw); have k2 := cell_of_row _ _ 2 _ _ _ (HX.out _ hSw); have k3 := cell_of_row _ _ 3 _ _ _ (HX.out _ hSw); have k4 := cell_of_row _ _ 4 _ _ _ (HX.out _ hSw); have k5 := cell_of_row _ _ 5 _ _ _ (HX.out _ hSw); have k6 := cell_of_row _ _ 6 _ _ _ (HX.out _ hSw); have k7 := cell_of_row _ _ 7 _ _ _ (HX.out _ hSw); have k8 := cell_of_row _ _ 8 _ _ _ (HX.out _ hSw); clear hSw; simp at k0 k1 k2 k3 k4 k5 k6 k7 k8; go_simp; try with_reducible rfl)
    try simp only [heldPut, List.set]
    refine heldOne (i := 3) rfl (by kernel_rfl) (fun K hK => ?_)
    go_simp
    refine (refUint_any x.q HQ.out V0).mono ?_
    rintro e V1 ⟨u1, rfl, ho, hb⟩
    obtain ⟨A1, c1, rfl⟩ := ownB_slice ho
    have HR1 := Lib.hid (HR0.out.call hb)
    have HP3_1 := Lib.hid (Pend.new HR0.out ho (rfl))
    clear ho hb HR0
    go_wp2_with fail
    refine hK.out _ _ ?_ (fun hHeld1 => ?_)
    · exact HR1.out.bl
    clear hK K hHeld
    try simp only [heldPut, List.set]
    refine heldOne (i := 4) rfl (by kernel_rfl) (fun K hK => ?_)
    refine step_row rfl _ _ rfl HR1.out HP3_1.out (rfl) rfl rfl (HU1.out) ?_
    intro v2 V2 hr hg hb
    have HR2 := Lib.hid hr
    clear hr hg hb HR1 HP3_1
    refine hK.out _ _ ?_ (fun hHeld2 => ?_)
    · exact HR2.out.bl
    clear hK K hHeld1
    try simp only [heldPut, List.set]
    refine heldOne (i := 7) rfl (by kernel_rfl) (fun K hK => ?_)
    go_simp
    refine (refUint_any x.t HT.out V2).mono ?_
    rintro e V3 ⟨u3, rfl, ho, hb⟩
    obtain ⟨A3, c3, rfl⟩ := ownB_slice ho
    have HR3 := Lib.hid (HR2.out.call hb)
    have HP7_3 := Lib.hid (Pend.new HR2.out ho (rfl))
    clear ho hb HR2
    go_wp2_with fail
    refine hK.out _ _ ?_ (fun hHeld3 => ?_)
    · exact HR3.out.bl
    clear hK K hHeld2
    try simp only [heldPut, List.set]
    refine heldOne (i := 8) rfl (by kernel_rfl) (fun K hK => ?_)
    refine step_row rfl _ _ rfl HR3.out HP7_3.out (rfl) rfl rfl (HU2.out) ?_
    intro v4 V4 hr hg hb
    have HR4 := Lib.hid hr
    clear hr hg hb HR3 HP7_3
    refine hK.out _ _ ?_ (fun hHeld4 => ?_)
    · exact HR4.out.bl
    clear hK K hHeld3
    try simp only [heldPut, List.set]
    refine heldOne (i := 11) rfl (by kernel_rfl) (fun K hK => ?_)
    go_simp
    refine (refLong_any x.r (Nat.le_trans HRS.out (by decide)) V4).mono ?_
    rintro e V5 ⟨u5, rfl, ho, hb⟩
    obtain ⟨A5, c5, rfl⟩ := ownB_slice ho
    have HR5 := Lib.hid (HR4.out.call hb)
    have HP11_5 := Lib.hid (Pend.new HR4.out ho ((by rw [List.length_append, bytesN_length])))
    clear ho hb HR4
    go_wp2_with fail
    refine hK.out _ _ ?_ (fun hHeld5 => ?_)
    · exact HR5.out.bl
    clear hK K hHeld4
    try simp only [heldPut, List.set]
    refine heldOne (i := 12) rfl (by kernel_rfl) (fun K hK => ?_)
    refine step_row rfl _ _ rfl HR5.out HP11_5.out ((by rw [List.length_append, bytesN_length])) rfl rfl (HU3.out) ?_
    intro v6 V6 hr hg hb
    have HR6 := Lib.hid hr
    clear hr hg hb HR5 HP11_5
    refine hK.out _ _ ?_ (fun hHeld6 => ?_)
    · exact HR6.out.bl
    clear hK K hHeld5
    try simp only [heldPut, List.set]
    refine heldTake (i := 13) (v := ?_) rfl (by kernel_rfl) (by kernel_rfl) (by kernel_rfl) (fun _ _ _ h => h) (Or.inl ⟨by rfl, ?_⟩) (by assumption) ?_
    rotate_left
    · (intro w hSw; (try dsimp only at hSw); go_simp; try with_reducible rfl)
    try simp only [heldPut, List.set]
    refine wpAnyH_done (by kernel_rfl) ?_ _
    refine NoPanic.normal ?_
    go_wp2_with fail
    go_meet
    exact HR6.out
  case rest =>
    have HR3 := Lib.hid hcut
    have hd := cell_of_row _ _ 4 _ _ _ (HX.out _ hcut.bl)
    simp at hd
    obtain ⟨V3, rfl⟩ : ∃ V, V = wc := ⟨_, rfl⟩
    have hmx : n ≤ 1048576 := hm
    clear hcut HR
    go_wp2_with fail
    refine (refUint_any n (by omega) V3).mono ?_
    rintro e V4 ⟨u4, rfl, ho, hb⟩
    obtain ⟨A4, c4, rfl⟩ := ownB_slice ho
    have HR4 := Lib.hid (HR3.out.call hb)
    have HP4 := Lib.hid (Pend.new HR3.out ho rfl)
    have HU4' : Hid (((([0, x.o] ++ leb x.q) ++ leb x.t) ++ (leb x.r.size ++ bytesN x.r)).length + (leb n).length ≤ 4000000) := by show _ ≤ _; rw [HN.out]; exact HU4.out
    clear ho hb hd HR3
    go_upto_region 8 with (first | (refine wpList_row rfl _ _ rfl HR4.out HP4.out rfl rfl rfl HU4'.out ?_; intro v5 V5 hr5 hg5 hb5; replace hr5 := Lib.hid hr5; clear hg5 hb5) | fail)
    have HR5 : Hid (Rows2 W1 V5 v5 (((([0, x.o] ++ leb x.q) ++ leb x.t) ++ (leb x.r.size ++ bytesN x.r)) ++ leb x.l.length)) := by show Rows2 _ _ _ _; have h := hr5.out; rw [HN.out] at h; exact h
    clear hr5 HR4 HP4 HU4'
    go_wp2_with fail
    go_loopw [5, 6] (fun x5 x6 wr => ∃ (k : Nat), k ≤ n ∧ x6 = .int .i64 k ∧ Hid (Rows2 W1 wr x5 ((((([0, x.o] ++ leb x.q) ++ leb x.t) ++ (leb x.r.size ++ bytesN x.r)) ++ leb x.l.length) ++ labsB (x.l.take k)))) (fun _ x6 _ => 1048577 - (intOf x6).toNat)
    case atStart => exact ⟨0, Nat.zero_le _, rfl, by show Rows2 _ _ _ _; simpa [labsB] using HR5.out⟩
    case round =>
      obtain ⟨k, hk, rfl, HRk⟩ := hrel
      clear HR5
      have hd := cell_of_row _ _ 4 _ _ _ (HX.out _ HRk.out.bl)
      simp at hd
      by_cases hlt : k < n
      · have q1 : decide ((k : Int) < (n : Int)) = true := decide_eq_true (by omega)
        have q2 : decide (k < n) = true := decide_eq_true hlt
        obtain ⟨b, off, p, rfl, hbb, hp, hc1, hc2⟩ := HRd.out.at_ (k := k) (by rw [← HN.out]; exact hlt)
        have hpl := HLP.out k p hp
        have HC1 := Lib.hid (show ∀ V, Below W1.heap.size W1 V → V.cell? ⟨b, off + k * 2, none⟩ = some (.string p.1) from fun V hV => ((HB1.out.trans (hV.mono HB1.out.size)).cell (p := ⟨b, off + k * 2, none⟩) hbb).trans hc1)
        have HC2 := Lib.hid (show ∀ V, Below W1.heap.size W1 V → V.cell? ⟨b, off + k * 2 + 1, none⟩ = some (.string p.2) from fun V hV => ((HB1.out.trans (hV.mono HB1.out.size)).cell (p := ⟨b, off + k * 2 + 1, none⟩) hbb).trans hc2)
        have HP := Lib.hid hp
        have HPL := Lib.hid hpl
        clear hc1 hc2 hp hpl hbb
        go_upto_region 11 with fail
        clear hd
        refine wp_region_noPanic ?_
        refine wp_region_held_drew (S := (fun V => Below W1.heap.size W1 V)) (by kernel_rfl) ?_ (fun hHeld => ?_)
        · exact HRk.out.bl.trans (((Below.refl wr.heap.size wr).drew).mono HRk.out.bl.size)
        have HR0 := Lib.hid (HRk.out.call ((Below.refl wr.heap.size wr).drew))
        generalize hV0 : wr.drew = V0 at *
        clear hV0
        refine heldTake (i := 0) (v := ?_) rfl (by kernel_rfl) (by kernel_rfl) (by kernel_rfl) (fun _ _ _ h => h) (Or.inl ⟨by rfl, ?_⟩) (by assumption) ?_
        rotate_left
        · (intro w hSw; (try dsimp only at hSw); go_simp; try with_reducible rfl)
        try simp only [heldPut, List.set]
        refine heldTake (i := 1) (v := ?_) rfl (by kernel_rfl) (by kernel_rfl) (by kernel_rfl) (fun _ _ _ h => h) (Or.inl ⟨by rfl, ?_⟩) (by assumption) ?_
        rotate_left
        · (intro w hSw; (try dsimp only at hSw); go_simp; try with_reducible rfl)
        try simp only [heldPut, List.set]
        refine heldTake (i := 2) (v := ?_) rfl (by kernel_rfl) (by kernel_rfl) (by kernel_rfl) (fun _ _ _ h => h) (Or.inl ⟨by rfl, ?_⟩) (by assumption) ?_
        rotate_left
        · (intro w hSw; (try dsimp only at hSw); have k0 := cell_of_row _ _ 0 _ _ _ (HX.out _ hSw); have k1 := cell_of_row _ _ 1 _ _ _ (HX.out _ hSw); have k2 := cell_of_row _ _ 2 _ _ _ (HX.out _ hSw); have k3 := cell_of_row _ _ 3 _ _ _ (HX.out _ hSw); have k4 := cell_of_row _ _ 4 _ _ _ (HX.out _ hSw); have k5 := cell_of_row _ _ 5 _ _ _ (HX.out _ hSw); have k6 := cell_of_row _ _ 6 _ _ _ (HX.out _ hSw); have k7 := cell_of_row _ _ 7 _ _ _ (HX.out _ hSw); have k8 := cell_of_row _ _ 8 _ _ _ (HX.out _ hSw); have l1 := HC1.out _ hSw; have l2 := HC2.out _ hSw; clear hSw; simp at k0 k1 k2 k3 k4 k5 k6 k7 k8; go_simp; try with_reducible rfl)
        try simp only [heldPut, List.set]
        refine heldTake (i := 3) (v := ?_) rfl (by kernel_rfl) (by kernel_rfl) (by kernel_rfl) (fun _ _ _ h => h) (Or.inl ⟨by rfl, ?_⟩) (by assumption) ?_
        rotate_left
        · (intro w hSw; (try dsimp only at hSw); go_simp; try with_reducible rfl)
        try simp only [heldPut, List.set]
        refine heldTake (i := 4) (v := ?_) rfl (by kernel_rfl) (by kernel_rfl) (by kernel_rfl) (fun _ _ _ h => h) (Or.inl ⟨by rfl, ?_⟩) (by assumption) ?_
        rotate_left
        · (intro w hSw; (try dsimp only at hSw); go_simp; try with_reducible rfl)
        try simp only [heldPut, List.set]
        refine heldTake (i := 5) (v := ?_) rfl (by kernel_rfl) (by kernel_rfl) (by kernel_rfl) (fun _ _ _ h => h) (Or.inl ⟨by rfl, ?_⟩) (by assumption) ?_
        rotate_left
        · (intro w hSw; (try dsimp only at hSw); go_simp; try with_reducible rfl)
        try simp only [heldPut, List.set]
        refine heldTake (i := 6) (v := ?_) rfl (by kernel_rfl) (by kernel_rfl) (by kernel_rfl) (fun _ _ _ h => h) (Or.inl ⟨by rfl, ?_⟩) (by assumption) ?_
        rotate_left
        · (intro w hSw; (try dsimp only at hSw); have k0 := cell_of_row _ _ 0 _ _ _ (HX.out _ hSw); have k1 := cell_of_row _ _ 1 _ _ _ (HX.out _ hSw); have k2 := cell_of_row _ _ 2 _ _ _ (HX.out _ hSw); have k3 := cell_of_row _ _ 3 _ _ _ (HX.out _ hSw); have k4 := cell_of_row _ _ 4 _ _ _ (HX.out _ hSw); have k5 := cell_of_row _ _ 5 _ _ _ (HX.out _ hSw); have k6 := cell_of_row _ _ 6 _ _ _ (HX.out _ hSw); have k7 := cell_of_row _ _ 7 _ _ _ (HX.out _ hSw); have k8 := cell_of_row _ _ 8 _ _ _ (HX.out _ hSw); have l1 := HC1.out _ hSw; have l2 := HC2.out _ hSw; clear hSw; simp at k0 k1 k2 k3 k4 k5 k6 k7 k8; go_simp; try with_reducible rfl)
        try simp only [heldPut, List.set]
        refine heldTake (i := 9) (v := ?_) rfl (by kernel_rfl) (by kernel_rfl) (by kernel_rfl) (fun _ _ _ h => h) (Or.inl ⟨by rfl, ?_⟩) (by assumption) ?_
        rotate_left
        · (intro w hSw; (try dsimp only at hSw); go_simp; try with_reducible rfl)
        try simp only [heldPut, List.set]
        refine heldTake (i := 10) (v := ?_) rfl (by kernel_rfl) (by kernel_rfl) (by kernel_rfl) (fun _ _ _ h => h) (Or.inl ⟨by rfl, ?_⟩) (by assumption) ?_
        rotate_left
        · (intro w hSw; (try dsimp only at hSw); have k0 := cell_of_row _ _ 0 _ _ _ (HX.out _ hSw); have k1 := cell_of_row _ _ 1 _ _ _ (HX.out _ hSw); have k2 := cell_of_row _ _ 2 _ _ _ (HX.out _ hSw); have k3 := cell_of_row _ _ 3 _ _ _ (HX.out _ hSw); have k4 := cell_of_row _ _ 4 _ _ _ (HX.out _ hSw); have k5 := cell_of_row _ _ 5 _ _ _ (HX.out _ hSw); have k6 := cell_of_row _ _ 6 _ _ _ (HX.out _ hSw); have k7 := cell_of_row _ _ 7 _ _ _ (HX.out _ hSw); have k8 := cell_of_row _ _ 8 _ _ _ (HX.out _ hSw); have l1 := HC1.out _ hSw; have l2 := HC2.out _ hSw; clear hSw; simp at k0 k1 k2 k3 k4 k5 k6 k7 k8; go_simp; try with_reducible rfl)
        try simp only [heldPut, List.set]
        refine heldTake (i := 11) (v := ?_) rfl (by kernel_rfl) (by kernel_rfl) (by kernel_rfl) (fun _ _ _ h => h) (Or.inl ⟨by rfl, ?_⟩) (by assumption) ?_
        rotate_left
        · (intro w hSw; (try dsimp only at hSw); go_simp; try with_reducible rfl)
        try simp only [heldPut, List.set]
        refine heldTake (i := 12) (v := ?_) rfl (by kernel_rfl) (by kernel_rfl) (by kernel_rfl) (fun _ _ _ h => h) (Or.inl ⟨by rfl, ?_⟩) (by assumption) ?_
        rotate_left
        · (intro w hSw; (try dsimp only at hSw); go_simp; try with_reducible rfl)
        try simp only [heldPut, List.set]
        refine heldTake (i := 13) (v := ?_) rfl (by kernel_rfl) (by kernel_rfl) (by kernel_rfl) (fun _ _ _ h => h) (Or.inl ⟨by rfl, ?_⟩) (by assumption) ?_
        rotate_left
        · (intro w hSw; (try dsimp only at hSw); go_simp; try with_reducible rfl)
        try simp only [heldPut, List.set]
        refine heldTake (i := 14) (v := ?_) rfl (by kernel_rfl) (by kernel_rfl) (by kernel_rfl) (fun _ _ _ h => h) (Or.inl ⟨by rfl, ?_⟩) (by assumption) ?_
        rotate_left
        · (intro w hSw; (try dsimp only at hSw); have k0 := cell_of_row _ _ 0 _ _ _ (HX.out _ hSw); have k1 := cell_of_row _ _ 1 _ _ _ (HX.out _ hSw); have k2 := cell_of_row _ _ 2 _ _ _ (HX.out _ hSw); have k3 := cell_of_row _ _ 3 _ _ _ (HX.out _ hSw); have k4 := cell_of_row _ _ 4 _ _ _ (HX.out _ hSw); have k5 := cell_of_row _ _ 5 _ _ _ (HX.out _ hSw); have k6 := cell_of_row _ _ 6 _ _ _ (HX.out _ hSw); have k7 := cell_of_row _ _ 7 _ _ _ (HX.out _ hSw); have k8 := cell_of_row _ _ 8 _ _ _ (HX.out _ hSw); have l1 := HC1.out _ hSw; have l2 := HC2.out _ hSw; clear hSw; simp at k0 k1 k2 k3 k4 k5 k6 k7 k8; go_simp; try with_reducible rfl)
        try simp only [heldPut, List.set]
        refine heldOne (i := 7) rfl (by kernel_rfl) (fun K hK => ?_)
        go_simp
        refine (refLong_any p.1 HPL.out.1 V0).mono ?_
        rintro e V1 ⟨u1, rfl, ho, hb⟩
        obtain ⟨A1, c1, rfl⟩ := ownB_slice ho
        have HR1 := Lib.hid (HR0.out.call hb)
        have HP7_1 := Lib.hid (Pend.new HR0.out ho ((by rw [List.length_append, bytesN_length])))
        clear ho hb HR0
        go_wp2_with fail
        refine hK.out _ _ ?_ (fun hHeld1 => ?_)
        · exact HR1.out.bl
        clear hK K hHeld
        try simp only [heldPut, List.set]
        refine heldOne (i := 8) rfl (by kernel_rfl) (fun K hK => ?_)
        refine step_row rfl _ _ rfl HR1.out HP7_1.out ((by rw [List.length_append, bytesN_length])) rfl rfl ((HUK.out k p HP.out).1) ?_
        intro v2 V2 hr hg hb
        have HR2 := Lib.hid hr
        clear hr hg hb HR1 HP7_1
        refine hK.out _ _ ?_ (fun hHeld2 => ?_)
        · exact HR2.out.bl
        clear hK K hHeld1
        try simp only [heldPut, List.set]
        refine heldOne (i := 15) rfl (by kernel_rfl) (fun K hK => ?_)
        go_simp
        refine (refLong_any p.2 HPL.out.2 V2).mono ?_
        rintro e V3 ⟨u3, rfl, ho, hb⟩
        obtain ⟨A3, c3, rfl⟩ := ownB_slice ho
        have HR3 := Lib.hid (HR2.out.call hb)
        have HP15_3 := Lib.hid (Pend.new HR2.out ho ((by rw [List.length_append, bytesN_length])))
        clear ho hb HR2
        go_wp2_with fail
        refine hK.out _ _ ?_ (fun hHeld3 => ?_)
        · exact HR3.out.bl
        clear hK K hHeld2
        try simp only [heldPut, List.set]
        refine heldOne (i := 16) rfl (by kernel_rfl) (fun K hK => ?_)
        refine step_row rfl _ _ rfl HR3.out HP15_3.out ((by rw [List.length_append, bytesN_length])) rfl rfl ((HUK.out k p HP.out).2) ?_
        intro v4 V4 hr hg hb
        have HR4 := Lib.hid hr
        clear hr hg hb HR3 HP15_3
        refine hK.out _ _ ?_ (fun hHeld4 => ?_)
        · exact HR4.out.bl
        clear hK K hHeld3
        try simp only [heldPut, List.set]
        refine heldTake (i := 17) (v := ?_) rfl (by kernel_rfl) (by kernel_rfl) (by kernel_rfl) (fun _ _ _ h => h) (Or.inl ⟨by rfl, ?_⟩) (by assumption) ?_
        rotate_left
        · (intro w hSw; (try dsimp only at hSw); go_simp; try with_reducible rfl)
        try simp only [heldPut, List.set]
        refine wpAnyH_done (by kernel_rfl) ?_ _
        refine NoPanic.normal ?_
        have hfin := labsB_take HP.out
        unfold textB at hfin
        have h7 := HR4.out
        rw [show (((((([0, x.o] ++ leb x.q) ++ leb x.t) ++ (leb x.r.size ++ bytesN x.r)) ++ leb x.l.length) ++ labsB (x.l.take k)) ++ (leb p.1.size ++ bytesN p.1)) ++ (leb p.2.size ++ bytesN p.2) = (((([0, x.o] ++ leb x.q) ++ leb x.t) ++ (leb x.r.size ++ bytesN x.r)) ++ leb x.l.length) ++ labsB (x.l.take (k + 1)) by rw [hfin]; simp only [List.append_assoc]] at h7
        have HR7 := Lib.hid h7
        clear h7
        clear hfin HR4
        go_wp2_with fail
        exact ⟨⟨k + 1, by omega, by go_num, HR7.out⟩, by simp [intOf]; omega⟩
      · have q1 : decide ((k : Int) < (n : Int)) = false := decide_eq_false (by omega)
        have q2 : decide (k < n) = false := decide_eq_false hlt
        obtain rfl : n = k := by omega
        have h8 := HRk.out
        rw [show x.l.take n = x.l by rw [HN.out]; exact List.take_length] at h8
        have HR8 := Lib.hid h8
        clear HRk h8
        go_upto_region 12 with fail
        clear hd q1 q2 hlt hk
        go_cut [5] from 73 to 83 (fun q wx => Rows2 W1 wx q ((((((([0, x.o] ++ leb x.q) ++ leb x.t) ++ (leb x.r.size ++ bytesN x.r)) ++ leb x.l.length) ++ labsB x.l) ++ [x.s, x.p]) ++ leb (zig x.v)))
        case first =>
          refine wp_region_noPanic ?_
          refine wp_region_held_drew (S := (fun V => Below W1.heap.size W1 V)) (by kernel_rfl) ?_ (fun hHeld => ?_)
          · exact HR8.out.bl.trans (((Below.refl wr.heap.size wr).drew).mono HR8.out.bl.size)
          have HR0 := Lib.hid (HR8.out.call ((Below.refl wr.heap.size wr).drew))
          generalize hV0 : wr.drew = V0 at *
          clear hV0
          refine heldTake (i := 0) (v := ?_) rfl (by kernel_rfl) (by kernel_rfl) (by kernel_rfl) (fun _ _ _ h => h) (Or.inl ⟨by rfl, ?_⟩) (by assumption) ?_
          rotate_left
          · (intro w hSw; (try dsimp only at hSw); go_simp; try with_reducible rfl)
          try simp only [heldPut, List.set]
          refine heldTake (i := 1) (v := ?_) rfl (by kernel_rfl) (by kernel_rfl) (by kernel_rfl) (fun _ _ _ h => h) (Or.inl ⟨by rfl, ?_⟩) (by assumption) ?_
          rotate_left
          · (intro w hSw; (try dsimp only at hSw); go_simp; try with_reducible rfl)
          try simp only [heldPut, List.set]
          refine heldTake (i := 2) (v := ?_) rfl (by kernel_rfl) (by kernel_rfl) (by kernel_rfl) (fun _ _ _ h => h) (Or.inl ⟨by rfl, ?_⟩) (by assumption) ?_
          rotate_left
          · (intro w hSw; (try dsimp only at hSw); have k0 := cell_of_row _ _ 0 _ _ _ (HX.out _ hSw); have k1 := cell_of_row _ _ 1 _ _ _ (HX.out _ hSw); have k2 := cell_of_row _ _ 2 _ _ _ (HX.out _ hSw); have k3 := cell_of_row _ _ 3 _ _ _ (HX.out _ hSw); have k4 := cell_of_row _ _ 4 _ _ _ (HX.out _ hSw); have k5 := cell_of_row _ _ 5 _ _ _ (HX.out _ hSw); have k6 := cell_of_row _ _ 6 _ _ _ (HX.out _ hSw); have k7 := cell_of_row _ _ 7 _ _ _ (HX.out _ hSw); have k8 := cell_of_row _ _ 8 _ _ _ (HX.out _ hSw); clear hSw; simp at k0 k1 k2 k3 k4 k5 k6 k7 k8; go_simp; try with_reducible rfl)
          try simp only [heldPut, List.set]
          refine heldTake (i := 3) (v := ?_) rfl (by kernel_rfl) (by kernel_rfl) (by kernel_rfl) (fun _ _ _ h => h) (Or.inl ⟨by rfl, ?_⟩) (by assumption) ?_
          rotate_left
          · (intro w hSw; (try dsimp only at hSw); go_simp; try with_reducible rfl)
          try simp only [heldPut, List.set]
          refine heldTake (i := 4) (v := ?_) rfl (by kernel_rfl) (by kernel_rfl) (by kernel_rfl) (fun _ _ _ h => h) (Or.inl ⟨by rfl, ?_⟩) (by assumption) ?_
          rotate_left
          · (intro w hSw; (try dsimp only at hSw); have k0 := cell_of_row _ _ 0 _ _ _ (HX.out _ hSw); have k1 := cell_of_row _ _ 1 _ _ _ (HX.out _ hSw); have k2 := cell_of_row _ _ 2 _ _ _ (HX.out _ hSw); have k3 := cell_of_row _ _ 3 _ _ _ (HX.out _ hSw); have k4 := cell_of_row _ _ 4 _ _ _ (HX.out _ hSw); have k5 := cell_of_row _ _ 5 _ _ _ (HX.out _ hSw); have k6 := cell_of_row _ _ 6 _ _ _ (HX.out _ hSw); have k7 := cell_of_row _ _ 7 _ _ _ (HX.out _ hSw); have k8 := cell_of_row _ _ 8 _ _ _ (HX.out _ hSw); clear hSw; simp at k0 k1 k2 k3 k4 k5 k6 k7 k8; go_simp; try with_reducible rfl)
          try simp only [heldPut, List.set]
          refine heldTake (i := 7) (v := ?_) rfl (by kernel_rfl) (by kernel_rfl) (by kernel_rfl) (fun _ _ _ h => h) (Or.inl ⟨by rfl, ?_⟩) (by assumption) ?_
          rotate_left
          · (intro w hSw; (try dsimp only at hSw); go_simp; try with_reducible rfl)
          try simp only [heldPut, List.set]
          refine heldTake (i := 8) (v := ?_) rfl (by kernel_rfl) (by kernel_rfl) (by kernel_rfl) (fun _ _ _ h => h) (Or.inl ⟨by rfl, ?_⟩) (by assumption) ?_
          rotate_left
          · (intro w hSw; (try dsimp only at hSw); have k0 := cell_of_row _ _ 0 _ _ _ (HX.out _ hSw); have k1 := cell_of_row _ _ 1 _ _ _ (HX.out _ hSw); have k2 := cell_of_row _ _ 2 _ _ _ (HX.out _ hSw); have k3 := cell_of_row _ _ 3 _ _ _ (HX.out _ hSw); have k4 := cell_of_row _ _ 4 _ _ _ (HX.out _ hSw); have k5 := cell_of_row _ _ 5 _ _ _ (HX.out _ hSw); have k6 := cell_of_row _ _ 6 _ _ _ (HX.out _ hSw); have k7 := cell_of_row _ _ 7 _ _ _ (HX.out _ hSw); have k8 := cell_of_row _ _ 8 _ _ _ (HX.out _ hSw); clear hSw; simp at k0 k1 k2 k3 k4 k5 k6 k7 k8; go_simp; try with_reducible rfl)
          try simp only [heldPut, List.set]
          refine heldOne (i := 5) rfl (by kernel_rfl) (fun K hK => ?_)
          have hb : Below V0.heap.size V0 (V0.alloc (.cells #[.int .u8 x.s, .int .u8 x.p] 5)) := (Below.refl _ _).alloc (Nat.le_refl _) _
          have HR1 := Lib.hid (HR0.out.call hb)
          have HP5_1 := Lib.hid (Pend.made (s := [x.s, x.p]) HR0.out #[.int .u8 x.s, .int .u8 x.p] 2 rfl rfl (by decide))
          clear hb HR0
          go_simp
          refine hK.out _ _ ?_ (fun hHeld1 => ?_)
          · exact HR1.out.bl
          clear hK K hHeld
          try simp only [heldPut, List.set]
          generalize hV1 : (V0.alloc (.cells #[.int .u8 x.s, .int .u8 x.p] 5)) = V1 at *
          clear hV1
          refine heldOne (i := 6) rfl (by kernel_rfl) (fun K hK => ?_)
          refine step_row rfl _ _ rfl HR1.out HP5_1.out (rfl) rfl rfl (HU5.out) ?_
          intro v2 V2 hr hg hb
          have HR2 := Lib.hid hr
          clear hr hg hb HR1 HP5_1
          refine hK.out _ _ ?_ (fun hHeld2 => ?_)
          · exact HR2.out.bl
          clear hK K hHeld1
          try simp only [heldPut, List.set]
          refine heldOne (i := 9) rfl (by kernel_rfl) (fun K hK => ?_)
          go_simp
          refine (refInt_any x.v HV0.out HV1.out V2).mono ?_
          rintro e V3 ⟨u3, rfl, ho, hb⟩
          obtain ⟨A3, c3, rfl⟩ := ownB_slice ho
          have HR3 := Lib.hid (HR2.out.call hb)
          have HP9_3 := Lib.hid (Pend.new HR2.out ho (rfl))
          clear ho hb HR2
          go_wp2_with fail
          refine hK.out _ _ ?_ (fun hHeld3 => ?_)
          · exact HR3.out.bl
          clear hK K hHeld2
          try simp only [heldPut, List.set]
          refine heldOne (i := 10) rfl (by kernel_rfl) (fun K hK => ?_)
          refine step_row rfl _ _ rfl HR3.out HP9_3.out (rfl) rfl rfl (HU6.out) ?_
          intro v4 V4 hr hg hb
          have HR4 := Lib.hid hr
          clear hr hg hb HR3 HP9_3
          refine hK.out _ _ ?_ (fun hHeld4 => ?_)
          · exact HR4.out.bl
          clear hK K hHeld3
          try simp only [heldPut, List.set]
          refine heldTake (i := 11) (v := ?_) rfl (by kernel_rfl) (by kernel_rfl) (by kernel_rfl) (fun _ _ _ h => h) (Or.inl ⟨by rfl, ?_⟩) (by assumption) ?_
          rotate_left
          · (intro w hSw; (try dsimp only at hSw); go_simp; try with_reducible rfl)
          try simp only [heldPut, List.set]
          refine wpAnyH_done (by kernel_rfl) ?_ _
          refine NoPanic.normal ?_
          go_wp2_with fail
          go_meet
          exact HR4.out
        case rest =>
          have HR9 := Lib.hid hcut
          have hd := cell_of_row _ _ 8 _ _ _ (HX.out _ hcut.bl)
          simp at hd
          obtain ⟨V9, rfl⟩ : ∃ V, V = wc := ⟨_, rfl⟩
          have hb9 : Below V9.heap.size V9 (V9.alloc (.cells #[.int .u8 x.w] 5)) := (Below.refl _ _).alloc (Nat.le_refl _) _
          have HR10 := Lib.hid (HR9.out.call hb9)
          have HP10 := Lib.hid (Pend.made (s := [x.w]) HR9.out #[.int .u8 x.w] 1 rfl rfl (by decide))
          clear hcut HR8 hb9
          go_wp2_with (first | (refine wpList_row rfl _ _ rfl HR10.out HP10.out rfl rfl rfl HU7.out ?_; intro v11 V11 hr11 hg11 hb11; replace hr11 := Lib.hid hr11; clear hg11 hb11) | fail)
          go_ret
          have h := hr11.out
          rw [ev_bytes HG.out] at h
          exact ⟨_, rfl, ownB_mono h.ow HB1.out.size, HB1.out.trans (h.bl.mono HB1.out.size)⟩
theorem refBytes_any (x : It) (A : Option Addr) (n c : Nat) (hx : OkI x) (hs : ShortI x) (hn : n = x.l.length) (hm : n ≤ 1048576) (w : World) (hl : (itemB x).length ≤ 1999000) (hr : RdP w w.heap.size A x.l) :
    Calls Tryz.prog 14 #[.agg #[.bool x.g, .int .u8 x.o, .int .u64 x.q, .int .u64 x.t, .string x.r, .slice A n c, .int .u8 x.s, .int .u8 x.p, .int .i64 x.v, .int .u8 x.w, .int .u8 x.ga, .int .u64 x.gf, .int .u64 x.gt]] w fun e w' => ∃ v', e = .returned v' ∧ w'.ownsRow w.heap.size 5 1 v' (itemB x).length (cellsB (itemB x)) ∧ Below w.heap.size w w' := by
  cases hg : x.g with
  | true => have h := refBytes_gap x A n c hx hg w; rw [hg] at h; exact h
  | false => have h := refBytes_ev x A n c hx hs hn hm hg w hl hr; rw [hg] at h; exact h
end Go.Proofs.YtnagmopejblegaaGreat
