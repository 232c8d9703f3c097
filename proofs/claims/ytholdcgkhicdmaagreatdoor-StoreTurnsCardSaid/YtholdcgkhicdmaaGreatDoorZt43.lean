/- Several texts in one: StPt, StAk, StNx, StOe, StInv, StIn2, StIn3, StPre, StNon. -/
import Derived.Test.YtholdcgkhicdmaaGreatDoorZt42
namespace Go.Proofs.YtholdcgkhicdmaaGreatDoor
open Go.RowKit
theorem ent37 : ∀ args w, (callFunc 37 args).run Tryz.prog w = .ok (.enter 37 args) w := Go.Proofs.enters_of Tryz.func37 (by kernel_rfl) rfl
def PutPost (R R' : Rc) (x : It) : Prop :=
  R'.gd = R.gd ∧ R'.g = R.g ∧ R'.st = R.st ∧ R'.jb = R.jb ∧ R'.nm = R.nm ∧ R'.gen = R.gen ∧ R'.self = R.self ∧ R'.LL = putP R.LL R.nm ⟨(had R.LL R.nm).by_ ++ laidR (1 :: itemB x), (had R.LL R.nm).syn⟩ ∧ R'.ab = putA R.self R.ab x
set_option maxRecDepth 100000 in
set_option maxHeartbeats 4000000 in
theorem sto_put {P : Nat → Nat → Prop} {R : Rc} {n : Nat} (x : It) (A : Option Addr) (c : Nat) (w : World) (h : Sto w P R n) (hn : n ≤ 3000) (hx : Mod x) (hA : A = none → x.l.length = 0) (hl : Lb w P A x.l) (hB : (itemB x).length ≤ 19000) (hok : OkB (1 :: itemB x))
    (hh : ∀ i, i < 32 → R.X.h i ≤ 1099511627776) (hv : sumE R.L + (itemB (partI x R.X.h)).length ≤ R.X.q ∨ R.X.v + cntE R.L < 18446744073709551615) (hf : R.L.length < 100000) (hF : R.F.length ≤ 90000)
    (hvn : valueB R.nm = true) (hvs : R.nm.size ≤ maxLen) (hfew : findP R.LL R.nm = none → R.LL.length < 64) (hmax : (had R.LL R.nm).by_.length ≤ 100000) :
    Calls Tryz.prog 11 #[.pointer (some ⟨R.st, 0, none⟩), .agg (itC x A c).toArray] w fun e w' =>
      ((putV R.X (ers R.L) x).1 ≠ 0 ∧ e = .returned (.tuple #[.int .u64 0, .int .u64 0, .int .i64 (putV R.X (ers R.L) x).1]) ∧ Below w.heap.size w w') ∨
      ((putV R.X (ers R.L) x).1 = 0 ∧ e = .returned (.tuple #[.int .u64 (putV R.X (ers R.L) x).2.1, .int .u64 (putV R.X (ers R.L) x).2.2.1, .int .i64 0]) ∧ ∃ P' R', Sto w' P' R' (n + 1) ∧ Mv6 w P w' P' ∧ PutPost R R' x) := by
  obtain ⟨w0, hw0⟩ : ∃ V, V = w.alloc (.cells (itC x A c).toArray 47) := ⟨_, rfl⟩
  have hb0 : Below w.heap.size w w0 := by rw [hw0]; exact (Below.refl _ _).alloc (Nat.le_refl _) _
  have hbx0 : w0.heap[w.heap.size]? = some (.cells (itC x A c).toArray 47 (0, 0)) := by rw [hw0]; exact heap_alloc_new _ _
  have hl0 : w.heap.size < w0.heap.size := by rw [hw0]; simp
  have hs0 := h.below hb0
  have c7 : w0.cell? ⟨R.st, 7, none⟩ = some (.pointer (some ⟨R.sq, 0, none⟩)) := cell_of_row _ _ 7 _ _ _ hs0.blk
  have HSC := Lib.hid (scopy_any w0 hs0.sp)
  have hpv := fun A' c' => putV_of R.X R.L x A' c'
  obtain ⟨st, hst⟩ : ∃ z, z = R.st := ⟨_, rfl⟩
  rw [← hst] at c7 ⊢
  have HST := Lib.hid hst
  have HW0 := Lib.hid hw0
  have HS := Lib.hid h
  have HS0 := Lib.hid hs0
  have HB0 := Lib.hid hb0
  have HBX := Lib.hid hbx0
  have HX := Lib.hid hx
  have HL := Lib.hid hl
  have HA := Lib.hid hA
  have HPV := Lib.hid hpv
  have HH := Lib.hid hh
  have HV := Lib.hid hv
  have HFL := Lib.hid (⟨hvn, hvs, hfew, hmax, hok, hB⟩ : _ ∧ _ ∧ _ ∧ _ ∧ _ ∧ _)
  obtain ⟨p, hp⟩ : ∃ z, z = w.heap.size := ⟨_, rfl⟩
  have HP := Lib.hid hp
  clear hst hw0 h hs0 hb0 hbx0 hx hl hA hpv hh hv hvn hvs hfew hmax hok hB
  go_enter Tryz.func11, Tryz.ntmps11
  go_upto_region 1 with fail
  rw [← HW0.out, ← hp]
  rw [← hp] at HBX hl0
  clear hp HW0
  go_wp2_with fail
  refine HSC.out.mono ?_
  rintro _ w1 ⟨rfl, hb1, hsp1⟩
  obtain ⟨s2, hs2⟩ : ∃ z, z = w0.heap.size := ⟨_, rfl⟩
  rw [← hs2] at hsp1 ⊢
  have hbw1 : Below w.heap.size w w1 := HB0.out.trans (hb1.mono HB0.out.size)
  have hbx1 := (hb1.block p hl0).trans HBX.out
  have hput := put_new x A c w1 hsp1 HX.out.ok HX.out.sh HX.out.ln HX.out.lb HA.out ((HL.out.below hbw1).rd) HH.out HV.out hf
  have HPUT := Lib.hid hput
  have HBW1 := Lib.hid hbw1
  have HBX1 := Lib.hid hbx1
  have HS2 := Lib.hid hs2
  have hz01 : w0.heap.size ≤ w1.heap.size := hb1.size
  clear hb1 hsp1 hbw1 hbx1 hput hs2 HSC HBX c7
  go_wp2_with (first | (refine wpList_load_row rfl _ _ rfl p rfl _ _ _ _ HBX1.out Tryz.underlying47 rfl Tryz.infoIt ?_) | fail)
  refine HPUT.out.mono ?_
  rintro _ w2 ⟨A', c', rfl, hnew, S4, hs4, hst4⟩
  have hpvz := HPV.out A' c'
  obtain ⟨pz, hpz⟩ : ∃ z, z = putR R.X R.L x A' c' := ⟨_, rfl⟩
  rw [← hpz] at hs4 hpvz ⊢
  have hmem : ∀ e ∈ pz.2.2.2.2, ∀ a, e.A = some a → 0 < e.x.l.length → (∃ e0 ∈ R.L, e0.A = some a ∧ 0 < e0.x.l.length) ∨ w1.heap.size ≤ a.block := fun e he a ha h0 => by
    rw [hpz] at he
    rcases putR_mem he with h1 | h1 | ⟨h1, h2⟩
    · exact .inl ⟨e, h1, ha, h0⟩
    · rw [h1] at h0; exact absurd h0 (by simp)
    · rw [h1] at ha
      rw [h2] at h0
      exact .inr (hnew a ha h0)
  have hS4w : ∀ k, S4 k → w0.heap.size ≤ k := fun k hk => (hst4.new k hk).elim (fun h => by have := h.1; have := HS2.out; omega) (fun h => by omega)
  have hb2 : Below w.heap.size w w2 := HBW1.out.trans ⟨hst4.only.os, hst4.only.tape, hst4.only.output, hst4.only.size, fun k hk => hst4.only.block k (Nat.lt_of_lt_of_le hk HBW1.out.size) (fun h => by have := h.1; have := HS2.out; have := HB0.out.size; omega)⟩
  have hbx2 : w2.heap[p]? = some (.cells (itC x A c).toArray 47 (0, 0)) := (hst4.only.block p (by omega) (fun h => by have := h.1; have := HS2.out; omega)).trans HBX1.out
  have HMEM := Lib.hid hmem
  have HS4 := Lib.hid hs4
  have HS4W := Lib.hid hS4w
  have HB2 := Lib.hid hb2
  have HBX2 := Lib.hid hbx2
  have HPZ := Lib.hid hpvz
  have hl2 : p < w2.heap.size := (Array.getElem?_eq_some_iff.1 hbx2).1
  have hw02 : w0.heap.size ≤ w2.heap.size := Nat.le_trans hz01 hst4.only.size
  clear hnew hs4 hst4 hpvz hpz hmem hS4w hb2 hbx2 HPUT HPV
  obtain ⟨z, hz⟩ : ∃ z, z = pz.1 := ⟨_, rfl⟩
  obtain ⟨ix, hix⟩ : ∃ z, z = pz.2.1 := ⟨_, rfl⟩
  obtain ⟨fr, hfr⟩ : ∃ z, z = pz.2.2.1 := ⟨_, rfl⟩
  rw [← hz, ← hix, ← hfr]
  have HZ : Hid ((putV R.X (ers R.L) x).1 = z ∧ (putV R.X (ers R.L) x).2.1 = ix ∧ (putV R.X (ers R.L) x).2.2.1 = fr ∧ (putV R.X (ers R.L) x).2.2.2.1 = pz.2.2.2.1 ∧ (putV R.X (ers R.L) x).2.2.2.2 = ers pz.2.2.2.2) := by
    have h := HPZ.out
    rw [h, hz, hix, hfr]
    exact ⟨rfl, rfl, rfl, rfl, rfl⟩
  clear hz hix hfr
  by_cases hz0 : z = 0
  rotate_left
  · have d1 : ((z : Int) != 0) = true := by rw [bne_iff_ne]; omega
    go_wp2
    go_ret3
    refine .inl ⟨by rw [HZ.out.1]; exact hz0, by rw [HZ.out.1]; rfl, ?_⟩
    exact HB2.out
  · subst hz0
    have h2 := HS.out.below HB2.out
    have hlb2 := HL.out.below HB2.out
    have hpw : p = w.heap.size := HP.out
    have hw := write_any 1 37 ent37 ⟨p, 0, none⟩ (itemB x) w2 h2 hn (by have := HFL.out.2.2.2.2.2; omega) HFL.out.2.2.2.2.1 (fun g v w' hb hg hw => by
      have hlb' := hlb2.below hb
      have hr : LabAt w' g v.ownBlock A x.l := by
        intro h0
        obtain ⟨b, o, e, hb', hc'⟩ := (HL.out.rd.below (HB2.out.trans (hb.mono HB2.out.size))) h0
        have hzz := HB2.out.size
        exact ⟨b, o, e, by have := hb.size; omega, by omega, fun e => by have := hw.ne b e.symm; omega, hc'⟩
      exact fill_put x A c HX.out p g v [1] w' ((hb.block p hl2).trans HBX2.out) hw (by simp) hr) HFL.out.1 HFL.out.2.1 HFL.out.2.2.1 (by have := HFL.out.2.2.2.1; have := HFL.out.2.2.2.2.2; omega)
    have HW := Lib.hid hw
    rw [← HST.out] at HW
    clear h2 hlb2 hw hpw
    go_wp2_with fail
    refine HW.out.mono ?_
    rintro _ w3 ⟨rfl, P3, hs3, hm3⟩
    rw [HST.out] at hs3
    have hm3' := mv_below HB2.out hm3
    have hP3 : ∀ i k, P3 i k → k < w.heap.size ∨ w2.heap.size ≤ k := fun i k hk => (hm3.new i k hk).imp (fun ⟨j, hj⟩ => HS.out.own.lt j k hj) id
    have hsp3 := HS4.out.keep hm3.only (fun k hk ⟨i, hi⟩ => by have := HS.out.own.lt i k hi; have := HS4W.out k hk; have := HB0.out.size; omega) (fun e he a ha h0 ⟨i, hi⟩ => by
      rcases HMEM.out e he a ha h0 with ⟨e0, he0, ha0, h00⟩ | h1
      · exact HS.out.lab e0 he0 a ha0 h00 i hi
      · have := HS.out.own.lt i _ hi; have := HB0.out.size; omega)
    have hS4l := HS4.out.lt
    obtain ⟨hs4, hm4⟩ := hs3.queue hm3' hsp3 (fun k hk => by have := HS4W.out k hk; have := HB0.out.size; omega) (fun k i hk hi => by
      have h1 := HS4W.out k hk
      have h2 := hS4l k hk
      have := HB0.out.size
      rcases hP3 i k hi with h | h <;> omega) (fun e he a ha h0 i hi => by
      have hlt := rdP_lt (HS4.out.ent e he).rd ha h0
      rcases HMEM.out e he a ha h0 with ⟨e0, he0, ha0, h00⟩ | h1
      · have h3 := rdP_lt (HS.out.sp.ent e0 he0).rd ha0 h00
        rcases hm3'.new i _ hi with ⟨j, hj⟩ | h
        · exact HS.out.lab e0 he0 a ha0 h00 j hj
        · omega
      · have := HB0.out.size
        rcases hP3 i _ hi with h | h <;> omega) (fun e he a ha h0 hk => by
      have h3 := rdP_lt (HS.out.fok e he).lb.rd ha h0
      have := HS4W.out _ hk
      have := HB0.out.size
      omega)
    have hlb3 := HL.out.mv hm4
    have c7 : w3.cell? ⟨R.st, 7, none⟩ = some (.pointer (some ⟨R.sq, 0, none⟩)) := cell_of_row _ _ 7 _ _ _ hs3.blk
    have f7 : w3.frozen? ⟨R.st, 7, none⟩ = false := frozen_of_row _ _ 7 _ _ hs3.blk
    have hstP : P 2 R.st := HS.out.p2
    have hbx3 : w3.heap[p]? = some (.cells (itC x A c).toArray 47 (0, 0)) := (hm3.only.block p hl2 (fun ⟨i, hi⟩ => by have := HS.out.own.lt i p hi; have := HP.out; omega)).trans HBX2.out
    have hbx4 : (w3.setCell ⟨R.st, 7, none⟩ (.pointer (some ⟨s2, 0, none⟩))).heap[p]? = some (.cells (itC x A c).toArray 47 (0, 0)) := (heap_setCell_other _ _ _ _ (fun e => by have e : p = R.st := e; have := HS.out.own.lt 2 _ hstP; have := HP.out; omega)).trans hbx3
    obtain ⟨w4, hw4⟩ : ∃ V, V = w3.setCell ⟨R.st, 7, none⟩ (.pointer (some ⟨s2, 0, none⟩)) := ⟨_, rfl⟩
    rw [← hw4] at hs4 hm4 hlb3 hbx4
    have hnote := note_any x A c w4 hs4 HX.out HA.out hlb3 hF
    have hnote : Calls Tryz.prog 39 #[.pointer (some ⟨R.st, 0, none⟩), .agg (itC x A c).toArray] w4 fun e w' => e = .returned (.tuple #[]) ∧ ∃ P' R', Sto w' P' R' (n + 1) ∧ Mv6 w4 (upd P3 4 S4) w' P' ∧ PutPost R R' x := by
      refine hnote.mono ?_
      rintro _ w' ⟨rfl, P', v, F, q1, q2, q3⟩
      refine ⟨rfl, P', _, q1, q3, rfl, rfl, rfl, rfl, rfl, rfl, rfl, rfl, ?_⟩
      unfold putA Rc.ab
      simp only
      rw [HZ.out.2.2.2.1, HZ.out.2.2.2.2, q2]
    rw [← HST.out] at c7 f7 hw4 hnote
    have HNOTE := Lib.hid hnote
    have HM4 := Lib.hid hm4
    have HBX4 := Lib.hid hbx4
    clear hs3 hm3 hm3' hP3 hsp3 hS4l hs4 hm4 hlb3 hbx3 hbx4 hnote hstP HW HBX2 HBX1 HS4 HS4W HMEM
    go_upto_region 11 with fail
    rw [← hw4]
    clear hw4 c7 f7
    go_wp2_with (first | (refine wpList_load_row rfl _ _ rfl p rfl _ _ _ _ HBX4.out Tryz.underlying47 rfl Tryz.infoIt ?_) | fail)
    refine HNOTE.out.mono ?_
    rintro _ w5 ⟨rfl, P5, R5, q1, q2, q3⟩
    have HQ := Lib.hid (⟨q1, HM4.out.trans q2, q3⟩ : _ ∧ _ ∧ _)
    clear q1 q2 q3 HNOTE HM4 HBX4
    go_wp2
    go_ret3
    exact .inr ⟨HZ.out.1, by rw [HZ.out.2.1, HZ.out.2.2.1]; rfl, P5, R5, HQ.out.1, HQ.out.2.1, HQ.out.2.2⟩
theorem ent47 : ∀ args w, (callFunc 47 args).run Tryz.prog w = .ok (.enter 47 args) w := Go.Proofs.enters_of Tryz.func47 (by kernel_rfl) rfl
def AckPost (R R' : Rc) (N : Nat) : Prop :=
  R'.gd = R.gd ∧ R'.g = R.g ∧ R'.st = R.st ∧ R'.jb = R.jb ∧ R'.nm = R.nm ∧ R'.gen = R.gen ∧ R'.self = R.self ∧ R'.LL = putP R.LL R.nm ⟨(had R.LL R.nm).by_ ++ laidR (2 :: leb N), (had R.LL R.nm).syn⟩ ∧ R'.ab = ackA R.ab N
set_option maxRecDepth 100000 in
set_option maxHeartbeats 4000000 in
theorem sto_ack {P : Nat → Nat → Prop} {R : Rc} {n : Nat} (N : Nat) (hN : N < 18446744073709551616) (w : World) (h : Sto w P R n) (hn : n ≤ 3000) (hri : RiseE R.L)
    (hvn : valueB R.nm = true) (hvs : R.nm.size ≤ maxLen) (hfew : findP R.LL R.nm = none → R.LL.length < 64) (hmax : (had R.LL R.nm).by_.length ≤ 100000) :
    Calls Tryz.prog 19 #[.pointer (some ⟨R.st, 0, none⟩), .int .u64 N] w fun e w' =>
      (ackE R.X N ≠ 0 ∧ e = .returned (.int .i64 (ackE R.X N)) ∧ Below w.heap.size w w') ∨
      (ackE R.X N = 0 ∧ e = .returned (.int .i64 0) ∧ ∃ P' R', Sto w' P' R' (n + 1) ∧ Mv6 w P w' P' ∧ AckPost R R' N) := by
  obtain ⟨w0, hw0⟩ : ∃ V, V = w.alloc (.cells #[.int .u64 N] 34) := ⟨_, rfl⟩
  have hb0 : Below w.heap.size w w0 := by rw [hw0]; exact (Below.refl _ _).alloc (Nat.le_refl _) _
  have hbx0 : w0.cell? ⟨w.heap.size, 0, none⟩ = some (.int .u64 N) := by rw [hw0, World.cell?_alloc_at _ _ _ _ rfl]; rfl
  have hl0 : w.heap.size < w0.heap.size := by rw [hw0]; simp
  have hs0 := h.below hb0
  have c7 : w0.cell? ⟨R.st, 7, none⟩ = some (.pointer (some ⟨R.sq, 0, none⟩)) := cell_of_row _ _ 7 _ _ _ hs0.blk
  have HSC := Lib.hid (scopy_any w0 hs0.sp)
  obtain ⟨st, hst⟩ : ∃ z, z = R.st := ⟨_, rfl⟩
  rw [← hst] at c7 ⊢
  have HST := Lib.hid hst
  have HW0 := Lib.hid hw0
  have HS := Lib.hid h
  have HB0 := Lib.hid hb0
  have HBX := Lib.hid hbx0
  have HRI := Lib.hid hri
  have HFL := Lib.hid (⟨hvn, hvs, hfew, hmax⟩ : _ ∧ _ ∧ _ ∧ _)
  obtain ⟨p, hp⟩ : ∃ z, z = w.heap.size := ⟨_, rfl⟩
  have HP := Lib.hid hp
  clear hst hw0 h hs0 hb0 hbx0 hri hvn hvs hfew hmax
  go_enter Tryz.func19, Tryz.ntmps19
  go_upto_region 1 with fail
  rw [← HW0.out, ← hp]
  rw [← hp] at HBX hl0
  clear hp HW0
  go_wp2_with fail
  refine HSC.out.mono ?_
  rintro _ w1 ⟨rfl, hb1, hsp1⟩
  obtain ⟨s2, hs2⟩ : ∃ z, z = w0.heap.size := ⟨_, rfl⟩
  rw [← hs2] at hsp1 ⊢
  have hbw1 : Below w.heap.size w w1 := HB0.out.trans (hb1.mono HB0.out.size)
  have cp : w1.cell? ⟨p, 0, none⟩ = some (.int .u64 N) := (hb1.cell (p := ⟨p, 0, none⟩) hl0).trans HBX.out
  have HACK := Lib.hid (ack_new (N := N) w1 hsp1 HRI.out)
  have HBW1 := Lib.hid hbw1
  have HS2 := Lib.hid hs2
  have hz01 : w0.heap.size ≤ w1.heap.size := hb1.size
  clear hb1 hsp1 hbw1 hs2 HSC HBX c7
  go_wp2_with fail
  refine HACK.out.mono ?_
  rintro _ w2 ⟨rfl, hs4, hst4⟩
  obtain ⟨S4, hS4⟩ : ∃ z : Nat → Prop, z = fun k => s2 ≤ k ∧ k < w1.heap.size := ⟨_, rfl⟩
  have hmem : ∀ e ∈ ackK R.X R.L N, ∀ a, e.A = some a → 0 < e.x.l.length → ∃ e0 ∈ R.L, e0.A = some a ∧ 0 < e0.x.l.length := fun e he a ha h0 => ⟨e, ackK_mem he, ha, h0⟩
  have hS4w : ∀ k, S4 k → w0.heap.size ≤ k := fun k hk => by rw [hS4] at hk; have := hk.1; have := HS2.out; omega
  rw [← hS4] at hs4 hst4
  have hb2 : Below w.heap.size w w2 := HBW1.out.trans ⟨hst4.only.os, hst4.only.tape, hst4.only.output, hst4.only.size, fun k hk => hst4.only.block k (Nat.lt_of_lt_of_le hk HBW1.out.size) (fun h => by have := hS4w k h; have := HB0.out.size; omega)⟩
  have cp2 : w2.cell? ⟨p, 0, none⟩ = some (.int .u64 N) := (hst4.only.cell (p := ⟨p, 0, none⟩) (by show p < _; omega) (fun h => by have h : S4 p := h; have := hS4w p h; omega)).trans cp
  have hl2 : p < w2.heap.size := by have := hst4.only.size; omega
  have HMEM := Lib.hid hmem
  have HS4 := Lib.hid hs4
  have HS4W := Lib.hid hS4w
  have HB2 := Lib.hid hb2
  clear hs4 hst4 hmem hS4w hb2 hS4 cp HACK
  obtain ⟨z, hz⟩ : ∃ z, z = ackE R.X N := ⟨_, rfl⟩
  rw [← hz]
  have HZ := Lib.hid hz
  clear hz
  by_cases hz0 : z = 0
  rotate_left
  · have d1 : ((z : Int) != 0) = true := by rw [bne_iff_ne]; omega
    go_wp2
    go_ret
    exact .inl ⟨by rw [← HZ.out]; exact hz0, by rw [← HZ.out]; rfl, HB2.out⟩
  · subst hz0
    have h2 := HS.out.below HB2.out
    have hlN := leb_le10 hN
    have hw := write_any 2 47 ent47 ⟨p, 0, none⟩ (leb N) w2 h2 hn (by omega) (fun x hx => by
        rcases List.mem_cons.1 hx with rfl | hx
        · decide
        · exact leb_bytes hN x hx) (fun g v w' hb hg hw => fill_ack N hN p g v [2] w' ((hb.cell (p := ⟨p, 0, none⟩) hl2).trans cp2) hw (by simp)) HFL.out.1 HFL.out.2.1 HFL.out.2.2.1 (by have := HFL.out.2.2.2; omega)
    have HW := Lib.hid hw
    rw [← HST.out] at HW
    clear h2 hw hlN
    go_wp2_with fail
    refine HW.out.mono ?_
    rintro _ w3 ⟨rfl, P3, hs3, hm3⟩
    rw [HST.out] at hs3
    have hm3' := mv_below HB2.out hm3
    have hP3 : ∀ i k, P3 i k → k < w.heap.size ∨ w2.heap.size ≤ k := fun i k hk => (hm3.new i k hk).imp (fun ⟨j, hj⟩ => HS.out.own.lt j k hj) id
    have hsp3 := HS4.out.keep hm3.only (fun k hk ⟨i, hi⟩ => by have := HS.out.own.lt i k hi; have := HS4W.out k hk; have := HB0.out.size; omega) (fun e he a ha h0 ⟨i, hi⟩ => by
      obtain ⟨e0, he0, ha0, h00⟩ := HMEM.out e he a ha h0
      exact HS.out.lab e0 he0 a ha0 h00 i hi)
    have hS4l := HS4.out.lt
    obtain ⟨hs4, hm4⟩ := hs3.queue hm3' hsp3 (fun k hk => by have := HS4W.out k hk; have := HB0.out.size; omega) (fun k i hk hi => by
      have h1 := HS4W.out k hk
      have h2 := hS4l k hk
      have := HB0.out.size
      rcases hP3 i k hi with h | h <;> omega) (fun e he a ha h0 i hi => by
      obtain ⟨e0, he0, ha0, h00⟩ := HMEM.out e he a ha h0
      have h3 := rdP_lt (HS.out.sp.ent e0 he0).rd ha0 h00
      rcases hm3'.new i _ hi with ⟨j, hj⟩ | h
      · exact HS.out.lab e0 he0 a ha0 h00 j hj
      · omega) (fun e he a ha h0 hk => by
      have h3 := rdP_lt (HS.out.fok e he).lb.rd ha h0
      have := HS4W.out _ hk
      have := HB0.out.size
      omega)
    have c7 : w3.cell? ⟨R.st, 7, none⟩ = some (.pointer (some ⟨R.sq, 0, none⟩)) := cell_of_row _ _ 7 _ _ _ hs3.blk
    have f7 : w3.frozen? ⟨R.st, 7, none⟩ = false := frozen_of_row _ _ 7 _ _ hs3.blk
    rw [← HST.out] at c7 f7
    have HQ : Hid (∃ P' R', Sto (w3.setCell ⟨st, 7, none⟩ (.pointer (some ⟨s2, 0, none⟩))) P' R' (n + 1) ∧ Mv6 w P (w3.setCell ⟨st, 7, none⟩ (.pointer (some ⟨s2, 0, none⟩))) P' ∧ AckPost R R' N) := by
      rw [HST.out]
      refine ⟨_, _, hs4, hm4, rfl, rfl, rfl, rfl, rfl, rfl, rfl, rfl, ?_⟩
      unfold ackA Rc.ab
      simp only
      rw [ackK_ers]
    clear hs3 hm3 hm3' hP3 hsp3 hS4l hs4 hm4 HW HS4 HS4W HMEM cp2
    go_wp2
    go_ret
    exact .inr ⟨HZ.out.symm, rfl, HQ.out⟩
set_option maxRecDepth 100000 in
set_option maxHeartbeats 1000000 in
theorem sto_life {P : Nat → Nat → Prop} {R : Rc} {n : Nat} (w : World) (h : Sto w P R n) :
    Calls Tryz.prog 22 #[.pointer (some ⟨R.st, 0, none⟩)] w fun e w' => e = .returned (.int .u64 R.life) ∧ w = w' := by
  have c6 : w.cell? ⟨R.st, 6, none⟩ = some (.int .u64 R.life) := cell_of_row _ _ 6 _ _ _ h.blk
  clear h
  go_enter Tryz.func22, Tryz.ntmps22
  go_wp2
  go_ret
  exact ⟨rfl, rfl⟩
set_option maxRecDepth 100000 in
set_option maxHeartbeats 1000000 in
theorem sto_sizes {P : Nat → Nat → Prop} {R : Rc} {n : Nat} {f : Fl} (w : World) (h : Sto w P R n) (hs : R.nm.size ≤ maxLen) (hf : findP R.LL R.nm = some f) :
    Calls Tryz.prog 14 #[.pointer (some ⟨R.st, 0, none⟩)] w fun e w' => e = .returned (.tuple #[.int .i64 f.by_.length, .int .u64 R.gen]) ∧ Below w.heap.size w w' := by
  have HC : Hid (∀ W, Below w.heap.size w W → W.cell? ⟨R.st, 2, none⟩ = some (.pointer (some ⟨R.jb, 0, none⟩)) ∧ W.cell? ⟨R.st, 3, none⟩ = some (.int .u64 R.gen)) := fun W hW => ⟨cell_of_row _ _ 2 _ _ _ (h.below hW).blk, cell_of_row _ _ 3 _ _ _ (h.below hW).blk⟩
  have HZ := Lib.hid (sto_jsize (h.below ((Below.refl _ _).drew)) hs hf)
  obtain ⟨st, hst⟩ : ∃ z, z = R.st := ⟨_, rfl⟩
  rw [← hst] at HC ⊢
  clear h hst
  go_enter Tryz.func14, Tryz.ntmps14
  go_upto_region 3 with fail
  refine wp_region_noPanic ?_
  refine wp_region_held_drew (S := fun W => W.cell? ⟨st, 2, none⟩ = some (.pointer (some ⟨R.jb, 0, none⟩)) ∧ W.cell? ⟨st, 3, none⟩ = some (.int .u64 R.gen)) (by kernel_rfl) ?_ (fun hHeld => ?_)
  · exact HC.out _ ((Below.refl _ _).drew)
  try simp only [heldPut, List.set]
  refine heldTake (i := 0) (v := ?_) rfl (by kernel_rfl) (by kernel_rfl) (by kernel_rfl) (fun _ _ _ h => h) (Or.inl ⟨by rfl, ?_⟩) (by assumption) ?_
  rotate_left
  · (intro W hSw; (try dsimp only at hSw); obtain ⟨f1, f2⟩ := hSw; go_simp; try with_reducible rfl)
  try simp only [heldPut, List.set]
  refine heldTake (i := 1) (v := ?_) rfl (by kernel_rfl) (by kernel_rfl) (by kernel_rfl) (fun _ _ _ h => h) (Or.inl ⟨by rfl, ?_⟩) (by assumption) ?_
  rotate_left
  · (intro W hSw; (try dsimp only at hSw); obtain ⟨f1, f2⟩ := hSw; go_simp; try with_reducible rfl)
  try simp only [heldPut, List.set]
  refine heldTake (i := 2) (v := ?_) rfl (by kernel_rfl) (by kernel_rfl) (by kernel_rfl) (fun _ _ _ h => h) (Or.inl ⟨by rfl, ?_⟩) (by assumption) ?_
  rotate_left
  · (intro W hSw; (try dsimp only at hSw); obtain ⟨f1, f2⟩ := hSw; go_simp; try with_reducible rfl)
  try simp only [heldPut, List.set]
  refine heldTake (i := 3) (v := ?_) rfl (by kernel_rfl) (by kernel_rfl) (by kernel_rfl) (fun _ _ _ h => h) (Or.inl ⟨by rfl, ?_⟩) (by assumption) ?_
  rotate_left
  · (intro W hSw; (try dsimp only at hSw); obtain ⟨f1, f2⟩ := hSw; go_simp; try with_reducible rfl)
  try simp only [heldPut, List.set]
  refine heldTake (i := 5) (v := ?_) rfl (by kernel_rfl) (by kernel_rfl) (by kernel_rfl) (fun _ _ _ h => h) (Or.inl ⟨by rfl, ?_⟩) (by assumption) ?_
  rotate_left
  · (intro W hSw; (try dsimp only at hSw); obtain ⟨f1, f2⟩ := hSw; go_simp; try with_reducible rfl)
  try simp only [heldPut, List.set]
  refine heldTake (i := 6) (v := ?_) rfl (by kernel_rfl) (by kernel_rfl) (by kernel_rfl) (fun _ _ _ h => h) (Or.inl ⟨by rfl, ?_⟩) (by assumption) ?_
  rotate_left
  · (intro W hSw; (try dsimp only at hSw); obtain ⟨f1, f2⟩ := hSw; go_simp; try with_reducible rfl)
  try simp only [heldPut, List.set]
  refine heldTake (i := 7) (v := ?_) rfl (by kernel_rfl) (by kernel_rfl) (by kernel_rfl) (fun _ _ _ h => h) (Or.inl ⟨by rfl, ?_⟩) (by assumption) ?_
  rotate_left
  · (intro W hSw; (try dsimp only at hSw); obtain ⟨f1, f2⟩ := hSw; go_simp; try with_reducible rfl)
  try simp only [heldPut, List.set]
  refine heldTake (i := 8) (v := ?_) rfl (by kernel_rfl) (by kernel_rfl) (by kernel_rfl) (fun _ _ _ h => h) (Or.inl ⟨by rfl, ?_⟩) (by assumption) ?_
  rotate_left
  · (intro W hSw; (try dsimp only at hSw); obtain ⟨f1, f2⟩ := hSw; go_simp; try with_reducible rfl)
  try simp only [heldPut, List.set]
  refine heldOne (i := 4) rfl (by kernel_rfl) (fun K hK => ?_)
  go_simp
  refine HZ.out.mono ?_
  rintro _ w1 ⟨rfl, hb1⟩
  have HB : Hid (Below w.heap.size w w1) := ((Below.refl _ _).drew : Below w.heap.size w w.drew).trans hb1
  clear hb1
  go_wp2_with fail
  refine hK.out _ _ ?_ (fun hHeld => ?_)
  · exact HC.out _ HB.out
  clear hK K
  try simp only [heldPut, List.set]
  refine heldTake (i := 9) (v := ?_) rfl (by kernel_rfl) (by kernel_rfl) (by kernel_rfl) (fun _ _ _ h => h) (Or.inl ⟨by rfl, ?_⟩) (by assumption) ?_
  rotate_left
  · (intro W hSw; (try dsimp only at hSw); go_simp; try with_reducible rfl)
  try simp only [heldPut, List.set]
  refine heldTake (i := 10) (v := ?_) rfl (by kernel_rfl) (by kernel_rfl) (by kernel_rfl) (fun _ _ _ h => h) (Or.inl ⟨by rfl, ?_⟩) (by assumption) ?_
  rotate_left
  · (intro W hSw; (try dsimp only at hSw); go_simp; try with_reducible rfl)
  try simp only [heldPut, List.set]
  refine wpAnyH_done (by kernel_rfl) ?_ _
  refine NoPanic.normal ?_
  go_wp2
  go_ret2
  exact ⟨rfl, HB.out⟩
set_option maxRecDepth 100000 in
set_option maxHeartbeats 1000000 in
theorem sto_next {P : Nat → Nat → Prop} {R : Rc} {n : Nat} (w : World) (h : Sto w P R n) (hs : R.self < 32) (hh : R.X.h R.self < 18446744073709551615) :
    Calls Tryz.prog 10 #[.pointer (some ⟨R.st, 0, none⟩)] w fun e w' => e = .returned (.int .u64 ((R.X.h R.self + 1 : Nat) : Int)) ∧ Below w.heap.size w w' := by
  have HC : Hid (∀ W, Below w.heap.size w W → W.cell? ⟨R.st, 5, none⟩ = some (.int .u8 R.self) ∧ W.cell? ⟨R.st, 7, none⟩ = some (.pointer (some ⟨R.sq, 0, none⟩))) := fun W hW => ⟨cell_of_row _ _ 5 _ _ _ (h.below hW).blk, cell_of_row _ _ 7 _ _ _ (h.below hW).blk⟩
  have HH := Lib.hid (high_any R.self hs w.drew (h.sp.below ((Below.refl _ _).drew)))
  obtain ⟨st, hst⟩ : ∃ z, z = R.st := ⟨_, rfl⟩
  obtain ⟨hi, hhi⟩ : ∃ z, z = R.X.h R.self := ⟨_, rfl⟩
  rw [← hst] at HC ⊢
  rw [← hhi] at HH hh ⊢
  have hw : IntKind.u64.wrap ((hi : Int) + 1) = ((hi + 1 : Nat) : Int) := by rw [IntKind.wrap_u64]; omega
  clear h hst hhi
  go_enter Tryz.func10, Tryz.ntmps10
  go_upto_region 3 with fail
  refine wp_region_noPanic ?_
  refine wp_region_held_drew (S := fun W => W.cell? ⟨st, 5, none⟩ = some (.int .u8 R.self) ∧ W.cell? ⟨st, 7, none⟩ = some (.pointer (some ⟨R.sq, 0, none⟩))) (by kernel_rfl) ?_ (fun hHeld => ?_)
  · exact HC.out _ ((Below.refl _ _).drew)
  try simp only [heldPut, List.set]
  refine heldTake (i := 0) (v := ?_) rfl (by kernel_rfl) (by kernel_rfl) (by kernel_rfl) (fun _ _ _ h => h) (Or.inl ⟨by rfl, ?_⟩) (by assumption) ?_
  rotate_left
  · (intro W hSw; (try dsimp only at hSw); obtain ⟨f1, f2⟩ := hSw; go_simp; try with_reducible rfl)
  try simp only [heldPut, List.set]
  refine heldTake (i := 1) (v := ?_) rfl (by kernel_rfl) (by kernel_rfl) (by kernel_rfl) (fun _ _ _ h => h) (Or.inl ⟨by rfl, ?_⟩) (by assumption) ?_
  rotate_left
  · (intro W hSw; (try dsimp only at hSw); obtain ⟨f1, f2⟩ := hSw; go_simp; try with_reducible rfl)
  try simp only [heldPut, List.set]
  refine heldTake (i := 2) (v := ?_) rfl (by kernel_rfl) (by kernel_rfl) (by kernel_rfl) (fun _ _ _ h => h) (Or.inl ⟨by rfl, ?_⟩) (by assumption) ?_
  rotate_left
  · (intro W hSw; (try dsimp only at hSw); obtain ⟨f1, f2⟩ := hSw; go_simp; try with_reducible rfl)
  try simp only [heldPut, List.set]
  refine heldTake (i := 3) (v := ?_) rfl (by kernel_rfl) (by kernel_rfl) (by kernel_rfl) (fun _ _ _ h => h) (Or.inl ⟨by rfl, ?_⟩) (by assumption) ?_
  rotate_left
  · (intro W hSw; (try dsimp only at hSw); obtain ⟨f1, f2⟩ := hSw; go_simp; try with_reducible rfl)
  try simp only [heldPut, List.set]
  refine heldTake (i := 4) (v := ?_) rfl (by kernel_rfl) (by kernel_rfl) (by kernel_rfl) (fun _ _ _ h => h) (Or.inl ⟨by rfl, ?_⟩) (by assumption) ?_
  rotate_left
  · (intro W hSw; (try dsimp only at hSw); obtain ⟨f1, f2⟩ := hSw; go_simp; try with_reducible rfl)
  try simp only [heldPut, List.set]
  refine heldTake (i := 5) (v := ?_) rfl (by kernel_rfl) (by kernel_rfl) (by kernel_rfl) (fun _ _ _ h => h) (Or.inl ⟨by rfl, ?_⟩) (by assumption) ?_
  rotate_left
  · (intro W hSw; (try dsimp only at hSw); obtain ⟨f1, f2⟩ := hSw; go_simp; try with_reducible rfl)
  try simp only [heldPut, List.set]
  refine heldTake (i := 6) (v := ?_) rfl (by kernel_rfl) (by kernel_rfl) (by kernel_rfl) (fun _ _ _ h => h) (Or.inl ⟨by rfl, ?_⟩) (by assumption) ?_
  rotate_left
  · (intro W hSw; (try dsimp only at hSw); obtain ⟨f1, f2⟩ := hSw; go_simp; try with_reducible rfl)
  try simp only [heldPut, List.set]
  refine heldTake (i := 7) (v := ?_) rfl (by kernel_rfl) (by kernel_rfl) (by kernel_rfl) (fun _ _ _ h => h) (Or.inl ⟨by rfl, ?_⟩) (by assumption) ?_
  rotate_left
  · (intro W hSw; (try dsimp only at hSw); obtain ⟨f1, f2⟩ := hSw; go_simp; try with_reducible rfl)
  try simp only [heldPut, List.set]
  refine heldOne (i := 8) rfl (by kernel_rfl) (fun K hK => ?_)
  go_simp
  refine HH.out.mono ?_
  rintro _ w1 ⟨rfl, rfl⟩
  go_wp2_with fail
  refine hK.out _ _ ?_ (fun hHeld => ?_)
  · exact HC.out _ ((Below.refl _ _).drew)
  clear hK K
  try simp only [heldPut, List.set]
  refine heldTake (i := 9) (v := ?_) rfl (by kernel_rfl) (by kernel_rfl) (by kernel_rfl) (fun _ _ _ h => h) (Or.inl ⟨by rfl, ?_⟩) (by assumption) ?_
  rotate_left
  · (intro W hSw; (try dsimp only at hSw); go_simp; try with_reducible rfl)
  try simp only [heldPut, List.set]
  refine heldTake (i := 10) (v := ?_) rfl (by kernel_rfl) (by kernel_rfl) (by kernel_rfl) (fun _ _ _ h => h) (Or.inl ⟨by rfl, ?_⟩) (by assumption) ?_
  rotate_left
  · (intro W hSw; (try dsimp only at hSw); go_simp; try with_reducible rfl)
  try simp only [heldPut, List.set]
  refine wpAnyH_done (by kernel_rfl) ?_ _
  refine NoPanic.normal ?_
  go_wp2
  go_ret
  exact ⟨rfl, (Below.refl _ _).drew⟩
theorem sto_spool {P : Nat → Nat → Prop} {R : Rc} {n : Nat} (w : World) (h : Sto w P R n) :
    Calls Tryz.prog 17 #[.pointer (some ⟨R.st, 0, none⟩)] w fun e w' => ∃ s S, e = .returned (.pointer (some ⟨s, 0, none⟩)) ∧ SpAt w' S s R.X R.L ∧ (∀ k, S k → w.heap.size ≤ k) ∧ Below w.heap.size w w' := by
  have c7 : w.cell? ⟨R.st, 7, none⟩ = some (.pointer (some ⟨R.sq, 0, none⟩)) := cell_of_row _ _ 7 _ _ _ h.blk
  have HC := Lib.hid (scopy_any w h.sp)
  clear h
  go_enter Tryz.func17, Tryz.ntmps17
  go_wp2_with fail
  refine HC.out.mono ?_
  rintro _ w1 ⟨rfl, hb, hs⟩
  have HQ := Lib.hid (⟨hs, hb⟩ : _ ∧ _)
  clear hs hb HC
  go_wp2
  go_ret
  exact ⟨_, _, rfl, HQ.out.1, fun k hk => hk.1, HQ.out.2⟩
section
variable {q B : Nat} {a : Ab}
end
section
variable {q B : Nat} {a a' : Ab} {c : List Nat}
end
def laidN (cs : List (List Nat)) : Nat := (cs.map fun c => c.length + 8).sum
theorem laidN_take {cs : List (List Nat)} {j : Nat} {c : List Nat} (h : cs[j]? = some c) : laidN (cs.take (j + 1)) = laidN (cs.take j) + (c.length + 8) := by
  unfold laidN
  rw [List.take_add_one, h]
  simp
theorem laidN_le (cs : List (List Nat)) (j : Nat) : laidN (cs.take j) ≤ laidN cs := by
  have h : laidN cs = laidN (cs.take j) + laidN (cs.drop j) := by
    unfold laidN
    rw [← List.sum_append, ← List.map_append, List.take_append_drop]
  omega
theorem laidN_join : ∀ cs : List (List Nat), laidN cs = (joinR cs).length
  | [] => rfl
  | c :: cs => by
    have ih := laidN_join cs
    have h1 : laidN (c :: cs) = (c.length + 8) + laidN cs := by simp [laidN]
    have h2 : joinR (c :: cs) = laidR c ++ joinR cs := by simp [joinR]
    rw [h1, h2, List.length_append, laidR_length, ih]
theorem laidN_each {cs : List (List Nat)} {c : List Nat} (h : c ∈ cs) : c.length + 8 ≤ laidN cs := by
  obtain ⟨j, hj, rfl⟩ := List.getElem_of_mem h
  have h1 := laidN_take (List.getElem?_eq_getElem hj)
  have h2 := laidN_le cs (j + 1)
  omega
theorem laidN_count : ∀ cs : List (List Nat), cs.length ≤ laidN cs
  | [] => Nat.le_refl _
  | c :: cs => by
    have ih := laidN_count cs
    have h1 : laidN (c :: cs) = (c.length + 8) + laidN cs := by simp [laidN]
    rw [List.length_cons]
    omega
theorem gns_nil : GNs [] [] := ⟨rfl, fun i p o h => by simp at h⟩
end Go.Proofs.YtholdcgkhicdmaaGreatDoor
