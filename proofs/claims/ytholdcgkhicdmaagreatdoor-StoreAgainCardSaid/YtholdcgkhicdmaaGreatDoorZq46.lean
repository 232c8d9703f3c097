/- Several texts in one: StPt, StAk, StNx, StOe, StInv, StIn2, StIn3, StPre, StNon, StRt, StFu, StR4, StNm. -/
import Derived.Test.YtholdcgkhicdmaaGreatDoorZq45
namespace Go.Proofs.YtholdcgkhicdmaaGreatDoor
open Go.RowKit
theorem ent37 : ∀ args w, (callFunc 37 args).run Tryz.prog w = .ok (.enter 37 args) w := Go.Proofs.enters_of Tryz.func37 (by kernel_rfl) rfl
def PutPost (R R' : Rc) (x : It) : Prop :=
 R'.gd = R.gd ∧ R'.g = R.g ∧ R'.st = R.st ∧ R'.jb = R.jb ∧ R'.nm = R.nm ∧ R'.gen = R.gen ∧ R'.self = R.self ∧ R'.LL = putP R.LL R.nm ⟨(had R.LL R.nm).by_ ++ laidR (1 :: itemB x), (had R.LL R.nm).syn⟩ ∧ R'.ab = putA R.self R.ab x
set_option maxRecDepth 100000 in
set_option maxHeartbeats 4000000 in
theorem sto_put {P : Nat → Nat → Prop} {R : Rc} {n : Nat} (x : It) (A : Option Addr) (c : Nat) (w : World) (h : Sto w P R n) (hn : n ≤ 3000) (hx : Mod x) (hA : A = none → x.l.length = 0) (hl : Lb w P A x.l) (hB : (itemB x).length ≤ 19000) (hok : OkB (1 :: itemB x))
  (hh : ∀ i, i < 32 → R.X.h i ≤ 1099511627776) (hv : sumE R.L + (itemB (partI x R.X.h)).length ≤ R.X.q ∨ R.X.v + cntE R.L < 18446744073709551615) (hf : R.L.length < 100000) (hF : R.F.length ≤ 90000)
  (hvn : valueB R.nm = true) (hvs : R.nm.size ≤ maxLen) (hfew : findP R.LL R.nm = none → R.LL.length < 64) (hmax : (had R.LL R.nm).by_.length ≤ 100000) :
  Calls Tryz.prog 11 #[.pointer (some ⟨R.st, 0, none⟩), .agg (itC x A c).toArray] w fun e w' =>
   ((putV R.X (ers R.L) x).1 ≠ 0 ∧ e = .returned (.tuple #[.int .u64 0, .int .u64 0, .int .i64 (putV R.X (ers R.L) x).1]) ∧ Below w.heap.size w w') ∨
   ((putV R.X (ers R.L) x).1 = 0 ∧ e = .returned (.tuple #[.int .u64 (putV R.X (ers R.L) x).2.1, .int .u64 (putV R.X (ers R.L) x).2.2.1, .int .i64 0]) ∧ ∃ P' R', Sto w' P' R' (n + 1) ∧ Mv6 w P w' P' ∧ PutPost R R' x) := by
 obtain ⟨w0, hw0⟩ : ∃ V, V = w.alloc (.cells (itC x A c).toArray 47) := ⟨_, rfl⟩
 have hb0 : Below w.heap.size w w0 := by rw [hw0]; exact (Below.refl _ _).alloc (Nat.le_refl _) _
 have hbx0 : w0.heap[w.heap.size]? = some (.cells (itC x A c).toArray 47 (0, 0)) := by rw [hw0]; exact heap_alloc_new _ _
 have hl0 : w.heap.size < w0.heap.size := by rw [hw0]; simp
 have hs0 := h.below hb0
 have c7 : w0.cell? ⟨R.st, 7, none⟩ = some (.pointer (some ⟨R.sq, 0, none⟩)) := cell_of_row _ _ 7 _ _ _ hs0.blk
 have HSC := Lib.hid (scopy_any w0 hs0.sp)
 have hpv := fun A' c' => putV_of R.X R.L x A' c'
 obtain ⟨st, hst⟩ : ∃ z, z = R.st := ⟨_, rfl⟩
 rw [← hst] at c7 ⊢
 have HST := Lib.hid hst
 have HW0 := Lib.hid hw0
 have HS := Lib.hid h
 have HS0 := Lib.hid hs0
 have HB0 := Lib.hid hb0
 have HBX := Lib.hid hbx0
 have HX := Lib.hid hx
 have HL := Lib.hid hl
 have HA := Lib.hid hA
 have HPV := Lib.hid hpv
 have HH := Lib.hid hh
 have HV := Lib.hid hv
 have HFL := Lib.hid (⟨hvn, hvs, hfew, hmax, hok, hB⟩ : _ ∧ _ ∧ _ ∧ _ ∧ _ ∧ _)
 obtain ⟨p, hp⟩ : ∃ z, z = w.heap.size := ⟨_, rfl⟩
 have HP := Lib.hid hp
 clear hst hw0 h hs0 hb0 hbx0 hx hl hA hpv hh hv hvn hvs hfew hmax hok hB
 go_enter Tryz.func11, Tryz.ntmps11
 go_upto_region 1 with fail
 rw [← HW0.out, ← hp]
 rw [← hp] at HBX hl0
 clear hp HW0
 go_wp2_with fail
 refine HSC.out.mono ?_
 rintro _ w1 ⟨rfl, hb1, hsp1⟩
 obtain ⟨s2, hs2⟩ : ∃ z, z = w0.heap.size := ⟨_, rfl⟩
 rw [← hs2] at hsp1 ⊢
 have hbw1 : Below w.heap.size w w1 := HB0.out.trans (hb1.mono HB0.out.size)
 have hbx1 := (hb1.block p hl0).trans HBX.out
 have hput := put_new x A c w1 hsp1 HX.out.ok HX.out.sh HX.out.ln HX.out.lb HA.out ((HL.out.below hbw1).rd) HH.out HV.out hf
 have HPUT := Lib.hid hput
 have HBW1 := Lib.hid hbw1
 have HBX1 := Lib.hid hbx1
 have HS2 := Lib.hid hs2
 have hz01 : w0.heap.size ≤ w1.heap.size := hb1.size
 clear hb1 hsp1 hbw1 hbx1 hput hs2 HSC HBX c7
 go_wp2_with (first | (refine wpList_load_row rfl _ _ rfl p rfl _ _ _ _ HBX1.out Tryz.underlying47 rfl Tryz.infoIt ?_) | fail)
 refine HPUT.out.mono ?_
 rintro _ w2 ⟨A', c', rfl, hnew, S4, hs4, hst4⟩
 have hpvz := HPV.out A' c'
 obtain ⟨pz, hpz⟩ : ∃ z, z = putR R.X R.L x A' c' := ⟨_, rfl⟩
 rw [← hpz] at hs4 hpvz ⊢
 have hmem : ∀ e ∈ pz.2.2.2.2, ∀ a, e.A = some a → 0 < e.x.l.length → (∃ e0 ∈ R.L, e0.A = some a ∧ 0 < e0.x.l.length) ∨ w1.heap.size ≤ a.block := fun e he a ha h0 => by
  rw [hpz] at he
  rcases putR_mem he with h1 | h1 | ⟨h1, h2⟩
  ·exact .inl ⟨e, h1, ha, h0⟩
  ·rw [h1] at h0; exact absurd h0 (by simp)
  ·rw [h1] at ha
   rw [h2] at h0
   exact .inr (hnew a ha h0)
 have hS4w : ∀ k, S4 k → w0.heap.size ≤ k := fun k hk => (hst4.new k hk).elim (fun h => by have := h.1; have := HS2.out; omega) (fun h => by omega)
 have hb2 : Below w.heap.size w w2 := HBW1.out.trans ⟨hst4.only.os, hst4.only.tape, hst4.only.output, hst4.only.size, fun k hk => hst4.only.block k (Nat.lt_of_lt_of_le hk HBW1.out.size) (fun h => by have := h.1; have := HS2.out; have := HB0.out.size; omega)⟩
 have hbx2 : w2.heap[p]? = some (.cells (itC x A c).toArray 47 (0, 0)) := (hst4.only.block p (by omega) (fun h => by have := h.1; have := HS2.out; omega)).trans HBX1.out
 have HMEM := Lib.hid hmem
 have HS4 := Lib.hid hs4
 have HS4W := Lib.hid hS4w
 have HB2 := Lib.hid hb2
 have HBX2 := Lib.hid hbx2
 have HPZ := Lib.hid hpvz
 have hl2 : p < w2.heap.size := (Array.getElem?_eq_some_iff.1 hbx2).1
 have hw02 : w0.heap.size ≤ w2.heap.size := Nat.le_trans hz01 hst4.only.size
 clear hnew hs4 hst4 hpvz hpz hmem hS4w hb2 hbx2 HPUT HPV
 obtain ⟨z, hz⟩ : ∃ z, z = pz.1 := ⟨_, rfl⟩
 obtain ⟨ix, hix⟩ : ∃ z, z = pz.2.1 := ⟨_, rfl⟩
 obtain ⟨fr, hfr⟩ : ∃ z, z = pz.2.2.1 := ⟨_, rfl⟩
 rw [← hz, ← hix, ← hfr]
 have HZ : Hid ((putV R.X (ers R.L) x).1 = z ∧ (putV R.X (ers R.L) x).2.1 = ix ∧ (putV R.X (ers R.L) x).2.2.1 = fr ∧ (putV R.X (ers R.L) x).2.2.2.1 = pz.2.2.2.1 ∧ (putV R.X (ers R.L) x).2.2.2.2 = ers pz.2.2.2.2) := by
  have h := HPZ.out
  rw [h, hz, hix, hfr]
  exact ⟨rfl, rfl, rfl, rfl, rfl⟩
 clear hz hix hfr
 by_cases hz0 : z = 0
 rotate_left
 ·have d1 : ((z : Int) != 0) = true := by rw [bne_iff_ne]; omega
  go_wp2
  go_ret3
  refine .inl ⟨by rw [HZ.out.1]; exact hz0, by rw [HZ.out.1]; rfl, ?_⟩
  exact HB2.out
 ·subst hz0
  have h2 := HS.out.below HB2.out
  have hlb2 := HL.out.below HB2.out
  have hpw : p = w.heap.size := HP.out
  have hw := write_any 1 37 ent37 ⟨p, 0, none⟩ (itemB x) w2 h2 hn (by have := HFL.out.2.2.2.2.2; omega) HFL.out.2.2.2.2.1 (fun g v w' hb hg hw => by
   have hlb' := hlb2.below hb
   have hr : LabAt w' g v.ownBlock A x.l := by
    intro h0
    obtain ⟨b, o, e, hb', hc'⟩ := (HL.out.rd.below (HB2.out.trans (hb.mono HB2.out.size))) h0
    have hzz := HB2.out.size
    exact ⟨b, o, e, by have := hb.size; omega, by omega, fun e => by have := hw.ne b e.symm; omega, hc'⟩
   exact fill_put x A c HX.out p g v [1] w' ((hb.block p hl2).trans HBX2.out) hw (by simp) hr) HFL.out.1 HFL.out.2.1 HFL.out.2.2.1 (by have := HFL.out.2.2.2.1; have := HFL.out.2.2.2.2.2; omega)
  have HW := Lib.hid hw
  rw [← HST.out] at HW
  clear h2 hlb2 hw hpw
  go_wp2_with fail
  refine HW.out.mono ?_
  rintro _ w3 ⟨rfl, P3, hs3, hm3⟩
  rw [HST.out] at hs3
  have hm3' := mv_below HB2.out hm3
  have hP3 : ∀ i k, P3 i k → k < w.heap.size ∨ w2.heap.size ≤ k := fun i k hk => (hm3.new i k hk).imp (fun ⟨j, hj⟩ => HS.out.own.lt j k hj) id
  have hsp3 := HS4.out.keep hm3.only (fun k hk ⟨i, hi⟩ => by have := HS.out.own.lt i k hi; have := HS4W.out k hk; have := HB0.out.size; omega) (fun e he a ha h0 ⟨i, hi⟩ => by
   rcases HMEM.out e he a ha h0 with ⟨e0, he0, ha0, h00⟩ | h1
   ·exact HS.out.lab e0 he0 a ha0 h00 i hi
   ·have := HS.out.own.lt i _ hi; have := HB0.out.size; omega)
  have hS4l := HS4.out.lt
  obtain ⟨hs4, hm4⟩ := hs3.queue hm3' hsp3 (fun k hk => by have := HS4W.out k hk; have := HB0.out.size; omega) (fun k i hk hi => by
   have h1 := HS4W.out k hk
   have h2 := hS4l k hk
   have := HB0.out.size
   rcases hP3 i k hi with h | h <;> omega) (fun e he a ha h0 i hi => by
   have hlt := rdP_lt (HS4.out.ent e he).rd ha h0
   rcases HMEM.out e he a ha h0 with ⟨e0, he0, ha0, h00⟩ | h1
   ·have h3 := rdP_lt (HS.out.sp.ent e0 he0).rd ha0 h00
    rcases hm3'.new i _ hi with ⟨j, hj⟩ | h
    ·exact HS.out.lab e0 he0 a ha0 h00 j hj
    ·omega
   ·have := HB0.out.size
    rcases hP3 i _ hi with h | h <;> omega) (fun e he a ha h0 hk => by
   have h3 := rdP_lt (HS.out.fok e he).lb.rd ha h0
   have := HS4W.out _ hk
   have := HB0.out.size
   omega)
  have hlb3 := HL.out.mv hm4
  have c7 : w3.cell? ⟨R.st, 7, none⟩ = some (.pointer (some ⟨R.sq, 0, none⟩)) := cell_of_row _ _ 7 _ _ _ hs3.blk
  have f7 : w3.frozen? ⟨R.st, 7, none⟩ = false := frozen_of_row _ _ 7 _ _ hs3.blk
  have hstP : P 2 R.st := HS.out.p2
  have hbx3 : w3.heap[p]? = some (.cells (itC x A c).toArray 47 (0, 0)) := (hm3.only.block p hl2 (fun ⟨i, hi⟩ => by have := HS.out.own.lt i p hi; have := HP.out; omega)).trans HBX2.out
  have hbx4 : (w3.setCell ⟨R.st, 7, none⟩ (.pointer (some ⟨s2, 0, none⟩))).heap[p]? = some (.cells (itC x A c).toArray 47 (0, 0)) := (heap_setCell_other _ _ _ _ (fun e => by have e : p = R.st := e; have := HS.out.own.lt 2 _ hstP; have := HP.out; omega)).trans hbx3
  obtain ⟨w4, hw4⟩ : ∃ V, V = w3.setCell ⟨R.st, 7, none⟩ (.pointer (some ⟨s2, 0, none⟩)) := ⟨_, rfl⟩
  rw [← hw4] at hs4 hm4 hlb3 hbx4
  have hnote := note_any x A c w4 hs4 HX.out HA.out hlb3 hF
  have hnote : Calls Tryz.prog 39 #[.pointer (some ⟨R.st, 0, none⟩), .agg (itC x A c).toArray] w4 fun e w' => e = .returned (.tuple #[]) ∧ ∃ P' R', Sto w' P' R' (n + 1) ∧ Mv6 w4 (upd P3 4 S4) w' P' ∧ PutPost R R' x := by
   refine hnote.mono ?_
   rintro _ w' ⟨rfl, P', v, F, q1, q2, q3⟩
   refine ⟨rfl, P', _, q1, q3, rfl, rfl, rfl, rfl, rfl, rfl, rfl, rfl, ?_⟩
   unfold putA Rc.ab
   simp only
   rw [HZ.out.2.2.2.1, HZ.out.2.2.2.2, q2]
  rw [← HST.out] at c7 f7 hw4 hnote
  have HNOTE := Lib.hid hnote
  have HM4 := Lib.hid hm4
  have HBX4 := Lib.hid hbx4
  clear hs3 hm3 hm3' hP3 hsp3 hS4l hs4 hm4 hlb3 hbx3 hbx4 hnote hstP HW HBX2 HBX1 HS4 HS4W HMEM
  go_upto_region 11 with fail
  rw [← hw4]
  clear hw4 c7 f7
  go_wp2_with (first | (refine wpList_load_row rfl _ _ rfl p rfl _ _ _ _ HBX4.out Tryz.underlying47 rfl Tryz.infoIt ?_) | fail)
  refine HNOTE.out.mono ?_
  rintro _ w5 ⟨rfl, P5, R5, q1, q2, q3⟩
  have HQ := Lib.hid (⟨q1, HM4.out.trans q2, q3⟩ : _ ∧ _ ∧ _)
  clear q1 q2 q3 HNOTE HM4 HBX4
  go_wp2
  go_ret3
  exact .inr ⟨HZ.out.1, by rw [HZ.out.2.1, HZ.out.2.2.1]; rfl, P5, R5, HQ.out.1, HQ.out.2.1, HQ.out.2.2⟩
set_option maxRecDepth 100000 in
set_option maxHeartbeats 1000000 in
theorem sto_life {P : Nat → Nat → Prop} {R : Rc} {n : Nat} (w : World) (h : Sto w P R n) :
  Calls Tryz.prog 22 #[.pointer (some ⟨R.st, 0, none⟩)] w fun e w' => e = .returned (.int .u64 R.life) ∧ w = w' := by
 have c6 : w.cell? ⟨R.st, 6, none⟩ = some (.int .u64 R.life) := cell_of_row _ _ 6 _ _ _ h.blk
 clear h
 go_enter Tryz.func22, Tryz.ntmps22
 go_wp2
 go_ret
 exact ⟨rfl, rfl⟩
set_option maxRecDepth 100000 in
set_option maxHeartbeats 1000000 in
theorem sto_next {P : Nat → Nat → Prop} {R : Rc} {n : Nat} (w : World) (h : Sto w P R n) (hs : R.self < 32) (hh : R.X.h R.self < 18446744073709551615) :
  Calls Tryz.prog 10 #[.pointer (some ⟨R.st, 0, none⟩)] w fun e w' => e = .returned (.int .u64 ((R.X.h R.self + 1 : Nat) : Int)) ∧ Below w.heap.size w w' := by
 have HC : Hid (∀ W, Below w.heap.size w W → W.cell? ⟨R.st, 5, none⟩ = some (.int .u8 R.self) ∧ W.cell? ⟨R.st, 7, none⟩ = some (.pointer (some ⟨R.sq, 0, none⟩))) := fun W hW => ⟨cell_of_row _ _ 5 _ _ _ (h.below hW).blk, cell_of_row _ _ 7 _ _ _ (h.below hW).blk⟩
 have HH := Lib.hid (high_any R.self hs w.drew (h.sp.below ((Below.refl _ _).drew)))
 obtain ⟨st, hst⟩ : ∃ z, z = R.st := ⟨_, rfl⟩
 obtain ⟨hi, hhi⟩ : ∃ z, z = R.X.h R.self := ⟨_, rfl⟩
 rw [← hst] at HC ⊢
 rw [← hhi] at HH hh ⊢
 have hw : IntKind.u64.wrap ((hi : Int) + 1) = ((hi + 1 : Nat) : Int) := by rw [IntKind.wrap_u64]; omega
 clear h hst hhi
 go_enter Tryz.func10, Tryz.ntmps10
 go_upto_region 3 with fail
 refine wp_region_noPanic ?_
 refine wp_region_held_drew (S := fun W => W.cell? ⟨st, 5, none⟩ = some (.int .u8 R.self) ∧ W.cell? ⟨st, 7, none⟩ = some (.pointer (some ⟨R.sq, 0, none⟩))) (by kernel_rfl) ?_ (fun hHeld => ?_)
 ·exact HC.out _ ((Below.refl _ _).drew)
 try simp only [heldPut, List.set]
 refine hT 0 (v := ?_) rfl (Or.inl ⟨by rfl, ?_⟩) ?_
 rotate_left
 ·(intro W hSw; (try dsimp only at hSw); obtain ⟨f1, f2⟩ := hSw; go_simp; try with_reducible rfl)
 try simp only [heldPut, List.set]
 refine hT 1 (v := ?_) rfl (Or.inl ⟨by rfl, ?_⟩) ?_
 rotate_left
 ·(intro W hSw; (try dsimp only at hSw); obtain ⟨f1, f2⟩ := hSw; go_simp; try with_reducible rfl)
 try simp only [heldPut, List.set]
 refine hT 2 (v := ?_) rfl (Or.inl ⟨by rfl, ?_⟩) ?_
 rotate_left
 ·(intro W hSw; (try dsimp only at hSw); obtain ⟨f1, f2⟩ := hSw; go_simp; try with_reducible rfl)
 try simp only [heldPut, List.set]
 refine hT 3 (v := ?_) rfl (Or.inl ⟨by rfl, ?_⟩) ?_
 rotate_left
 ·(intro W hSw; (try dsimp only at hSw); obtain ⟨f1, f2⟩ := hSw; go_simp; try with_reducible rfl)
 try simp only [heldPut, List.set]
 refine hT 4 (v := ?_) rfl (Or.inl ⟨by rfl, ?_⟩) ?_
 rotate_left
 ·(intro W hSw; (try dsimp only at hSw); obtain ⟨f1, f2⟩ := hSw; go_simp; try with_reducible rfl)
 try simp only [heldPut, List.set]
 refine hT 5 (v := ?_) rfl (Or.inl ⟨by rfl, ?_⟩) ?_
 rotate_left
 ·(intro W hSw; (try dsimp only at hSw); obtain ⟨f1, f2⟩ := hSw; go_simp; try with_reducible rfl)
 try simp only [heldPut, List.set]
 refine hT 6 (v := ?_) rfl (Or.inl ⟨by rfl, ?_⟩) ?_
 rotate_left
 ·(intro W hSw; (try dsimp only at hSw); obtain ⟨f1, f2⟩ := hSw; go_simp; try with_reducible rfl)
 try simp only [heldPut, List.set]
 refine hT 7 (v := ?_) rfl (Or.inl ⟨by rfl, ?_⟩) ?_
 rotate_left
 ·(intro W hSw; (try dsimp only at hSw); obtain ⟨f1, f2⟩ := hSw; go_simp; try with_reducible rfl)
 try simp only [heldPut, List.set]
 refine heldOne (i := 8) rfl (by kernel_rfl) (fun K hK => ?_)
 go_simp
 refine HH.out.mono ?_
 rintro _ w1 ⟨rfl, rfl⟩
 go_wp2_with fail
 refine hK.out _ _ ?_ (fun hHeld => ?_)
 ·exact HC.out _ ((Below.refl _ _).drew)
 clear hK K
 try simp only [heldPut, List.set]
 refine hT 9 (v := ?_) rfl (Or.inl ⟨by rfl, ?_⟩) ?_
 rotate_left
 ·(intro W hSw; (try dsimp only at hSw); go_simp; try with_reducible rfl)
 try simp only [heldPut, List.set]
 refine hT 10 (v := ?_) rfl (Or.inl ⟨by rfl, ?_⟩) ?_
 rotate_left
 ·(intro W hSw; (try dsimp only at hSw); go_simp; try with_reducible rfl)
 try simp only [heldPut, List.set]
 refine wpAnyH_done (by kernel_rfl) ?_ _
 refine NoPanic.normal ?_
 go_wp2
 go_ret
 exact ⟨rfl, (Below.refl _ _).drew⟩
theorem sto_spool {P : Nat → Nat → Prop} {R : Rc} {n : Nat} (w : World) (h : Sto w P R n) :
  Calls Tryz.prog 17 #[.pointer (some ⟨R.st, 0, none⟩)] w fun e w' => ∃ s S, e = .returned (.pointer (some ⟨s, 0, none⟩)) ∧ SpAt w' S s R.X R.L ∧ (∀ k, S k → w.heap.size ≤ k) ∧ Below w.heap.size w w' := by
 have c7 : w.cell? ⟨R.st, 7, none⟩ = some (.pointer (some ⟨R.sq, 0, none⟩)) := cell_of_row _ _ 7 _ _ _ h.blk
 have HC := Lib.hid (scopy_any w h.sp)
 clear h
 go_enter Tryz.func17, Tryz.ntmps17
 go_wp2_with fail
 refine HC.out.mono ?_
 rintro _ w1 ⟨rfl, hb, hs⟩
 have HQ := Lib.hid (⟨hs, hb⟩ : _ ∧ _)
 clear hs hb HC
 go_wp2
 go_ret
 exact ⟨_, _, rfl, HQ.out.1, fun k hk => hk.1, HQ.out.2⟩
section
variable {q B : Nat} {a : Ab}
end
section
variable {q B : Nat} {a a' : Ab} {c : List Nat}
end
def laidN (cs : List (List Nat)) : Nat := (cs.map fun c => c.length + 8).sum
theorem laidN_take {cs : List (List Nat)} {j : Nat} {c : List Nat} (h : cs[j]? = some c) : laidN (cs.take (j + 1)) = laidN (cs.take j) + (c.length + 8) := by
 unfold laidN
 rw [List.take_add_one, h]
 simp
theorem laidN_le (cs : List (List Nat)) (j : Nat) : laidN (cs.take j) ≤ laidN cs := by
 have h : laidN cs = laidN (cs.take j) + laidN (cs.drop j) := by
  unfold laidN
  rw [← List.sum_append, ← List.map_append, List.take_append_drop]
 omega
theorem laidN_join : ∀ cs : List (List Nat), laidN cs = (joinR cs).length
 | [] => rfl
 | c :: cs => by
   have ih := laidN_join cs
   have h1 : laidN (c :: cs) = (c.length + 8) + laidN cs := by simp [laidN]
   have h2 : joinR (c :: cs) = laidR c ++ joinR cs := by simp [joinR]
   rw [h1, h2, List.length_append, laidR_length, ih]
theorem laidN_each {cs : List (List Nat)} {c : List Nat} (h : c ∈ cs) : c.length + 8 ≤ laidN cs := by
 obtain ⟨j, hj, rfl⟩ := List.getElem_of_mem h
 have h1 := laidN_take (List.getElem?_eq_getElem hj)
 have h2 := laidN_le cs (j + 1)
 omega
theorem laidN_count : ∀ cs : List (List Nat), cs.length ≤ laidN cs
 | [] => Nat.le_refl _
 | c :: cs => by
   have ih := laidN_count cs
   have h1 : laidN (c :: cs) = (c.length + 8) + laidN cs := by simp [laidN]
   rw [List.length_cons]
   omega
theorem gns_nil : GNs [] [] := ⟨rfl, fun i p o h => by simp at h⟩
theorem takeR_itemB {x : It} (hx : OkI x) (h : itemN x = 0) (hn : normI x = x) (rest : List Nat) : takeR (itemB x ++ rest, 0) = (x, (rest, 0)) := by
 have h1 := takeR_p hx h rest
 rw [hn] at h1
 exact h1
theorem rU_back {n : Nat} (h : n < 18446744073709551616) (rest : List Nat) : rU (leb n ++ rest, 0) = (n, (rest, 0)) := rU_p h rest
theorem endE_ok : endE (([] : List Nat), 0) = 0 := rfl
theorem rep1_back {self : Nat} {a : Ab} {x : It} (hx : OkI x) (h : itemN x = 0) (hn : normI x = x) (h0 : (putV a.X a.K x).1 = 0) : rep1 self a (itemB x) = some (putA self a x) := by
 have h1 := takeR_itemB hx h hn []
 rw [List.append_nil] at h1
 unfold rep1
 rw [h1, if_pos ⟨rfl, h0⟩]
theorem rep3_back {a : Ab} {m : Nat} (hm : m < 18446744073709551616) : rep3 a (leb m) = some { a with m := m } := by
 have h1 := rU_back hm []
 rw [List.append_nil] at h1
 unfold rep3
 rw [h1]
 exact if_pos endE_ok
theorem hisL_back {h : Nat → Nat} (hh : ∀ i, i < 32 → h i < 18446744073709551616) : ∀ (k : Nat) (rest : List Nat), k ≤ 32 → nR k (hisB h k ++ rest, 0) = ((List.range k).map h, (rest, 0))
 | 0, rest, _ => rfl
 | k + 1, rest, hk => by
   have ih := hisL_back hh k (leb (h k) ++ rest) (by omega)
   have e : hisB h (k + 1) ++ rest = hisB h k ++ (leb (h k) ++ rest) := by
    show (hisB h k ++ leb (h k)) ++ rest = _
    rw [List.append_assoc]
   rw [e]
   show ((nR k (hisB h k ++ (leb (h k) ++ rest), 0)).1 ++ [(rU (nR k (hisB h k ++ (leb (h k) ++ rest), 0)).2).1], (rU (nR k (hisB h k ++ (leb (h k) ++ rest), 0)).2).2) = _
   rw [ih, rU_back (hh k (by omega)), List.range_succ, List.map_append]
   rfl
def EntR (e : Ett) : Prop := OkI e.x ∧ itemN e.x = 0 ∧ normI e.x = e.x ∧ e.i < 18446744073709551616
theorem entsR_back : ∀ (K acc : List Ett) (rest : List Nat), (∀ e ∈ K, EntR e) → entsR K.length acc (entsB K ++ rest, 0) = (acc ++ ers K, (rest, 0))
 | [], acc, rest, _ => by
   show (acc, (rest, 0)) = _
   rw [show ers [] = [] from rfl, List.append_nil]
 | e :: K, acc, rest, h => by
   obtain ⟨h1, h2, h3, h4⟩ := h e (List.mem_cons_self ..)
   have e0 : entsB (e :: K) ++ rest = leb e.i ++ (itemB e.x ++ (entsB K ++ rest)) := by
    have : entsB (e :: K) = leb e.i ++ itemB e.x ++ entsB K := by simp [entsB]
    rw [this]
    simp only [List.append_assoc]
   rw [e0, List.length_cons, entsR_step rfl, rU_back h4, takeR_itemB h1 h2 h3]
   have ih := entsR_back K (acc ++ [⟨e.i, e.x, none, 0⟩]) rest (fun e' he' => h e' (List.mem_cons_of_mem _ he'))
   refine ih.trans ?_
   rw [show ers (e :: K) = ⟨e.i, e.x, none, 0⟩ :: ers K from rfl, List.append_assoc]
   rfl
theorem firR_back : ∀ (F acc : List It) (rest : List Nat), (∀ x ∈ F, OkI x ∧ itemN x = 0 ∧ normI x = x ∧ x.g = false ∧ x.s = 2) → firR F.length acc (firesB F ++ rest, 0) = (acc ++ F, (rest, 0))
 | [], acc, rest, _ => by
   show (acc, (rest, 0)) = _
   rw [List.append_nil]
 | x :: F, acc, rest, h => by
   obtain ⟨h1, h2, h3, h4, h5⟩ := h x (List.mem_cons_self ..)
   have e0 : firesB (x :: F) ++ rest = itemB x ++ (firesB F ++ rest) := by
    have : firesB (x :: F) = itemB x ++ firesB F := by simp [firesB]
    rw [this, List.append_assoc]
   rw [e0, List.length_cons, firR_step rfl, takeR_itemB h1 h2 h3, if_neg (fun hb => hb.elim (fun hg => by rw [h4] at hg; cases hg) (fun hs => hs h5))]
   have ih := firR_back F (acc ++ [x]) rest (fun y hy => h y (List.mem_cons_of_mem _ hy))
   refine ih.trans ?_
   rw [List.append_assoc]
   rfl
theorem sn_back {X : Sp} {K : List Ett} {F : List It} {m : Nat} (hn : X.n < 18446744073709551616) (ha : X.a < 18446744073709551616) (hv : X.v < 18446744073709551616) (hh : ∀ i, i < 32 → X.h i < 18446744073709551616) (hm : m < 18446744073709551616) (hK : ∀ e ∈ K, EntR e) (hF : ∀ x ∈ F, OkI x ∧ itemN x = 0 ∧ normI x = x ∧ x.g = false ∧ x.s = 2) (hKl : K.length < 18446744073709551616) (hFl : F.length < 18446744073709551616) :
  (sn1 (snapB m X K F)).1 = m ∧ (sn2 (snapB m X K F)).1 = ers K ∧ sn3 (snapB m X K F) = (F, ([], 0)) ∧ ∀ k, k ≤ 32 → k = 32 → bsX k (sn1 (snapB m X K F)).2 = ⟨0, X.n, X.a, X.v, fun i => ((List.range k).map X.h).getD i 0⟩ := by
 obtain ⟨R, hR⟩ : ∃ z, z = leb F.length ++ firesB F := ⟨_, rfl⟩
 have e1 : sn1 (snapB m X K F) = (m, (baseB X K ++ R, 0)) := by
  unfold sn1 snapB
  rw [hR]
  have h1 := rU_back hm (baseB X K ++ (leb F.length ++ firesB F))
  simp only [List.append_assoc] at h1 ⊢
  exact h1
 obtain ⟨H, hH⟩ : ∃ z, z = hisB X.h 32 := ⟨_, rfl⟩
 have e2 : baseB X K ++ R = leb X.n ++ (leb X.a ++ (leb X.v ++ (H ++ (leb K.length ++ (entsB K ++ R))))) := by
  unfold baseB
  rw [← hH]
  simp only [List.append_assoc]
 obtain ⟨s, hs⟩ : ∃ s : St, s = (leb X.n ++ (leb X.a ++ (leb X.v ++ (H ++ (leb K.length ++ (entsB K ++ R))))), 0) := ⟨_, rfl⟩
 rw [e2, ← hs] at e1
 have b1 : bsN s = (X.n, (leb X.a ++ (leb X.v ++ (H ++ (leb K.length ++ (entsB K ++ R)))), 0)) := by unfold bsN; rw [hs]; exact rU_back hn _
 have b2 : bsA s = (X.a, (leb X.v ++ (H ++ (leb K.length ++ (entsB K ++ R))), 0)) := by unfold bsA; rw [b1]; exact rU_back ha _
 have b3 : bsV s = (X.v, (H ++ (leb K.length ++ (entsB K ++ R)), 0)) := by unfold bsV; rw [b2]; exact rU_back hv _
 have b4 : ∀ k, k ≤ 32 → H = hisB X.h k → bsH k s = ((List.range k).map X.h, (leb K.length ++ (entsB K ++ R), 0)) := fun k hk hHk => by
  unfold bsH
  rw [b3, hHk]
  exact hisL_back hh k _ hk
 have b5 : bsC s = (K.length, (entsB K ++ R, 0)) := by
  unfold bsC
  rw [b4 32 (Nat.le_refl _) hH]
  exact rU_back hKl _
 have b6 : baseR s = (ers K, (R, 0)) := by
  unfold baseR
  rw [b5]
  exact entsR_back K [] R hK
 have e3 : sn2 (snapB m X K F) = (ers K, (R, 0)) := by
  unfold sn2
  rw [e1]
  exact b6
 have b7 : fsC (R, 0) = (F.length, (firesB F, 0)) := by
  unfold fsC
  rw [hR]
  exact rU_back hFl _
 have b8 : firesR (R, 0) = (F, ([], 0)) := by
  unfold firesR
  rw [b7]
  have h1 := firR_back F [] [] hF
  rw [List.append_nil] at h1
  exact h1
 have e4 : sn3 (snapB m X K F) = (F, ([], 0)) := by
  unfold sn3
  rw [e3]
  exact b8
 refine ⟨by rw [e1], by rw [e3], e4, fun k hk hk2 => ?_⟩
 rw [e1]
 have hHk : H = hisB X.h k := by rw [hk2]; exact hH
 unfold bsX
 rw [b1, b2, b3, b4 k hk hHk]
theorem chk_any9 {n : Nat} {h : Nat → Nat} : ∀ {L : List Ett} {b : Nat} {E F : Nat → Nat}, (∀ o, ∃ m, chainO o L (F o) = some m) → (∀ o, E o = 0 ∨ E o = F o) → (idxL L).Pairwise (· < ·) → (∀ i ∈ idxL L, b < i ∧ i < n) → (∀ e ∈ L, spT e.x ≤ h (spO e.x)) → ∃ b' E', chkL n h L b E = some (b', E') ∧ ∀ o, E' o = 0 ∨ chainO o L (F o) = some (E' o)
 | [], b, E, F, _, hE, _, _, _ => ⟨b, E, rfl, fun o => (hE o).imp id (fun e => by rw [e]; rfl)⟩
 | e :: L, b, E, F, hc, hE, hp, hi, ht => by
   have hp' : (e.i :: idxL L).Pairwise (· < ·) := hp
   rw [List.pairwise_cons] at hp'
   have hie := hi e.i List.mem_cons_self
   have hf : spF e.x = F (spO e.x) + 1 := by
    obtain ⟨m, hm⟩ := hc (spO e.x)
    unfold chainO at hm
    rw [if_pos rfl] at hm
    split at hm
    ·assumption
    ·cases hm
   have hk : ChkE n h b E e := ⟨hie.1, hie.2, (hE (spO e.x)).imp id (fun e1 => by rw [e1]; exact hf), ht e List.mem_cons_self⟩
   have e0 : chkL n h (e :: L) b E = chkL n h L e.i (upT E e.x) := by
    show (if _ then _ else _) = _
    rw [if_pos hk]
   have hch : ∀ o, chainO o (e :: L) (F o) = chainO o L (upT F e.x o) := fun o => by
    conv => lhs; unfold chainO
    unfold upT
    by_cases ho : spO e.x = o
    ·rw [if_pos ho, ← ho, if_pos hf]
     simp
    ·rw [if_neg ho]
     simp [Ne.symm ho]
   obtain ⟨b', E', h1, h2⟩ := chk_any9 (L := L) (b := e.i) (E := upT E e.x) (F := upT F e.x) (fun o => by
    obtain ⟨m, hm⟩ := hc o
    rw [hch o] at hm
    exact ⟨m, hm⟩) (fun o => by
    unfold upT
    split
    ·exact .inr rfl
    ·exact hE o) hp'.2 (fun i hi2 => ⟨hp'.1 i hi2, (hi i (List.mem_cons_of_mem _ hi2)).2⟩) (fun x hx => ht x (List.mem_cons_of_mem _ hx))
   exact ⟨b', E', by rw [e0]; exact h1, fun o => (h2 o).imp id (fun h3 => by rw [hch o]; exact h3)⟩
theorem itemB_one (x : It) : 1 ≤ (itemB x).length := by
 unfold itemB
 split <;> simp
theorem len_sum : ∀ L : List Ett, L.length ≤ sumE L
 | [] => Nat.le_refl _
 | e :: L => by
   have ih := len_sum L
   have h1 := itemB_one e.x
   rw [sumE_cons, List.length_cons]
   omega
structure Fc (X : Sp) (K : List Ett) (k : Nat) : Prop where
 ok : SpOk X K k
 cov : ∃ F, Cov F X.h K
 sum : sumE K ≤ X.q
 hi : ∀ i, 32 ≤ i → X.h i = 0
theorem Fc.of {X : Sp} {K : List Ett} {k : Nat} (h : Fc X K k) (hk : k ≤ 1000000) : OfOk X.q X K := by
 obtain ⟨F, hc⟩ := h.cov
 obtain ⟨b, E, h1, h2⟩ := chk_any9 (n := X.n) (h := X.h) (L := K) (b := X.a) (E := fun _ => 0) (F := F) (fun o => ⟨_, hc.ch o⟩) (fun _ => .inl rfl) h.ok.rise h.ok.ix (fun e he => (hc.ok e he).2)
 have hl := len_sum K
 have hs := h.sum
 refine ⟨⟨by have := h.ok.n1; omega, by have := h.ok.nk; omega, h.ok.an, by omega⟩, ⟨b, E, h1, fun o _ => ⟨(h2 o).imp id (fun h3 => ?_), h.ok.hs o⟩⟩, h.sum⟩
 rw [hc.ch o] at h3
 exact (Option.some.inj h3).symm
theorem Fc.new (q : Nat) : Fc ⟨q, 1, 0, 0, fun _ => 0⟩ [] 0 := ⟨SpOk.new q, ⟨fun _ => 0, ⟨fun _ => rfl, fun e he => by cases he⟩⟩, Nat.zero_le _, fun _ _ => rfl⟩
theorem putR_high {X : Sp} {L : List Ett} (h : ∀ i, 32 ≤ i → X.h i = 0) (x : It) (A : Option Addr) (c : Nat) : ∀ i, 32 ≤ i → (putR X L x A c).2.2.2.1.h i = 0 := by
 intro i hi
 unfold putR
 by_cases h0 : partE x X.h = 0
 ·rw [if_neg (fun hne => hne h0)]
  have hn : itemN x = 0 := by
   unfold partE at h0
   split at h0
   ·rename_i hne; exact absurd h0 hne
   ·rename_i hne; exact Classical.byContradiction hne
  simp only
  split
  ·exact h i hi
  ·split
   ·exact h i hi
   ·have hso := itemN_spO hn
    show upH X.h (spO (partI x X.h)) (spT (partI x X.h)) i = 0
    rw [(part_right h0).2.1]
    unfold upH
    rw [if_neg (by omega)]
    exact h i hi
 ·rw [if_pos h0]
  exact h i hi
theorem Fc.put {X : Sp} {K : List Ett} {k : Nat} (h : Fc X K k) (x : It) : Fc (putV X K x).2.2.2.1 (putV X K x).2.2.2.2 (k + 1) := by
 obtain ⟨F, hc⟩ := h.cov
 refine ⟨h.ok.put x none 0, ⟨F, hc.put x none 0⟩, ?_, putR_high h.hi x none 0⟩
 unfold putV
 rw [putR_q]
 exact sum_put h.sum x none 0
theorem OfOk.withQ {q q' : Nat} {X : Sp} {L : List Ett} (h : OfOk q X L) : OfOk q { X with q := q' } L := by
 obtain ⟨⟨h1, h2, h3, h4⟩, ⟨b, E, h5, h6⟩, h7⟩ := h
 exact ⟨⟨h1, h2, h3, h4⟩, ⟨b, E, h5, fun o ho => ⟨(h6 o ho).e, (h6 o ho).m⟩⟩, h7⟩
theorem range_high {h : Nat → Nat} {k : Nat} (hh : ∀ i, k ≤ i → h i = 0) : (fun i => ((List.range k).map h).getD i 0) = h := by
 funext i
 rw [List.getD_eq_getElem?_getD, List.getElem?_map]
 by_cases hi : i < k
 ·rw [List.getElem?_range hi]
  rfl
 ·rw [List.getElem?_eq_none (by rw [List.length_range]; omega), hh i (by omega)]
  rfl
theorem rep4_back {self gen : Nat} {a : Ab} {X : Sp} {K : List Ett} {F : List It} {m k : Nat} (h : Fc X K k) (hk : k ≤ 1000000) (hq : a.X.q = X.q) (hv : X.v < 18446744073709551616) (hm : m < 18446744073709551616) (hK : ∀ e ∈ K, EntR e)
  (hF : ∀ x ∈ F, OkI x ∧ itemN x = 0 ∧ normI x = x ∧ x.g = false ∧ x.s = 2) (hFl : F.length < 18446744073709551616) (hFn : noteAll self [] F = F) :
  rep4 self gen a (snapB m X K F) = some ⟨X, ers K, F, m, if 0 < gen then (snapB m X K F).length + 9 else a.f⟩ := by
 have hn : X.n < 18446744073709551616 := by have := h.ok.nk; omega
 have ha : X.a < 18446744073709551616 := by have := h.ok.an; omega
 obtain ⟨e1, e2, e3, e4⟩ := sn_back (X := X) (K := K) (F := F) (m := m) hn ha hv (fun i _ => by have := h.ok.hs i; omega) hm hK hF (by have := h.ok.len; omega) hFl
 have e5 : bsX 32 (sn1 (snapB m X K F)).2 = { X with q := 0 } := by
  have key : ∀ k, k ≤ 32 → k = 32 → bsX k (sn1 (snapB m X K F)).2 = { X with q := 0 } := fun k hk1 hk2 => by
   rw [e4 k hk1 hk2, range_high (fun i hi => h.hi i (by omega))]
  exact key 32 (Nat.le_refl _) rfl
 have hof : OfOk a.X.q (bsX 32 (sn1 (snapB m X K F)).2) (sn2 (snapB m X K F)).1 := by
  rw [e5, e2, hq]
  exact OfOk.ers.2 (h.of hk).withQ
 have h3 : endE (sn3 (snapB m X K F)).2 = 0 := by rw [e3]; rfl
 unfold rep4
 rw [if_pos ⟨h3, hof⟩, e1, e2, e3, e5, hFn, hq]
theorem repA_snap {self gen : Nat} {a : Ab} {X : Sp} {K : List Ett} {F : List It} {m k : Nat} (h : Fc X K k) (hk : k ≤ 1000000) (hq : a.X.q = X.q) (hv : X.v < 18446744073709551616) (hm : m < 18446744073709551616) (hK : ∀ e ∈ K, EntR e)
  (hF : ∀ x ∈ F, OkI x ∧ itemN x = 0 ∧ normI x = x ∧ x.g = false ∧ x.s = 2) (hFl : F.length < 18446744073709551616) (hFn : noteAll self [] F = F) :
  repA self gen a (4 :: snapB m X K F) = some ⟨X, ers K, F, m, if 0 < gen then (snapB m X K F).length + 9 else a.f⟩ := by
 rw [repA_4]
 exact rep4_back h hk hq hv hm hK hF hFl hFn
def Nm (x : It) : Prop := OkI x ∧ normI x = x ∧ ShortI x ∧ x.l.length ≤ 1000
def NmL (L : List Ett) : Prop := ∀ e ∈ L, Nm e.x
theorem nm_gap {a f t : Nat} (ha : a < 256) (hf : f < 18446744073709551616) (ht : t < 18446744073709551616) : Nm ⟨true, 0, 0, 0, ⟨#[]⟩, [], 0, 0, 0, 0, a, f, t⟩ := ⟨gapI_ok ha hf ht, rfl, ⟨(Nat.zero_le 1048576 : 0 ≤ 1048576), fun i p hp => by simp at hp⟩, Nat.zero_le 1000⟩
theorem nm_zero : Nm zeroI := ⟨zeroI_ok, rfl, ⟨(Nat.zero_le 1048576 : 0 ≤ 1048576), fun i p hp => by simp [zeroI] at hp⟩, Nat.zero_le 1000⟩
theorem nm_join {x y : It} (hx : Nm x) (hy : Nm y) : Nm (joinI x y) := by
 unfold joinI
 split
 ·exact nm_gap hx.1.ga hx.1.gf hy.1.gt
 ·exact nm_zero
theorem nm_getD {L : List Ett} (h : NmL L) (k : Nat) : Nm (L.getD k entD).x := by
 rw [List.getD_eq_getElem?_getD]
 cases hk : L[k]? with
 | none => exact nm_zero
 | some e => exact h e (List.mem_of_getElem? hk)
theorem nm_joinK {L : List Ett} (h : NmL L) (a b : Option Nat) : NmL (joinK L a b).1 := fun e he => by
 cases a with
 | none => exact h e he
 | some a =>
   cases b with
   | none => exact h e he
   | some b =>
     unfold joinK at he
     simp only at he
     split at he
     ·have h1 := cutE_mem he
      rcases List.mem_or_eq_of_mem_set h1 with h2 | rfl
      ·exact h e h2
      ·exact nm_join (nm_getD h _) (nm_getD h _)
     ·exact h e he
theorem nm_span {x : It} (h : Nm x) : spO x < 256 ∧ spF x < 18446744073709551616 ∧ spT x < 18446744073709551616 := by
 unfold spO spF spT
 split
 ·exact ⟨h.1.ga, h.1.gf, h.1.gt⟩
 ·exact ⟨h.1.o, h.1.q, h.1.q⟩
theorem nm_evL {L : List Ett} (h : NmL L) {p : Nat} {e0 : Ett} (h0 : Nm e0.x) : NmL (evL L p e0) := by
 refine nm_joinK (nm_joinK (fun e he => ?_) _ _) _ _
 rcases List.mem_or_eq_of_mem_set he with h1 | rfl
 ·exact h e h1
 ·obtain ⟨a, b, c⟩ := nm_span h0
  exact nm_gap a b c
theorem nm_room {size q : Nat} : ∀ {fuel : Nat} {L : List Ett} {f v : Nat}, NmL L → NmL (roomK size q fuel L f v).2.1
 | fuel, L, f, v, h => by
   by_cases hf : sumE L + size ≤ q
   ·rw [roomK_fit hf]; exact h
   ·cases hl : leastK L L.length with
    | none => rw [roomK_none hf hl]; exact h
    | some p =>
      cases fuel with
      | zero =>
        unfold roomK
        rw [if_neg hf]
        exact h
      | succ k =>
        rw [roomK_some hf hl]
        exact nm_room (nm_evL h (nm_getD h p))
theorem nm_addJ {L : List Ett} (h : NmL L) {e0 : Ett} (h0 : Nm e0.x) : NmL (addJ L e0).1 := by
 have h1 : NmL (L ++ [e0]) := fun e he => by
  rcases List.mem_append.1 he with h2 | h2
  ·exact h e h2
  ·rw [List.mem_singleton] at h2; rw [h2]; exact h0
 unfold addJ
 split
 ·exact nm_joinK h1 _ _
 ·exact h1
theorem nm_part {x : It} (h : Nm x) {H : Nat → Nat} (hH : H (spO x) ≤ 1099511627776) : Nm (partI x H) := by
 unfold partI
 split
 ·unfold trimI
  split
  ·exact nm_zero
  ·split
   ·exact h
   ·obtain ⟨a, b, c⟩ := nm_span h
    exact nm_gap a (by omega) c
 ·exact nm_zero
theorem nm_putV {X : Sp} {K : List Ett} {x : It} (h : NmL K) (hx : Nm x) (hH : ∀ i, X.h i ≤ 1099511627776) : NmL (putV X K x).2.2.2.2 := by
 unfold putV putR
 split
 ·exact h
 ·simp only
  split
  ·exact h
  ·split
   ·exact h
   ·exact nm_addJ (nm_room h) (nm_part hx (hH _))
theorem Fc.entR {X : Sp} {K : List Ett} {k : Nat} (h : Fc X K k) (hk : k ≤ 1000000) (hn : NmL K) : ∀ e ∈ K, EntR e := fun e he => by
 obtain ⟨F, hc⟩ := h.cov
 have h1 := h.ok.ix e.i (List.mem_map_of_mem (f := fun e : Ett => e.i) he)
 have h2 := h.ok.nk
 exact ⟨(hn e he).1, (hc.ok e he).1, (hn e he).2.1, by omega⟩
end Go.Proofs.YtholdcgkhicdmaaGreatDoor