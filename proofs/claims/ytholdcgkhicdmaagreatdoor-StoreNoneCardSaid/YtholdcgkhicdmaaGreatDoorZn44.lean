/- Several texts in one: StPt, StAk, StNx, StOe, StInv, StIn2. -/
import Derived.Test.YtholdcgkhicdmaaGreatDoorZn43
namespace Go.Proofs.YtholdcgkhicdmaaGreatDoor
open Go.RowKit
theorem ent37 : ∀ args w, (callFunc 37 args).run Tryz.prog w = .ok (.enter 37 args) w := Go.Proofs.enters_of Tryz.func37 (by kernel_rfl) rfl
def PutPost (R R' : Rc) (x : It) : Prop :=
  R'.gd = R.gd ∧ R'.g = R.g ∧ R'.st = R.st ∧ R'.jb = R.jb ∧ R'.nm = R.nm ∧ R'.gen = R.gen ∧ R'.self = R.self ∧ R'.LL = putP R.LL R.nm ⟨(had R.LL R.nm).by_ ++ laidR (1 :: itemB x), (had R.LL R.nm).syn⟩ ∧ R'.ab = putA R.self R.ab x
set_option maxRecDepth 100000 in
set_option maxHeartbeats 4000000 in
theorem sto_put {P : Nat → Nat → Prop} {R : Rc} {n : Nat} (x : It) (A : Option Addr) (c : Nat) (w : World) (h : Sto w P R n) (hn : n ≤ 3000) (hx : Mod x) (hA : A = none → x.l.length = 0) (hl : Lb w P A x.l) (hB : (itemB x).length ≤ 19000) (hok : OkB (1 :: itemB x))
    (hh : ∀ i, i < 32 → R.X.h i ≤ 1099511627776) (hv : sumE R.L + (itemB (partI x R.X.h)).length ≤ R.X.q ∨ R.X.v + cntE R.L < 18446744073709551615) (hf : R.L.length < 100000) (hF : R.F.length ≤ 90000)
    (hvn : valueB R.nm = true) (hvs : R.nm.size ≤ maxLen) (hfew : findP R.LL R.nm = none → R.LL.length < 64) (hmax : (had R.LL R.nm).by_.length ≤ 100000) :
    Calls Tryz.prog 11 #[.pointer (some ⟨R.st, 0, none⟩), .agg (itC x A c).toArray] w fun e w' =>
      ((putV R.X (ers R.L) x).1 ≠ 0 ∧ e = .returned (.tuple #[.int .u64 0, .int .u64 0, .int .i64 (putV R.X (ers R.L) x).1]) ∧ Below w.heap.size w w') ∨
      ((putV R.X (ers R.L) x).1 = 0 ∧ e = .returned (.tuple #[.int .u64 (putV R.X (ers R.L) x).2.1, .int .u64 (putV R.X (ers R.L) x).2.2.1, .int .i64 0]) ∧ ∃ P' R', Sto w' P' R' (n + 1) ∧ Mv6 w P w' P' ∧ PutPost R R' x) := by
  obtain ⟨w0, hw0⟩ : ∃ V, V = w.alloc (.cells (itC x A c).toArray 47) := ⟨_, rfl⟩
  have hb0 : Below w.heap.size w w0 := by rw [hw0]; exact (Below.refl _ _).alloc (Nat.le_refl _) _
  have hbx0 : w0.heap[w.heap.size]? = some (.cells (itC x A c).toArray 47 (0, 0)) := by rw [hw0]; exact heap_alloc_new _ _
  have hl0 : w.heap.size < w0.heap.size := by rw [hw0]; simp
  have hs0 := h.below hb0
  have c7 : w0.cell? ⟨R.st, 7, none⟩ = some (.pointer (some ⟨R.sq, 0, none⟩)) := cell_of_row _ _ 7 _ _ _ hs0.blk
  have HSC := Lib.hid (scopy_any w0 hs0.sp)
  have hpv := fun A' c' => putV_of R.X R.L x A' c'
  obtain ⟨st, hst⟩ : ∃ z, z = R.st := ⟨_, rfl⟩
  rw [← hst] at c7 ⊢
  have HST := Lib.hid hst
  have HW0 := Lib.hid hw0
  have HS := Lib.hid h
  have HS0 := Lib.hid hs0
  have HB0 := Lib.hid hb0
  have HBX := Lib.hid hbx0
  have HX := Lib.hid hx
  have HL := Lib.hid hl
  have HA := Lib.hid hA
  have HPV := Lib.hid hpv
  have HH := Lib.hid hh
  have HV := Lib.hid hv
  have HFL := Lib.hid (⟨hvn, hvs, hfew, hmax, hok, hB⟩ : _ ∧ _ ∧ _ ∧ _ ∧ _ ∧ _)
  obtain ⟨p, hp⟩ : ∃ z, z = w.heap.size := ⟨_, rfl⟩
  have HP := Lib.hid hp
  clear hst hw0 h hs0 hb0 hbx0 hx hl hA hpv hh hv hvn hvs hfew hmax hok hB
  go_enter Tryz.func11, Tryz.ntmps11
  go_upto_region 1 with fail
  rw [← HW0.out, ← hp]
  rw [← hp] at HBX hl0
  clear hp HW0
  go_wp2_with fail
  refine HSC.out.mono ?_
  rintro _ w1 ⟨rfl, hb1, hsp1⟩
  obtain ⟨s2, hs2⟩ : ∃ z, z = w0.heap.size := ⟨_, rfl⟩
  rw [← hs2] at hsp1 ⊢
  have hbw1 : Below w.heap.size w w1 := HB0.out.trans (hb1.mono HB0.out.size)
  have hbx1 := (hb1.block p hl0).trans HBX.out
  have hput := put_new x A c w1 hsp1 HX.out.ok HX.out.sh HX.out.ln HX.out.lb HA.out ((HL.out.below hbw1).rd) HH.out HV.out hf
  have HPUT := Lib.hid hput
  have HBW1 := Lib.hid hbw1
  have HBX1 := Lib.hid hbx1
  have HS2 := Lib.hid hs2
  have hz01 : w0.heap.size ≤ w1.heap.size := hb1.size
  clear hb1 hsp1 hbw1 hbx1 hput hs2 HSC HBX c7
  go_wp2_with (first | (refine wpList_load_row rfl _ _ rfl p rfl _ _ _ _ HBX1.out Tryz.underlying47 rfl Tryz.infoIt ?_) | fail)
  refine HPUT.out.mono ?_
  rintro _ w2 ⟨A', c', rfl, hnew, S4, hs4, hst4⟩
  have hpvz := HPV.out A' c'
  obtain ⟨pz, hpz⟩ : ∃ z, z = putR R.X R.L x A' c' := ⟨_, rfl⟩
  rw [← hpz] at hs4 hpvz ⊢
  have hmem : ∀ e ∈ pz.2.2.2.2, ∀ a, e.A = some a → 0 < e.x.l.length → (∃ e0 ∈ R.L, e0.A = some a ∧ 0 < e0.x.l.length) ∨ w1.heap.size ≤ a.block := fun e he a ha h0 => by
    rw [hpz] at he
    rcases putR_mem he with h1 | h1 | ⟨h1, h2⟩
    · exact .inl ⟨e, h1, ha, h0⟩
    · rw [h1] at h0; exact absurd h0 (by simp)
    · rw [h1] at ha
      rw [h2] at h0
      exact .inr (hnew a ha h0)
  have hS4w : ∀ k, S4 k → w0.heap.size ≤ k := fun k hk => (hst4.new k hk).elim (fun h => by have := h.1; have := HS2.out; omega) (fun h => by omega)
  have hb2 : Below w.heap.size w w2 := HBW1.out.trans ⟨hst4.only.os, hst4.only.tape, hst4.only.output, hst4.only.size, fun k hk => hst4.only.block k (Nat.lt_of_lt_of_le hk HBW1.out.size) (fun h => by have := h.1; have := HS2.out; have := HB0.out.size; omega)⟩
  have hbx2 : w2.heap[p]? = some (.cells (itC x A c).toArray 47 (0, 0)) := (hst4.only.block p (by omega) (fun h => by have := h.1; have := HS2.out; omega)).trans HBX1.out
  have HMEM := Lib.hid hmem
  have HS4 := Lib.hid hs4
  have HS4W := Lib.hid hS4w
  have HB2 := Lib.hid hb2
  have HBX2 := Lib.hid hbx2
  have HPZ := Lib.hid hpvz
  have hl2 : p < w2.heap.size := (Array.getElem?_eq_some_iff.1 hbx2).1
  have hw02 : w0.heap.size ≤ w2.heap.size := Nat.le_trans hz01 hst4.only.size
  clear hnew hs4 hst4 hpvz hpz hmem hS4w hb2 hbx2 HPUT HPV
  obtain ⟨z, hz⟩ : ∃ z, z = pz.1 := ⟨_, rfl⟩
  obtain ⟨ix, hix⟩ : ∃ z, z = pz.2.1 := ⟨_, rfl⟩
  obtain ⟨fr, hfr⟩ : ∃ z, z = pz.2.2.1 := ⟨_, rfl⟩
  rw [← hz, ← hix, ← hfr]
  have HZ : Hid ((putV R.X (ers R.L) x).1 = z ∧ (putV R.X (ers R.L) x).2.1 = ix ∧ (putV R.X (ers R.L) x).2.2.1 = fr ∧ (putV R.X (ers R.L) x).2.2.2.1 = pz.2.2.2.1 ∧ (putV R.X (ers R.L) x).2.2.2.2 = ers pz.2.2.2.2) := by
    have h := HPZ.out
    rw [h, hz, hix, hfr]
    exact ⟨rfl, rfl, rfl, rfl, rfl⟩
  clear hz hix hfr
  by_cases hz0 : z = 0
  rotate_left
  · have d1 : ((z : Int) != 0) = true := by rw [bne_iff_ne]; omega
    go_wp2
    go_ret3
    refine .inl ⟨by rw [HZ.out.1]; exact hz0, by rw [HZ.out.1]; rfl, ?_⟩
    exact HB2.out
  · subst hz0
    have h2 := HS.out.below HB2.out
    have hlb2 := HL.out.below HB2.out
    have hpw : p = w.heap.size := HP.out
    have hw := write_any 1 37 ent37 ⟨p, 0, none⟩ (itemB x) w2 h2 hn (by have := HFL.out.2.2.2.2.2; omega) HFL.out.2.2.2.2.1 (fun g v w' hb hg hw => by
      have hlb' := hlb2.below hb
      have hr : LabAt w' g v.ownBlock A x.l := by
        intro h0
        obtain ⟨b, o, e, hb', hc'⟩ := (HL.out.rd.below (HB2.out.trans (hb.mono HB2.out.size))) h0
        have hzz := HB2.out.size
        exact ⟨b, o, e, by have := hb.size; omega, by omega, fun e => by have := hw.ne b e.symm; omega, hc'⟩
      exact fill_put x A c HX.out p g v [1] w' ((hb.block p hl2).trans HBX2.out) hw (by simp) hr) HFL.out.1 HFL.out.2.1 HFL.out.2.2.1 (by have := HFL.out.2.2.2.1; have := HFL.out.2.2.2.2.2; omega)
    have HW := Lib.hid hw
    rw [← HST.out] at HW
    clear h2 hlb2 hw hpw
    go_wp2_with fail
    refine HW.out.mono ?_
    rintro _ w3 ⟨rfl, P3, hs3, hm3⟩
    rw [HST.out] at hs3
    have hm3' := mv_below HB2.out hm3
    have hP3 : ∀ i k, P3 i k → k < w.heap.size ∨ w2.heap.size ≤ k := fun i k hk => (hm3.new i k hk).imp (fun ⟨j, hj⟩ => HS.out.own.lt j k hj) id
    have hsp3 := HS4.out.keep hm3.only (fun k hk ⟨i, hi⟩ => by have := HS.out.own.lt i k hi; have := HS4W.out k hk; have := HB0.out.size; omega) (fun e he a ha h0 ⟨i, hi⟩ => by
      rcases HMEM.out e he a ha h0 with ⟨e0, he0, ha0, h00⟩ | h1
      · exact HS.out.lab e0 he0 a ha0 h00 i hi
      · have := HS.out.own.lt i _ hi; have := HB0.out.size; omega)
    have hS4l := HS4.out.lt
    obtain ⟨hs4, hm4⟩ := hs3.queue hm3' hsp3 (fun k hk => by have := HS4W.out k hk; have := HB0.out.size; omega) (fun k i hk hi => by
      have h1 := HS4W.out k hk
      have h2 := hS4l k hk
      have := HB0.out.size
      rcases hP3 i k hi with h | h <;> omega) (fun e he a ha h0 i hi => by
      have hlt := rdP_lt (HS4.out.ent e he).rd ha h0
      rcases HMEM.out e he a ha h0 with ⟨e0, he0, ha0, h00⟩ | h1
      · have h3 := rdP_lt (HS.out.sp.ent e0 he0).rd ha0 h00
        rcases hm3'.new i _ hi with ⟨j, hj⟩ | h
        · exact HS.out.lab e0 he0 a ha0 h00 j hj
        · omega
      · have := HB0.out.size
        rcases hP3 i _ hi with h | h <;> omega) (fun e he a ha h0 hk => by
      have h3 := rdP_lt (HS.out.fok e he).lb.rd ha h0
      have := HS4W.out _ hk
      have := HB0.out.size
      omega)
    have hlb3 := HL.out.mv hm4
    have c7 : w3.cell? ⟨R.st, 7, none⟩ = some (.pointer (some ⟨R.sq, 0, none⟩)) := cell_of_row _ _ 7 _ _ _ hs3.blk
    have f7 : w3.frozen? ⟨R.st, 7, none⟩ = false := frozen_of_row _ _ 7 _ _ hs3.blk
    have hstP : P 2 R.st := HS.out.p2
    have hbx3 : w3.heap[p]? = some (.cells (itC x A c).toArray 47 (0, 0)) := (hm3.only.block p hl2 (fun ⟨i, hi⟩ => by have := HS.out.own.lt i p hi; have := HP.out; omega)).trans HBX2.out
    have hbx4 : (w3.setCell ⟨R.st, 7, none⟩ (.pointer (some ⟨s2, 0, none⟩))).heap[p]? = some (.cells (itC x A c).toArray 47 (0, 0)) := (heap_setCell_other _ _ _ _ (fun e => by have e : p = R.st := e; have := HS.out.own.lt 2 _ hstP; have := HP.out; omega)).trans hbx3
    obtain ⟨w4, hw4⟩ : ∃ V, V = w3.setCell ⟨R.st, 7, none⟩ (.pointer (some ⟨s2, 0, none⟩)) := ⟨_, rfl⟩
    rw [← hw4] at hs4 hm4 hlb3 hbx4
    have hnote := note_any x A c w4 hs4 HX.out HA.out hlb3 hF
    have hnote : Calls Tryz.prog 39 #[.pointer (some ⟨R.st, 0, none⟩), .agg (itC x A c).toArray] w4 fun e w' => e = .returned (.tuple #[]) ∧ ∃ P' R', Sto w' P' R' (n + 1) ∧ Mv6 w4 (upd P3 4 S4) w' P' ∧ PutPost R R' x := by
      refine hnote.mono ?_
      rintro _ w' ⟨rfl, P', v, F, q1, q2, q3⟩
      refine ⟨rfl, P', _, q1, q3, rfl, rfl, rfl, rfl, rfl, rfl, rfl, rfl, ?_⟩
      unfold putA Rc.ab
      simp only
      rw [HZ.out.2.2.2.1, HZ.out.2.2.2.2, q2]
    rw [← HST.out] at c7 f7 hw4 hnote
    have HNOTE := Lib.hid hnote
    have HM4 := Lib.hid hm4
    have HBX4 := Lib.hid hbx4
    clear hs3 hm3 hm3' hP3 hsp3 hS4l hs4 hm4 hlb3 hbx3 hbx4 hnote hstP HW HBX2 HBX1 HS4 HS4W HMEM
    go_upto_region 11 with fail
    rw [← hw4]
    clear hw4 c7 f7
    go_wp2_with (first | (refine wpList_load_row rfl _ _ rfl p rfl _ _ _ _ HBX4.out Tryz.underlying47 rfl Tryz.infoIt ?_) | fail)
    refine HNOTE.out.mono ?_
    rintro _ w5 ⟨rfl, P5, R5, q1, q2, q3⟩
    have HQ := Lib.hid (⟨q1, HM4.out.trans q2, q3⟩ : _ ∧ _ ∧ _)
    clear q1 q2 q3 HNOTE HM4 HBX4
    go_wp2
    go_ret3
    exact .inr ⟨HZ.out.1, by rw [HZ.out.2.1, HZ.out.2.2.1]; rfl, P5, R5, HQ.out.1, HQ.out.2.1, HQ.out.2.2⟩
set_option maxRecDepth 100000 in
set_option maxHeartbeats 1000000 in
theorem sto_life {P : Nat → Nat → Prop} {R : Rc} {n : Nat} (w : World) (h : Sto w P R n) :
    Calls Tryz.prog 22 #[.pointer (some ⟨R.st, 0, none⟩)] w fun e w' => e = .returned (.int .u64 R.life) ∧ w = w' := by
  have c6 : w.cell? ⟨R.st, 6, none⟩ = some (.int .u64 R.life) := cell_of_row _ _ 6 _ _ _ h.blk
  clear h
  go_enter Tryz.func22, Tryz.ntmps22
  go_wp2
  go_ret
  exact ⟨rfl, rfl⟩
set_option maxRecDepth 100000 in
set_option maxHeartbeats 1000000 in
theorem sto_next {P : Nat → Nat → Prop} {R : Rc} {n : Nat} (w : World) (h : Sto w P R n) (hs : R.self < 32) (hh : R.X.h R.self < 18446744073709551615) :
    Calls Tryz.prog 10 #[.pointer (some ⟨R.st, 0, none⟩)] w fun e w' => e = .returned (.int .u64 ((R.X.h R.self + 1 : Nat) : Int)) ∧ Below w.heap.size w w' := by
  have HC : Hid (∀ W, Below w.heap.size w W → W.cell? ⟨R.st, 5, none⟩ = some (.int .u8 R.self) ∧ W.cell? ⟨R.st, 7, none⟩ = some (.pointer (some ⟨R.sq, 0, none⟩))) := fun W hW => ⟨cell_of_row _ _ 5 _ _ _ (h.below hW).blk, cell_of_row _ _ 7 _ _ _ (h.below hW).blk⟩
  have HH := Lib.hid (high_any R.self hs w.drew (h.sp.below ((Below.refl _ _).drew)))
  obtain ⟨st, hst⟩ : ∃ z, z = R.st := ⟨_, rfl⟩
  obtain ⟨hi, hhi⟩ : ∃ z, z = R.X.h R.self := ⟨_, rfl⟩
  rw [← hst] at HC ⊢
  rw [← hhi] at HH hh ⊢
  have hw : IntKind.u64.wrap ((hi : Int) + 1) = ((hi + 1 : Nat) : Int) := by rw [IntKind.wrap_u64]; omega
  clear h hst hhi
  go_enter Tryz.func10, Tryz.ntmps10
  go_upto_region 3 with fail
  refine wp_region_noPanic ?_
  refine wp_region_held_drew (S := fun W => W.cell? ⟨st, 5, none⟩ = some (.int .u8 R.self) ∧ W.cell? ⟨st, 7, none⟩ = some (.pointer (some ⟨R.sq, 0, none⟩))) (by kernel_rfl) ?_ (fun hHeld => ?_)
  · exact HC.out _ ((Below.refl _ _).drew)
  try simp only [heldPut, List.set]
  refine heldTake (i := 0) (v := ?_) rfl (by kernel_rfl) (by kernel_rfl) (by kernel_rfl) (fun _ _ _ h => h) (Or.inl ⟨by rfl, ?_⟩) (by assumption) ?_
  rotate_left
  · (intro W hSw; (try dsimp only at hSw); obtain ⟨f1, f2⟩ := hSw; go_simp; try with_reducible rfl)
  try simp only [heldPut, List.set]
  refine heldTake (i := 1) (v := ?_) rfl (by kernel_rfl) (by kernel_rfl) (by kernel_rfl) (fun _ _ _ h => h) (Or.inl ⟨by rfl, ?_⟩) (by assumption) ?_
  rotate_left
  · (intro W hSw; (try dsimp only at hSw); obtain ⟨f1, f2⟩ := hSw; go_simp; try with_reducible rfl)
  try simp only [heldPut, List.set]
  refine heldTake (i := 2) (v := ?_) rfl (by kernel_rfl) (by kernel_rfl) (by kernel_rfl) (fun _ _ _ h => h) (Or.inl ⟨by rfl, ?_⟩) (by assumption) ?_
  rotate_left
  · (intro W hSw; (try dsimp only at hSw); obtain ⟨f1, f2⟩ := hSw; go_simp; try with_reducible rfl)
  try simp only [heldPut, List.set]
  refine heldTake (i := 3) (v := ?_) rfl (by kernel_rfl) (by kernel_rfl) (by kernel_rfl) (fun _ _ _ h => h) (Or.inl ⟨by rfl, ?_⟩) (by assumption) ?_
  rotate_left
  · (intro W hSw; (try dsimp only at hSw); obtain ⟨f1, f2⟩ := hSw; go_simp; try with_reducible rfl)
  try simp only [heldPut, List.set]
  refine heldTake (i := 4) (v := ?_) rfl (by kernel_rfl) (by kernel_rfl) (by kernel_rfl) (fun _ _ _ h => h) (Or.inl ⟨by rfl, ?_⟩) (by assumption) ?_
  rotate_left
  · (intro W hSw; (try dsimp only at hSw); obtain ⟨f1, f2⟩ := hSw; go_simp; try with_reducible rfl)
  try simp only [heldPut, List.set]
  refine heldTake (i := 5) (v := ?_) rfl (by kernel_rfl) (by kernel_rfl) (by kernel_rfl) (fun _ _ _ h => h) (Or.inl ⟨by rfl, ?_⟩) (by assumption) ?_
  rotate_left
  · (intro W hSw; (try dsimp only at hSw); obtain ⟨f1, f2⟩ := hSw; go_simp; try with_reducible rfl)
  try simp only [heldPut, List.set]
  refine heldTake (i := 6) (v := ?_) rfl (by kernel_rfl) (by kernel_rfl) (by kernel_rfl) (fun _ _ _ h => h) (Or.inl ⟨by rfl, ?_⟩) (by assumption) ?_
  rotate_left
  · (intro W hSw; (try dsimp only at hSw); obtain ⟨f1, f2⟩ := hSw; go_simp; try with_reducible rfl)
  try simp only [heldPut, List.set]
  refine heldTake (i := 7) (v := ?_) rfl (by kernel_rfl) (by kernel_rfl) (by kernel_rfl) (fun _ _ _ h => h) (Or.inl ⟨by rfl, ?_⟩) (by assumption) ?_
  rotate_left
  · (intro W hSw; (try dsimp only at hSw); obtain ⟨f1, f2⟩ := hSw; go_simp; try with_reducible rfl)
  try simp only [heldPut, List.set]
  refine heldOne (i := 8) rfl (by kernel_rfl) (fun K hK => ?_)
  go_simp
  refine HH.out.mono ?_
  rintro _ w1 ⟨rfl, rfl⟩
  go_wp2_with fail
  refine hK.out _ _ ?_ (fun hHeld => ?_)
  · exact HC.out _ ((Below.refl _ _).drew)
  clear hK K
  try simp only [heldPut, List.set]
  refine heldTake (i := 9) (v := ?_) rfl (by kernel_rfl) (by kernel_rfl) (by kernel_rfl) (fun _ _ _ h => h) (Or.inl ⟨by rfl, ?_⟩) (by assumption) ?_
  rotate_left
  · (intro W hSw; (try dsimp only at hSw); go_simp; try with_reducible rfl)
  try simp only [heldPut, List.set]
  refine heldTake (i := 10) (v := ?_) rfl (by kernel_rfl) (by kernel_rfl) (by kernel_rfl) (fun _ _ _ h => h) (Or.inl ⟨by rfl, ?_⟩) (by assumption) ?_
  rotate_left
  · (intro W hSw; (try dsimp only at hSw); go_simp; try with_reducible rfl)
  try simp only [heldPut, List.set]
  refine wpAnyH_done (by kernel_rfl) ?_ _
  refine NoPanic.normal ?_
  go_wp2
  go_ret
  exact ⟨rfl, (Below.refl _ _).drew⟩
set_option maxRecDepth 100000 in
set_option maxHeartbeats 1000000 in
theorem sto_put_nil (x : It) (A : Option Addr) (c : Nat) (w : World) :
    Calls Tryz.prog 11 #[.pointer none, .agg (itC x A c).toArray] w fun e w' => e = .returned (.tuple #[.int .u64 0, .int .u64 0, .int .i64 1]) ∧ Below w.heap.size w w' := by
  go_enter Tryz.func11, Tryz.ntmps11
  go_wp2
  go_ret3
  exact ⟨rfl, (Below.refl _ _).alloc (Nat.le_refl _) _⟩
theorem sto_ack_nil (N : Nat) (w : World) : Calls Tryz.prog 19 #[.pointer none, .int .u64 N] w fun e w' => e = .returned (.int .i64 1) ∧ Below w.heap.size w w' := by
  go_enter Tryz.func19, Tryz.ntmps19
  go_wp2
  go_ret
  exact ⟨rfl, (Below.refl _ _).alloc (Nat.le_refl _) _⟩
theorem sto_sync_nil (w : World) : Calls Tryz.prog 13 #[.pointer none] w fun e w' => e = .returned (.int .i64 1) ∧ w = w' := by
  go_enter Tryz.func13, Tryz.ntmps13
  go_wp2
  go_ret
  exact ⟨rfl, rfl⟩
theorem sto_sizes_nil (w : World) : Calls Tryz.prog 14 #[.pointer none] w fun e w' => e = .returned (.tuple #[.int .i64 0, .int .u64 0]) ∧ w = w' := by
  go_enter Tryz.func14, Tryz.ntmps14
  go_wp2
  go_ret2
  exact ⟨rfl, rfl⟩
theorem sto_room_nil (w : World) : Calls Tryz.prog 15 #[.pointer none] w fun e w' => e = .returned (.int .i64 0) ∧ w = w' := by
  go_enter Tryz.func15, Tryz.ntmps15
  go_wp2
  go_ret
  exact ⟨rfl, rfl⟩
theorem sto_life_nil (w : World) : Calls Tryz.prog 22 #[.pointer none] w fun e w' => e = .returned (.int .u64 0) ∧ w = w' := by
  go_enter Tryz.func22, Tryz.ntmps22
  go_wp2
  go_ret
  exact ⟨rfl, rfl⟩
theorem sto_next_nil (w : World) : Calls Tryz.prog 10 #[.pointer none] w fun e w' => e = .returned (.int .u64 0) ∧ w = w' := by
  go_enter Tryz.func10, Tryz.ntmps10
  go_wp2
  go_ret
  exact ⟨rfl, rfl⟩
theorem sto_evicted_nil (w : World) : Calls Tryz.prog 27 #[.pointer none] w fun e w' => e = .returned (.int .u64 0) ∧ w = w' := by
  go_enter Tryz.func27, Tryz.ntmps27
  go_wp2
  go_ret
  exact ⟨rfl, rfl⟩
theorem sto_fires_nil (w : World) : Calls Tryz.prog 26 #[.pointer none] w fun e w' => e = .returned (.slice none 0 0) ∧ w = w' := by
  go_enter Tryz.func26, Tryz.ntmps26
  go_wp2
  go_ret
  exact ⟨rfl, rfl⟩
theorem sto_spool_nil (w : World) : Calls Tryz.prog 17 #[.pointer none] w fun e w' => e = .returned (.pointer none) ∧ w = w' := by
  go_enter Tryz.func17, Tryz.ntmps17
  go_wp2
  go_ret
  exact ⟨rfl, rfl⟩
theorem sto_spool {P : Nat → Nat → Prop} {R : Rc} {n : Nat} (w : World) (h : Sto w P R n) :
    Calls Tryz.prog 17 #[.pointer (some ⟨R.st, 0, none⟩)] w fun e w' => ∃ s S, e = .returned (.pointer (some ⟨s, 0, none⟩)) ∧ SpAt w' S s R.X R.L ∧ (∀ k, S k → w.heap.size ≤ k) ∧ Below w.heap.size w w' := by
  have c7 : w.cell? ⟨R.st, 7, none⟩ = some (.pointer (some ⟨R.sq, 0, none⟩)) := cell_of_row _ _ 7 _ _ _ h.blk
  have HC := Lib.hid (scopy_any w h.sp)
  clear h
  go_enter Tryz.func17, Tryz.ntmps17
  go_wp2_with fail
  refine HC.out.mono ?_
  rintro _ w1 ⟨rfl, hb, hs⟩
  have HQ := Lib.hid (⟨hs, hb⟩ : _ ∧ _)
  clear hs hb HC
  go_wp2
  go_ret
  exact ⟨_, _, rfl, HQ.out.1, fun k hk => hk.1, HQ.out.2⟩
set_option maxRecDepth 100000 in
set_option maxHeartbeats 1000000 in
theorem sto_open_nil1 (p : Value) (self : Nat) (q : Int) (w : World) :
    Calls Tryz.prog 9 #[.pointer none, p, .int .u8 self, .int .i64 q] w fun e w' => e = .returned (.tuple #[.pointer none, .int .i64 1]) ∧ w = w' := by
  go_enter Tryz.func9, Tryz.ntmps9
  go_wp2
  go_ret2
  exact ⟨rfl, rfl⟩
set_option maxRecDepth 100000 in
set_option maxHeartbeats 1000000 in
theorem sto_open_nil2 (a : Addr) (self : Nat) (q : Int) (w : World) :
    Calls Tryz.prog 9 #[.pointer (some a), .pointer none, .int .u8 self, .int .i64 q] w fun e w' => e = .returned (.tuple #[.pointer none, .int .i64 1]) ∧ w = w' := by
  go_enter Tryz.func9, Tryz.ntmps9
  go_wp2
  go_ret2
  exact ⟨rfl, rfl⟩
set_option maxRecDepth 100000 in
set_option maxHeartbeats 1000000 in
theorem sto_open_node (a b : Addr) (self : Nat) (hs : 32 ≤ self) (q : Int) (w : World) :
    Calls Tryz.prog 9 #[.pointer (some a), .pointer (some b), .int .u8 self, .int .i64 q] w fun e w' => e = .returned (.tuple #[.pointer none, .int .i64 20]) ∧ w = w' := by
  have hs2 : decide (32 ≤ self) = true := decide_eq_true hs
  go_enter Tryz.func9, Tryz.ntmps9
  go_wp2
  go_ret2
  exact ⟨rfl, rfl⟩
set_option maxRecDepth 100000 in
set_option maxHeartbeats 1000000 in
theorem sto_open_quota (a b : Addr) (self : Nat) (hs : self < 32) (q : Int) (hq : ¬ (64 ≤ q ∧ q ≤ 65536)) (w : World) :
    Calls Tryz.prog 9 #[.pointer (some a), .pointer (some b), .int .u8 self, .int .i64 q] w fun e w' => e = .returned (.tuple #[.pointer none, .int .i64 26]) ∧ w = w' := by
  have hself : ¬ 32 ≤ self := by omega
  have hself2 : decide (32 ≤ self) = false := decide_eq_false hself
  have HN := Lib.hid (snew_wrong q (by omega) w)
  clear hs hq
  go_enter Tryz.func9, Tryz.ntmps9
  go_wp2_with fail
  refine HN.out.mono ?_
  rintro _ w1 ⟨rfl, rfl⟩
  clear HN
  go_wp2
  go_ret2
  exact ⟨rfl, rfl⟩
theorem part_len {x : It} {h : Nat → Nat} (hx : OkI x) (hp : partE x h = 0) (hh : h (spO x) ≤ 1099511627776) : (itemB (partI x h)).length ≤ (itemB x).length + 5 := by
  unfold partI
  rw [if_pos hp]
  unfold trimI
  have hpe := hp
  unfold partE at hpe
  by_cases h1 : spT x ≤ h (spO x)
  · exfalso
    split at hpe
    · rename_i hn; exact hn hpe
    · first | (rw [if_pos h1] at hpe; exact absurd hpe (by decide)) | cases hpe
  · rw [if_neg h1]
    by_cases h2 : h (spO x) < spF x
    · rw [if_pos h2]; omega
    · rw [if_neg h2]
      have hg : x.g = true := by
        cases hg : x.g with
        | true => rfl
        | false =>
          unfold spT at h1
          unfold spF at h2
          rw [hg] at h1 h2
          exact absurd h1 (by simpa using h2)
      have h3 : (leb (h (spO x) + 1)).length ≤ 6 := leb_len 5 _ (by omega)
      have h4 : 1 ≤ (leb x.gf).length := leb_pos _
      unfold itemB gapB
      rw [hg]
      have h5 : spO x = x.ga := by unfold spO; rw [hg]; rfl
      have h6 : spT x = x.gt := by unfold spT; rw [hg]; rfl
      rw [h6]
      simp only [if_true, List.length_cons, List.length_append, List.length_nil]
      omega
theorem zeroI_short : (itemB zeroI).length ≤ 12 := by decide +kernel
structure InN (q B : Nat) (a : Ab) : Prop where
  ok : ∃ k, SpOk a.X a.K k
  sum : sumE a.K ≤ B - 4
  len : a.K.length ≤ B
  F : a.F.length ≤ B
  q : a.X.q = q
theorem InN.zero (q : Nat) : InN q 0 ⟨⟨q, 1, 0, 0, fun _ => 0⟩, [], [], 0, 0⟩ := ⟨⟨0, SpOk.new q⟩, Nat.le_refl _, Nat.le_refl _, Nat.le_refl _, rfl⟩
section
variable {q B : Nat} {a : Ab}
theorem InN.more {C : Nat} (h : InN q B a) (hC : B ≤ C) : InN q C a := ⟨h.ok, by have := h.sum; omega, by have := h.len; omega, by have := h.F; omega, h.q⟩
theorem InN.put (h : InN q B a) {self : Nat} {x : It} (hx : OkI x) (h0 : (putV a.X a.K x).1 = 0) (hf : B + 9 + (itemB x).length ≤ q) : InN q (B + 9 + (itemB x).length) (putA self a x) := by
  obtain ⟨k, hk⟩ := h.ok
  have hp : partE x a.X.h = 0 := Classical.byContradiction fun hne => by
    have h1 : (putV a.X a.K x).1 = partE x a.X.h := by unfold putV putR; rw [if_pos hne]
    rw [h1] at h0
    exact hne h0
  have hl := part_len hx hp (hk.hs _)
  have hs := h.sum
  have hqq := h.q
  have hfit : sumE a.K + (itemB (partI x a.X.h)).length ≤ a.X.q := by omega
  have hrk : ∀ c, roomK (itemB (partI x a.X.h)).length a.X.q c a.K 0 a.X.v = (true, a.K, 0, a.X.v) := fun c => roomK_fit hfit
  have hK : (putA self a x).K = (addJ a.K (addE { a.X with v := a.X.v } (partI x a.X.h) none 0)).1 ∨ (putA self a x).K = a.K := by
    show (putV a.X a.K x).2.2.2.2 = _ ∨ (putV a.X a.K x).2.2.2.2 = _
    unfold putV putR
    rw [if_neg (fun hne => hne hp)]
    simp only [hrk]
    split
    · exact .inr rfl
    · split
      · exact .inr rfl
      · exact .inl rfl
  refine ⟨⟨k + 1, hk.put x none 0⟩, ?_, ?_, ?_, ?_⟩
  · rcases hK with e | e
    · rw [e]
      have h2 := sum_addJ a.K (addE { a.X with v := a.X.v } (partI x a.X.h) none 0)
      have h3 : (itemB (addE { a.X with v := a.X.v } (partI x a.X.h) none 0).x).length = (itemB (partI x a.X.h)).length := rfl
      omega
    · rw [e]; omega
  · have h4 := h.len
    rcases hK with e | e
    · rw [e]
      have h2 := len_addJ a.K (addE { a.X with v := a.X.v } (partI x a.X.h) none 0)
      omega
    · rw [e]; omega
  · have h5 := h.F
    have h6 := noteF_len self a.F x
    show (noteF self a.F x).length ≤ _
    omega
  · show (putV a.X a.K x).2.2.2.1.q = q
    unfold putV
    rw [putR_q]
    exact hqq
theorem InN.ack (h : InN q B a) {N : Nat} (h0 : ackE a.X N = 0) : InN q B (ackA a N) := by
  obtain ⟨k, hk⟩ := h.ok
  obtain ⟨h1, h2⟩ := ack_yes h0 a.K
  have hN : N < a.X.n := by
    unfold ackE at h0
    split at h0
    · cases h0
    · omega
  obtain ⟨m, hm⟩ := CutAt.ex hk.riseE N
  have hab := above_drop hm
  have hsub : List.Sublist (aboveK a.K N) a.K := List.filter_sublist
  refine ⟨⟨k, ?_⟩, ?_, ?_, h.F, ?_⟩
  · show SpOk (ackX a.X N) (ackK a.X a.K N) k
    rw [h1, h2, ← hab]
    exact hk.acked hN hm
  · show sumE (ackK a.X a.K N) ≤ _
    rw [h2]
    have h3 := sumE_cut (L := a.K) (Nat.zero_le m)
    rw [hab] at h3
    have := h.sum
    omega
  · show (ackK a.X a.K N).length ≤ _
    rw [h2]
    have := hsub.length_le
    have := h.len
    omega
  · show (ackX a.X N).q = q
    rw [h1]
    exact h.q
theorem InN.re (h : InN q B a) (hq1 : 64 ≤ q) (hq2 : q ≤ 65536) (hB : B ≤ 60000) {r : List Nat} (hr : partE (takeR (r, 0)).1 a.X.h = 0 → OkI (takeR (r, 0)).1 ∧ B + 9 + (itemB (takeR (r, 0)).1).length ≤ q) (hf : B + 9 ≤ q) : ReOkA a r := by
  obtain ⟨k, hk⟩ := h.ok
  have hs := h.sum
  have hqq := h.q
  refine ⟨fun i _ => hk.hs i, .inl ?_, by have := h.len; omega, by have := h.F; omega, hk.riseE, by omega, by omega⟩
  by_cases hp : partE (takeR (r, 0)).1 a.X.h = 0
  · obtain ⟨h1, h2⟩ := hr hp
    have := part_len h1 hp (hk.hs _)
    omega
  · have hz : partI (takeR (r, 0)).1 a.X.h = zeroI := by unfold partI; rw [if_neg hp]
    rw [hz]
    have := zeroI_short
    have hsz : sumE a.K ≤ B - 4 := hs
    omega
end
theorem rU_lenS {s : St} (hok : OkB s.1) (h : (rU s).2.2 = 0) : (rU s).2.1.length < s.1.length := by
  have h0 := rU_stick h
  obtain ⟨l, er⟩ := s
  have h0 : er = 0 := h0
  subst h0
  exact rU_less hok h
theorem nR_lenS : ∀ (k : Nat) {s : St}, OkB s.1 → (nR k s).2.2 = 0 → (nR k s).2.1.length ≤ s.1.length
  | 0, _, _, _ => Nat.le_refl _
  | k + 1, s, hok, h => by
    have h1 : (nR k s).2.2 = 0 := rU_stick (s := (nR k s).2) h
    have h2 := nR_lenS k hok h1
    have h3 := rU_lenS (s := (nR k s).2) (nR_okB k hok h1) h
    show (rU (nR k s).2).2.1.length ≤ _
    omega
theorem entsR_len : ∀ {n : Nat} {acc : List Ett} {s : St}, OkB s.1 → (entsR n acc s).2.2 = 0 → sumE (entsR n acc s).1 + (entsR n acc s).1.length + (entsR n acc s).2.1.length ≤ sumE acc + acc.length + s.1.length ∧ OkB (entsR n acc s).2.1
  | 0, acc, s, hok, _ => ⟨Nat.le_refl _, hok⟩
  | n + 1, acc, s, hok, hz => by
    by_cases h0 : s.2 = 0
    · rw [entsR_step h0] at hz ⊢
      by_cases h1 : (takeR (rU s).2).2.2 = 0
      · have h2 : (rU s).2.2 = 0 := Classical.byContradiction fun hne => by
          have h3 := takeR_st (rU s).2.1 (rU s).2.2 hne
          rw [show ((rU s).2.1, (rU s).2.2) = (rU s).2 from rfl] at h3
          rw [h3] at h1
          exact hne h1
        obtain ⟨l, er⟩ := s
        have h0 : er = 0 := h0
        subst h0
        obtain ⟨i, l1, hr⟩ : ∃ i l1, rU (l, 0) = (i, (l1, 0)) := ⟨(rU (l, 0)).1, (rU (l, 0)).2.1, Prod.ext rfl (Prod.ext rfl h2)⟩
        have hok1 := rU_okB hok hr
        have e1 : l = leb i ++ l1 := (rU_b hok hr).1
        rw [hr] at h1 hz ⊢
        obtain ⟨x, l2, hr2⟩ : ∃ x l2, takeR (l1, 0) = (x, (l2, 0)) := ⟨(takeR (l1, 0)).1, (takeR (l1, 0)).2.1, Prod.ext rfl (Prod.ext rfl h1)⟩
        have hok2 := takeR_okB hok1 hr2
        have e2 : l1 = itemB x ++ l2 := (takeR_b hok1 hr2).2.1
        rw [hr2] at hz ⊢
        obtain ⟨h5, h6⟩ := entsR_len (n := n) (acc := acc ++ [⟨i, x, none, 0⟩]) (s := (l2, 0)) hok2 hz
        refine ⟨?_, h6⟩
        have hp := leb_pos i
        have e1' := congrArg List.length e1
        have e2' := congrArg List.length e2
        rw [List.length_append] at e1' e2'
        have e3 : sumE (acc ++ [⟨i, x, none, 0⟩]) = sumE acc + (itemB x).length := by
          rw [sumE_append, sumE_cons]
          show _ + ((itemB x).length + 0) = _
          omega
        have e4 : (acc ++ [(⟨i, x, none, 0⟩ : Ett)]).length = acc.length + 1 := by rw [List.length_append]; rfl
        rw [e3, e4] at h5
        refine Nat.le_trans h5 ?_
        show sumE acc + (itemB x).length + (acc.length + 1) + l2.length ≤ sumE acc + acc.length + l.length
        omega
      · rw [entsR_err h1] at hz
        exact absurd hz h1
    · rw [entsR_err h0] at hz
      exact absurd hz h0
theorem firR_len : ∀ {n : Nat} {acc : List It} {s : St}, OkB s.1 → (firR n acc s).2.2 = 0 → (firR n acc s).1.length + (firR n acc s).2.1.length ≤ acc.length + s.1.length
  | 0, acc, s, _, _ => Nat.le_refl _
  | n + 1, acc, s, hok, hz => by
    by_cases h0 : s.2 = 0
    · rw [firR_step h0] at hz ⊢
      by_cases hb : (takeR s).1.g = true ∨ (takeR s).1.s ≠ 2
      · rw [if_pos hb] at hz
        have hne : (failS 12 (takeR s).2).2 ≠ 0 := by
          unfold failS
          split
          · decide
          · assumption
        rw [firR_err hne] at hz
        exact absurd hz hne
      · rw [if_neg hb] at hz ⊢
        by_cases h1 : (takeR s).2.2 = 0
        · obtain ⟨l, er⟩ := s
          have h0 : er = 0 := h0
          subst h0
          have hless := takeR_less hok h1
          obtain ⟨x, l2, hr2⟩ : ∃ x l2, takeR (l, 0) = (x, (l2, 0)) := ⟨(takeR (l, 0)).1, (takeR (l, 0)).2.1, Prod.ext rfl (Prod.ext rfl h1)⟩
          have hok2 := takeR_okB hok hr2
          rw [hr2] at hz hless ⊢
          have h5 := firR_len (n := n) (acc := acc ++ [x]) (s := (l2, 0)) hok2 hz
          have e4 : (acc ++ [x]).length = acc.length + 1 := by rw [List.length_append]; rfl
          rw [e4] at h5
          have hless : l2.length < l.length := hless
          have h5' : (firR n (acc ++ [x]) (l2, 0)).1.length + (firR n (acc ++ [x]) (l2, 0)).2.1.length ≤ acc.length + 1 + l2.length := h5
          show (firR n (acc ++ [x]) (l2, 0)).1.length + (firR n (acc ++ [x]) (l2, 0)).2.1.length ≤ acc.length + l.length
          omega
        · rw [firR_err h1] at hz
          exact absurd hz h1
    · rw [firR_err h0] at hz
      exact absurd hz h0
theorem firR_stick {n : Nat} {acc : List It} {s : St} (h : (firR n acc s).2.2 = 0) : s.2 = 0 := Classical.byContradiction fun hne => by
  rw [firR_err hne] at h
  exact hne h
theorem sn_len {r : List Nat} (hok : OkB r) (h : (sn3 r).2.2 = 0) : sumE (sn2 r).1 + (sn2 r).1.length + (sn3 r).1.length ≤ r.length := by
  have h2 : (sn2 r).2.2 = 0 := by
    have h := h
    unfold sn3 at h
    exact firesR_stick (s := (sn2 r).2) h
  have h6 : (bsC (sn1 r).2).2.2 = 0 := by
    have h2 := h2
    unfold sn2 baseR at h2
    exact entsR_stick (n := (bsC (sn1 r).2).1) (acc := []) (s := (bsC (sn1 r).2).2) h2
  obtain ⟨s, hs⟩ : ∃ s, s = (sn1 r).2 := ⟨_, rfl⟩
  have h6b : (rU (bsH 32 s).2).2.2 = 0 := by rw [hs]; unfold bsC at h6; exact h6
  have key : ∀ k, (rU (bsH k s).2).2.2 = 0 → (bsV s).2.2 = 0 := fun k h => nR_stick k (rU_stick (s := (bsH k s).2) h)
  have key2 : ∀ k, OkB (bsV s).2.1 → (rU (bsH k s).2).2.2 = 0 → OkB (rU (bsH k s).2).2.1 ∧ (rU (bsH k s).2).2.1.length ≤ (bsV s).2.1.length := fun k ho h => by
    have h1 := rU_stick (s := (bsH k s).2) h
    have h2 := nR_okB k ho h1
    exact ⟨rU_okS h2 h, by have := rU_lenS (s := (bsH k s).2) h2 h; have h3 : (bsH k s).2.1.length ≤ (bsV s).2.1.length := nR_lenS k ho h1; omega⟩
  have h4 : (bsV s).2.2 = 0 := key 32 h6b
  have h3 : (bsA s).2.2 = 0 := rU_stick (s := (bsA s).2) h4
  have h3b : (bsN s).2.2 = 0 := rU_stick (s := (bsN s).2) h3
  have h1 : s.2 = 0 := rU_stick (s := s) h3b
  have h1' : (rU (r, 0)).2.2 = 0 := by rw [hs] at h1; exact h1
  have o1 : OkB s.1 := by rw [hs]; exact rU_okS (s := (r, 0)) hok h1'
  have l1 : s.1.length ≤ r.length := by rw [hs]; exact Nat.le_of_lt (rU_lenS (s := (r, 0)) hok h1')
  have o2 : OkB (bsN s).2.1 := rU_okS o1 h3b
  have l2 := rU_lenS o1 h3b
  have o3 : OkB (bsA s).2.1 := rU_okS o2 h3
  have l3 := rU_lenS (s := (bsN s).2) o2 h3
  have o4 : OkB (bsV s).2.1 := rU_okS o3 h4
  have l4 := rU_lenS (s := (bsA s).2) o3 h4
  obtain ⟨o5, l5⟩ := key2 32 o4 h6b
  have e1 : (sn2 r) = entsR (bsC s).1 [] (bsC s).2 := by
    unfold sn2 baseR
    rw [hs]
  have o5' : OkB (bsC s).2.1 := by unfold bsC; exact o5
  have l5' : (bsC s).2.1.length ≤ (bsV s).2.1.length := by unfold bsC; exact l5
  have hz : (entsR (bsC s).1 [] (bsC s).2).2.2 = 0 := by rw [← e1]; exact h2
  obtain ⟨l6, o6⟩ := entsR_len (n := (bsC s).1) (acc := []) (s := (bsC s).2) o5' hz
  rw [← e1] at l6 o6
  have h7 : (fsC (sn2 r).2).2.2 = 0 := by
    have h := h
    unfold sn3 firesR at h
    exact firR_stick (n := (fsC (sn2 r).2).1) (acc := []) (s := (fsC (sn2 r).2).2) h
  have h7b : (rU (sn2 r).2).2.2 = 0 := by unfold fsC at h7; exact h7
  have l7 := rU_lenS (s := (sn2 r).2) o6 h7b
  have o7 : OkB (fsC (sn2 r).2).2.1 := by unfold fsC; exact rU_okS (s := (sn2 r).2) o6 h7b
  have l8 : (sn3 r).1.length + (sn3 r).2.1.length ≤ 0 + (fsC (sn2 r).2).2.1.length := by
    have h := h
    unfold sn3 firesR at h ⊢
    exact firR_len (n := (fsC (sn2 r).2).1) (acc := []) (s := (fsC (sn2 r).2).2) o7 h
  have q2 : (bsN s).2.1.length < s.1.length := l2
  have q3 : (bsA s).2.1.length < (bsN s).2.1.length := l3
  have q4 : (bsV s).2.1.length < (bsA s).2.1.length := l4
  have q7 : (fsC (sn2 r).2).2.1.length < (sn2 r).2.1.length := by unfold fsC; exact l7
  have z0 : sumE ([] : List Ett) = 0 := rfl
  rw [z0] at l6
  simp only [List.length_nil] at l6
  omega
end Go.Proofs.YtholdcgkhicdmaaGreatDoor
