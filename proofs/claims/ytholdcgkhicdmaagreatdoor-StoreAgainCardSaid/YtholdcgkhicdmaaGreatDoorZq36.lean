/- Several texts in one: StRp1. -/
import Derived.Test.YtholdcgkhicdmaaGreatDoorZq35
namespace Go.Proofs.YtholdcgkhicdmaaGreatDoor
open Go.RowKit
def RepRet (w0 : World) (P : Nat → Nat → Prop) (R : Rc) (n : Nat) (o : Option Ab) (EZ : Nat → Prop) (e : Ending) (w' : World) : Prop :=
 ∃ z : Nat, e = .returned (.int .i64 z) ∧ ((z ≠ 0 ∧ o = none ∧ EZ z ∧ Only (Own3 P) w0 w') ∨ (z = 0 ∧ ∃ P' R', Sto w' P' R' n ∧ o = some R'.ab ∧ SameS R R' ∧ Mv6 w0 P w' P'))
theorem mv_below {w0 w w' : World} {P P' : Nat → Nat → Prop} (hb : Below w0.heap.size w0 w) (hm : Mv6 w P w' P') : Mv6 w0 P w' P' :=
 ⟨(Only.of_below hb (AnyP P)).trans hm.only (fun i hi => .inl hi), fun i k hk => (hm.new i k hk).imp id (fun h => Nat.le_trans hb.size h)⟩
theorem grown_low {w0 w w' : World} {g : Nat} (hb : Below w0.heap.size w0 w) (hg : w.grownBy w' (some g)) (h : w0.heap.size ≤ g) : Below w0.heap.size w0 w' :=
 hb.trans ⟨hg.os, hg.tape, hg.output, hg.size, fun k hk => hg.block k (Nat.lt_of_lt_of_le hk hb.size) (fun e => by have e := Option.some.inj e; omega)⟩
set_option maxRecDepth 100000 in
set_option maxHeartbeats 4000000 in
theorem replayPut_any {P : Nat → Nat → Prop} {R : Rc} {n g : Nat} {r : List Nat} (w0 w : World) (h : Sto w0 P R n) (hb : Below w0.heap.size w0 w) (hr : RdT w g (r, 0)) (hg : w0.heap.size ≤ g) (hlen : r.length ≤ 60000)
  (hh : ∀ i, i < 32 → R.X.h i ≤ 1099511627776) (hv : sumE R.L + (itemB (partI (takeR (r, 0)).1 R.X.h)).length ≤ R.X.q ∨ R.X.v + cntE R.L < 18446744073709551615) (hf : R.L.length < 100000) (hF : R.F.length ≤ 90000) :
  Calls Tryz.prog 103 #[.pointer (some ⟨R.st, 0, none⟩), .pointer (some ⟨g, 0, none⟩)] w (RepRet w0 P R n (rep1 R.self R.ab r) (fun _ => True)) := by
 obtain ⟨x, s1, hx⟩ : ∃ x s, takeR (r, 0) = (x, s) := ⟨_, _, rfl⟩
 rw [hx] at hv
 have hmod : Mod x := by
  have h1 := takeR_mod (s := (r, 0)) hr.okB (by show r.length ≤ _; omega)
  rw [hx] at h1
  exact h1
 have t1 := take_any g (r, 0) w hr
 rw [hx] at t1
 have hrep : rep1 R.self R.ab r = if endE s1 = 0 ∧ (putV R.X (ers R.L) x).1 = 0 then some (putA R.self R.ab x) else none := by
  unfold rep1
  rw [hx]
  rfl
 have HT1 := Lib.hid t1
 have HREP := Lib.hid hrep
 have HS := Lib.hid h
 have HB := Lib.hid hb
 have HMOD := Lib.hid hmod
 have HH := Lib.hid hh
 have HV := Lib.hid hv
 have hgl := hr.lt
 clear hx t1 hrep h hb hmod hh hv hr
 go_enter Tryz.func103, Tryz.ntmps103
 go_wp2_with fail
 refine HT1.out.mono ?_
 rintro _ w1 ⟨A, m, c, rfl, rfl, ho1, hr1, hg1⟩
 have HB1 := Lib.hid (grown_low HB.out hg1 hg)
 have HO1 := Lib.hid ho1
 have HR1 := Lib.hid hr1
 have hgl1 : g < w1.heap.size := Nat.lt_of_lt_of_le hgl hg1.size
 have hww1 : w.heap.size ≤ w1.heap.size := hg1.size
 clear ho1 hr1 hg1 HT1
 go_upto_region 2 with (first | (refine wpList_store_row rfl _ _ _ rfl w1.heap.size (itC x A c).toArray rfl rfl _ _ (heap_alloc_new _ _) Tryz.infoIt rfl (by simp [Value.oneCell', itC]) ?_) | fail)
 obtain ⟨w2, hw2, hc2, hb2, hl2⟩ := boxI w1 #[.bool false, .int .u8 0, .int .u64 0, .int .u64 0, .string ⟨#[]⟩, .slice none 0 0, .int .u8 0, .int .u8 0, .int .i64 0, .int .u8 0, .int .u8 0, .int .u64 0, .int .u64 0] (itC x A c).toArray
 rw [← hw2, act_put_no]
 obtain ⟨p, hp⟩ : ∃ p, p = w1.heap.size := ⟨_, rfl⟩
 rw [← hp] at hc2 hl2 ⊢
 have hgp : g < p := by rw [hp]; exact hgl1
 have hr2 := HR1.out.below hb2
 have HD := Lib.hid (tk_done g s1 w2 hr2)
 have HC2 := Lib.hid hc2
 have HB2 := Lib.hid (HB1.out.trans (hb2.mono HB1.out.size))
 have HO2 := Lib.hid (ownB_below HO1.out hb2)
 clear hw2 hp hc2 hb2 hr2 HB1 HO1 HR1
 go_wp2_with fail
 refine HD.out.mono ?_
 rintro _ w3 ⟨rfl, hg3⟩
 have HC3 := Lib.hid ((hg3.block p hl2 (by simp; omega)).trans HC2.out)
 have HB3 := Lib.hid (grown_low HB2.out hg3 hg)
 have HO3 : Hid (w3.ownsRow w.heap.size 37 2 (.slice A x.l.length c) x.l.length (cellsP x.l)) := (Only.of_grown (T := fun k => k = g) hg3 (fun k hk => by have e := Option.some.inj hk; exact e.symm)).own HO2.out (fun k hk e => by have := (HO2.out.lt k hk).1; have e : k = g := e; omega)
 have hl3 : p < w3.heap.size := Nat.lt_of_lt_of_le hl2 hg3.size
 clear hg3 HD HC2 HB2 HO2
 by_cases hz : endE s1 = 0
 rotate_left
 ·obtain ⟨z, hze⟩ : ∃ z, z = endE s1 := ⟨_, rfl⟩
  have HE : Hid (rep1 R.self R.ab r = none) := by show _ = _; rw [HREP.out, if_neg (fun h => hz h.1)]
  rw [← hze] at hz ⊢
  have d1 : ((z : Int) != 0) = true := by rw [bne_iff_ne]; omega
  clear hze
  go_wp2
  go_ret
  exact ⟨z, rfl, .inl ⟨hz, HE.out, trivial, Only.of_below HB3.out _⟩⟩
 ·rw [hz]
  have HZ := Lib.hid hz
  clear hz
  have hs3 := HS.out.below HB3.out
  have hlb3 : Lb w3 P A x.l := ⟨RdP.of_own HO3.out, fun a ha h0 i hi => by
   have h1 := (HO3.out.lt a.block (by rw [ha]; rfl)).1
   have h2 := HS.out.own.lt i _ hi
   have h3 := HB.out.size
   omega⟩
  have c7 : w3.cell? ⟨R.st, 7, none⟩ = some (.pointer (some ⟨R.sq, 0, none⟩)) := cell_of_row _ _ 7 _ _ _ hs3.blk
  have hstl : R.st < w3.heap.size := hs3.own.lt 2 _ hs3.p2
  have hput := put_new x A c w3.drew (hs3.sp.below ((Below.refl _ _).drew)) HMOD.out.ok HMOD.out.sh HMOD.out.ln HMOD.out.lb (fun e => own_nil2 HO3.out e) (hlb3.rd.below ((Below.refl w3.heap.size w3).drew)) HH.out HV.out hf
  have HPUT := Lib.hid hput
  have HS3 := Lib.hid hs3
  have HLB3 := Lib.hid hlb3
  obtain ⟨st, hst⟩ : ∃ st, st = R.st := ⟨_, rfl⟩
  rw [← hst] at c7 hstl ⊢
  have HST := Lib.hid hst
  have HC7 : Hid (∀ W, Below w3.heap.size w3 W → W.cell? ⟨st, 7, none⟩ = some (.pointer (some ⟨R.sq, 0, none⟩))) := fun W hW => (hW.cell (p := ⟨st, 7, none⟩) hstl).trans c7
  have HCW : Hid (∀ W, Below w3.heap.size w3 W → W.heap[p]? = some (.cells (itC x A c).toArray 47 (0, 0))) := fun W hW => (hW.block p hl3).trans HC3.out
  clear hs3 hlb3 hput hst c7
  go_upto_region 5 with fail
  have hpP : ∀ i, ¬ P i p := fun i hi => by have := HS.out.own.lt i p hi; have := HB.out.size; omega
  have HPP := Lib.hid hpP
  clear hpP
  refine wp_region_noPanic ?_
  refine wp_region_held_drew (S := fun W => W.cell? ⟨st, 7, none⟩ = some (.pointer (some ⟨R.sq, 0, none⟩)) ∧ W.heap[p]? = some (.cells (itC x A c).toArray 47 (0, 0))) (by kernel_rfl) ?_ (fun hHeld => ?_)
  ·exact ⟨HC7.out _ ((Below.refl _ _).drew), HCW.out _ ((Below.refl _ _).drew)⟩
  try simp only [heldPut, List.set]
  refine hT 0 (v := ?_) rfl (Or.inl ⟨by rfl, ?_⟩) ?_
  rotate_left
  ·(intro W hSw; (try dsimp only at hSw); obtain ⟨f1, f2⟩ := hSw; go_simp; try with_reducible rfl)
  try simp only [heldPut, List.set]
  refine hT 1 (v := ?_) rfl (Or.inl ⟨by rfl, ?_⟩) ?_
  rotate_left
  ·(intro W hSw; (try dsimp only at hSw); obtain ⟨f1, f2⟩ := hSw; go_simp; try with_reducible rfl)
  try simp only [heldPut, List.set]
  refine hT 2 (v := ?_) rfl (Or.inl ⟨by rfl, ?_⟩) ?_
  rotate_left
  ·(intro W hSw; (try dsimp only at hSw); obtain ⟨f1, f2⟩ := hSw; go_simp; try with_reducible rfl)
  try simp only [heldPut, List.set]
  refine hT 3 (v := ?_) rfl (Or.inl ⟨by rfl, ?_⟩) ?_
  rotate_left
  ·(intro W hSw; (try dsimp only at hSw); obtain ⟨f1, f2⟩ := hSw; go_simp; try with_reducible rfl)
  try simp only [heldPut, List.set]
  refine hT 4 (v := .agg (itC x A c).toArray) rfl (Or.inl ⟨by rfl, ?_⟩) ?_
  ·(intro W hSw; exact exec_load_row 47 _ rfl p rfl _ _ _ _ hSw.2 Tryz.underlying47 rfl Tryz.infoIt)
  try simp only [heldPut, List.set]
  refine heldOne (i := 5) rfl (by kernel_rfl) (fun K hK => ?_)
  go_simp
  refine HPUT.out.mono ?_
  rintro _ w4 ⟨A', c', rfl, hnew, S4, hs4, hst4⟩
  have hb3 : Below w3.heap.size w3 w3.drew := (Below.refl _ _).drew
  have hst4' : Step w3 (P 4) w4 S4 := ⟨(Only.of_below hb3 (P 4)).trans hst4.only (fun i hi => .inl hi), hst4.new⟩
  have hS4 : (w4.cell? ⟨st, 7, none⟩ = some (.pointer (some ⟨R.sq, 0, none⟩))) ∧ w4.heap[p]? = some (.cells (itC x A c).toArray 47 (0, 0)) :=
   ⟨(hst4'.only.cell (p := ⟨st, 7, none⟩) hstl (by rw [HST.out]; exact HS3.out.own.not HS3.out.p2 (by decide))).trans (HC7.out w3 (Below.refl _ _)), (hst4'.only.block p hl3 (HPP.out 4)).trans (HCW.out w3 (Below.refl _ _))⟩
  have HSP4 := Lib.hid hs4
  have HST4 := Lib.hid hst4'
  have HNEW := Lib.hid hnew
  have HX4 := Lib.hid hS4
  clear hs4 hst4 hst4' hnew hb3 HPUT
  go_wp2_with fail
  refine hK.out _ _ ?_ (fun hHeld => ?_)
  ·exact HX4.out
  clear hK K
  try simp only [heldPut, List.set]
  refine hT 6 (v := ?_) rfl (Or.inl ⟨by rfl, ?_⟩) ?_
  rotate_left
  ·(intro W hSw; (try dsimp only at hSw); go_simp; try with_reducible rfl)
  try simp only [heldPut, List.set]
  refine hT 7 (v := ?_) rfl (Or.inl ⟨by rfl, ?_⟩) ?_
  rotate_left
  ·(intro W hSw; (try dsimp only at hSw); go_simp; try with_reducible rfl)
  try simp only [heldPut, List.set]
  refine hT 8 (v := ?_) rfl (Or.inl ⟨by rfl, ?_⟩) ?_
  rotate_left
  ·(intro W hSw; (try dsimp only at hSw); go_simp; try with_reducible rfl)
  try simp only [heldPut, List.set]
  refine hT 9 (v := ?_) rfl (Or.inl ⟨by rfl, ?_⟩) ?_
  rotate_left
  ·(intro W hSw; (try dsimp only at hSw); go_simp; try with_reducible rfl)
  try simp only [heldPut, List.set]
  refine hT 10 (v := ?_) rfl (Or.inl ⟨by rfl, ?_⟩) ?_
  rotate_left
  ·(intro W hSw; (try dsimp only at hSw); go_simp; try with_reducible rfl)
  try simp only [heldPut, List.set]
  refine hT 11 (v := ?_) rfl (Or.inl ⟨by rfl, ?_⟩) ?_
  rotate_left
  ·(intro W hSw; (try dsimp only at hSw); go_simp; try with_reducible rfl)
  try simp only [heldPut, List.set]
  refine hT 12 (v := ?_) rfl (Or.inl ⟨by rfl, ?_⟩) ?_
  rotate_left
  ·(intro W hSw; (try dsimp only at hSw); go_simp; try with_reducible rfl)
  try simp only [heldPut, List.set]
  refine wpAnyH_done (by kernel_rfl) ?_ _
  refine NoPanic.normal ?_
  have hpv := putV_of R.X R.L x A' c'
  obtain ⟨q, hq⟩ : ∃ q, q = putR R.X R.L x A' c' := ⟨_, rfl⟩
  rw [← hq] at HSP4 hpv ⊢
  have hmem : ∀ e ∈ q.2.2.2.2, ∀ a, e.A = some a → 0 < e.x.l.length → (∃ e0 ∈ R.L, e0.A = some a ∧ 0 < e0.x.l.length) ∨ w3.heap.size ≤ a.block := fun e he a ha h0 => by
   rw [hq] at he
   rcases putR_mem he with h1 | h1 | ⟨h1, h2⟩
   ·exact .inl ⟨e, h1, ha, h0⟩
   ·rw [h1] at h0; exact absurd h0 (by simp)
   ·rw [h1] at ha
    rw [h2] at h0
    exact .inr (HNEW.out a ha h0)
  obtain ⟨hs5, hm5⟩ := HS3.out.spool HST4.out HSP4.out hmem
  have HS5 := Lib.hid hs5
  have HM5 := Lib.hid (mv_below HB3.out hm5)
  have HL5 := Lib.hid (HLB3.out.mv hm5)
  have HPV := Lib.hid hpv
  have HON5 : Hid (Only (Own3 P) w0 w4) := (Only.of_below HB3.out _).trans (HST4.out.only.mono (fun k hk => .inr (.inl hk)) : Only (Own3 P) w3 w4) (fun _ h => .inl h)
  obtain ⟨z, hze⟩ : ∃ z, z = q.1 := ⟨_, rfl⟩
  rw [← hze]
  have HZE := Lib.hid hze
  clear hs5 hm5 hpv hq hmem hze HSP4 HST4 hHeld
  by_cases hz0 : z = 0
  rotate_left
  ·have HE : Hid (rep1 R.self R.ab r = none) := by
    show _ = _
    rw [HREP.out, if_neg]
    rintro ⟨-, h2⟩
    rw [HPV.out] at h2
    exact hz0 (HZE.out.trans h2)
   have d1 : ((z : Int) != 0) = true := by rw [bne_iff_ne]; omega
   go_wp2
   go_ret
   exact ⟨z, rfl, .inl ⟨hz0, HE.out, trivial, HON5.out⟩⟩
  ·have HE : Hid (rep1 R.self R.ab r = some (putA R.self R.ab x)) := by
    show _ = _
    rw [HREP.out, if_pos]
    refine ⟨HZ.out, ?_⟩
    rw [HPV.out]
    exact HZE.out.symm.trans hz0
   subst hz0
   obtain ⟨P5, hP5⟩ : ∃ P5, P5 = upd P 4 S4 := ⟨_, rfl⟩
   rw [← hP5] at HS5 HM5 HL5
   have hnote := note_any x A c w4 HS5.out HMOD.out (fun e => own_nil2 HO3.out e) HL5.out hF
   rw [← HST.out] at hnote
   have HNOTE := Lib.hid hnote
   have HC4 := Lib.hid HX4.out.2
   clear hnote hP5
   go_wp2_with (first | (refine wpList_load_row rfl _ _ rfl p rfl _ _ _ _ HC4.out Tryz.underlying47 rfl Tryz.infoIt ?_) | fail)
   refine HNOTE.out.mono ?_
   rintro _ w6 ⟨rfl, P6, v6, F6, hs6, hF6, hm6⟩
   have HS6 := Lib.hid hs6
   have HF6 := Lib.hid hF6
   have HM6 := Lib.hid (HM5.out.trans hm6)
   clear hs6 hF6 hm6 HNOTE
   go_wp2
   go_ret
   have hst := HST.out
   subst hst
   refine ⟨0, rfl, .inr ⟨rfl, P6, _, HS6.out, ?_, ⟨rfl, rfl, rfl, rfl, rfl, rfl, rfl, rfl⟩, HM6.out⟩⟩
   rw [HE.out]
   unfold putA Rc.ab
   simp only
   rw [HPV.out, HF6.out]
theorem replayAck_any {P : Nat → Nat → Prop} {R : Rc} {n g : Nat} {r : List Nat} (w0 w : World) (h : Sto w0 P R n) (hb : Below w0.heap.size w0 w) (hr : RdT w g (r, 0)) (hg : w0.heap.size ≤ g) (hrise : RiseE R.L) :
  Calls Tryz.prog 104 #[.pointer (some ⟨R.st, 0, none⟩), .pointer (some ⟨g, 0, none⟩)] w (RepRet w0 P R n (rep2 R.ab r) (fun _ => True)) := by
 obtain ⟨N, s1, hx⟩ : ∃ x s, rU (r, 0) = (x, s) := ⟨_, _, rfl⟩
 have t1 := tk_uint g (r, 0) w hr
 rw [hx] at t1
 have hrep : rep2 R.ab r = if endE s1 = 0 ∧ ackE R.X N = 0 then some (ackA R.ab N) else none := by
  unfold rep2
  rw [hx]
  rfl
 have HT1 := Lib.hid t1
 have HREP := Lib.hid hrep
 have HS := Lib.hid h
 have HB := Lib.hid hb
 have HRI := Lib.hid hrise
 clear hx t1 hrep h hb hrise hr
 go_enter Tryz.func104, Tryz.ntmps104
 go_wp2_with fail
 refine HT1.out.mono ?_
 rintro _ w1 ⟨rfl, hr1, hg1⟩
 have HB1 := Lib.hid (grown_low HB.out hg1 hg)
 have HD := Lib.hid (tk_done g s1 w1 hr1)
 clear hr1 hg1 HT1
 go_wp2_with fail
 refine HD.out.mono ?_
 rintro _ w3 ⟨rfl, hg3⟩
 have HB3 := Lib.hid (grown_low HB1.out hg3 hg)
 clear hg3 HD HB1
 by_cases hz : endE s1 = 0
 rotate_left
 ·obtain ⟨z, hze⟩ : ∃ z, z = endE s1 := ⟨_, rfl⟩
  have HE : Hid (rep2 R.ab r = none) := by show _ = _; rw [HREP.out, if_neg (fun h => hz h.1)]
  rw [← hze] at hz ⊢
  have d1 : ((z : Int) != 0) = true := by rw [bne_iff_ne]; omega
  clear hze
  go_wp2
  go_ret
  exact ⟨z, rfl, .inl ⟨hz, HE.out, trivial, Only.of_below HB3.out _⟩⟩
 ·rw [hz]
  have HZ := Lib.hid hz
  clear hz
  have hs3 := HS.out.below HB3.out
  have c7 : w3.cell? ⟨R.st, 7, none⟩ = some (.pointer (some ⟨R.sq, 0, none⟩)) := cell_of_row _ _ 7 _ _ _ hs3.blk
  have HACK := Lib.hid (ack_new (N := N) w3 hs3.sp HRI.out)
  have HS3 := Lib.hid hs3
  clear hs3
  go_wp2_with fail
  refine HACK.out.mono ?_
  rintro _ w4 ⟨rfl, hs4, hst4⟩
  have hmem : ∀ e ∈ ackK R.X R.L N, ∀ a, e.A = some a → 0 < e.x.l.length → (∃ e0 ∈ R.L, e0.A = some a ∧ 0 < e0.x.l.length) ∨ w3.heap.size ≤ a.block := fun e he a ha h0 => .inl ⟨e, ackK_mem he, ha, h0⟩
  obtain ⟨hs5, hm5⟩ := HS3.out.spool hst4 hs4 hmem
  have HS5 := Lib.hid hs5
  have HM5 := Lib.hid (mv_below HB3.out hm5)
  have HON5 : Hid (Only (Own3 P) w0 w4) := (Only.of_below HB3.out _).trans (hst4.only.mono (fun k hk => .inr (.inl hk)) : Only (Own3 P) w3 w4) (fun _ h => .inl h)
  obtain ⟨z, hze⟩ : ∃ z, z = ackE R.X N := ⟨_, rfl⟩
  rw [← hze]
  have HZE := Lib.hid hze
  clear hs4 hst4 hmem hs5 hm5 hze HACK c7
  go_wp2
  go_ret
  by_cases hz0 : z = 0
  ·subst hz0
   refine ⟨0, rfl, .inr ⟨rfl, _, _, HS5.out, ?_, ⟨rfl, rfl, rfl, rfl, rfl, rfl, rfl, rfl⟩, HM5.out⟩⟩
   rw [HREP.out, if_pos ⟨HZ.out, HZE.out.symm⟩]
   unfold ackA Rc.ab
   simp only
   rw [ackK_ers]
  ·refine ⟨z, rfl, .inl ⟨hz0, ?_, trivial, HON5.out⟩⟩
   rw [HREP.out, if_neg]
   rintro ⟨-, h2⟩
   exact hz0 (HZE.out.trans h2)
end Go.Proofs.YtholdcgkhicdmaaGreatDoor