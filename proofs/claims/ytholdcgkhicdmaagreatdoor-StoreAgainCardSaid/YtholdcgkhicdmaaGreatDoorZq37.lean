/- Several texts in one: StRp4. -/
import Derived.Test.YtholdcgkhicdmaaGreatDoorZq36
namespace Go.Proofs.YtholdcgkhicdmaaGreatDoor
open Go.RowKit
set_option maxRecDepth 100000 in
set_option maxHeartbeats 400000 in
theorem quota_any {S : Nat → Prop} {s : Nat} {X : Sp} {L : List Ett} (w : World) (h : SpAt w S s X L) : Calls Tryz.prog 44 #[.pointer (some ⟨s, 0, none⟩)] w fun e w' => e = .returned (.int .i64 X.q) ∧ w = w' := by
 obtain ⟨v, k1, -⟩ := h.sp
 have c0 := k1.c0
 clear k1 h
 go_enter Tryz.func44, Tryz.ntmps44
 go_wp2
 go_ret
 exact ⟨rfl, rfl⟩
section
variable {w0 w w' : World} {P0 P P' : Nat → Nat → Prop} {R : Rc} {n : Nat} {S' : Nat → Prop}
theorem Sto.queue (h : Sto w P R n) (hm : Mv6 w0 P0 w P) {sq : Nat} {X' : Sp} {L' : List Ett} (hsp : SpAt w S' sq X' L') (hS : ∀ k, S' k → w0.heap.size ≤ k) (hS2 : ∀ k i, S' k → ¬ P i k)
  (hL : ∀ e ∈ L', ∀ a, e.A = some a → 0 < e.x.l.length → ∀ i, ¬ P i a.block) (hF : ∀ e ∈ R.F, ∀ a, e.A = some a → 0 < e.x.l.length → ¬ S' a.block) :
  Sto (w.setCell ⟨R.st, 7, none⟩ (.pointer (some ⟨sq, 0, none⟩))) (upd P 4 S') { R with sq := sq, X := X', L := L' } n ∧ Mv6 w0 P0 (w.setCell ⟨R.st, 7, none⟩ (.pointer (some ⟨sq, 0, none⟩))) (upd P 4 S') := by
 have hon : Only (P 2) w (w.setCell ⟨R.st, 7, none⟩ (.pointer (some ⟨sq, 0, none⟩))) := Only.setCell _ _ _ h.p2
 have hb : ∀ {j k : Nat}, P j k → j ≠ 2 → ¬ P 2 k := fun hj hn h' => hn (h.own.sep _ _ _ hj h')
 have hm' : Mv6 w0 P0 (w.setCell ⟨R.st, 7, none⟩ (.pointer (some ⟨sq, 0, none⟩))) (upd P 4 S') := ⟨hm.only.trans hon (fun i hi => hm.new 2 i hi), fun i k hk => by
  unfold upd at hk
  by_cases hi : i = 4
  ·rw [if_pos hi] at hk; exact .inr (hS k hk)
  ·rw [if_neg hi] at hk; exact hm.new i k hk⟩
 have hU : ∀ {A : Option Addr} {l : List Pr}, Lb w P A l → (∀ a, A = some a → 0 < l.length → ¬ S' a.block) → Lb (w.setCell ⟨R.st, 7, none⟩ (.pointer (some ⟨sq, 0, none⟩))) (upd P 4 S') A l := fun hl hne =>
  ⟨hon.rdP hl.rd (fun a ha h0 => hl.ap a ha h0 2), fun a ha h0 i hi => by
   unfold upd at hi
   by_cases hi4 : i = 4
   ·rw [if_pos hi4] at hi; exact hne a ha h0 hi
   ·rw [if_neg hi4] at hi; exact hl.ap a ha h0 i hi⟩
 refine ⟨⟨⟨fun a b k ha hb' => ?_, fun a k ha => ?_⟩, h.dt.only hon (fun k hk => hb hk (by decide)) (hb h.p1 (by decide)), h.p1, h.p2, h.p3, ?_, h.j.only hon (hb h.p3 (by decide)), ?_, ?_, hon.own h.fr (fun k hk => hb (h.fP k hk) (by decide)), h.fP, fun e he => ?_⟩, hm'⟩
 ·unfold upd at ha hb'
  by_cases h1 : a = 4 <;> by_cases h2 : b = 4
  ·rw [h1, h2]
  ·rw [if_pos h1] at ha; rw [if_neg h2] at hb'; exact absurd hb' (hS2 k b ha)
  ·rw [if_neg h1] at ha; rw [if_pos h2] at hb'; exact absurd ha (hS2 k a hb')
  ·rw [if_neg h1] at ha; rw [if_neg h2] at hb'; exact h.own.sep _ _ _ ha hb'
 ·unfold upd at ha
  by_cases h1 : a = 4
  ·rw [if_pos h1] at ha; exact Nat.lt_of_lt_of_le (hsp.lt k ha) hon.size
  ·rw [if_neg h1] at ha; exact Nat.lt_of_lt_of_le (h.own.lt a k ha) hon.size
 ·exact heap_setCell_same _ R.st 7 _ _ _ h.blk
 ·exact hsp.keep hon (fun k hk h2 => hS2 k 2 hk h2) (fun e he a ha h0 => hL e he a ha h0 2)
 ·intro e he a ha h0 i hi
  unfold upd at hi
  by_cases hi4 : i = 4
  ·rw [if_pos hi4] at hi; exact (hsp.ent e he).ap a ha h0 hi
  ·rw [if_neg hi4] at hi; exact hL e he a ha h0 i hi
 ·have q := h.fok e he
  exact ⟨q.m, q.g, q.z, q.nil, hU q.lb (hF e he)⟩
end
theorem boxBwp {Pr : Program} {c : Code} {Q : Exit → Act → World → Prop} {a : Act} (w2 : World) (Z cs : Array Value)
  (h : ∀ V, V.heap[w2.heap.size]? = some (.cells cs 63 (0, 0)) → Below w2.heap.size w2 V → w2.heap.size < V.heap.size → Code.wp Pr c Q a V) :
  Code.wp Pr c Q a ((w2.alloc (.cells Z 63)).setRow w2.heap.size cs) := by
 have h1 := setRow_heap (w2.alloc (.cells Z 63)) w2.heap.size Z cs _ _ (heap_alloc_new _ _)
 exact h _ h1 (below_setRow ((Below.refl _ _).alloc (Nat.le_refl _) _) (Nat.le_refl _) _) (Array.getElem?_eq_some_iff.1 h1).1
theorem OfOk.ers {q : Nat} {X : Sp} {L : List Ett} : OfOk q X (ers L) ↔ OfOk q X L :=
 ⟨fun h => h.same (same_ers.2 (ers_ers L)), fun h => h.same (same_ers.2 (ers_ers L).symm)⟩
theorem endE_zero {s : St} (h : endE s = 0) : s.2 = 0 := by
 unfold endE at h
 split at h
 ·assumption
 ·exact h
theorem entsR_stick {n : Nat} {acc : List Ett} {s : St} (h : (entsR n acc s).2.2 = 0) : s.2 = 0 := Classical.byContradiction fun hne => by
 rw [entsR_err hne] at h
 exact hne h
theorem rU_stick {s : St} (h : (rU s).2.2 = 0) : s.2 = 0 := Classical.byContradiction fun hne => by
 have h1 : (rU s).2 = s := rU_s s.1 s.2 hne
 rw [h1] at h
 exact hne h
theorem nR_stick : ∀ (k : Nat) {s : St}, (nR k s).2.2 = 0 → s.2 = 0
 | 0, _, h => h
 | k + 1, s, h => nR_stick k (rU_stick (s := (nR k s).2) h)
theorem rU_okS {s : St} (hok : OkB s.1) (h : (rU s).2.2 = 0) : OkB (rU s).2.1 := by
 have h0 := rU_stick h
 obtain ⟨l, er⟩ := s
 have h0 : er = 0 := h0
 subst h0
 exact rU_okB (n := (rU (l, 0)).1) hok (Prod.ext rfl (Prod.ext rfl h))
theorem baseR_right {s : St} (hok : OkB s.1) (h : (baseR s).2.2 = 0) : ∀ e ∈ (baseR s).1, itemN e.x = 0 := by
 unfold baseR at h ⊢
 have h6 : (bsC s).2.2 = 0 := entsR_stick (n := (bsC s).1) (acc := []) (s := (bsC s).2) h
 have key : ∀ k, (rU (bsH k s).2).2.2 = 0 → (bsV s).2.2 = 0 := fun k h => nR_stick k (rU_stick (s := (bsH k s).2) h)
 have key2 : ∀ k, OkB (bsV s).2.1 → (rU (bsH k s).2).2.2 = 0 → OkB (rU (bsH k s).2).2.1 := fun k ho h => rU_okS (nR_okB k ho (rU_stick (s := (bsH k s).2) h)) h
 have h6b : (rU (bsH 32 s).2).2.2 = 0 := by unfold bsC at h6; exact h6
 have h4 : (bsV s).2.2 = 0 := key 32 h6b
 have h3 : (bsA s).2.2 = 0 := rU_stick h4
 have h2 : (bsN s).2.2 = 0 := rU_stick h3
 have o2 : OkB (bsN s).2.1 := rU_okS hok h2
 have o3 : OkB (bsA s).2.1 := rU_okS o2 h3
 have o4 : OkB (bsV s).2.1 := rU_okS o3 h4
 have o6 : OkB (bsC s).2.1 := by
  have h7 := key2 32 o4 h6b
  unfold bsC
  exact h7
 exact entsR_right (n := (bsC s).1) (acc := []) (s := (bsC s).2) o6 h (fun e he => by cases he)
theorem noteF_len (self : Nat) (F : List It) (x : It) : (noteF self F x).length ≤ F.length + 1 := by
 unfold noteF
 split
 ·omega
 ·rw [List.length_append]
  have := List.length_filter_le (fun y => !alertB y x) F
  split
  ·simp; omega
  ·simp; omega
theorem noteAll_len {self k : Nat} {l : List It} : (noteAll self [] (l.take k)).length ≤ k := by
 have h : ∀ (l F : List It), (noteAll self F l).length ≤ F.length + l.length := by
  intro l
  induction l with
  | nil => intro F; exact Nat.le_refl _
  | cons x l ih =>
    intro F
    have h1 := ih (noteF self F x)
    have h2 := noteF_len self F x
    show (noteAll self (noteF self F x) l).length ≤ _
    rw [List.length_cons]
    omega
 have h1 := h (l.take k) []
 have h2 : (l.take k).length ≤ k := List.length_take_le k l
 simp only [List.length_nil] at h1
 omega
theorem noteAll_step {self : Nat} {l : List It} {k : Nat} {x : It} (h : l[k]? = some x) : noteAll self [] (l.take (k + 1)) = noteF self (noteAll self [] (l.take k)) x := by
 unfold noteAll
 rw [List.take_add_one, h, List.foldl_append]
 rfl
def FireAt (w : World) (P : Nat → Nat → Prop) (A : Option Addr) (k : Nat) (e : Ett) : Prop :=
 Mod e.x ∧ (e.A = none → e.x.l.length = 0) ∧ (∃ b, A = some ⟨b, 0, none⟩ ∧ b < w.heap.size ∧ (∀ i, ¬ P i b) ∧ w.rangeAt b (k * 13) (itC e.x e.A e.c)) ∧ Lb w P e.A e.x.l
theorem FireAt.mv {w w' : World} {P P' : Nat → Nat → Prop} {A : Option Addr} {k : Nat} {e : Ett} (h : FireAt w P A k e) (hm : Mv6 w P w' P') : FireAt w' P' A k e := by
 obtain ⟨h1, h2, ⟨b, rfl, hl, hP, hr⟩, h4⟩ := h
 refine ⟨h1, h2, ⟨b, rfl, Nat.lt_of_lt_of_le hl hm.only.size, fun i hi => (hm.new i b hi).elim (fun ⟨j, hj⟩ => hP j hj) (fun h => by omega), fun j v hv => ?_⟩, h4.mv hm⟩
 exact (hm.only.cell (p := ⟨b, k * 13 + j, none⟩) hl (fun ⟨i, hi⟩ => hP i hi)).trans (hr j v hv)
theorem TkF.fire {w0 w : World} {P : Nat → Nat → Prop} {A : Option Addr} {c : Nat} {M : List Ett} (h : TkF w0 w (.slice A M.length c) M) (hP : ∀ i k, P i k → k < w0.heap.size) {k : Nat} {e : Ett} (he : M[k]? = some e) : FireAt w P A k e := by
 have hk := (List.getElem?_eq_some_iff.1 he).1
 have hm := List.mem_of_getElem? he
 have q := h.ok e hm
 obtain ⟨b, cap, hv, hge, hlt⟩ := h.own.form (by omega)
 injection hv with hv1 _ hv3
 subst hv1
 refine ⟨⟨q.ok, q.sh, q.ln, q.lb⟩, q.nil, ⟨b, rfl, hlt, fun i hi => by have := hP i b hi; omega, fun j v hv => ?_⟩, ⟨q.rd, fun a ha h0 i hi => by have := hP i _ hi; have := h.new e hm a ha h0; omega⟩⟩
 have h5 := h.own.cells (g := b) rfl _ _ (cellsI_get he hv)
 rwa [show (⟨b, 0, none⟩ : Addr).add (k * 13 + j) = ⟨b, k * 13 + j, none⟩ from by unfold Addr.add; split <;> simp_all] at h5
set_option maxRecDepth 100000 in
set_option maxHeartbeats 8000000 in
theorem replaySnap_any {P : Nat → Nat → Prop} {R : Rc} {n g : Nat} {r : List Nat} (w0 w : World) (h : Sto w0 P R n) (hb : Below w0.heap.size w0 w) (hr : RdT w g (r, 0)) (hg : w0.heap.size ≤ g) (hlen : r.length ≤ 60000) (hq1 : 64 ≤ R.X.q) (hq2 : R.X.q ≤ 65536) :
  Calls Tryz.prog 107 #[.pointer (some ⟨R.st, 0, none⟩), .pointer (some ⟨g, 0, none⟩)] w (RepRet w0 P R n ((rep4 R.self 0 R.ab r)) (fun _ => True)) := by
 obtain ⟨N, s1, hx⟩ : ∃ x s, rU (r, 0) = (x, s) := ⟨_, _, rfl⟩
 have hsn1 : sn1 r = (N, s1) := hx
 have t1 := tk_uint g (r, 0) w hr
 rw [hx] at t1
 have hgl := hr.lt
 have HT1 := Lib.hid t1
 have HS := Lib.hid h
 have HB := Lib.hid hb
 have HN1 := Lib.hid hsn1
 have HR0 := Lib.hid hr
 have HX := Lib.hid hx
 clear hx hsn1 t1 h hb hr
 go_enter Tryz.func107, Tryz.ntmps107
 go_wp2_with fail
 refine HT1.out.mono ?_
 rintro _ w1 ⟨rfl, hr1, hg1⟩
 have hl1 : s1.1.length ≤ 60000 := by
  have q := rU_short HR0.out (by rw [HX.out]; exact hr1)
  rw [HX.out] at q
  exact Nat.le_trans q hlen
 have HB1 := Lib.hid (grown_low HB.out hg1 hg)
 have hgl1 : g < w1.heap.size := Nat.lt_of_lt_of_le hgl hg1.size
 have HOK1 : Hid (OkB s1.1) := hr1.okB
 have HTB := Lib.hid (takeBase_any g s1 w1 hr1 hl1)
 clear hr1 hg1 HT1 HX HR0
 go_wp2_with fail
 refine HTB.out.mono ?_
 rintro _ w2 ⟨cs, A, c, M, rfl, hbs, hers, htk, hM, hr2, hg2, hlen2⟩
 have hone : cs.toArray.all (·.oneCell') = true := hbs.one
 obtain ⟨s2, hs2⟩ : ∃ s, s = (baseR s1).2 := ⟨_, rfl⟩
 rw [← hs2] at hr2 hlen2
 have hHS : Hid (sn1 r = (N, s1) ∧ (sn2 r).1 = ers M ∧ (sn2 r).2 = s2) := by
  refine ⟨HN1.out, ?_, ?_⟩
  ·unfold sn2
   rw [HN1.out]
   exact hers.symm
  ·unfold sn2
   rw [HN1.out]
   exact hs2.symm
 have HS2 := Lib.hid hs2
 have HBS := Lib.hid hbs
 have HERS := Lib.hid hers
 have HTK := Lib.hid htk
 have HR2 := Lib.hid hr2
 have HB2 := Lib.hid (grown_low HB1.out hg2 hg)
 have hgl2 : g < w2.heap.size := Nat.lt_of_lt_of_le hgl1 hg2.size
 have hw12 : w1.heap.size ≤ w2.heap.size := hg2.size
 clear hbs hers htk hr2 hg2 HTB hs2 HB1
 go_upto_region 3 with (first | (refine wpList_store_row rfl _ _ _ rfl w2.heap.size cs.toArray rfl rfl _ _ (heap_alloc_new _ _) HBS.out.infoA HBS.out.size36 hone ?_) | fail)
 refine boxBwp w2 _ cs.toArray ?_
 intro w3 hc3 hb3 hl3
 rw [act_put_no]
 obtain ⟨p, hp⟩ : ∃ p, p = w2.heap.size := ⟨_, rfl⟩
 rw [← hp] at hc3 hl3 ⊢
 have hgp : g < p := by rw [hp]; exact hgl2
 have HTK3 : Hid (TkE w1 w3 (.slice A M.length c) M) := HTK.out.only (T := fun _ => False) (Only.of_below hb3 _) (fun _ h => h.elim) hw12
 have HR3 := Lib.hid (HR2.out.below hb3)
 have HB3 := Lib.hid (HB2.out.trans (hb3.mono HB2.out.size))
 have HC3 := Lib.hid hc3
 have hgl3 : g < w3.heap.size := Nat.lt_trans hgp hl3
 have hw13 : w1.heap.size ≤ w3.heap.size := Nat.le_trans hw12 hb3.size
 have HTF := Lib.hid (takeFires_any g s2 w3 HR3.out hlen2)
 clear hc3 hb3 hp HTK HR2 HB2
 go_wp2_with fail
 refine HTF.out.mono ?_
 rintro _ w4 ⟨A5, c5, M5, rfl, hM5, htf, hm5, hr4, hg4⟩
 obtain ⟨s3, hs3⟩ : ∃ s, s = (firesR s2).2 := ⟨_, rfl⟩
 rw [← hs3] at hr4
 have HG3 : Hid ((sn3 r).1 = M5.map (·.x) ∧ (sn3 r).2 = s3) := by
  unfold sn3
  rw [hHS.out.2.2]
  exact ⟨hM5.symm, hs3.symm⟩
 have honly4 : Only (fun k => k = g) w3 w4 := Only.of_grown hg4 (fun k hk => by have e := Option.some.inj hk; exact e.symm)
 have HTK4 : Hid (TkE w1 w4 (.slice A M.length c) M) := HTK3.out.only honly4 (fun k hk => .inl (by have hk : k = g := hk; omega)) hw13
 have HTF4 := Lib.hid htf
 have HC4 := Lib.hid ((hg4.block p hl3 (by simp; omega)).trans HC3.out)
 have HB4 := Lib.hid (grown_low HB3.out hg4 hg)
 have HD := Lib.hid (tk_done g s3 w4 hr4)
 have hl4 : p < w4.heap.size := Nat.lt_of_lt_of_le hl3 hg4.size
 have hgl4 : g < w4.heap.size := Nat.lt_of_lt_of_le hgl3 hg4.size
 have hw14 : w1.heap.size ≤ w4.heap.size := Nat.le_trans hw13 hg4.size
 have hw34 : w3.heap.size ≤ w4.heap.size := hg4.size
 clear hM5 htf hr4 hg4 hs3 honly4 HTF HTK3 HC3 HB3 HR3
 go_wp2_with fail
 refine HD.out.mono ?_
 rintro _ w5 ⟨rfl, hg5⟩
 have honly5 : Only (fun k => k = g) w4 w5 := Only.of_grown hg5 (fun k hk => by have e := Option.some.inj hk; exact e.symm)
 have HTK5 : Hid (TkE w1 w5 (.slice A M.length c) M) := HTK4.out.only honly5 (fun k hk => .inl (by have hk : k = g := hk; omega)) hw14
 have HTF5 : Hid (TkF w3 w5 (.slice A5 M5.length c5) M5) := HTF4.out.only honly5 (fun k hk => .inl (by have hk : k = g := hk; omega))
 have HC5 := Lib.hid ((hg5.block p hl4 (by simp; omega)).trans HC4.out)
 have HB5 := Lib.hid (grown_low HB4.out hg5 hg)
 have hl5 : p < w5.heap.size := Nat.lt_of_lt_of_le hl4 hg5.size
 have hw35 : w3.heap.size ≤ w5.heap.size := Nat.le_trans hw34 hg5.size
 clear hg5 honly5 HD HTK4 HTF4 HC4 HB4
 by_cases hz : endE s3 = 0
 rotate_left
 ·obtain ⟨z, hze⟩ : ∃ z, z = endE s3 := ⟨_, rfl⟩
  have HE : Hid (rep4 R.self 0 R.ab r = none) := by
   show _ = _
   unfold rep4
   rw [HG3.out.2, if_neg (fun h => hz h.1)]
  rw [← hze] at hz ⊢
  have d1 : ((z : Int) != 0) = true := by rw [bne_iff_ne]; omega
  clear hze
  go_wp2
  go_ret
  exact ⟨z, rfl, .inl ⟨hz, HE.out, trivial, Only.of_below HB5.out _⟩⟩
 rw [hz]
 have hok : ∀ e ∈ M, itemN e.x = 0 := by
  have h3 : (firesR s2).2.2 = 0 := by
   have h4 := HG3.out.2
   unfold sn3 at h4
   rw [hHS.out.2.2] at h4
   rw [h4]
   exact endE_zero hz
  have h2 : (baseR s1).2.2 = 0 := by
   rw [← HS2.out]
   exact firesR_stick h3
  intro e he
  have h5 := baseR_right HOK1.out h2 (er e) (by rw [← HERS.out]; exact List.mem_map_of_mem he)
  exact h5
 have HZ := Lib.hid hz
 have hs5 := HS.out.below HB5.out
 have c7 : w5.cell? ⟨R.st, 7, none⟩ = some (.pointer (some ⟨R.sq, 0, none⟩)) := cell_of_row _ _ 7 _ _ _ hs5.blk
 have hstl : R.st < w5.heap.size := hs5.own.lt 2 _ hs5.p2
 have hbd : Below w5.heap.size w5 w5.drew := (Below.refl _ _).drew
 have HQ := Lib.hid (quota_any w5.drew (hs5.sp.below hbd))
 have hrde : RdM8 w5 A M := RowE.rd (base := w1.heap.size) ⟨HTK5.out.own, HTK5.out.ok⟩
 have HOF := Lib.hid (sof_new R.X.q hq1 hq2 cs (bsX 32 s1) A M.length c M w5.drew HBS.out rfl (by omega) (hrde.below hbd) hok)
 have HS5 := Lib.hid hs5
 have HM1 := Lib.hid hM
 obtain ⟨st, hst⟩ : ∃ st, st = R.st := ⟨_, rfl⟩
 rw [← hst] at c7 hstl ⊢
 have HST := Lib.hid hst
 have HC7 : Hid (∀ W, Below w5.heap.size w5 W → W.cell? ⟨st, 7, none⟩ = some (.pointer (some ⟨R.sq, 0, none⟩))) := fun W hW => (hW.cell (p := ⟨st, 7, none⟩) hstl).trans c7
 have HCW : Hid (∀ W, Below w5.heap.size w5 W → W.heap[p]? = some (.cells cs.toArray 63 (0, 0))) := fun W hW => (hW.block p hl5).trans HC5.out
 have HRQ := Lib.hid hq1
 obtain ⟨rq, hrq⟩ : ∃ z, z = R.X.q := ⟨_, rfl⟩
 rw [← hrq] at HQ HOF
 have HRQ2 := Lib.hid hrq
 obtain ⟨nm, hnm⟩ : ∃ z, z = M.length := ⟨_, rfl⟩
 have HNM := Lib.hid hnm
 clear hs5 c7 hst hbd hrde hok hz hM hrq hnm hq1 hq2
 go_upto_region 7 with fail
 refine wp_region_noPanic ?_
 refine wp_region_held_drew (S := fun W => W.cell? ⟨st, 7, none⟩ = some (.pointer (some ⟨R.sq, 0, none⟩)) ∧ W.heap[p]? = some (.cells cs.toArray 63 (0, 0))) (by kernel_rfl) ?_ (fun hHeld => ?_)
 ·exact ⟨HC7.out _ ((Below.refl _ _).drew), HCW.out _ ((Below.refl _ _).drew)⟩
 try simp only [heldPut, List.set]
 refine hT 0 (v := ?_) rfl (Or.inl ⟨by rfl, ?_⟩) ?_
 rotate_left
 ·(intro W hSw; (try dsimp only at hSw); obtain ⟨f1, f2⟩ := hSw; go_simp; try with_reducible rfl)
 try simp only [heldPut, List.set]
 refine hT 1 (v := ?_) rfl (Or.inl ⟨by rfl, ?_⟩) ?_
 rotate_left
 ·(intro W hSw; (try dsimp only at hSw); obtain ⟨f1, f2⟩ := hSw; go_simp; try with_reducible rfl)
 try simp only [heldPut, List.set]
 refine hT 2 (v := ?_) rfl (Or.inl ⟨by rfl, ?_⟩) ?_
 rotate_left
 ·(intro W hSw; (try dsimp only at hSw); obtain ⟨f1, f2⟩ := hSw; go_simp; try with_reducible rfl)
 try simp only [heldPut, List.set]
 refine hT 3 (v := ?_) rfl (Or.inl ⟨by rfl, ?_⟩) ?_
 rotate_left
 ·(intro W hSw; (try dsimp only at hSw); obtain ⟨f1, f2⟩ := hSw; go_simp; try with_reducible rfl)
 try simp only [heldPut, List.set]
 refine hT 5 (v := .agg cs.toArray) rfl (Or.inl ⟨by rfl, ?_⟩) ?_
 ·(intro W hSw; exact exec_load_row 63 _ rfl p rfl _ _ _ _ hSw.2 Tryz.underlying63 rfl HBS.out.infoA)
 try simp only [heldPut, List.set]
 refine heldOne (i := 4) rfl (by kernel_rfl) (fun K hK => ?_)
 go_simp
 refine HQ.out.mono ?_
 rintro _ w6 ⟨rfl, rfl⟩
 go_wp2_with fail
 refine hK.out _ _ ?_ (fun hHeld => ?_)
 ·exact ⟨HC7.out _ ((Below.refl _ _).drew), HCW.out _ ((Below.refl _ _).drew)⟩
 clear hK K
 try simp only [heldPut, List.set]
 refine heldOne (i := 6) rfl (by kernel_rfl) (fun K hK => ?_)
 go_simp
 refine HOF.out.mono ?_
 rintro _ w6 ⟨hcase, hb6⟩
 have hbd6 : Below w5.heap.size w5 w6 := ((Below.refl _ _).drew : Below w5.heap.size w5 w5.drew).trans hb6
 have HB6 := Lib.hid hbd6
 have HX6 : Hid (w6.cell? ⟨st, 7, none⟩ = some (.pointer (some ⟨R.sq, 0, none⟩)) ∧ w6.heap[p]? = some (.cells cs.toArray 63 (0, 0))) := ⟨HC7.out _ hbd6, HCW.out _ hbd6⟩
 clear hb6 hbd6 HOF HQ
 rcases hcase with ⟨code, rfl, hcode, hno⟩ | ⟨hyes, t, S, M6, rfl, hsm, hsp6, hS6, hL6⟩
 ·have HNO := Lib.hid hno
  go_wp2_with fail
  refine hK.out _ _ ?_ (fun hHeld => ?_)
  ·exact HX6.out
  clear hK K
  try simp only [heldPut, List.set]
  refine hT 7 (v := ?_) rfl (Or.inl ⟨by rfl, ?_⟩) ?_
  rotate_left
  ·(intro W hSw; (try dsimp only at hSw); go_simp; try with_reducible rfl)
  try simp only [heldPut, List.set]
  refine hT 8 (v := ?_) rfl (Or.inl ⟨by rfl, ?_⟩) ?_
  rotate_left
  ·(intro W hSw; (try dsimp only at hSw); go_simp; try with_reducible rfl)
  try simp only [heldPut, List.set]
  refine hT 9 (v := ?_) rfl (Or.inl ⟨by rfl, ?_⟩) ?_
  rotate_left
  ·(intro W hSw; (try dsimp only at hSw); go_simp; try with_reducible rfl)
  try simp only [heldPut, List.set]
  refine hT 10 (v := ?_) rfl (Or.inl ⟨by rfl, ?_⟩) ?_
  rotate_left
  ·(intro W hSw; (try dsimp only at hSw); go_simp; try with_reducible rfl)
  try simp only [heldPut, List.set]
  refine hT 11 (v := ?_) rfl (Or.inl ⟨by rfl, ?_⟩) ?_
  rotate_left
  ·(intro W hSw; (try dsimp only at hSw); go_simp; try with_reducible rfl)
  try simp only [heldPut, List.set]
  refine wpAnyH_done (by kernel_rfl) ?_ _
  refine NoPanic.normal ?_
  have hc0 : code ≠ 0 := by rcases hcode with rfl | rfl | rfl <;> decide
  have d1 : ((code : Int) != 0) = true := by rw [bne_iff_ne]; omega
  clear hcode
  go_wp2
  go_ret
  refine ⟨code, rfl, .inl ⟨hc0, ?_, trivial, Only.of_below (HB5.out.trans (HB6.out.mono HB5.out.size)) _⟩⟩
  unfold rep4
  rw [if_neg]
  rintro ⟨-, h2⟩
  rw [hHS.out.1, hHS.out.2.1] at h2
  refine HNO.out ?_
  rw [HRQ2.out]
  exact OfOk.ers.1 h2
 ·go_wp2_with fail
  refine hK.out _ _ ?_ (fun hHeld => ?_)
  ·exact HX6.out
  clear hK K
  try simp only [heldPut, List.set]
  refine hT 7 (v := ?_) rfl (Or.inl ⟨by rfl, ?_⟩) ?_
  rotate_left
  ·(intro W hSw; (try dsimp only at hSw); go_simp; try with_reducible rfl)
  try simp only [heldPut, List.set]
  refine hT 8 (v := ?_) rfl (Or.inl ⟨by rfl, ?_⟩) ?_
  rotate_left
  ·(intro W hSw; (try dsimp only at hSw); go_simp; try with_reducible rfl)
  try simp only [heldPut, List.set]
  refine hT 9 (v := ?_) rfl (Or.inl ⟨by rfl, ?_⟩) ?_
  rotate_left
  ·(intro W hSw; (try dsimp only at hSw); go_simp; try with_reducible rfl)
  try simp only [heldPut, List.set]
  refine hT 10 (v := ?_) rfl (Or.inl ⟨by rfl, ?_⟩) ?_
  rotate_left
  ·(intro W hSw; (try dsimp only at hSw); go_simp; try with_reducible rfl)
  try simp only [heldPut, List.set]
  refine hT 11 (v := ?_) rfl (Or.inl ⟨by rfl, ?_⟩) ?_
  rotate_left
  ·(intro W hSw; (try dsimp only at hSw); go_simp; try with_reducible rfl)
  try simp only [heldPut, List.set]
  refine wpAnyH_done (by kernel_rfl) ?_ _
  refine NoPanic.normal ?_
  have hP0 : ∀ i k, P i k → k < w0.heap.size := fun i k hk => HS.out.own.lt i k hk
  have hw05 : w0.heap.size ≤ w5.heap.size := HB5.out.size
  have hwd : w5.drew.heap.size = w5.heap.size := rfl
  rw [hwd] at hS6 hL6
  have hs6 := HS5.out.below HB6.out
  have hm6 : Mv6 w5 P w6 P := Mv6.of_below HB6.out P
  obtain ⟨hs7, hm7⟩ := hs6.set { R with life := N } 6 (.int .u64 N) rfl rfl rfl rfl rfl rfl rfl rfl rfl rfl rfl rfl
  have hon7 : Only (P 2) w6 (w6.setCell ⟨R.st, 6, none⟩ (.int .u64 N)) := Only.setCell _ _ _ hs6.p2
  have hsp7 := hsp6.keep hon7 (fun k hk h2 => by have := hP0 2 k h2; have := hS6 k hk; omega) (fun e he a ha h0 h2 => by have := hP0 2 _ h2; have := hL6 e he a ha h0; omega)
  obtain ⟨hs8, hm8⟩ := hs7.queue (hm6.trans hm7) hsp7 (fun k hk => hS6 k hk) (fun k i hk hi => by have := hP0 i k hi; have := hS6 k hk; omega) (fun e he a ha h0 i hi => by have := hP0 i _ hi; have := hL6 e he a ha h0; omega)
   (fun e he a ha h0 hk => by have := rdP_lt (HS.out.fok e he).lb.rd ha h0; have := hS6 _ hk; omega)
  obtain ⟨hs9, hm9⟩ := hs8.row (Only.refl _ _) (.slice none 0 0) [] (World.ownsRow_nil _ _ _ _) (fun k hk => by cases hk) (fun e he => by cases he)
  have HM9 := Lib.hid (mv_below HB5.out (hm8.trans hm9))
  have HS9 := Lib.hid hs9
  have hfire : ∀ (k : Nat) e, M5[k]? = some e → FireAt w5 P A5 k e := fun k e he => HTF5.out.fire (fun i k hk => by have := hP0 i k hk; omega) he
  have hfire9 := fun k e he => (hfire k e he).mv (hm8.trans hm9)
  have HF9 := Lib.hid hfire9
  have c6 : w6.cell? ⟨R.st, 6, none⟩ = some (.int .u64 R.life) := cell_of_row _ _ 6 _ _ _ hs6.blk
  have c7 : w6.cell? ⟨R.st, 7, none⟩ = some (.pointer (some ⟨R.sq, 0, none⟩)) := cell_of_row _ _ 7 _ _ _ hs6.blk
  have c8 : w6.cell? ⟨R.st, 8, none⟩ = some R.fv := cell_of_row _ _ 8 _ _ _ hs6.blk
  have f6 : w6.frozen? ⟨R.st, 6, none⟩ = false := frozen_of_row _ _ 6 _ _ hs6.blk
  have f7 : w6.frozen? ⟨R.st, 7, none⟩ = false := frozen_of_row _ _ 7 _ _ hs6.blk
  have f8 : w6.frozen? ⟨R.st, 8, none⟩ = false := frozen_of_row _ _ 8 _ _ hs6.blk
  rw [← HST.out] at c6 c7 c8 f6 f7 f8
  obtain ⟨w9, hw9⟩ : ∃ V, V = ((w6.setCell ⟨R.st, 6, none⟩ (.int .u64 N)).setCell ⟨R.st, 7, none⟩ (.pointer (some ⟨t, 0, none⟩))).setCell ⟨R.st, 8, none⟩ (.slice none 0 0) := ⟨_, rfl⟩
  rw [← hw9] at HS9 HM9 HF9
  rw [← HST.out] at hw9
  clear hs6 hm6 hs7 hm7 hon7 hsp7 hs8 hm8 hs9 hm9 hfire hfire9 hsp6 hS6 hL6 hHeld
  go_upto_region 11 with fail
  rw [← hw9]
  clear hw9 c6 c7 c8 f6 f7 f8 hP0
  obtain ⟨R9, hR9⟩ : ∃ Z, Z = ({ R with life := N, sq := t, X := { bsX 32 s1 with q := rq }, L := M6, fv := .slice none 0 0, F := [] } : Rc) := ⟨_, rfl⟩
  have HS9' : Hid (∃ P9, Sto w9 P9 R9 n ∧ (∀ (k : Nat) e, M5[k]? = some e → FireAt w9 P9 A5 k e) ∧ Mv6 w0 P w9 P9) := ⟨_, (by rw [hR9]; exact HS9.out), HF9.out, HM9.out⟩
  have HR9 := Lib.hid hR9
  have HE9 : Hid (R9.st = st ∧ R9.self = R.self ∧ R9.F = []) := by rw [hR9]; exact ⟨HST.out.symm, rfl, rfl⟩
  clear hR9 HS9 HF9 HM9 HX6
  have hm5 : M5.length ≤ 60001 := hm5
  go_upto_region 12 with fail
  go_loopw [50] (fun jv wx => ∃ (j : Nat), jv = .int .i64 j ∧ j ≤ M5.length ∧ Hid (∃ P' v F, Sto wx P' { R9 with fv := v, F := F } n ∧ F.map (·.x) = noteAll R.self [] ((M5.map (·.x)).take j) ∧ (∀ (k : Nat) e, M5[k]? = some e → FireAt wx P' A5 k e) ∧ Mv6 w0 P wx P')) (fun jv _ => M5.length - (intOf jv).toNat)
  case atStart =>
   obtain ⟨P9, h1, h2, h3⟩ := HS9'.out
   exact ⟨0, rfl, Nat.zero_le _, P9, R9.fv, [], (by rw [← HE9.out.2.2]; exact h1), rfl, h2, h3⟩
  case round =>
   obtain ⟨j, rfl, hj, HI⟩ := hrel
   obtain ⟨P', v, F, hsj, hFj, hfj, hmj⟩ := HI.out
   by_cases hjl : j < M5.length
   ·obtain ⟨e, he⟩ : ∃ e, M5[j]? = some e := ⟨_, List.getElem?_eq_getElem hjl⟩
    obtain ⟨hme, hnile, ⟨b, rfl, hbl, hbP, hrg⟩, hlbe⟩ := hfj j e he
    have HRG : Hid (wr.rangeAt b (j * 13) (itC e.x e.A e.c)) := hrg
    have HME := Lib.hid hme
    have HLBE := Lib.hid hlbe
    have HNE := Lib.hid hnile
    have HE := Lib.hid he
    have HMJ := Lib.hid hmj
    have HFI := Lib.hid hfj
    have HFJ := Lib.hid hFj
    have hFl : F.length ≤ 90000 := by
     have h1 : (noteAll R.self [] ((M5.map (·.x)).take j)).length ≤ j := noteAll_len
     rw [← hFj, List.length_map] at h1
     omega
    have HSJ := Lib.hid hsj
    have hm5' : M5.length ≤ 60001 := hm5
    clear hme hlbe hnile he hmj hfj hFj hsj hbP HI
    go_upto_region 14 with (first
     | (refine wpList_load_mid rfl _ _ rfl b (j * 13) rfl (itC e.x e.A e.c) _ HRG.out Tryz.underlying47 rfl Tryz.infoIt ?_)
     | (refine wpList_store_row rfl _ _ _ rfl wr.heap.size (itC e.x e.A e.c).toArray rfl rfl _ _ (heap_alloc_new _ _) Tryz.infoIt rfl (by simp [Value.oneCell', itC]) ?_)
     | fail)
    obtain ⟨wB, hwB, hcB, hbB, hlB⟩ := boxI wr #[.bool false, .int .u8 0, .int .u64 0, .int .u64 0, .string ⟨#[]⟩, .slice none 0 0, .int .u8 0, .int .u8 0, .int .i64 0, .int .u8 0, .int .u8 0, .int .u64 0, .int .u64 0] (itC e.x e.A e.c).toArray
    rw [← hwB, act_put_no]
    have hnote := note_any e.x e.A e.c wB (HSJ.out.below hbB) HME.out HNE.out (HLBE.out.below hbB) hFl
    rw [show ({ R9 with fv := v, F := F } : Rc).st = st from HE9.out.1, show ({ R9 with fv := v, F := F } : Rc).self = R.self from HE9.out.2.1] at hnote
    have HNOTE := Lib.hid hnote
    have HCB := Lib.hid hcB
    have HMB := Lib.hid (Mv6.of_below hbB P')
    obtain ⟨pb, hpb⟩ : ∃ z, z = wr.heap.size := ⟨_, rfl⟩
    rw [← hpb] at HCB ⊢
    clear hnote hcB hwB hbB hlB
    go_wp2_with (first | (refine wpList_load_row rfl _ _ rfl pb rfl _ _ _ _ HCB.out Tryz.underlying47 rfl Tryz.infoIt ?_) | fail)
    refine HNOTE.out.mono ?_
    rintro _ wC ⟨rfl, P2, v2, F2, hs2, hF2, hm2⟩
    rw [← HE9.out.1, ← HE9.out.2.1] at hs2
    have hmv := HMB.out.trans hm2
    have HI2 : Hid (∃ P' v F, Sto wC P' { R9 with fv := v, F := F } n ∧ F.map (·.x) = noteAll R.self [] ((M5.map (·.x)).take (j + 1)) ∧ (∀ (k : Nat) e, M5[k]? = some e → FireAt wC P' (some ⟨b, 0, none⟩) k e) ∧ Mv6 w0 P wC P') := by
     refine ⟨P2, v2, F2, hs2, ?_, fun k e he => (HFI.out k e he).mv hmv, HMJ.out.trans hmv⟩
     rw [hF2, noteAll_step (x := e.x) (by rw [List.getElem?_map, HE.out]; rfl)]
     exact congrArg (fun l => noteF R.self l e.x) HFJ.out
    clear hs2 hF2 hm2 hmv HNOTE
    go_wp2
    go_roundw
    case rel => exact ⟨j + 1, by go_num, by omega, HI2.out⟩
    case measure => simp [intOf]; omega
   ·obtain rfl : j = M5.length := by omega
    go_wp2
    go_ret
    refine ⟨0, rfl, .inr ⟨rfl, P', _, hsj, ?_, ?_, hmj⟩⟩
    ·have hof : OfOk R.ab.X.q (bsX 32 (sn1 r).2) (sn2 r).1 := by
      rw [hHS.out.1, hHS.out.2.1]
      have h1 := OfOk.ers.2 hyes
      rw [HRQ2.out] at h1
      exact h1
     unfold rep4
     rw [if_pos ⟨by rw [HG3.out.2]; exact HZ.out, hof⟩]
     refine congrArg some ?_
     rw [HR9.out]
     unfold Rc.ab
     rw [hHS.out.1, hHS.out.2.1, HG3.out.1, if_neg (by decide), ← HRQ2.out, same_ers.1 hsm]
     rw [List.take_of_length_le (by rw [List.length_map]; exact Nat.le_refl _)] at hFj
     rw [hFj]
    ·rw [HR9.out]
     exact ⟨rfl, rfl, rfl, rfl, rfl, rfl, rfl, rfl⟩
end Go.Proofs.YtholdcgkhicdmaaGreatDoor