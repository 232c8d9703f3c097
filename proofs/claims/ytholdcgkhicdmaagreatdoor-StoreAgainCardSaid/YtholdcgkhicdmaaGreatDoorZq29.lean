/- Several texts in one: StNote. -/
import Derived.Test.YtholdcgkhicdmaaGreatDoorZq28
namespace Go.Proofs.YtholdcgkhicdmaaGreatDoor
open Go.RowKit
def evI (x : It) : It := ⟨false, x.o, x.q, x.t, x.r, x.l, x.s, x.p, x.v, x.w, 0, 0, 0⟩
def noteF (self : Nat) (F : List It) (x : It) : List It :=
 if x.g = true ∨ x.o ≠ self then F else F.filter (fun y => !alertB y x) ++ (if x.s = 2 then [evI x] else [])
theorem filter_keep (F : List Ett) (x : It) : (F.filter (keepB x)).map (·.x) = (F.map (·.x)).filter (fun y => !alertB y x) := by
 rw [List.filter_map]
 rfl
theorem ent82 : ∀ args w, (callFunc 82 args).run Tryz.prog w = .ok (.enter 82 args) w := Go.Proofs.enters_of Tryz.func82 (by kernel_rfl) rfl
set_option maxRecDepth 100000 in
set_option maxHeartbeats 1000000 in
theorem deleteFunc_nil (f : Value) (w : World) :
  Calls Tryz.prog 79 #[.slice none 0 0, f] w fun r w' => r = .returned (.slice none 0 0) ∧ w = w' := by
 have h1 : Calls Tryz.prog 119 #[.slice none 0 0, f] w fun r w' => r = .returned (.int .i64 (-1)) ∧ w = w' := by
  go_enter Tryz.func119, Tryz.ntmps119
  go_upto_region 2 with fail
  go_loopw [8] (fun iv wx => iv = .int .i64 0 ∧ wx = w) (fun _ _ => 0)
  case atStart => exact ⟨rfl, rfl⟩
  case round =>
   obtain ⟨rfl, rfl⟩ := hrel
   go_wp2
   go_ret
   exact ⟨rfl, rfl⟩
 have H := Lib.hid h1
 clear h1
 go_enter Tryz.func79, Tryz.ntmps79
 go_wp2_with fail
 refine H.out.mono ?_
 rintro _ w1 ⟨rfl, rfl⟩
 go_wp2
 go_ret
 exact ⟨rfl, rfl⟩
theorem deleteV_any (v : Value) (p cx : Nat) (x : It) (A : Option Addr) (L : List Ett) (w : World) (hm : L.length ≤ 100000) (hr : ∀ b, v.ownBlock = some b → Rows9 w b p x A cx L) (ho : w.ownsRow 0 41 9 v L.length (cellsV L)) :
  Calls Tryz.prog 79 #[v, .func (.func 80) #[] #[.pointer (some ⟨p, 0, none⟩)]] w fun r w' => ∃ v', r = .returned v' ∧ v'.ownBlock = v.ownBlock ∧ w'.ownsRow 0 41 9 v' (L.filter (keepB x)).length (cellsV (L.filter (keepB x))) ∧ Only (fun k => v.ownBlock = some k) w w' := by
 rcases ho.2 with ⟨hv, h0⟩ | ⟨g, cap, cur, hv, _⟩
 ·have hL : L = [] := List.length_eq_zero_iff.1 h0
  subst hL
  rw [hv]
  refine (deleteFunc_nil _ w).mono ?_
  rintro _ w1 ⟨rfl, rfl⟩
  exact ⟨_, rfl, rfl, World.ownsRow_nil _ _ _ _, Only.refl _ _⟩
 ·rw [hv] at ho hr ⊢
  refine (deleteFunc_any g p L.length cap cx x A L w rfl hm (hr g rfl) ho).mono ?_
  rintro _ w1 ⟨rfl, h2, h3⟩
  exact ⟨_, rfl, rfl, h2, h3.mono (fun k hk => by have hk : k = g := hk; rw [hk]; rfl)⟩
section
variable {w w1 : World} {P : Nat → Nat → Prop} {R : Rc} {n : Nat}
theorem Sto.row (h : Sto w P R n) (ho : Only (fun k => R.fv.ownBlock = some k) w w1) (v : Value) (F : List Ett) (hrow : w1.ownsRow 0 41 9 v F.length (cellsV F)) (hv : ∀ k, v.ownBlock = some k → R.fv.ownBlock = some k ∨ w.heap.size ≤ k)
  (hF : ∀ e ∈ F, e ∈ R.F ∨ (Mod e.x ∧ e.x.g = false ∧ (e.x.ga = 0 ∧ e.x.gf = 0 ∧ e.x.gt = 0) ∧ (e.A = none → e.x.l.length = 0) ∧ RdP w1 w1.heap.size e.A e.x.l ∧ ∀ a, e.A = some a → 0 < e.x.l.length → w.heap.size ≤ a.block ∧ v.ownBlock ≠ some a.block)) :
  Sto (w1.setCell ⟨R.st, 8, none⟩ v) (upd P 5 fun k => v.ownBlock = some k) { R with fv := v, F := F } n ∧ Mv6 w P (w1.setCell ⟨R.st, 8, none⟩ v) (upd P 5 fun k => v.ownBlock = some k) := by
 obtain ⟨S5, hS5⟩ : ∃ S5 : Nat → Prop, S5 = fun k => v.ownBlock = some k := ⟨_, rfl⟩
 have hS : ∀ k, S5 k ↔ v.ownBlock = some k := fun k => by rw [hS5]
 rw [← hS5]
 have ho5 : Only (P 5) w w1 := ho.mono h.fP
 have hs : Step w (P 5) w1 S5 := ⟨ho5, fun k hk => (hv k ((hS k).1 hk)).imp (h.fP k) id⟩
 have hown := h.own.step hs (fun k hk => (hrow.lt k ((hS k).1 hk)).2)
 have hm1 := Mv6.of_step hs
 have hon : Only (P 2) w1 (w1.setCell ⟨R.st, 8, none⟩ v) := Only.setCell _ _ _ h.p2
 have hm2 : Mv6 w1 (upd P 5 S5) (w1.setCell ⟨R.st, 8, none⟩ v) (upd P 5 S5) := ⟨hon.mono fun k hk => ⟨2, hk⟩, fun i _ hi => .inl ⟨i, hi⟩⟩
 have hm := hm1.trans hm2
 have hb5 : ∀ {j k : Nat}, P j k → j ≠ 5 → ¬ P 5 k := fun hj hn h' => hn (h.own.sep _ _ _ hj h')
 have hb2 : ∀ {j k : Nat}, P j k → j ≠ 2 → ¬ P 2 k := fun hj hn h' => hn (h.own.sep _ _ _ hj h')
 have hblk1 : w1.heap[R.st]? = some (.cells (stC R) 112 (0, 0)) := (ho5.block _ (h.own.lt 2 _ h.p2) (hb5 h.p2 (by decide))).trans h.blk
 have hst5 : ¬ S5 R.st := fun e => (hv _ ((hS _).1 e)).elim (fun h' => hb5 h.p2 (by decide) (h.fP _ h')) (fun h' => by have := h.own.lt 2 _ h.p2; omega)
 refine ⟨⟨hown.grow hon.size, ?_, h.p1, h.p2, h.p3, ?_, ?_, ?_, ?_, ?_, fun k hk => (hS k).2 hk, ?_⟩, hm⟩
 ·have h1 := h.dt.only ho5 (fun k hk => hb5 hk (by decide)) (hb5 h.p1 (by decide))
  exact h1.only hon (fun k hk => hb2 hk (by decide)) (hb2 h.p1 (by decide))
 ·exact heap_setCell_same _ R.st 8 _ _ v hblk1
 ·exact (h.j.only ho5 (hb5 h.p3 (by decide))).only hon (hb2 h.p3 (by decide))
 ·have h1 := h.sp.keep ho5 (fun k hk => hb5 hk (by decide)) (fun e he a ha h0 => h.lab e he a ha h0 5)
  exact h1.keep hon (fun k hk => hb2 hk (by decide)) (fun e he a ha h0 => h.lab e he a ha h0 2)
 ·exact lab_mv hm h.sp.ent h.lab
 ·exact hon.own hrow (fun k hk e => (hv k hk).elim (fun h' => hb2 (h.fP k h') (by decide) e) (fun h' => by have := h.own.lt 2 k e; omega))
 ·intro e he
  rcases hF e he with h' | ⟨a1, a2, a3, a4, a5, a6⟩
  ·exact (h.fok e h').mv hm
  ·have hlb : Lb w1 (upd P 5 S5) e.A e.x.l := ⟨a5, fun a ha h0 i hi => by
    obtain ⟨b1, b2⟩ := a6 a ha h0
    unfold upd at hi
    by_cases hi5 : i = 5
    ·rw [if_pos hi5] at hi; exact b2 ((hS _).1 hi)
    ·rw [if_neg hi5] at hi
     have := h.own.lt i _ hi
     omega⟩
   exact ⟨a1, a2, a3, a4, hlb.mv hm2⟩
end
theorem src_ev {w : World} {g : Nat} {e : Ett} {t : TypeId} {fr : Nat × Nat} (h : w.heap[g]? = some (.cells (evC e).toArray t fr)) : Src w (some ⟨g, 0, none⟩) 1 9 (cellsV [e]) :=
 ⟨rfl, fun _ => ⟨_, rfl, fun j u hj => by
  rw [cellsV_cons, cellsV_nil, List.append_nil] at hj
  rw [Addr.add_mid, Nat.zero_add]
  have := rangeAt_row h 0 j u hj
  rw [Nat.zero_add] at this
  exact this⟩⟩
theorem Tryz.infoEvt : (Tryz.prog.info? 41).map (fun i => (i.zero, i.size, i.bytes)) = some (some (.agg #[.int .u8 0, .int .u64 0, .int .u64 0, .string ⟨#[]⟩, .slice none 0 0, .int .u8 0, .int .u8 0, .int .i64 0, .int .u8 0]), 9, 88) := by kernel_rfl
theorem ownV_slice {w : World} {base : Nat} {e : TypeId} {n : Nat} {v : Value} {xs : List Value} (h : w.ownsRow base e 9 v n xs) : ∃ A c, v = .slice A n c := by
 rcases h.2 with ⟨rfl, rfl⟩ | ⟨g, cap, cur, rfl, _⟩
 ·exact ⟨none, 0, rfl⟩
 ·exact ⟨_, _, rfl⟩
theorem Mod.ev {x : It} (h : Mod x) (hg : x.g = false) : Mod (evI x) := by
 obtain ⟨h1, h2, h3, h4⟩ := h
 refine ⟨?_, ⟨h2.r, h2.l⟩, h3, ?_⟩
 ·exact { o := h1.o, q := h1.q, t := h1.t, r := h1.r, l := h1.l, s := h1.s, p := h1.p, v0 := h1.v0, v1 := h1.v1, w := h1.w, ga := Nat.zero_lt_succ 255, gf := Nat.zero_lt_succ 18446744073709551615, gt := Nat.zero_lt_succ 18446744073709551615 }
 ·have e : itemB (evI x) = itemB x := by
   unfold itemB
   rw [hg]
   rfl
  rw [e]; exact h4
set_option maxRecDepth 100000 in
set_option maxHeartbeats 4000000 in
theorem note_any {P : Nat → Nat → Prop} {R : Rc} {n : Nat} (x : It) (A : Option Addr) (c : Nat) (w : World) (h : Sto w P R n) (hx : Mod x) (hA : A = none → x.l.length = 0) (hl : Lb w P A x.l) (hf : R.F.length ≤ 90000) :
  Calls Tryz.prog 39 #[.pointer (some ⟨R.st, 0, none⟩), .agg (itC x A c).toArray] w fun e w' => e = .returned (.tuple #[]) ∧ ∃ P' v F, Sto w' P' { R with fv := v, F := F } n ∧ F.map (·.x) = noteF R.self (R.F.map (·.x)) x ∧ Mv6 w P w' P' := by
 obtain ⟨w0, hw0⟩ : ∃ V, V = w.alloc (.cells (itC x A c).toArray 47) := ⟨_, rfl⟩
 have hb0 : Below w.heap.size w w0 := by rw [hw0]; exact (Below.refl _ _).alloc (Nat.le_refl _) _
 obtain ⟨p, hp⟩ : ∃ p, p = w.heap.size := ⟨_, rfl⟩
 have hbox : w0.heap[p]? = some (.cells (itC x A c).toArray 47 (0, 0)) := by rw [hw0, hp]; exact heap_alloc_new _ _
 have HW0 := Lib.hid hw0
 have HB0 := Lib.hid hb0
 have HP := Lib.hid hp
 have HBX := Lib.hid hbox
 have HS := Lib.hid h
 have HS0 := Lib.hid (h.below hb0)
 have HL0 := Lib.hid (hl.below hb0)
 have HX := Lib.hid hx
 have HA := Lib.hid hA
 have c5 : w0.cell? ⟨R.st, 5, none⟩ = some (.int .u8 R.self) := cell_of_row _ _ 5 _ _ _ (h.below hb0).blk
 have p0 : w0.cell? ⟨p, 0, none⟩ = some (.bool x.g) := cell_of_row _ _ 0 _ _ _ hbox
 have p1 : w0.cell? ⟨p, 1, none⟩ = some (.int .u8 x.o) := cell_of_row _ _ 1 _ _ _ hbox
 have p6 : w0.cell? ⟨p, 6, none⟩ = some (.int .u8 x.s) := cell_of_row _ _ 6 _ _ _ hbox
 obtain ⟨st, hst⟩ : ∃ st, st = R.st := ⟨_, rfl⟩
 rw [← hst] at c5 ⊢
 have HST := Lib.hid hst
 clear hw0 hb0 hp hbox h hl hx hA hst
 go_enter Tryz.func39, Tryz.ntmps39
 go_upto_region 1 with fail
 rw [← HW0.out, ← HP.out]
 by_cases hcase : x.g = true ∨ x.o ≠ R.self
 ·have HN : Hid (noteF R.self (R.F.map (·.x)) x = R.F.map (·.x)) := by show _ = _; unfold noteF; rw [if_pos hcase]
  obtain ⟨g, hg⟩ : ∃ g, g = x.g := ⟨_, rfl⟩
  rw [← hg] at p0 hcase
  clear hg
  cases g with
  | true =>
    clear hcase
    go_quiet (fail)
    go_wp2
    refine bodyPost_ret (results_none rfl _ _ _) rfl ?_
    have hst := HST.out
    subst hst
    exact ⟨rfl, P, R.fv, R.F, HS0.out.below (cbelow_drewN (Below.refl _ _) _), HN.out.symm, (Mv6.of_below HB0.out P).trans (Mv6.of_below (cbelow_drewN (Below.refl _ _) _) P)⟩
  | false =>
    have hne : x.o ≠ R.self := hcase.elim (fun e => by cases e) id
    have d1 : ((x.o : Int) != (R.self : Int)) = true := by rw [bne_iff_ne]; omega
    clear hcase hne
    go_quiet (fail)
    go_wp2
    refine bodyPost_ret (results_none rfl _ _ _) rfl ?_
    have hst := HST.out
    subst hst
    exact ⟨rfl, P, R.fv, R.F, HS0.out.below (cbelow_drewN (Below.refl _ _) _), HN.out.symm, (Mv6.of_below HB0.out P).trans (Mv6.of_below (cbelow_drewN (Below.refl _ _) _) P)⟩
 ·have hg : x.g = false := by cases hg : x.g with
   | false => rfl
   | true => exact absurd (.inl hg) hcase
  have ho : x.o = R.self := Classical.byContradiction fun h => hcase (.inr h)
  have HN : Hid (noteF R.self (R.F.map (·.x)) x = (R.F.map (·.x)).filter (fun y => !alertB y x) ++ (if x.s = 2 then [evI x] else [])) := by show _ = _; unfold noteF; rw [if_neg hcase]
  have HG := Lib.hid hg
  rw [hg] at p0
  have d1 : ((x.o : Int) != (R.self : Int)) = false := by rw [bne_eq_false_iff_eq]; omega
  clear hcase hg ho
  go_quiet (fail)
  obtain ⟨w1, hw1⟩ : ∃ V, V = w0.drewN nq := ⟨_, rfl⟩
  have hb01 : Below w0.heap.size w0 w1 := by rw [hw1]; exact cbelow_drewN (Below.refl _ _) _
  rw [← hw1]
  clear hw1 c5 p0 p1 p6 d1
  have hs1 := HS0.out.below hb01
  have hbx1 := (hb01.block p (Array.getElem?_eq_some_iff.1 HBX.out).1).trans HBX.out
  have hl1 := HL0.out.below hb01
  have hpP : ∀ i, ¬ P i p := fun i hi => by have := HS.out.own.lt i p hi; have := HP.out; omega
  have hdel := deleteV_any R.fv p c x A R.F w1 (by omega) (fun b hb => ⟨hbx1, fun e => hpP 5 (by rw [e]; exact hs1.fP b hb), hl1.rd, fun a ha h0 e => hl1.ap a ha h0 5 (by rw [e]; exact hs1.fP b hb), fun e he => (hs1.fok e he).m.ln, fun e he => (hs1.fok e he).lb.rd, fun e he a ha h0 e' => (hs1.fok e he).lb.ap a ha h0 5 (by rw [e']; exact hs1.fP b hb)⟩) hs1.fr
  have c8 : w1.cell? ⟨R.st, 8, none⟩ = some R.fv := cell_of_row _ _ 8 _ _ _ hs1.blk
  obtain ⟨fv, hfv⟩ : ∃ fv, fv = R.fv := ⟨_, rfl⟩
  rw [← hfv] at hdel c8
  have c8' := c8
  rw [← HST.out] at c8
  have hmf : ∀ (fn : Fn) (first cap : Array Value) (w : World), (Instr.makeFunc fn first cap).run Tryz.prog w = .ok (.func fn first cap) w := fun _ _ _ _ => rfl
  have HD := Lib.hid hdel
  have HS1 := Lib.hid hs1
  have HBX1 := Lib.hid hbx1
  have HL1 := Lib.hid hl1
  have HFV := Lib.hid hfv
  have HPP := Lib.hid hpP
  have HB01 := Lib.hid hb01
  clear hs1 hbx1 hl1 hpP hdel hfv c8' hb01
  go_upto_region 2 with fail
  go_wp2_with fail
  refine HD.out.mono ?_
  rintro _ w2 ⟨v2, rfl, hv2, hrow2, hon2⟩
  obtain ⟨A2, c2, rfl⟩ := ownV_slice hrow2
  rw [HFV.out] at hon2 hv2
  have hst5 : ¬ R.fv.ownBlock = some R.st := fun e => HS1.out.own.not HS1.out.p2 (by decide) (HS1.out.fP _ e)
  have hblk2 := (hon2.block _ (HS1.out.own.lt 2 _ HS1.out.p2) hst5).trans HS1.out.blk
  have c8 : w2.cell? ⟨st, 8, none⟩ = some fv := by rw [HST.out, HFV.out]; exact cell_of_row _ _ 8 _ _ _ hblk2
  have f8 : w2.frozen? ⟨st, 8, none⟩ = false := by rw [HST.out]; exact frozen_of_row _ _ 8 _ _ hblk2
  have hF2 : ∀ e ∈ R.F.filter (keepB x), e ∈ R.F := fun e he => (List.mem_filter.1 he).1
  obtain ⟨hs3, hm3⟩ := HS1.out.row hon2 _ _ hrow2 (fun k hk => .inl (by rw [← hv2]; exact hk)) (fun e he => .inl (hF2 e he))
  have hbx2 := (hon2.block p (Array.getElem?_eq_some_iff.1 HBX1.out).1 (fun e => HPP.out 5 (HS1.out.fP _ e))).trans HBX1.out
  have hpst : p ≠ R.st := fun e => HPP.out 2 (by rw [e]; exact HS1.out.p2)
  obtain ⟨F1, hF1⟩ : ∃ F1, F1 = R.F.filter (keepB x) := ⟨_, rfl⟩
  rw [← hF1] at hs3 hm3 hv2 ⊢
  obtain ⟨m, hm⟩ : ∃ m, m = F1.length := ⟨_, rfl⟩
  have hm1 : m ≤ 90000 := by rw [hm, hF1]; exact Nat.le_trans (List.length_filter_le _ _) hf
  rw [← hm] at hs3 hm3 hv2 ⊢
  have HM := Lib.hid hm
  have HV2 := Lib.hid hv2
  have HF1 := Lib.hid hF1
  have HMV := Lib.hid (((Mv6.of_below HB0.out P).trans (Mv6.of_below HB01.out P)).trans hm3)
  have HS3 := Lib.hid hs3
  have HBX3 : Hid ((w2.setCell ⟨st, 8, none⟩ (.slice A2 m c2)).heap[p]? = some (.cells (itC x A c).toArray 47 (0, 0))) := (heap_setCell_other _ _ _ _ (by rw [HST.out]; exact hpst)).trans hbx2
  have HL3 := Lib.hid (HL1.out.mv hm3)
  clear hv2 hrow2 hon2 hst5 hblk2 hF2 hs3 hm3 hbx2 hF1 hm HD
  go_upto_region 3 with fail
  obtain ⟨w3, hw3⟩ : ∃ V, V = w2.setCell ⟨st, 8, none⟩ (.slice A2 m c2) := ⟨_, rfl⟩
  have hw3' : w3 = w2.setCell ⟨R.st, 8, none⟩ (.slice A2 m c2) := by rw [hw3, HST.out]
  have HS4 : Hid (Sto w3 (upd P 5 fun k => (Value.slice A2 m c2).ownBlock = some k) { R with fv := .slice A2 m c2, F := F1 } n) := by rw [hw3']; exact HS3.out
  have HM4 : Hid (Mv6 w P w3 (upd P 5 fun k => (Value.slice A2 m c2).ownBlock = some k)) := by rw [hw3']; exact HMV.out
  have HL4 : Hid (Lb w3 (upd P 5 fun k => (Value.slice A2 m c2).ownBlock = some k) A x.l) := by rw [hw3']; exact HL3.out
  have HBX4 : Hid (w3.heap[p]? = some (.cells (itC x A c).toArray 47 (0, 0))) := by rw [hw3]; exact HBX3.out
  rw [← hw3]
  have p6 : w3.cell? ⟨p, 6, none⟩ = some (.int .u8 x.s) := cell_of_row _ _ 6 _ _ _ HBX4.out
  clear hw3 hw3' HS3 HMV HL3 HBX3 c8 f8
  by_cases hs2 : x.s = 2
  rotate_left
  ·have d2 : ((x.s : Int) == 2) = false := by rw [beq_eq_false_iff_ne]; omega
   rw [if_neg hs2, List.append_nil] at HN
   clear hs2
   go_wp2
   go_end0
   have hst := HST.out
   subst hst
   refine ⟨rfl, _, _, F1, HS4.out, ?_, HM4.out⟩
   rw [HF1.out, filter_keep]
   exact HN.out.symm
  ·have d2 : ((x.s : Int) == 2) = true := by rw [beq_iff_eq]; omega
   rw [if_pos hs2] at HN
   clear hs2
   go_upto_region 4 with fail
   obtain ⟨fv2, hfv2⟩ : ∃ v, v = Value.slice A2 m c2 := ⟨_, rfl⟩
   rw [← hfv2] at HS4 HM4 HL4
   obtain ⟨P4, hP4⟩ : ∃ Q, Q = upd P 5 fun k => fv2.ownBlock = some k := ⟨_, rfl⟩
   rw [← hP4] at HS4 HM4 HL4
   obtain ⟨D, hD⟩ : ∃ D : Nat → Prop, D = fun k => fv2.ownBlock = some k := ⟨_, rfl⟩
   have hDi : ∀ k, fv2.ownBlock = some k → D k := fun k hk => by rw [hD]; exact hk
   have hDo : ∀ k, D k → fv2.ownBlock = some k := fun k hk => by rw [hD] at hk; exact hk
   have hDst : ¬ D st := fun e => HS4.out.own.not HS4.out.p2 (by decide) (HS4.out.fP _ (by rw [← HST.out]; exact hDo _ e))
   have hpl : p < w3.heap.size := (Array.getElem?_eq_some_iff.1 HBX4.out).1
   have hDp : ¬ D p := fun e => by
    have h1 := hDo _ e
    rw [hfv2] at h1
    exact HPP.out 5 (HS1.out.fP p (by rw [← HV2.out]; exact h1))
   have hstl : st < w3.heap.size := by rw [HST.out]; exact HS4.out.own.lt 2 _ HS4.out.p2
   have hblk4 := HS4.out.blk
   have HC8 : Hid (∀ W, Only D w3 W → W.cell? ⟨st, 8, none⟩ = some fv2) := fun W hW => (hW.cell (p := ⟨st, 8, none⟩) hstl hDst).trans (by rw [HST.out]; exact cell_of_row _ _ 8 _ _ _ hblk4)
   have HF8 : Hid (∀ W, Only D w3 W → W.frozen? ⟨st, 8, none⟩ = false) := fun W hW => by
    have e : W.heap[st]? = w3.heap[st]? := hW.block st hstl hDst
    rw [World.frozen?_of_block (a := ⟨st, 8, none⟩) e, HST.out]
    exact frozen_of_row _ _ 8 _ _ hblk4
   have HBXW : Hid (∀ W, Only D w3 W → W.heap[p]? = some (.cells (itC x A c).toArray 47 (0, 0))) := fun W hW => (hW.block _ hpl hDp).trans HBX4.out
   have hcl := iclone_any x A x.l.length c w3.drew rfl HA.out (by have := HX.out.ln; omega) ((HL4.out.below ((Below.refl _ _).drew)).rd)
   have HCL := Lib.hid hcl
   have HDI := Lib.hid hDi
   have HDO := Lib.hid hDo
   have HFV2 := Lib.hid hfv2
   have HP4 := Lib.hid hP4
   have hent := ent82
   obtain ⟨i0, hi0, hz0, hz1, hz2⟩ := info_parts Tryz.infoEvt
   have hrow4 : w3.ownsRow 0 41 9 fv2 m (cellsV F1) := by have := HS4.out.fr; rw [HM.out]; exact this
   have HROW := Lib.hid hrow4
   clear hcl hblk4 hD hP4 hDi hDo hfv2 hrow4 p6
   refine wp_region_noPanic ?_
   refine keepBegin (S := fun W => Only D w3 W) 12 (by kernel_rfl) ?_ (fun hHeld => ?_)
   ·exact Only.of_below ((Below.refl _ _).drew) _
   try simp only [keepPut, List.set, Nat.zero_add]
   refine kT 0 (v := ?_) [0] rfl (Or.inl ⟨by rfl, ?_⟩) ?_
   rotate_left
   ·(intro W hSw; (try dsimp only at hSw); have f2 := HC8.out W hSw; go_simp; try with_reducible rfl)
   try simp only [keepPut, List.set, Nat.zero_add]
   refine kT 1 (v := ?_) [1] rfl (Or.inl ⟨by rfl, ?_⟩) ?_
   rotate_left
   ·(intro W hSw; (try dsimp only at hSw); have f2 := HC8.out W hSw; go_simp; try with_reducible rfl)
   try simp only [keepPut, List.set, Nat.zero_add]
   refine kT 2 (v := ?_) [2] rfl (Or.inl ⟨by rfl, ?_⟩) ?_
   rotate_left
   ·(intro W hSw; (try dsimp only at hSw); have f2 := HC8.out W hSw; go_simp; try with_reducible rfl)
   try simp only [keepPut, List.set, Nat.zero_add]
   refine kT 3 (v := ?_) [3] rfl (Or.inl ⟨by rfl, ?_⟩) ?_
   rotate_left
   ·(intro W hSw; (try dsimp only at hSw); have f2 := HC8.out W hSw; go_simp; try with_reducible rfl)
   try simp only [keepPut, List.set, Nat.zero_add]
   refine kT 4 (v := ?_) [4] rfl (Or.inl ⟨by rfl, ?_⟩) ?_
   rotate_left
   ·(intro W hSw; (try dsimp only at hSw); have f2 := HC8.out W hSw; go_simp; try with_reducible rfl)
   try simp only [keepPut, List.set, Nat.zero_add]
   refine kT 5 (v := .agg (itC x A c).toArray) [5] rfl (Or.inl ⟨by rfl, ?_⟩) ?_
   ·(intro W hSw; exact exec_load_row 47 _ rfl p rfl _ _ _ _ (HBXW.out _ hSw) Tryz.underlying47 rfl Tryz.infoIt)
   try simp only [keepPut, List.set, Nat.zero_add]
   refine keepAll (rs := [6]) (by kernel_rfl) (by simp) (AllReadyK.cons rfl (fun K hK => ?_) AllReadyK.nil)
   go_simp
   refine HCL.out.mono ?_
   rintro _ w5 ⟨A5, n5, c5, rfl, rfl, ho5, hb5⟩
   have hb35 : Below w3.heap.size w3 w5 := (Below.refl _ _).drew.trans hb5
   have HB5 := Lib.hid hb35
   have HO5 := Lib.hid ho5
   have hon5 : Only D w3 w5 := Only.of_below hb35 D
   clear ho5 hb5 hb35 HCL
   go_wp2_with fail
   have hfl : ∀ W, (Instr.field 47 (.agg #[.bool x.g, .int .u8 x.o, .int .u64 x.q, .int .u64 x.t, .string x.r, .slice A5 x.l.length c5, .int .u8 x.s, .int .u8 x.p, .int .i64 x.v, .int .u8 x.w, .int .u8 x.ga, .int .u64 x.gf, .int .u64 x.gt]) 1).run Tryz.prog W = .ok (.agg #[.int .u8 x.o, .int .u64 x.q, .int .u64 x.t, .string x.r, .slice A5 x.l.length c5, .int .u8 x.s, .int .u8 x.p, .int .i64 x.v, .int .u8 x.w]) W := fun W => by kernel_rfl
   refine hK.out _ _ (hon5) (fun hHeld => ?_)
   clear hK K
   try simp only [keepPut, List.set, Nat.zero_add]
   refine kT 7 (v := .agg #[.int .u8 x.o, .int .u64 x.q, .int .u64 x.t, .string x.r, .slice A5 x.l.length c5, .int .u8 x.s, .int .u8 x.p, .int .i64 x.v, .int .u8 x.w]) [7] rfl (Or.inl ⟨by rfl, ?_⟩) ?_
   ·(intro W hSw; have f2 := hfl W; go_simp)
   try simp only [keepPut, List.set, Nat.zero_add]
   refine keepAll (rs := [8]) (by kernel_rfl) (by simp) (AllReadyK.cons rfl (fun K hK => ?_) AllReadyK.nil)
   go_simp
   obtain ⟨w6, hw6⟩ : ∃ V, V = w5.alloc (.cells #[.int .u8 x.o, .int .u64 x.q, .int .u64 x.t, .string x.r, .slice A5 x.l.length c5, .int .u8 x.s, .int .u8 x.p, .int .i64 x.v, .int .u8 x.w] 41) := ⟨_, rfl⟩
   have hsrc : Src w6 (some ⟨w5.heap.size, 0, none⟩) 1 9 (cellsV [⟨0, evI x, A5, c5⟩]) := by rw [hw6]; exact src_ev (e := ⟨0, evI x, A5, c5⟩) (heap_alloc_new w5 _)
   have hb56 : Below w5.heap.size w5 w6 := by rw [hw6]; exact (Below.refl _ _).alloc (Nat.le_refl _) _
   rw [← hw6]
   have hb36 : Below w3.heap.size w3 w6 := HB5.out.trans (hb56.mono HB5.out.size)
   have hon6 : Only D w3 w6 := Only.of_below hb36 D
   have ho6 := ownB_below HO5.out hb56
   clear hw6 hon5
   refine hK.out _ _ (hon6) (fun hHeld => ?_)
   clear hK K
   try simp only [keepPut, List.set, Nat.zero_add]
   refine keepAll (rs := [9]) (by kernel_rfl) (by simp) (AllReadyK.cons rfl (fun K hK => ?_) AllReadyK.nil)
   refine step_append_src rfl (.tmp 33) (.tmp 37) rfl (base := 0) Tryz.underlying78 hi0 hz0 hz1 hz2 rfl (by decide) rfl (ownB_below HROW.out hb36) rfl hsrc (cellsV_one _) (by unfold maxLen; omega) (by omega) (Nat.zero_le _) ?_
   intro v7 w7 ho7 hg7 hb7
   obtain ⟨A7, c7, rfl⟩ := ownV_slice ho7
   have hon7 : Only (fun k => fv2.ownBlock = some k) w3 w7 := (Only.of_below hb36 _).trans ⟨hg7.os, hg7.tape, hg7.output, hg7.size, fun k hk hne => hg7.block k hk (fun e => hne e.symm)⟩ (fun _ h => .inl h)
   have honD : Only D w3 w7 := hon7.mono (fun k hk => HDI.out k hk)
   have hv7 : ∀ k, (Value.slice A7 (m + 1) c7).ownBlock = some k → fv2.ownBlock = some k ∨ w3.heap.size ≤ k := fun k hk => by
    rcases hb7 with h' | h'
    ·rw [h'] at hk; exact .inl hk
    ·rw [h'] at hk; injection hk with hk; exact .inr (by have := hb36.size; omega)
   have hlabn : ∀ a, A5 = some a → w3.heap.size ≤ a.block ∧ a.block < w5.heap.size := fun a ha => by
    have h1 := HO5.out.lt a.block (by rw [ha]; rfl)
    have h2 : w3.drew.heap.size = w3.heap.size := rfl
    omega
   have hlb7 : RdP w7 w7.heap.size A5 x.l := (Only.rdP (T := fun k => fv2.ownBlock = some k) ⟨hg7.os, hg7.tape, hg7.output, hg7.size, fun k hk hne => hg7.block k hk (fun e => hne e.symm)⟩ ((RdP.of_own ho6)) (fun a ha _ e => by
    have h1 := hlabn a ha
    have h2 := HS4.out.own.lt 5 _ (HS4.out.fP _ e)
    omega))
   have hap7 : ∀ a, A5 = some a → 0 < x.l.length → w3.heap.size ≤ a.block ∧ (Value.slice A7 (m + 1) c7).ownBlock ≠ some a.block := fun a ha _ => ⟨(hlabn a ha).1, fun e => by
    have h1 := hlabn a ha
    rcases hb7 with h' | h'
    ·rw [h'] at e
     have h2 := HS4.out.own.lt 5 _ (HS4.out.fP _ e)
     omega
    ·rw [h'] at e
     injection e with e
     have := hb56.size
     omega⟩
   have hnil7 : A5 = none → x.l.length = 0 := fun e => by
    rcases HO5.out.2 with ⟨e1, e2⟩ | ⟨g', cap, cur, e1, _⟩
    ·exact e2
    ·injection e1 with e1; rw [e] at e1; cases e1
   rw [← cellsV_append, show m + 1 = (F1 ++ [(⟨0, evI x, A5, c5⟩ : Ett)]).length by rw [List.length_append, HM.out]; rfl] at ho7
   obtain ⟨hs8, hm8⟩ := HS4.out.row hon7 _ _ ho7 (by rw [show (F1 ++ [(⟨0, evI x, A5, c5⟩ : Ett)]).length = m + 1 by rw [List.length_append, HM.out]; rfl]; exact hv7) (fun e he => by
    rcases List.mem_append.1 he with he | he
    ·exact .inl he
    ·rw [List.mem_singleton] at he
     subst he
     exact .inr ⟨HX.out.ev HG.out, rfl, ⟨rfl, rfl, rfl⟩, hnil7, hlb7, by rw [show (F1 ++ [(⟨0, evI x, A5, c5⟩ : Ett)]).length = m + 1 by rw [List.length_append, HM.out]; rfl]; exact hap7⟩)
   rw [show (F1 ++ [(⟨0, evI x, A5, c5⟩ : Ett)]).length = m + 1 by rw [List.length_append, HM.out]; rfl] at hs8 hm8
   have HS8 := Lib.hid hs8
   have HM8 := Lib.hid (HM4.out.trans hm8)
   have HOND := Lib.hid honD
   clear hs8 hm8 ho7 hg7 hb7 hon7 hv7 hlabn hlb7 hap7 hnil7 hsrc hb56 hb36 ho6 hon6
   refine hK.out _ _ (honD) (fun hHeld => ?_)
   clear hK K
   try simp only [keepPut, List.set, Nat.zero_add]
   refine kT 10 (v := ?_) [11, 10] rfl (Or.inl ⟨by rfl, ?_⟩) ?_
   rotate_left
   ·(intro W hSw; (try dsimp only at hSw); go_simp; try with_reducible rfl)
   try simp only [keepPut, List.set, Nat.zero_add]
   refine kT 11 (v := ?_) [11] rfl (Or.inl ⟨by rfl, ?_⟩) ?_
   rotate_left
   ·(intro W hSw; (try dsimp only at hSw); go_simp; try with_reducible rfl)
   try simp only [keepPut, List.set, Nat.zero_add]
   refine keepLast rfl (by kernel_rfl) (fun K hK => ?_)
   have f2 := HC8.out w7 HOND.out
   have f4 := HF8.out w7 HOND.out
   go_simp
   refine hK.out _ _ ?_
   clear hK K
   try simp only [keepPut, List.set, Nat.zero_add]
   refine keepDone (by kernel_rfl) ?_ _
   refine NoPanic.normal ?_
   go_end0
   have hst := HST.out
   subst hst
   refine ⟨rfl, _, _, _, HS8.out, ?_, HM8.out⟩
   rw [List.map_append, HF1.out, filter_keep]
   exact HN.out.symm
end Go.Proofs.YtholdcgkhicdmaaGreatDoor