/- Several texts in one: StSn2, StWri, Shelf. -/
import Derived.Shelf.Strconv.Itoa0
import Derived.Shelf.Strconv.Itoa1
import Derived.Shelf.LaysM
import Derived.Ground.MpProg
import Derived.Shelf.Pu.ParseUintPublic10
import Derived.Shelf.Pu.ErrVarParseUint
import Derived.Shelf.Strings.Prefix
import Derived.Ground.SlgmProg
import Derived.Shelf.SortM.Plain
import Derived.Shelf.SortM.SortNone
import Derived.Shelf.SlGeneric
import Derived.Ground.NamesProg
import Derived.Test.YtholdcgkhicdmaaGreatDoorZq38
namespace Go.Proofs.YtholdcgkhicdmaaGreatDoor
open Go.RowKit
def firesB (F : List It) : List Nat := F.flatMap itemB
def snapB (m : Nat) (X : Sp) (K : List Ett) (F : List It) : List Nat := leb m ++ baseB X K ++ leb F.length ++ firesB F
theorem entsB_ers (L : List Ett) : entsB (ers L) = entsB L := by
 unfold entsB ers
 rw [List.flatMap_map]
 rfl
theorem baseB_same {X : Sp} {L M : List Ett} (h : SameE L M) : baseB X L = baseB X M := by
 unfold baseB
 rw [← entsB_ers L, ← entsB_ers M, same_ers.1 h, h.len]
theorem firesB_app (a b : List It) : firesB (a ++ b) = firesB a ++ firesB b := by simp [firesB]
theorem firesB_step {F : List It} {k : Nat} {x : It} (h : F[k]? = some x) : firesB (F.take (k + 1)) = firesB (F.take k) ++ itemB x := by
 rw [List.take_add_one, h, firesB_app]
 simp [firesB]
theorem firesB_take (F : List It) (k : Nat) : (firesB (F.take k)).length ≤ (firesB F).length := by
 have h : firesB F = firesB (F.take k) ++ firesB (F.drop k) := by rw [← firesB_app, List.take_append_drop]
 rw [h, List.length_append]
 omega
theorem labAt_new {w : World} {g base n c : Nat} {r : Option Nat} {A : Option Addr} {l : List Pr} {e : TypeId} (ho : w.ownsRow base e 2 (.slice A n c) n (cellsP l)) (hg : g < base) (hr : ∀ k, r = some k → k < base) : LabAt w g r A l := fun h0 => by
 obtain ⟨b, o, e, hb, hc⟩ := RdP.of_own ho h0
 subst e
 have := (ho.lt b (by simp [Value.ownBlock])).1
 exact ⟨b, o, rfl, hb, by omega, fun e => by have := hr b e.symm; omega, hc⟩
theorem infoEv : (Tryz.prog.info? 41).map (·.size) = some 9 := by kernel_rfl
set_option maxRecDepth 100000 in
set_option maxHeartbeats 4000000 in
theorem fill_snap {P : Nat → Nat → Prop} {R : Rc} {n : Nat} (p g : Nat) (v : Value) (w0 w : World) (h : Sto w0 P R n) (hb : Below w0.heap.size w0 w) (hg : w0.heap.size ≤ g) (hp : w0.cell? ⟨p, 0, none⟩ = some (.pointer (some ⟨R.st, 0, none⟩))) (hpl : p < w0.heap.size) (hW : Wtr w g v [4])
  (hX : R.X.n < 18446744073709551616 ∧ R.X.a < 18446744073709551616 ∧ R.X.v < 18446744073709551616 ∧ ∀ i, i < 32 → R.X.h i < 18446744073709551616) (hlen : (snapB R.life R.X R.L (R.F.map (·.x))).length ≤ 900000) (hm : R.life < 18446744073709551616) (hL : R.L.length ≤ 100000) (hF : R.F.length ≤ 100000) :
  Calls Tryz.prog 124 #[.pointer (some ⟨g, 0, none⟩), .pointer (some ⟨p, 0, none⟩)] w fun e w' => e = .returned (.tuple #[]) ∧ Puts w w' g v ([4] ++ snapB R.life R.X R.L (R.F.map (·.x))) := by
 have hstl : R.st < w0.heap.size := h.own.lt 2 _ h.p2
 have cp : ∀ W, Below w0.heap.size w0 W → W.cell? ⟨p, 0, none⟩ = some (.pointer (some ⟨R.st, 0, none⟩)) := fun W hW => (hW.cell (p := ⟨p, 0, none⟩) hpl).trans hp
 have cs : ∀ (k : Nat) u, (stC R)[k]? = some u → ∀ W, Below w0.heap.size w0 W → W.cell? ⟨R.st, k, none⟩ = some u := fun k u hu W hW => (hW.cell (p := ⟨R.st, k, none⟩) hstl).trans ((cell_of_row _ _ k _ _ _ h.blk).trans hu)
 have hlb : (snapB R.life R.X R.L (R.F.map (·.x))).length = (leb R.life).length + (baseB R.X R.L).length + (leb R.F.length).length + (firesB (R.F.map (·.x))).length := by
  unfold snapB
  simp only [List.length_append, List.length_map]
 rw [hlb] at hlen
 have HCP := Lib.hid cp
 have HC6 := Lib.hid (cs 6 (.int .u64 R.life) rfl)
 have HC7 := Lib.hid (cs 7 (.pointer (some ⟨R.sq, 0, none⟩)) rfl)
 have HC8 := Lib.hid (cs 8 R.fv rfl)
 have HLN := Lib.hid hlen
 have HS := Lib.hid h
 have HB := Lib.hid hb
 have HX := Lib.hid hX
 have HW := Lib.hid hW
 have c0 := cp w hb
 have c6 := HC6.out w hb
 obtain ⟨st, hst⟩ : ∃ z, z = R.st := ⟨_, rfl⟩
 rw [← hst] at c0 c6 HCP HC6 HC7 HC8
 have HST := Lib.hid hst
 have HU1 := Lib.hid (wuint_any g v [4] R.life hm w hW (by simp))
 clear hstl cp cs hlb hlen h hb hp hX hW hst
 go_enter Tryz.func124, Tryz.ntmps124
 go_wp2_with fail
 refine HU1.out.mono ?_
 rintro _ w1 ⟨rfl, hp1⟩
 have hb1 := hp1.low HW.out HB.out hg
 obtain ⟨v1, hw1, hwr1⟩ := hp1
 have hs1 := HS.out.below hb1
 have HBA := Lib.hid (base_any w1 hs1.sp)
 have c0 := HCP.out w1 hb1
 have c7 := HC7.out w1 hb1
 have HB1 := Lib.hid hb1
 have HW1 := Lib.hid hw1
 have HWR1 := Lib.hid hwr1
 clear c6 hb1 hw1 hwr1 hs1 HU1 HB
 go_wp2_with fail
 refine HBA.out.mono ?_
 rintro _ w2 ⟨bs, A2, c2, M, rfl, hbs, hsm, hrow, hnew, hb2⟩
 have hbb2 := HB1.out.trans (hb2.mono HB1.out.size)
 have hw2 := HW1.out.below hb2
 have hEA : ∀ (k : Nat) e, M[k]? = some e → EntAt w2 g v1.ownBlock A2 k e := fun k e he => by
  have hk := (List.getElem?_eq_some_iff.1 he).1
  have q := hrow.ok e (List.mem_of_getElem? he)
  obtain ⟨b, cap, hv, hge, hlt⟩ := hrow.own.form (by omega)
  injection hv with hv1 _ hv3
  subst hv1
  have hg1 := HW1.out.lt
  refine ⟨⟨q.ok, q.sh, q.ln, q.ix⟩, ⟨b, rfl, hlt, by omega, fun e => by have := HW1.out.row_lt e.symm; omega, fun j u hj => ?_⟩, fun h0 => ?_⟩
  ·have h5 := hrow.own.cells (g := b) rfl _ _ (cellsE_get he hj)
   rw [Addr.add_lit, Nat.zero_add] at h5
   exact h5
  ·obtain ⟨b3, o3, e3, hb3, hc3⟩ := q.rd h0
   have h6 := hnew e (List.mem_of_getElem? he) _ e3 h0
   exact ⟨b3, o3, e3, hb3, by simp at h6; omega, fun e => by have := HW1.out.row_lt e.symm; simp at h6; omega, hc3⟩
 have hsb := baseB_same (X := R.X) hsm
 have hml := hsm.len
 have HPB := Lib.hid (putBase_any g c2 bs R.X A2 M v1 ([4] ++ leb R.life) w2 hbs hw2 hEA HX.out (by rw [← hsb]; have := HLN.out; simp only [List.length_append, List.length_cons, List.length_nil]; omega) (by omega))
 rw [← hsb] at HPB
 have HB2 := Lib.hid hbb2
 have HW2 := Lib.hid hw2
 have HWR2 := Lib.hid (HWR1.out.trans (Wrote.of_below hb2 g _))
 clear hbs hsm hrow hnew hb2 hbb2 hw2 hEA hsb hml HBA HB1 HW1 HWR1 c0 c7
 go_wp2_with fail
 refine HPB.out.mono ?_
 rintro _ w3 ⟨rfl, hp3⟩
 have hb3 := hp3.low HW2.out HB2.out hg
 obtain ⟨v3, hw3, hwr3⟩ := hp3
 have hs3 := HS.out.below hb3
 obtain ⟨A4, c4, hfv⟩ := ownV_slice hs3.fr
 have c0 := HCP.out w3 hb3
 have c8 := HC8.out w3 hb3
 rw [hfv] at c8
 obtain ⟨nf, hnf⟩ : ∃ z, z = R.F.length := ⟨_, rfl⟩
 rw [← hnf] at c8
 have hnf64 : nf < 18446744073709551616 := by omega
 have hcv : IntKind.u64.wrap (nf : Int) = (nf : Int) := by rw [IntKind.wrap_u64]; omega
 have HU3 := Lib.hid (wuint_any g v3 _ nf hnf64 w3 hw3 (by have := HLN.out; simp only [List.length_append, List.length_cons, List.length_nil]; omega))
 have HB3 := Lib.hid hb3
 have HW3 := Lib.hid hw3
 have HWR3 := Lib.hid (HWR2.out.trans hwr3)
 have HNF := Lib.hid hnf
 have HFV := Lib.hid hfv
 have hnfl : nf ≤ 100000 := by omega
 clear hb3 hw3 hwr3 hs3 hnf hfv HPB HB2 HW2 HWR2 hnf64
 go_wp2_with fail
 refine HU3.out.mono ?_
 rintro _ w4 ⟨rfl, hp4⟩
 have hb4 := hp4.low HW3.out HB3.out hg
 obtain ⟨v4, hw4, hwr4⟩ := hp4
 have c0 := HCP.out w4 hb4
 have c8 := HC8.out w4 hb4
 rw [HFV.out, ← HNF.out] at c8
 obtain ⟨B4, hB4⟩ : ∃ z, z = [4] ++ leb R.life ++ baseB R.X R.L ++ leb nf := ⟨_, rfl⟩
 rw [← hB4] at hw4
 have hB4l : B4.length + (firesB (R.F.map (·.x))).length ≤ 900001 := by
  rw [hB4, HNF.out]
  have := HLN.out
  simp only [List.length_append, List.length_cons, List.length_nil]
  omega
 have HB4 := Lib.hid hb4
 have HW4 := Lib.hid hw4
 have HWR4 := Lib.hid (HWR3.out.trans hwr4)
 have HBE := Lib.hid hB4
 have HBL := Lib.hid hB4l
 clear hb4 hw4 hwr4 hB4 hB4l HU3 HB3 HW3 HWR3 hcv
 go_upto_region 4 with fail
 clear c0 c8
 go_loopw [31] (fun iv wx => ∃ k : Nat, k ≤ nf ∧ iv = .int .i64 k ∧ Hid (∃ v', Wtr wx g v' (B4 ++ firesB ((R.F.map (·.x)).take k)) ∧ Wrote w wx g v.ownBlock v'.ownBlock) ∧ Hid (Below w0.heap.size w0 wx)) (fun iv _ => nf - (intOf iv).toNat)
 case atStart => exact ⟨0, Nat.zero_le _, rfl, ⟨v4, (by rw [show firesB ((R.F.map (·.x)).take 0) = [] from rfl, List.append_nil]; exact HW4.out), HWR4.out⟩, HB4.out⟩
 case round =>
  obtain ⟨k, hk, rfl, HI, HBK⟩ := hrel
  clear HW4 HWR4 HB4
  obtain ⟨vk, hwk, hwrk⟩ := HI.out
  have HWK := Lib.hid hwk
  have HWRK := Lib.hid hwrk
  clear HI hwk hwrk
  by_cases hkn : k < nf
  ·obtain ⟨e, he⟩ : ∃ e, R.F[k]? = some e := ⟨_, List.getElem?_eq_getElem (by rw [← HNF.out]; exact hkn)⟩
   have hsk := HS.out.below HBK.out
   have hfe := hsk.fok e (List.mem_of_getElem? he)
   obtain ⟨b, cap, hv, hge, hlt⟩ := hsk.fr.form (by rw [← HNF.out]; omega)
   have hA4 := HFV.out.symm.trans hv
   injection hA4 with hA4 _ hA4c
   subst hA4
   subst hA4c
   have hrg : wr.rangeAt b (k * 9) (evC e) := fun j u hj => by
    have h5 := hsk.fr.cells (g := b) (by rw [HFV.out]; rfl) _ _ (cellsV_get he hj)
    rw [Addr.add_lit, Nat.zero_add] at h5
    exact h5
   have hex : (R.F.map (·.x))[k]? = some e.x := by rw [List.getElem?_map, he]; rfl
   have HST2 := Lib.hid (firesB_step hex)
   have HTK : Hid ((firesB ((R.F.map (·.x)).take k)).length + (itemB e.x).length ≤ (firesB (R.F.map (·.x))).length) := by
    have h6 := firesB_take (R.F.map (·.x)) (k + 1)
    rw [firesB_step hex, List.length_append] at h6
    exact h6
   have HFE := Lib.hid hfe
   have HRG := Lib.hid hrg
   clear hsk hfe hv hge hlt hrg hex
   go_upto_region 6 with (first
    | (refine wpList_load_mid rfl _ _ rfl b (k * 9) rfl (evC e) _ HRG.out Tryz.underlying41 rfl infoEv ?_)
    | (refine wpList_store_row rfl _ _ _ rfl wr.heap.size (evC e).toArray rfl rfl _ _ (heap_alloc_new _ _) infoEv rfl (by simp [Value.oneCell', evC]) ?_)
    | fail)
   obtain ⟨wB, hwB, hcB, hbB, hlB⟩ := boxV wr #[.int .u8 0, .int .u64 0, .int .u64 0, .string ⟨#[]⟩, .slice none 0 0, .int .u8 0, .int .u8 0, .int .i64 0, .int .u8 0] (evC e).toArray
   rw [← hwB, act_put_no]
   have hrdB := (HFE.out.lb.below hbB).rd
   have hof := of_any e.x.o e.x.q e.x.t e.x.r e.A e.x.l.length e.c e.x.l e.x.s e.x.p e.x.v e.x.w wB rfl HFE.out.nil (by have := HFE.out.m.ln; omega) hrdB
   have hwB2 := HWK.out.below hbB
   have HOF := Lib.hid hof
   have HCB := Lib.hid hcB
   have HWB := Lib.hid hwB2
   have HWRB := Lib.hid (HWRK.out.trans (Wrote.of_below hbB g _))
   have HBB := Lib.hid (HBK.out.trans (hbB.mono HBK.out.size))
   obtain ⟨pb, hpb⟩ : ∃ z, z = wr.heap.size := ⟨_, rfl⟩
   rw [← hpb] at HCB ⊢
   clear hwB hcB hbB hlB hrdB hof hwB2 hpb HWK HWRK HBK
   go_wp2_with (first | (refine wpList_load_row rfl _ _ rfl pb rfl _ _ _ _ HCB.out Tryz.underlying41 rfl infoEv ?_) | fail)
   refine HOF.out.mono ?_
   rintro _ wC ⟨L2, rfl, hoC, hbC⟩
   obtain ⟨A5, c5, rfl⟩ := own_slice hoC
   have hwC := HWB.out.below hbC
   have hi := iput_any g vk _ e.x A5 e.x.l.length c5 HFE.out.m.ok HFE.out.m.sh rfl (by have := HFE.out.m.ln; omega) wC hwC (by have := HBL.out; have := HTK.out; simp only [List.length_append]; omega) (labAt_new hoC HWB.out.lt (fun q hq => HWB.out.row_lt hq))
   rw [HFE.out.g, HFE.out.z.1, HFE.out.z.2.1, HFE.out.z.2.2] at hi
   have HI1 := Lib.hid hi
   have HBC := Lib.hid (HBB.out.trans (hbC.mono HBB.out.size))
   have HWC := Lib.hid hwC
   have HWRC := Lib.hid (HWRB.out.trans (Wrote.of_below hbC g _))
   clear hoC hbC hwC hi HOF HWB HWRB HBB HCB
   go_wp2_with fail
   refine HI1.out.mono ?_
   rintro _ wD ⟨rfl, hpD⟩
   have hbD := hpD.low HWC.out HBC.out hg
   obtain ⟨vD, hwD, hwrD⟩ := hpD
   have HI5 : Hid (∃ v', Wtr wD g v' (B4 ++ firesB ((R.F.map (·.x)).take (k + 1))) ∧ Wrote w wD g v.ownBlock v'.ownBlock) := by
    refine ⟨vD, ?_, HWRC.out.trans hwrD⟩
    rw [HST2.out, ← List.append_assoc]
    exact hwD
   have HBD := Lib.hid hbD
   clear hwD hwrD hbD HWC HWRC HBC HI1
   go_wp2
   go_roundw
   case rel => exact ⟨k + 1, by omega, by go_num, HI5.out, HBD.out⟩
   case measure => simp [intOf]; omega
  ·obtain rfl : k = nf := by omega
   go_wp2
   go_end0
   refine ⟨rfl, vk, ?_, HWRK.out⟩
   have h9 := HWK.out
   rw [List.take_of_length_le (by rw [List.length_map, HNF.out]; exact Nat.le_refl _), HBE.out, HNF.out] at h9
   unfold snapB
   rw [List.length_map]
   simp only [List.append_assoc] at h9 ⊢
   exact h9
theorem jd9_append {w : World} {S : Nat → Prop} {gd g jb n : Nat} {LL : List (ByteArray × Fl)} {nm : ByteArray} (A : Option Addr) (k c : Nat) (l : List Nat) (h : DkT w S gd g LL n) (hn3 : n ≤ 3000) (hj : JAt w jb gd g nm) (hSj : ¬ S jb) (hSg : ¬ S g) (hjg : jb ≠ g)
  (hn : k = l.length) (hm : k ≤ 30000) (hr : RdB w w.heap.size A l) (hA : ∀ a, A = some a → ¬ S a.block ∧ a.block ≠ g) (hok : OkB l) (hv : valueB nm = true) (hvs : nm.size ≤ maxLen) (hfew : findP LL nm = none → LL.length < 64) (hmax : (had LL nm).by_.length + (k + 8) ≤ 1048576) :
  Calls Tryz.prog 74 #[.pointer (some ⟨jb, 0, none⟩), .slice A k c] w fun e w' => e = .returned (.int .i64 0) ∧ ∃ S', DkT w' S' gd g (putP LL nm ⟨(had LL nm).by_ ++ laidR l, (had LL nm).syn⟩) (n + 1) ∧ Only (fun i => S i ∨ i = g) w w' ∧ (∀ i, S' i → S i ∨ w.heap.size ≤ i) := by
 obtain ⟨wr, sy, a1, a2, a3⟩ := h.dk
 obtain ⟨d, t, b, b1, b2, b3, b4⟩ := h.tab
 have hoff : Off A g l := fun h0 a ha e => (hA a ha).2 e
 refine (jappend_any b1 A k c l w.heap.size w hj hjg b4 hn (by omega) (by omega) (by omega) hr (Nat.le_refl _) hok hoff 0 (fun w1 w' => Leaves w1 w' S gd (putP LL nm ⟨(had LL nm).by_ ++ laidR l, (had LL nm).syn⟩) (wr + 1) sy) ?_).mono ?_
 ·intro v w1 hown hti hT1 hJ1
  obtain ⟨Av, cv, rfl⟩ := ownB_slice hown
  obtain ⟨y1, y2, -⟩ := rdB_of_own hown
  have hdk : Disk w1 S gd LL wr sy := a3.keep hti.only (fun i hi e => hSg (by have e : i = g := e; rw [e] at hi; exact hi))
  refine (append_ok (l := laidR l) w1 hdk hv hvs hfew (by rw [laidR_length, hn]) (laidR_ok hok) (by exact hmax) y1 (by omega)).mono ?_
  rintro e w2 ⟨rfl, S2, hD2, hs2⟩
  exact ⟨rfl, hJ1.only hs2.only hSj, S2, hD2, hs2⟩
 ·rintro e w2 ⟨rfl, w1, hti, hT1, hJ2, S2, hD2, hs2⟩
  have ho1 : Only (fun i => S i ∨ i = g) w w1 := ⟨hti.only.os, hti.only.tape, hti.only.output, hti.only.size, fun i hi hne => hti.only.block i hi (fun e => hne (.inr e))⟩
  exact ⟨rfl, S2, ⟨⟨wr + 1, sy, by omega, by omega, hD2⟩, ⟨1, t + 1, b + 4 + k, Nat.le_refl _, by omega, by omega, hT1.only hs2.only hSg⟩⟩, ho1.trans hs2.only (fun i hi => .inl (.inl hi)), fun i hi => (hs2.new i hi).imp id (fun h' => Nat.le_trans ho1.size h')⟩
set_option maxRecDepth 100000 in
set_option maxHeartbeats 1000000 in
theorem write_any {P : Nat → Nat → Prop} {R : Rc} {n : Nat} (kd : Nat) (fn : FuncId) (hent : ∀ args w, (callFunc fn args).run Tryz.prog w = .ok (.enter fn args) w) (p : Addr) (l : List Nat) (w : World) (h : Sto w P R n) (hn3 : n ≤ 3000) (hl : l.length ≤ 20000) (hok : OkB (kd :: l))
  (hfill : ∀ (g : Nat) (v : Value) (w1 : World), Below w.heap.size w w1 → w.heap.size ≤ g → Wtr w1 g v [kd] → Calls Tryz.prog fn #[.pointer (some ⟨g, 0, none⟩), .pointer (some p)] w1 fun e w2 => e = .returned (.tuple #[]) ∧ Puts w1 w2 g v (kd :: l))
  (hv : valueB R.nm = true) (hvs : R.nm.size ≤ maxLen) (hfew : findP R.LL R.nm = none → R.LL.length < 64) (hmax : (had R.LL R.nm).by_.length + (l.length + 9) ≤ 1048576) :
  Calls Tryz.prog 36 #[.pointer (some ⟨R.st, 0, none⟩), .int .u8 kd, .func (.func fn) #[] #[.pointer (some p)]] w fun e w' => e = .returned (.int .i64 0) ∧ ∃ P', Sto w' P' { R with LL := putP R.LL R.nm ⟨(had R.LL R.nm).by_ ++ laidR (kd :: l), (had R.LL R.nm).syn⟩ } (n + 1) ∧ Mv6 w P w' P' := by
 have c2 : w.cell? ⟨R.st, 2, none⟩ = some (.pointer (some ⟨R.jb, 0, none⟩)) := cell_of_row _ _ 2 _ _ _ h.blk
 have hrec := record_any kd fn hent p l w.drew (by omega) (fun g v w1 hb hg hw => hfill g v w1 (Below.trans (Below.refl _ _).drew hb) hg hw)
 have HS := Lib.hid h
 have HR := Lib.hid hrec
 have HOK := Lib.hid hok
 have HX := Lib.hid (⟨hv, hvs, hfew, hmax⟩ : _ ∧ _ ∧ _ ∧ _)
 have hst := h.own.lt 2 _ h.p2
 obtain ⟨st, hste⟩ : ∃ st, st = R.st := ⟨_, rfl⟩
 obtain ⟨jb, hjbe⟩ : ∃ jb, jb = R.jb := ⟨_, rfl⟩
 rw [← hste, ← hjbe] at c2
 rw [← hste] at hst ⊢
 have HJB := Lib.hid hjbe
 have HST := Lib.hid hste
 clear h hrec hok hv hvs hfew hmax hfill hste hjbe
 go_enter Tryz.func36, Tryz.ntmps36
 go_upto_region 1 with fail
 refine wp_region_noPanic ?_
 refine wp_region_held_drew (S := fun W => W.cell? ⟨st, 2, none⟩ = some (.pointer (some ⟨jb, 0, none⟩))) (by kernel_rfl) ?_ (fun hHeld => ?_)
 ·exact c2
 try simp only [heldPut, List.set]
 refine hT 0 (v := ?_) rfl (Or.inl ⟨by rfl, ?_⟩) ?_
 rotate_left
 ·(intro W hSw; (try dsimp only at hSw); go_simp; try with_reducible rfl)
 try simp only [heldPut, List.set]
 refine hT 1 (v := ?_) rfl (Or.inl ⟨by rfl, ?_⟩) ?_
 rotate_left
 ·(intro W hSw; (try dsimp only at hSw); go_simp; try with_reducible rfl)
 try simp only [heldPut, List.set]
 refine hT 2 (v := ?_) rfl (Or.inl ⟨by rfl, ?_⟩) ?_
 rotate_left
 ·(intro W hSw; (try dsimp only at hSw); go_simp; try with_reducible rfl)
 try simp only [heldPut, List.set]
 refine hT 3 (v := ?_) rfl (Or.inl ⟨by rfl, ?_⟩) ?_
 rotate_left
 ·(intro W hSw; (try dsimp only at hSw); go_simp; try with_reducible rfl)
 try simp only [heldPut, List.set]
 refine hT 4 (v := ?_) rfl (Or.inl ⟨by rfl, ?_⟩) ?_
 rotate_left
 ·(intro W hSw; (try dsimp only at hSw); go_simp; try with_reducible rfl)
 try simp only [heldPut, List.set]
 refine hT 5 (v := ?_) rfl (Or.inl ⟨by rfl, ?_⟩) ?_
 rotate_left
 ·(intro W hSw; (try dsimp only at hSw); go_simp; try with_reducible rfl)
 try simp only [heldPut, List.set]
 refine heldOne (i := 6) rfl (by kernel_rfl) (fun K hK => ?_)
 go_simp
 refine HR.out.mono ?_
 rintro _ w1 ⟨A, c, rfl, ho, hb⟩
 have hb1 : Below w.heap.size w w1 := (Below.refl _ _).drew.trans hb
 have HB1 := Lib.hid hb1
 have HO := Lib.hid ho
 clear ho hb hb1
 go_wp2_with fail
 refine hK.out _ _ ?_ (fun hHeld => ?_)
 ·(show _ = _; exact (HB1.out.cell (p := ⟨st, 2, none⟩) hst).trans c2)
 clear hK K
 try simp only [heldPut, List.set]
 have hs1 := HS.out.below HB1.out
 obtain ⟨y1, y2, -⟩ := rdB_of_own HO.out
 have hap := jd9_append A (l.length + 1) c (kd :: l) hs1.dt hn3 hs1.j (fun h' => hs1.own.not hs1.p3 (by decide) h') (fun h' => hs1.own.not hs1.p1 (by decide) h') (fun e => by have := hs1.own.sep 3 1 _ hs1.p3 (by rw [e]; exact hs1.p1); omega) rfl (by omega) y1 (fun a ha => by
  subst ha
  have h1 := (HO.out.lt a.block rfl).1
  have h1 : w.heap.size ≤ a.block := h1
  exact ⟨fun h' => by have := HS.out.own.lt 0 _ h'; omega, fun e => by have := HS.out.own.lt 1 _ HS.out.p1; omega⟩) HOK.out HX.out.1 HX.out.2.1 HX.out.2.2.1 (by have := HX.out.2.2.2; omega)
 rw [← HJB.out] at hap
 have HAP := Lib.hid hap
 have HS1 := Lib.hid hs1
 clear hs1 y1 y2 hap
 refine heldOne (i := 7) rfl (by kernel_rfl) (fun K hK => ?_)
 go_simp
 refine HAP.out.mono ?_
 rintro _ w2 ⟨rfl, S2, hd2, ho2, hn2⟩
 obtain ⟨hs2, hm2⟩ := HS1.out.disks ho2 hn2 hd2
 have HS2 := Lib.hid hs2
 have HM2 := Lib.hid ((Mv6.of_below HB1.out P).trans hm2)
 have hc2 : w2.cell? ⟨st, 2, none⟩ = some (.pointer (some ⟨jb, 0, none⟩)) := by
  rw [HST.out, HJB.out]
  exact cell_of_row _ _ 2 _ _ _ hs2.blk
 clear hs2 hm2 hd2 ho2 hn2
 go_wp2_with fail
 refine hK.out _ _ ?_ (fun hHeld => ?_)
 ·(show _ = _; exact hc2)
 clear hK K
 try simp only [heldPut, List.set]
 refine hT 8 (v := ?_) rfl (Or.inl ⟨by rfl, ?_⟩) ?_
 rotate_left
 ·(intro W hSw; (try dsimp only at hSw); go_simp; try with_reducible rfl)
 try simp only [heldPut, List.set]
 refine wpAnyH_done (by kernel_rfl) ?_ _
 refine NoPanic.normal ?_
 go_wp2
 go_ret
 have hste := HST.out
 subst hste
 exact ⟨rfl, _, HS2.out, HM2.out⟩
end Go.Proofs.YtholdcgkhicdmaaGreatDoor
namespace Go.Proofs
open Go.Shelf
open Go.Lib in
open Go.Lib in
def Tryz.lays283_ren : Go.Shelf.Ren := ⟨fun | 283 => 172 | n => n, fun | 3 => 3 | 9 => 9 | 4 => 4 | n => n, fun | n => n⟩
theorem Tryz.lays283 : Go.Proofs.Lays.n283 Tryz.prog Tryz.lays283_ren := {
 mixed := by kernel_rfl
 f283 := Tryz.func172.trans (congrArg some (by kernel_rfl))
 t3 := Tryz.underlying3
 a3 := Tryz.isAgg3
 z3 := Tryz.sizeOf3
 v3 := Tryz.zeroValue3
 t4 := Tryz.underlying4
 a4 := Tryz.isAgg4
 z4 := Tryz.sizeOf4
 v4 := Tryz.zeroValue4
 t9 := Tryz.underlying9
 a9 := Tryz.isAgg9
 z9 := Tryz.sizeOf9
 v9 := Tryz.zeroValue9 }
open Go.Lib in
theorem Tryz.internal_strconv_small (i : Nat) (h : i < 100) (w : World) :
  Calls Tryz.prog 172 #[.int .i64 i] w fun e w' => e = .returned (.string ⟨(Lib.decDigits i).toArray⟩) ∧ w' = w := Any.internal_strconv_small Tryz.lays283 i h w
open Go.Lib in
def Tryz.laysPu14_ren : Go.Shelf.Ren := ⟨fun | 14 => 142 | 16 => 168 | 17 => 169 | 19 => 187 | 20 => 188 | 21 => 189 | 22 => 190 | 23 => 191 | 24 => 192 | 25 => 206 | 27 => 208 | 26 => 207 | 28 => 216 | 29 => 221 | 30 => 172 | 31 => 173 | 32 => 174 | 33 => 175 | 35 => 136 | 34 => 194 | 36 => 195 | 37 => 196 | 38 => 197 | 39 => 209 | 40 => 210 | n => n, fun | 9 => 9 | 3 => 3 | 22 => 34 | 24 => 219 | 25 => 220 | 4 => 4 | 34 => 263 | 5 => 5 | 36 => 171 | 37 => 77 | 0 => 0 | 39 => 265 | 21 => 21 | 44 => 278 | 47 => 283 | 50 => 286 | 48 => 284 | 2 => 2 | 52 => 248 | 55 => 250 | 59 => 270 | 60 => 92 | 20 => 20 | 61 => 271 | 65 => 287 | 66 => 288 | 67 => 141 | n => n, fun | 0 => 1 | 1 => 2 | 2 => 0 | 3 => 3 | 4 => 4 | n => n⟩
theorem Tryz.laysPu14 : Go.Proofs.LaysPu.n14 Tryz.prog Tryz.laysPu14_ren := {
 mixed := by kernel_rfl
 f14 := Tryz.func142.trans (congrArg some (by kernel_rfl))
 f16 := Tryz.func168.trans (congrArg some (by kernel_rfl))
 f17 := Tryz.func169.trans (congrArg some (by kernel_rfl))
 f19 := Tryz.func187.trans (congrArg some (by kernel_rfl))
 f20 := Tryz.func188.trans (congrArg some (by kernel_rfl))
 f21 := Tryz.func189.trans (congrArg some (by kernel_rfl))
 f22 := Tryz.func190.trans (congrArg some (by kernel_rfl))
 f23 := Tryz.func191.trans (congrArg some (by kernel_rfl))
 f24 := Tryz.func192.trans (congrArg some (by kernel_rfl))
 f25 := Tryz.func206.trans (congrArg some (by kernel_rfl))
 f26 := Tryz.func207.trans (congrArg some (by kernel_rfl))
 f27 := Tryz.func208.trans (congrArg some (by kernel_rfl))
 f28 := Tryz.func216.trans (congrArg some (by kernel_rfl))
 f29 := Tryz.func221.trans (congrArg some (by kernel_rfl))
 f30 := Tryz.func172.trans (congrArg some (by kernel_rfl))
 f31 := Tryz.func173.trans (congrArg some (by kernel_rfl))
 f32 := Tryz.func174.trans (congrArg some (by kernel_rfl))
 f33 := Tryz.func175.trans (congrArg some (by kernel_rfl))
 f34 := Tryz.func194.trans (congrArg some (by kernel_rfl))
 f35 := Tryz.func136.trans (congrArg some (by kernel_rfl))
 f36 := Tryz.func195.trans (congrArg some (by kernel_rfl))
 f37 := Tryz.func196.trans (congrArg some (by kernel_rfl))
 f38 := Tryz.func197.trans (congrArg some (by kernel_rfl))
 f39 := Tryz.func209.trans (congrArg some (by kernel_rfl))
 f40 := Tryz.func210.trans (congrArg some (by kernel_rfl))
 t0 := Tryz.underlying0
 a0 := Tryz.isAgg0
 z0 := Tryz.sizeOf0
 v0 := Tryz.zeroValue0
 i0 := by kernel_rfl
 t2 := Tryz.underlying2
 a2 := Tryz.isAgg2
 z2 := Tryz.sizeOf2
 v2 := Tryz.zeroValue2
 i2 := by kernel_rfl
 t3 := Tryz.underlying3
 a3 := Tryz.isAgg3
 z3 := Tryz.sizeOf3
 v3 := Tryz.zeroValue3
 i3 := by kernel_rfl
 t4 := Tryz.underlying4
 a4 := Tryz.isAgg4
 z4 := Tryz.sizeOf4
 v4 := Tryz.zeroValue4
 i4 := by kernel_rfl
 t5 := Tryz.underlying5
 a5 := Tryz.isAgg5
 z5 := Tryz.sizeOf5
 v5 := Tryz.zeroValue5
 i5 := by kernel_rfl
 t9 := Tryz.underlying9
 a9 := Tryz.isAgg9
 z9 := Tryz.sizeOf9
 v9 := Tryz.zeroValue9
 i9 := by kernel_rfl
 t20 := Tryz.underlying20
 a20 := Tryz.isAgg20
 z20 := Tryz.sizeOf20
 v20 := Tryz.zeroValue20
 i20 := by kernel_rfl
 t21 := Tryz.underlying21
 a21 := Tryz.isAgg21
 z21 := Tryz.sizeOf21
 v21 := Tryz.zeroValue21
 i21 := by kernel_rfl
 t22 := Tryz.underlying34
 a22 := Tryz.isAgg34
 z22 := Tryz.sizeOf34
 v22 := Tryz.zeroValue34
 i22 := by kernel_rfl
 t24 := Tryz.underlying219
 a24 := Tryz.isAgg219
 z24 := Tryz.sizeOf219
 v24 := Tryz.zeroValue219
 i24 := by kernel_rfl
 t25 := Tryz.underlying220
 a25 := Tryz.isAgg220
 z25 := Tryz.sizeOf220
 v25 := Tryz.zeroValue220
 i25 := by kernel_rfl
 t34 := Tryz.underlying263
 a34 := Tryz.isAgg263
 z34 := Tryz.sizeOf263
 v34 := Tryz.zeroValue263
 i34 := by kernel_rfl
 c34 := by kernel_rfl
 t36 := Tryz.underlying171
 a36 := Tryz.isAgg171
 z36 := Tryz.sizeOf171
 v36 := Tryz.zeroValue171
 i36 := by kernel_rfl
 t37 := Tryz.underlying77
 a37 := Tryz.isAgg77
 z37 := Tryz.sizeOf77
 v37 := Tryz.zeroValue77
 i37 := by kernel_rfl
 t39 := Tryz.underlying265
 a39 := Tryz.isAgg265
 z39 := Tryz.sizeOf265
 v39 := Tryz.zeroValue265
 i39 := by kernel_rfl
 t44 := Tryz.underlying278
 a44 := Tryz.isAgg278
 z44 := Tryz.sizeOf278
 v44 := Tryz.zeroValue278
 i44 := by kernel_rfl
 t47 := Tryz.underlying283
 a47 := Tryz.isAgg283
 z47 := Tryz.sizeOf283
 v47 := Tryz.zeroValue283
 i47 := by kernel_rfl
 t48 := Tryz.underlying284
 a48 := Tryz.isAgg284
 z48 := Tryz.sizeOf284
 v48 := Tryz.zeroValue284
 i48 := by kernel_rfl
 t50 := Tryz.underlying286
 a50 := Tryz.isAgg286
 z50 := Tryz.sizeOf286
 v50 := Tryz.zeroValue286
 i50 := by kernel_rfl
 t52 := Tryz.underlying248
 a52 := Tryz.isAgg248
 z52 := Tryz.sizeOf248
 v52 := Tryz.zeroValue248
 i52 := by kernel_rfl
 t55 := Tryz.underlying250
 a55 := Tryz.isAgg250
 z55 := Tryz.sizeOf250
 v55 := Tryz.zeroValue250
 i55 := by kernel_rfl
 t59 := Tryz.underlying270
 a59 := Tryz.isAgg270
 z59 := Tryz.sizeOf270
 v59 := Tryz.zeroValue270
 i59 := by kernel_rfl
 t60 := Tryz.underlying92
 a60 := Tryz.isAgg92
 z60 := Tryz.sizeOf92
 v60 := Tryz.zeroValue92
 i60 := by kernel_rfl
 t61 := Tryz.underlying271
 a61 := Tryz.isAgg271
 z61 := Tryz.sizeOf271
 t65 := Tryz.underlying287
 a65 := Tryz.isAgg287
 z65 := Tryz.sizeOf287
 v65 := Tryz.zeroValue287
 i65 := by kernel_rfl
 t66 := Tryz.underlying288
 a66 := Tryz.isAgg288
 z66 := Tryz.sizeOf288
 v66 := Tryz.zeroValue288
 i66 := by kernel_rfl
 t67 := Tryz.underlying141
 a67 := Tryz.isAgg141
 z67 := Tryz.sizeOf141
 v67 := Tryz.zeroValue141
 i67 := by kernel_rfl
 g0 := by kernel_rfl
 m0 := by kernel_rfl
 g1 := by kernel_rfl
 m1 := by kernel_rfl
 g2 := by kernel_rfl
 m2 := by kernel_rfl
 g3 := by kernel_rfl
 m3 := by kernel_rfl
 g4 := by kernel_rfl
 m4 := by kernel_rfl }
open Go.RowKit in
open Go.RowKit in
open Go.RowKit in
open Go.RowKit in
theorem Tryz.strconv_ParseUint_10_at64_ok (s : ByteArray) (hmax : s.size ≤ 9223372036854775806) (u : Nat) (h : Lib.parseUintB 64 s.data.toList = .ok u) (w : World) :
  Calls Tryz.prog 142 #[.string s, .int .i64 10, .int .i64 64] w fun e w' => e = .returned (.tuple #[.int .u64 u, .nilIface]) ∧ (w' = w ∨ w' = Lib.bytesWorld w 5 s) := Any.strconv_ParseUint_10_at64_ok Tryz.laysPu14 s hmax u h w
open Go.RowKit in
theorem Tryz.strconv_ParseUint_10_at64_syntax (s : ByteArray) (hlim : s.size ≤ 281474976710656) (h : Lib.parseUintB 64 s.data.toList = Lib.NumEnd.syntax) (ev : Value) (w : World) (hv : w.cell? ⟨1, 0, none⟩ = some ev) (hev : ev = .nilIface ∨ ∃ te pe, ev = .iface te pe) :
  Calls Tryz.prog 142 #[.string s, .int .i64 10, .int .i64 64] w fun e w' => ∃ N, e = .returned (.tuple #[.int .u64 0, .iface 265 (.pointer (some ⟨N, 0, none⟩))]) ∧ w.heap.size ≤ N ∧ w'.heap[N]? = some (.cells #[.string ⟨#[80, 97, 114, 115, 101, 85, 105, 110, 116]⟩, .string s, ev] 278 (0, 0)) ∧ Below w.heap.size w w' := Any.strconv_ParseUint_10_at64_syntax Tryz.laysPu14 s hlim h ev w hv hev
open Go.RowKit in
open Go.RowKit in
open Go.RowKit in
open Go.RowKit in
open Go.RowKit in
open Go.RowKit in
open Go.RowKit in
open Go.RowKit in
open Go.RowKit in
open Go.RowKit in
open Go.RowKit in
open Go.RowKit in
open Go.RowKit in
open Go.RowKit in
open Go.RowKit in
open Go.RowKit in
open Go.RowKit in
open Go.RowKit in
open Go.RowKit in
open Go.RowKit in
open Go.RowKit Go.Lib in
open Go.RowKit Go.Lib in
open Go.RowKit Go.Lib in
def Tryz.lays101_ren : Go.Shelf.Ren := ⟨fun | 101 => 143 | 208 => 170 | 206 => 193 | n => n, fun | 9 => 9 | 4 => 4 | 3 => 3 | n => n, fun | n => n⟩
theorem Tryz.lays101 : Go.Proofs.Lays.n101 Tryz.prog Tryz.lays101_ren := {
 mixed := by kernel_rfl
 f101 := Tryz.func143.trans (congrArg some (by kernel_rfl))
 f206 := Tryz.func193.trans (congrArg some (by kernel_rfl))
 f208 := Tryz.func170.trans (congrArg some (by kernel_rfl))
 t3 := Tryz.underlying3
 a3 := Tryz.isAgg3
 z3 := Tryz.sizeOf3
 v3 := Tryz.zeroValue3
 t4 := Tryz.underlying4
 a4 := Tryz.isAgg4
 z4 := Tryz.sizeOf4
 v4 := Tryz.zeroValue4
 t9 := Tryz.underlying9
 a9 := Tryz.isAgg9
 z9 := Tryz.sizeOf9
 v9 := Tryz.zeroValue9 }
open Go.RowKit Go.Lib in
theorem Tryz.strings_TrimPrefix (s p : ByteArray) (w : World) :
  Calls Tryz.prog 143 #[.string s, .string p] w fun e w' => e = .returned (.string ⟨(Lib.trimPrefix s.data.toList p.data.toList).toArray⟩) ∧ w' = w := Any.strings_TrimPrefix Tryz.lays101 s p w
open Go.Sort Go.RowKit in
open Go.RowKit Go.Sort in
def Tryz.sortS_ren : Go.Shelf.Ren := ⟨fun | 6 => 45 | 8 => 91 | 9 => 90 | 19 => 135 | 20 => 136 | 21 => 126 | 22 => 127 | 23 => 128 | 24 => 129 | 25 => 130 | 26 => 131 | 27 => 132 | 28 => 133 | 29 => 134 | 36 => 162 | 31 => 163 | 32 => 164 | 37 => 165 | 38 => 166 | 39 => 167 | 41 => 186 | n => n, fun | 27 => 53 | 29 => 9 | 3 => 3 | 32 => 171 | 26 => 53 | 0 => 0 | 44 => 92 | 46 => 34 | 4 => 4 | 36 => 207 | 35 => 206 | 41 => 212 | 5 => 5 | 9 => 9 | 53 => 240 | 57 => 243 | 63 => 260 | 64 => 261 | n => n, fun | n => n⟩
theorem Tryz.sortS : Go.Proofs.SlLaysM.n6 Tryz.prog Tryz.sortS_ren := {
 mixed := by kernel_rfl
 f6 := ⟨Tryz.f45.name, by decide, Tryz.func45.trans (congrArg some (by kernel_rfl))⟩
 f8 := Tryz.func91.trans (congrArg some (by kernel_rfl))
 f9 := ⟨Tryz.f90.name, by decide, Tryz.func90.trans (congrArg some (by kernel_rfl))⟩
 f19 := Tryz.func135.trans (congrArg some (by kernel_rfl))
 f20 := Tryz.func136.trans (congrArg some (by kernel_rfl))
 f21 := ⟨Tryz.f126.name, by decide, Tryz.func126.trans (congrArg some (by kernel_rfl))⟩
 f22 := ⟨Tryz.f127.name, by decide, Tryz.func127.trans (congrArg some (by kernel_rfl))⟩
 f23 := ⟨Tryz.f128.name, by decide, Tryz.func128.trans (congrArg some (by kernel_rfl))⟩
 f24 := ⟨Tryz.f129.name, by decide, Tryz.func129.trans (congrArg some (by kernel_rfl))⟩
 f25 := ⟨Tryz.f130.name, by decide, Tryz.func130.trans (congrArg some (by kernel_rfl))⟩
 f26 := ⟨Tryz.f131.name, by decide, Tryz.func131.trans (congrArg some (by kernel_rfl))⟩
 f27 := ⟨Tryz.f132.name, by decide, Tryz.func132.trans (congrArg some (by kernel_rfl))⟩
 f28 := ⟨Tryz.f133.name, by decide, Tryz.func133.trans (congrArg some (by kernel_rfl))⟩
 f29 := ⟨Tryz.f134.name, by decide, Tryz.func134.trans (congrArg some (by kernel_rfl))⟩
 f31 := Tryz.func163.trans (congrArg some (by kernel_rfl))
 f32 := Tryz.func164.trans (congrArg some (by kernel_rfl))
 f36 := ⟨Tryz.f162.name, by decide, Tryz.func162.trans (congrArg some (by kernel_rfl))⟩
 f37 := ⟨Tryz.f165.name, by decide, Tryz.func165.trans (congrArg some (by kernel_rfl))⟩
 f38 := ⟨Tryz.f166.name, by decide, Tryz.func166.trans (congrArg some (by kernel_rfl))⟩
 f39 := ⟨Tryz.f167.name, by decide, Tryz.func167.trans (congrArg some (by kernel_rfl))⟩
 f41 := ⟨Tryz.f186.name, by decide, Tryz.func186.trans (congrArg some (by kernel_rfl))⟩
 t0 := Tryz.underlying0
 a0 := Tryz.isAgg0
 z0 := Tryz.sizeOf0
 v0 := Tryz.zeroValue0
 t3 := Tryz.underlying3
 a3 := Tryz.isAgg3
 z3 := Tryz.sizeOf3
 v3 := Tryz.zeroValue3
 t4 := Tryz.underlying4
 a4 := Tryz.isAgg4
 z4 := Tryz.sizeOf4
 v4 := Tryz.zeroValue4
 t5 := Tryz.underlying5
 a5 := Tryz.isAgg5
 z5 := Tryz.sizeOf5
 v5 := Tryz.zeroValue5
 t9 := Tryz.underlying9
 a9 := Tryz.isAgg9
 z9 := Tryz.sizeOf9
 v9 := Tryz.zeroValue9
 t26 := Tryz.underlying53
 a26 := Tryz.isAgg53
 z26 := Tryz.sizeOf53
 v26 := Tryz.zeroValue53
 t27 := Tryz.underlying53
 a27 := Tryz.isAgg53
 z27 := Tryz.sizeOf53
 v27 := Tryz.zeroValue53
 t29 := Tryz.underlying9
 a29 := Tryz.isAgg9
 z29 := Tryz.sizeOf9
 v29 := Tryz.zeroValue9
 t32 := Tryz.underlying171
 a32 := Tryz.isAgg171
 z32 := Tryz.sizeOf171
 v32 := Tryz.zeroValue171
 t35 := Tryz.underlying206
 a35 := Tryz.isAgg206
 z35 := Tryz.sizeOf206
 v35 := Tryz.zeroValue206
 t36 := Tryz.underlying207
 a36 := Tryz.isAgg207
 z36 := Tryz.sizeOf207
 v36 := Tryz.zeroValue207
 t41 := Tryz.underlying212
 a41 := Tryz.isAgg212
 z41 := Tryz.sizeOf212
 v41 := Tryz.zeroValue212
 t44 := Tryz.underlying92
 a44 := Tryz.isAgg92
 z44 := Tryz.sizeOf92
 v44 := Tryz.zeroValue92
 t46 := Tryz.underlying34
 a46 := Tryz.isAgg34
 z46 := Tryz.sizeOf34
 v46 := Tryz.zeroValue34
 t53 := Tryz.underlying240
 a53 := Tryz.isAgg240
 z53 := Tryz.sizeOf240
 v53 := Tryz.zeroValue240
 t57 := Tryz.underlying243
 a57 := Tryz.isAgg243
 z57 := Tryz.sizeOf243
 v57 := Tryz.zeroValue243
 t63 := Tryz.underlying260
 a63 := Tryz.isAgg260
 z63 := Tryz.sizeOf260
 v63 := Tryz.zeroValue260
 t64 := Tryz.underlying261
 a64 := Tryz.isAgg261
 z64 := Tryz.sizeOf261
 v64 := Tryz.zeroValue261 }
end Go.Proofs