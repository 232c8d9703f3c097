/- Several texts in one: ItSmalls, SpFills, SpListN, SpMap, SpNil, SpBase. -/
import Derived.Deep.CutRange
import Derived.Maps.OwnOps
import Derived.Test.YtholdcgkhicdmaaGreatDoorZq16
namespace Go.Proofs.YtholdcgkhicdmaaGreatDoor
open Go.RowKit Go.ChangeShapes Go.WideShapes
def smC (s : Sm) : List Value := [.bool s.g, .int .u8 s.o, .int .u8 s.p, .int .u8 s.w, .int .u16 s.q, .int .u16 s.m, .int .u16 s.t, .int .u8 s.r, .int .u8 s.l, .int .u8 s.v, .bool s.s]
def RdM (w : World) (B : Nat) (A : Option Addr) (l : List Sm) : Prop := 0 < l.length → ∃ b o, A = some ⟨b, o, none⟩ ∧ b < B ∧ ∀ (k : Nat) (s : Sm), l[k]? = some s → w.rangeAt b (o + k * 11) (smC s)
theorem range_keep {w w' : World} {b o : Nat} {cs : List Value} (h : w.rangeAt b o cs) (hb : w'.heap[b]? = w.heap[b]?) : w'.rangeAt b o cs := fun j v hv => (World.cell?_of_block hb).trans (h j v hv)
theorem RdM.at_ {w : World} {B : Nat} {A : Option Addr} {l : List Sm} (h : RdM w B A l) {k : Nat} (hk : k < l.length) : ∃ b o s, A = some ⟨b, o, none⟩ ∧ b < B ∧ l[k]? = some s ∧ w.rangeAt b (o + k * 11) (smC s) := by
 obtain ⟨b, o, h1, h2, h3⟩ := h (by omega)
 exact ⟨b, o, l[k], h1, h2, List.getElem?_eq_getElem hk, h3 k _ (List.getElem?_eq_getElem hk)⟩
section
variable {H : Type} {enc : TypeId × Value → H} {W : World} {base : Nat} {sp : Nat → Bool} {hd : Bool}
set_option maxRecDepth 100000 in
theorem open_smalls {r : Reach} {b0 : Nat} {v : Value} {d : DataW H} {ps : List MemPlace}
  (hval : Value.okWide Tryz.prog W r b0 67 v) (h0 : DataW.Trod enc Tryz.prog W base sp hd 67 v d ps) :
  ∃ (A : Option Addr) (n c : Nat) (l : List Sm), v = .slice A n c ∧ n = l.length ∧ n ≤ maxLen ∧ n ≤ c ∧ RdM W W.heap.size A l ∧ (∀ s ∈ l, OkS s) := by
 obtain ⟨a, n, c, rfl⟩ := okWide_slice Tryz.underlying67 hval
 have hsp : ∀ ad, a = some ad → ad.spot = none := by
  rintro ad rfl
  simp only [Value.okWide, Tryz.underlying67, Cell.okWide, Cell.ok] at hval
  exact hval.2.2.2.1
 have hc3 : Tryz.prog.cellsOf 70 = 11 := by kernel_rfl
 obtain ⟨fuel, hf⟩ := h0
 rcases Go.Deep.open_slice Tryz.underlying67 hf with ⟨hcs, _⟩ | ⟨ad, len, cap, m, k, D, Pl, hcs, hb, hl, hm, hmm, _, hx⟩
 ·have e : a = none ∧ n = 0 ∧ c = 0 := by simpa [Value.cells] using hcs
  obtain ⟨rfl, rfl, rfl⟩ := e
  exact ⟨none, 0, 0, [], rfl, rfl, Nat.zero_le _, Nat.le_refl _, fun h => absurd h (by simp), fun x h => (by cases h)⟩
 ·have e : a = some ad ∧ n = len ∧ c = cap := by simpa [Value.cells] using hcs
  obtain ⟨rfl, rfl, rfl⟩ := e
  have hspot := hsp ad rfl
  obtain ⟨b, o, s⟩ := ad
  obtain rfl : s = none := hspot
  have hlm : n ≤ m := by rw [hmm]; split <;> omega
  have each : ∀ i, i < n → ∃ x : Sm, W.rangeAt b (o + i * 11) (smC x) ∧ OkS x := fun i hi => by
   obtain ⟨cs', h1, h2⟩ := hx i (by omega)
   rw [hc3] at h1
   obtain ⟨_, hlen, hcell⟩ := World.cells?_some h1
   obtain ⟨y, rfl, hok⟩ := small_cells h2
   refine ⟨y, fun j v hv => ?_, hok⟩
   have hj : j < 11 := by rw [← hlen]; exact (List.getElem?_eq_some_iff.1 hv).1
   have g0 := hcell j hj
   rw [Addr.add_lit, Addr.add_mid] at g0
   exact g0.trans hv
  have pick : ∃ f : Nat → Sm, ∀ i, i < n → W.rangeAt b (o + i * 11) (smC (f i)) ∧ OkS (f i) :=
   ⟨fun i => if h : i < n then (each i h).choose else ⟨false, 0, 0, 0, 0, 0, 0, 0, 0, 0, false⟩, fun i h => by simp only [dif_pos h]; exact (each i h).choose_spec⟩
  obtain ⟨f, hf'⟩ := pick
  have hget : ∀ (i : Nat) (p : Sm), ((List.range n).map f)[i]? = some p → i < n ∧ p = f i := fun i p hp => by
   rw [List.getElem?_map] at hp
   obtain ⟨j, hj, rfl⟩ := Option.map_eq_some_iff.1 hp
   obtain ⟨h1, h2⟩ := List.getElem?_eq_some_iff.1 hj
   rw [List.length_range] at h1
   rw [List.getElem_range] at h2
   exact ⟨h1, by rw [h2]⟩
  refine ⟨some ⟨b, o, none⟩, n, c, (List.range n).map f, rfl, by simp, Nat.le_trans hl hm, hl, fun h0 => ⟨b, o, rfl, ?_, fun i p hp => ?_⟩, fun x hx => ?_⟩
  ·have h0' : 0 < n := by simpa using h0
   exact World.block_lt_of_cell? _ _ ((hf' 0 h0').1 0 _ rfl)
  ·obtain ⟨hin, rfl⟩ := hget i p hp
   exact (hf' i hin).1
  ·simp only [List.mem_map, List.mem_range] at hx
   obtain ⟨i, hi, rfl⟩ := hx
   exact (hf' i hi).2
end
end Go.Proofs.YtholdcgkhicdmaaGreatDoor
namespace Go.Proofs.YtholdcgkhicdmaaGreatDoor
open Go.RowKit
structure RdM8 (w : World) (A : Option Addr) (M : List Ett) : Prop where
 rd : RdE w A M
 ok : OkE w M
theorem RdM8.below {w w' : World} {A : Option Addr} {M : List Ett} (h : RdM8 w A M) (hb : Below w.heap.size w w') : RdM8 w' A M := ⟨h.rd.below hb, h.ok.below hb⟩
theorem RowE.rd {w : World} {base : Nat} {A : Option Addr} {c : Nat} {M : List Ett} (h : RowE w base (.slice A M.length c) M) : RdM8 w A M := by
 refine ⟨fun h0 => ?_, fun e he => (h.ok e he).free⟩
 obtain ⟨b, c', hv, _, hlt⟩ := h.own.form h0
 injection hv with hv1 _ hv3
 subst hv1
 refine ⟨b, 0, rfl, hlt, fun k e he => ?_⟩
 have hc : ∀ (j : Nat) u, (entC e)[j]? = some u → w.cell? ⟨b, k * 14 + j, none⟩ = some u := fun j u hj => by
  have := h.own.cells (g := b) rfl _ _ (cellsE_get he hj)
  rw [Addr.add_lit, Nat.zero_add] at this
  exact this
 refine ⟨fun j u hj => ?_, fun j u hj => ?_⟩
 ·rw [Nat.zero_add]; exact hc j u hj
 ·have := hc (j + 1) u hj
  rw [show 0 + k * 14 + 1 + j = k * 14 + (j + 1) by omega]
  exact this
theorem RdM8.at_ {w : World} {A : Option Addr} {M : List Ett} (h : RdM8 w A M) {k : Nat} {e : Ett} (he : M[k]? = some e) : ∃ b o, A = some ⟨b, o, none⟩ ∧ b < w.heap.size ∧ w.rangeAt b (o + k * 14) (entC e) ∧ w.rangeAt b (o + k * 14 + 1) (itC e.x e.A e.c) ∧ EntOk w (fun _ => False) e := by
 have hk := (List.getElem?_eq_some_iff.1 he).1
 obtain ⟨b, o, h1, h2, h3⟩ := h.rd (by omega)
 exact ⟨b, o, h1, h2, (h3 k e he).1, (h3 k e he).2, h.ok e (List.mem_of_getElem? he)⟩
def LabNew (B : Nat) (e : Ett) : Prop := ∀ a, e.A = some a → 0 < e.x.l.length → B ≤ a.block
set_option maxRecDepth 100000 in
set_option maxHeartbeats 2000000 in
theorem clones_new (A : Option Addr) (n c : Nat) (L : List Ett) (w : World) (hn : n = L.length) (hm : n ≤ 100000) (hA : A = none → n = 0) (hs : ∀ W, Below w.heap.size w W → Src W A n 14 (cellsE L)) (hok : OkE w L) :
  Calls Tryz.prog 49 #[.slice A n c] w fun e w' => ∃ A' c' M, e = .returned (.slice A' n c') ∧ SameE L M ∧ RowE w' w.heap.size (.slice A' n c') M ∧ Below w.heap.size w w' ∧ (∀ e ∈ M, LabNew w.heap.size e) := by
 have HCL := Lib.hid (clone_S A n c L w hn hm hA hs)
 have HN := Lib.hid hn
 have HO := Lib.hid hok
 clear hn hok hs hA
 go_enter Tryz.func49, Tryz.ntmps49
 go_wp2_with fail
 refine HCL.out.mono ?_
 rintro _ w1 ⟨A', c', rfl, ho1, hb1⟩
 have hr1 : RowE w1 w.heap.size (.slice A' n c') L := ⟨by rw [← HN.out]; exact ho1, fun e he => by
  have q := HO.out e he
  have qb := q.below hb1
  exact ⟨q.ok, q.sh, q.ln, q.lb, q.ix, q.nil, qb.rd, fun a ha h0 hk => by have h1 := rdP_lt q.rd ha h0; have h2 := (ho1.lt _ hk).1; omega⟩⟩
 have HR1 := Lib.hid hr1
 have HB1 := Lib.hid hb1
 clear ho1 hb1 hr1 HCL HO
 go_wp2
 go_loopw [10] (fun iv wx => ∃ (k : Nat) (M : List Ett), k ≤ n ∧ iv = .int .i64 k ∧ Hid (SameE L M) ∧ Hid (RowE wx w.heap.size (.slice A' n c') M) ∧ Hid (Below w.heap.size w wx) ∧ Hid (∀ j e, j < k → M[j]? = some e → LabNew w.heap.size e)) (fun iv _ => n - (intOf iv).toNat)
 case atStart => exact ⟨0, L, Nat.zero_le _, rfl, rfl, HR1.out, HB1.out, fun j e hj => by omega⟩
 case round =>
  obtain ⟨k, M, hk, rfl, HSM, HR, HB, HNW⟩ := hrel
  have hlM : M.length = n := by rw [HN.out]; exact HSM.out.len.symm
  by_cases hlt : k < n
  ·obtain ⟨m, hm2⟩ : ∃ m, M[k]? = some m := ⟨M[k]'(by omega), List.getElem?_eq_getElem _⟩
   have hent := HR.out.ok m (List.mem_iff_getElem?.2 ⟨k, hm2⟩)
   have hown := HR.out.own
   rw [hlM] at hown
   obtain ⟨b, cc, hv, _, hbl⟩ := hown.form (by omega)
   injection hv with hv1 hv2 hv3
   subst hv1
   have hbw : w.heap.size ≤ b := (hown.lt b rfl).1
   have hrg : wr.rangeAt b (k * 14) (entC m) := fun j u hj => by
    have := hown.cells (g := b) rfl _ _ (cellsE_get hm2 hj)
    rw [Addr.add_lit, Nat.zero_add] at this
    exact this
   have HM := Lib.hid hm2
   have HE := Lib.hid hent
   have HOWN := Lib.hid hown
   have HLM := Lib.hid hlM
   clear hm2 hent hown hv2 hv3 hlM
   go_upto_region 5 with (first
    | (refine wpList_load_mid rfl _ _ rfl b (k * 14) rfl (entC m) _ hrg Tryz.underlying74 rfl Tryz.infoEn ?_)
    | (refine wpList_store_row rfl _ _ _ rfl wr.heap.size _ rfl rfl _ _ (heap_alloc_new _ _) Tryz.infoEn rfl (by simp [Value.oneCell', entC, itC]) ?_)
    | fail)
   obtain ⟨V, hV, -, hbV, hrV, hlV⟩ := boxE wr _ m
   rw [← hV, act_put_no]
   have hq2 := HE.out.below hbV
   have HOV := Lib.hid (ownB_below HOWN.out hbV)
   have HBV := Lib.hid (HB.out.trans (hbV.mono HB.out.size))
   have HbV := Lib.hid hbV
   have HCC := Lib.hid (iclone_C m.x m.A m.x.l.length m.c V rfl hq2.nil (by have := hq2.ln; omega) hq2.rd)
   clear hV hbV hq2 hrg
   go_wp2_with (first | (refine wpList_load_mid rfl _ _ rfl wr.heap.size 1 rfl (itC m.x m.A m.c) _ hrV Tryz.underlying47 rfl Tryz.infoIt ?_) | fail)
   refine HCC.out.mono ?_
   rintro _ w4 ⟨A4, c4, rfl, ho4, hb4⟩
   have HO4 := Lib.hid ho4
   have hown4 := ownB_below HOV.out hb4
   have HOW4 := Lib.hid hown4
   have HB4 := Lib.hid (HBV.out.trans (hb4.mono HBV.out.size))
   have Hb4 := Lib.hid (HbV.out.trans (hb4.mono HbV.out.size))
   have hth : Hid (w4.there b (k * 14 + 1) 13) := own_there hown4 (by omega)
   have hz4 := hb4.size
   have hsc : (storeCells ⟨b, k * 14 + 1, none⟩ (itC m.x A4 c4)).run Tryz.prog w4 = .ok () (w4.setCells b (k * 14 + 1) (itC m.x A4 c4)) := by
    have h13 : (itC m.x A4 c4).length = 13 := rfl
    have := run_storeCells_cells (P := Tryz.prog) b (k * 14 + 1) (itC m.x A4 c4) 0 w4 (fun j hj => by rw [h13] at hj; simpa using (hth.out j hj).1) (fun j hj => by rw [h13] at hj; simpa using (hth.out j hj).2) (fun v hv => by
     simp only [itC, List.mem_cons, List.not_mem_nil, or_false] at hv
     rcases hv with rfl | rfl | rfl | rfl | rfl | rfl | rfl | rfl | rfl | rfl | rfl | rfl | rfl <;> rfl)
    simpa using this
   clear hb4 hrV HCC ho4 hown4
   go_wp2
   have hw5 : Only (fun q => q = b) w4 (w4.setCells b (k * 14 + 1) (itC m.x A4 c4)) := onlyCells (T := fun q => q = b) rfl _ _ _
   obtain ⟨w5, hw5e⟩ : ∃ w5, w5 = w4.setCells b (k * 14 + 1) (itC m.x A4 c4) := ⟨_, rfl⟩
   have hown5 : w5.ownsRow w.heap.size 74 14 (.slice (some ⟨b, 0, none⟩) n c') n (cellsE (M.set k ⟨m.i, m.x, A4, c4⟩)) := by
    have := own_setCells (itC m.x A4 c4) (k * 14 + 1) HOW4.out
    rw [cellsE_setL m.x A4 c4 HM.out] at this
    rw [hw5e]
    exact this
   rw [← hw5e] at hw5 ⊢
   have hlow : Below w.heap.size w w5 := HB4.out.trans ⟨hw5.os, hw5.tape, hw5.output, hw5.size, fun q hq => hw5.block q (Nat.lt_of_lt_of_le hq HB4.out.size) (fun e => by have e : q = b := e; omega)⟩
   have hrow : RowE w5 w.heap.size (.slice (some ⟨b, 0, none⟩) n c') (M.set k ⟨m.i, m.x, A4, c4⟩) := by
    refine ⟨by rw [List.length_set, HLM.out]; exact hown5, fun e he => ?_⟩
    rcases List.mem_or_eq_of_mem_set he with he | rfl
    ·have q := (HR.out.ok e he).below Hb4.out
     exact q.only hw5 (fun a ha h0 e' => q.ap a ha h0 (by have e' : a.block = b := e'; rw [e']; rfl)) (fun _ h => .inl h)
    ·have q := HE.out
     have hp := RdP.of_own HO4.out
     refine ⟨q.ok, q.sh, q.ln, q.lb, q.ix, own_nilA HO4.out, hw5.rdP hp (fun a ha h0 e' => ?_), fun a ha h0 e' => ?_⟩
     ·have ha : A4 = some a := ha
      have h1 := (HO4.out.lt a.block (by rw [ha]; rfl)).1
      have e' : a.block = b := e'
      have := Hb4.out.size
      omega
     ·have ha : A4 = some a := ha
      have h1 := (HO4.out.lt a.block (by rw [ha]; rfl)).1
      injection e' with e'
      have e' : b = a.block := e'
      have := Hb4.out.size
      omega
   have HNW2 : Hid (∀ j e, j < k + 1 → (M.set k ⟨m.i, m.x, A4, c4⟩)[j]? = some e → LabNew w.heap.size e) := fun j e hj he => by
    by_cases hjk : j = k
    ·subst hjk
     rw [List.getElem?_set_self (List.getElem?_eq_some_iff.1 HM.out).1] at he
     injection he with he
     subst he
     intro a ha h0
     have ha : A4 = some a := ha
     have h1 := (HO4.out.lt a.block (by rw [ha]; rfl)).1
     have h2 := HBV.out.size
     omega
    ·rw [List.getElem?_set_ne (fun h => hjk h.symm)] at he
     exact HNW.out j e (by omega) he
   have HLO := Lib.hid hlow
   have HRW := Lib.hid hrow
   have HSS : Hid (SameE L (M.set k ⟨m.i, m.x, A4, c4⟩)) := HSM.out.set HM.out ⟨rfl, rfl⟩
   clear hw5 hw5e hown5 hlow hrow hsc
   go_roundw
   case rel => exact ⟨k + 1, _, by omega, by go_num, HSS.out, HRW.out, HLO.out, HNW2.out⟩
   case measure => simp [intOf]; omega
  ·obtain rfl : k = n := by omega
   go_wp2
   go_ret
   exact ⟨A', c', M, rfl, HSM.out, HR.out, HB.out, fun e he => by
    obtain ⟨j, hj, hje⟩ := List.getElem_of_mem he
    exact HNW.out j e (by omega) (by rw [List.getElem?_eq_getElem hj, hje])⟩
end Go.Proofs.YtholdcgkhicdmaaGreatDoor
namespace Go.Proofs.YtholdcgkhicdmaaGreatDoor
open Go.RowKit Go.Maps
section
variable {w : World} {ops : Array Oper} {rest : List Oper} {o : Oper} {a : Act} {Q : Exit → Act → World → Prop}
end
end Go.Proofs.YtholdcgkhicdmaaGreatDoor
namespace Go.Proofs.YtholdcgkhicdmaaGreatDoor
open Go.RowKit
theorem results_tmp5 {fn : Func} {t u v x y : Tmp} (h : fn.results = #[.tmp t, .tmp u, .tmp v, .tmp x, .tmp y]) (tmps : Array Value) (P : Program) (w : World) :
  (results fn tmps).run P w = .ok (.tuple #[tmps.getD t undef, tmps.getD u undef, tmps.getD v undef, tmps.getD x undef, tmps.getD y undef]) w := by
 simp [results, h]
set_option maxRecDepth 100000 in
set_option maxHeartbeats 400000 in
theorem scounts_any {S : Nat → Prop} {s : Nat} {X : Sp} {L : List Ett} (w : World) (h : SpAt w S s X L) : Calls Tryz.prog 18 #[.pointer (some ⟨s, 0, none⟩)] w fun e w' => e = .returned (.tuple #[.int .i64 L.length, .int .i64 (sumE L), .int .u64 X.n, .int .u64 X.a, .int .u64 X.v]) ∧ Below w.heap.size w w' := by
 obtain ⟨v, k1, r1⟩ := h.sp
 obtain ⟨A, c, rfl⟩ := own_slice r1.own
 have c1 := k1.c1
 have c2 := k1.c2
 have c3 := k1.c3
 have c4 := k1.c4
 have c37 := k1.c37
 go_enter Tryz.func18, Tryz.ntmps18
 go_wp2
 go_quiet (fail)
 go_wp2
 refine bodyPost_ret (results_tmp5 rfl _ _ _) rfl ?_
 exact ⟨rfl, cbelow_drewN (Below.refl _ _) _⟩
def zeroBase : Array Value := #[.int .u64 0, .int .u64 0, .int .u64 0, .int .u64 0, .int .u64 0, .int .u64 0, .int .u64 0, .int .u64 0, .int .u64 0, .int .u64 0, .int .u64 0, .int .u64 0, .int .u64 0, .int .u64 0, .int .u64 0, .int .u64 0, .int .u64 0, .int .u64 0, .int .u64 0, .int .u64 0, .int .u64 0, .int .u64 0, .int .u64 0, .int .u64 0, .int .u64 0, .int .u64 0, .int .u64 0, .int .u64 0, .int .u64 0, .int .u64 0, .int .u64 0, .int .u64 0, .int .u64 0, .int .u64 0, .int .u64 0, .slice none 0 0]
theorem Tryz.infoBs : (Tryz.prog.info? 63).map (·.size) = some 36 := by kernel_rfl
structure BsV (cs : List Value) (X : Sp) (v : Value) : Prop where
 len : cs.length = 36
 c0 : cs[0]? = some (.int .u64 X.n)
 c1 : cs[1]? = some (.int .u64 X.a)
 c2 : cs[2]? = some (.int .u64 X.v)
 hi : ∀ i, i < 32 → cs[3 + i]? = some (.int .u64 (X.h i))
 c35 : cs[35]? = some v
theorem BsV.one {cs : List Value} {X : Sp} {A : Option Addr} {n c : Nat} (h : BsV cs X (.slice A n c)) : cs.toArray.all (·.oneCell') = true := by
 refine all_oneCell_toArray fun u hu => ?_
 obtain ⟨j, hj, rfl⟩ := List.getElem_of_mem hu
 have hj36 := h.len
 have e := List.getElem?_eq_getElem hj
 by_cases h3 : j < 3
 ·match j, h3 with
  | 0, _ => rw [h.c0] at e; injection e with e; rw [← e]; rfl
  | 1, _ => rw [h.c1] at e; injection e with e; rw [← e]; rfl
  | 2, _ => rw [h.c2] at e; injection e with e; rw [← e]; rfl
 ·by_cases h35 : j = 35
  ·subst h35
   rw [h.c35] at e; injection e with e; rw [← e]; rfl
  ·have := h.hi (j - 3) (by omega)
   rw [show 3 + (j - 3) = j by omega, e] at this
   injection this with this
   rw [this]; rfl
theorem BsV.info {cs : List Value} {X : Sp} {v : Value} (h : BsV cs X v) : (Tryz.prog.info? 63).map (·.size) = some cs.length := by rw [Tryz.infoBs, h.len]
theorem BsV.infoA {cs : List Value} {X : Sp} {v : Value} (h : BsV cs X v) : (Tryz.prog.info? 63).map (·.size) = some cs.toArray.size := by rw [Tryz.infoBs, List.size_toArray, h.len]
theorem BsV.size36 {cs : List Value} {X : Sp} {v : Value} (h : BsV cs X v) : (36 : Nat) = cs.toArray.size := by rw [List.size_toArray, h.len]
theorem BsV.set35 {cs : List Value} {X : Sp} {v u : Value} (h : BsV cs X v) : BsV (cs.set 35 u) X u := by
 have hl := h.len
 refine ⟨by rw [List.length_set]; exact hl, ?_, ?_, ?_, fun i hi => ?_, List.getElem?_set_self (by omega)⟩
 ·rw [List.getElem?_set_ne (by omega)]; exact h.c0
 ·rw [List.getElem?_set_ne (by omega)]; exact h.c1
 ·rw [List.getElem?_set_ne (by omega)]; exact h.c2
 ·rw [List.getElem?_set_ne (by omega)]; exact h.hi i hi
structure BsAt (w : World) (g : Nat) (X : Sp) (v : Value) : Prop where
 at_ : ∃ cs : List Value, w.heap[g]? = some (.cells cs.toArray 63 (0, 0)) ∧ BsV cs X v
section
variable {w w' : World} {g : Nat} {X : Sp} {v u : Value}
theorem BsAt.of {cs : List Value} (h : w.heap[g]? = some (.cells cs.toArray 63 (0, 0))) (hv : BsV cs X v) : BsAt w g X v := ⟨cs, h, hv⟩
theorem BsAt.lt (h : BsAt w g X v) : g < w.heap.size := by
 obtain ⟨cs, h, _⟩ := h.at_
 exact (Array.getElem?_eq_some_iff.1 h).1
theorem BsAt.as (h : BsAt w g X v) (he : w'.heap[g]? = w.heap[g]?) : BsAt w' g X v := by
 obtain ⟨cs, h, hv⟩ := h.at_
 exact ⟨cs, he.trans h, hv⟩
theorem BsAt.below (h : BsAt w g X v) (hb : Below w.heap.size w w') : BsAt w' g X v := h.as (hb.block _ h.lt)
theorem BsAt.cell (h : BsAt w g X v) : w.cell? ⟨g, 0, none⟩ = some (.int .u64 X.n) ∧ w.cell? ⟨g, 1, none⟩ = some (.int .u64 X.a) ∧ w.cell? ⟨g, 2, none⟩ = some (.int .u64 X.v) ∧ (∀ i, i < 32 → w.cell? ⟨g, 3 + i, none⟩ = some (.int .u64 (X.h i))) ∧ w.cell? ⟨g, 35, none⟩ = some v := by
 obtain ⟨cs, h, hv⟩ := h.at_
 have e : ∀ (j : Nat) (u : Value), cs[j]? = some u → w.cell? ⟨g, j, none⟩ = some u := fun j u hu => cell_of_row _ _ j _ _ _ h |>.trans (by simpa using hu)
 exact ⟨e _ _ hv.c0, e _ _ hv.c1, e _ _ hv.c2, fun i hi => e _ _ (hv.hi i hi), e _ _ hv.c35⟩
theorem BsAt.fz (h : BsAt w g X v) (k : Nat) : w.frozen? ⟨g, k, none⟩ = false := by
 obtain ⟨cs, h, _⟩ := h.at_
 simp [World.frozen?, h]
end
theorem BsV.setH {cs : List Value} {X : Sp} {v : Value} (h : BsV cs X v) {o : Nat} (ho : o < 32) (k : Nat) : BsV (cs.set (3 + o) (.int .u64 k)) { X with h := fun i => if i = o then k else X.h i } v := by
 have hl := h.len
 refine ⟨by rw [List.length_set]; exact hl, ?_, ?_, ?_, fun i hi => ?_, ?_⟩
 ·rw [List.getElem?_set_ne (by omega)]; exact h.c0
 ·rw [List.getElem?_set_ne (by omega)]; exact h.c1
 ·rw [List.getElem?_set_ne (by omega)]; exact h.c2
 ·show _ = some (Value.int .u64 ((if i = o then k else X.h i : Nat) : Int))
  by_cases e : i = o
  ·rw [if_pos e, e]; exact List.getElem?_set_self (by omega)
  ·rw [if_neg e, List.getElem?_set_ne (by omega)]; exact h.hi i hi
 ·rw [List.getElem?_set_ne (by omega)]; exact h.c35
theorem BsAt.set {w : World} {g k : Nat} {X X' : Sp} {v v' u : Value} (h : BsAt w g X v) (hB : ∀ cs, BsV cs X v → BsV (cs.set k u) X' v') : BsAt (w.setCell ⟨g, k, none⟩ u) g X' v' := by
 obtain ⟨cs, h1, h2⟩ := h.at_
 refine ⟨cs.set k u, ?_, hB cs h2⟩
 have := heap_setAt h1 k u
 rwa [List.setIfInBounds_toArray] at this
theorem SpC.base {w : World} {s u : Nat} {X : Sp} {v : Value} (h : SpC w s X u v) : ∃ cs : List Value, w.rangeAt s 2 cs ∧ BsV cs X v := by
 obtain ⟨C, hC, hz⟩ := h.blk
 have e : ∀ (j : Nat) (x : Value), w.cell? ⟨s, j, none⟩ = some x → C[j]? = some x := fun j x hx => by rw [← cell_of_row w s j C _ _ hC]; exact hx
 have e2 : ∀ (j : Nat) (x : Value), w.cell? ⟨s, 2 + j, none⟩ = some x → (C.toList.drop 2)[j]? = some x := fun j x hx => by
  rw [List.getElem?_drop, Array.getElem?_toList]
  exact e _ _ hx
 refine ⟨C.toList.drop 2, rangeAt_row (cs := C.toList) hC 2, ⟨by rw [List.length_drop, Array.length_toList, hz], e2 0 _ h.c2, e2 1 _ h.c3, e2 2 _ h.c4, fun i hi => ?_, e2 35 _ h.c37⟩⟩
 rw [Nat.add_comm 3 i]
 refine e2 (i + 3) _ ?_
 rw [show 2 + (i + 3) = 5 + i by omega]
 exact h.hi i hi
theorem boxB (W : World) (Z : Array Value) (cs : List Value) : ∃ V, V = (W.alloc (.cells Z 63)).setRow W.heap.size cs.toArray ∧ V.heap[W.heap.size]? = some (.cells cs.toArray 63 (0, 0)) ∧ Below W.heap.size W V := ⟨_, rfl, setRow_heap _ _ _ _ _ _ (heap_alloc_new _ _), below_setRow ((Below.refl _ _).alloc (Nat.le_refl _) _) (Nat.le_refl _) _⟩
theorem ownE_src {w : World} {base : Nat} {A : Option Addr} {n c : Nat} {L : List Ett} (hn : n = L.length) (h : w.ownsRow base 74 14 (.slice A n c) n (cellsE L)) : Src w A n 14 (cellsE L) := by
 refine ⟨by rw [cellsE_length, hn], fun h0 => ?_⟩
 obtain ⟨b, c', hv, _, _⟩ := h.form h0
 injection hv with hv1 _ _
 subst hv1
 exact ⟨_, rfl, h.cells (g := b) rfl⟩
theorem ownE_nil {w : World} {base : Nat} {A : Option Addr} {n c : Nat} {L : List Ett} (h : w.ownsRow base 74 14 (.slice A n c) n (cellsE L)) : A = none → n = 0 := fun hA => by
 rcases Nat.eq_zero_or_pos n with h0 | h0
 ·exact h0
 ·obtain ⟨b, c', hv, _, _⟩ := h.form h0
  injection hv with hv1 _ _
  rw [hA] at hv1; cases hv1
set_option maxRecDepth 100000 in
set_option maxHeartbeats 1000000 in
theorem base_any {S : Nat → Prop} {s : Nat} {X : Sp} {L : List Ett} (w : World) (h : SpAt w S s X L) :
  Calls Tryz.prog 20 #[.pointer (some ⟨s, 0, none⟩)] w fun e w' => ∃ (cs : List Value) (A' : Option Addr) (c' : Nat) (M : List Ett), e = .returned (.agg cs.toArray) ∧ BsV cs X (.slice A' M.length c') ∧ SameE L M ∧ RowE w' w.heap.size (.slice A' M.length c') M ∧ (∀ e ∈ M, LabNew w.heap.size e) ∧ Below w.heap.size w w' := by
 obtain ⟨W, hW⟩ : ∃ W, W = w.alloc (.cells zeroBase 63) := ⟨_, rfl⟩
 have hb : Below w.heap.size w W := by rw [hW]; exact (Below.refl _ _).alloc (Nat.le_refl _) _
 have hbox : W.heap[w.heap.size]? = some (.cells zeroBase 63 (0, 0)) := by rw [hW]; exact heap_alloc_new _ _
 obtain ⟨v, k1, r1⟩ := (h.below hb).sp
 obtain ⟨A, c, rfl⟩ := own_slice r1.own
 obtain ⟨cs, hrg, hbs⟩ := k1.base
 have HW := Lib.hid hW
 have HB := Lib.hid hb
 have HX := Lib.hid hbox
 have HBS := Lib.hid hbs
 have HH := Lib.hid (h.below hb)
 have HOWN := Lib.hid r1.own
 have hfew := h.few
 obtain ⟨n, hn⟩ : ∃ n, n = L.length := ⟨_, rfl⟩
 rw [← hn] at HBS HOWN hfew
 have HN := Lib.hid hn
 clear hW hb hbox k1 r1 hbs h hn
 go_enter Tryz.func20, Tryz.ntmps20
 go_upto_region 1 with fail
 have hw := HW.out
 unfold zeroBase at hw
 rw [← hw]
 clear hw
 go_upto_region 4 with (first
  | (refine wpList_load_mid rfl _ _ rfl s 2 rfl cs _ hrg Tryz.underlying63 rfl HBS.out.info ?_)
  | (refine wpList_store_row rfl _ _ _ rfl W.heap.size cs.toArray rfl rfl _ _ (heap_alloc_new _ _) HBS.out.infoA HBS.out.size36 HBS.out.one ?_)
  | fail)
 obtain ⟨V, hV, hbx3, hbV⟩ := boxB W zeroBase cs
 unfold zeroBase at hV
 rw [← hV, act_put_no]
 obtain ⟨g3, hg3⟩ : ∃ g, g = W.heap.size := ⟨_, rfl⟩
 rw [← hg3] at hbx3 ⊢
 have hba := BsAt.of hbx3 HBS.out
 have HBA := Lib.hid hba
 have c35 := hba.cell.2.2.2.2
 have hbVW : Below w.heap.size w V := HB.out.trans (hbV.mono HB.out.size)
 have HBV := Lib.hid hbVW
 have HXV := Lib.hid ((hbV.block _ (Array.getElem?_eq_some_iff.1 HX.out).1).trans HX.out)
 have hg3w : w.heap.size < g3 := by rw [hg3]; exact (Array.getElem?_eq_some_iff.1 HX.out).1
 have hok : OkE V L := fun e he => ((HH.out.ent e he).free).below hbV
 have hcl := clones_new A n c L V HN.out hfew (ownE_nil HOWN.out) (fun W' hW' => ownE_src HN.out (ownB_below (ownB_below HOWN.out hbV) hW')) hok
 have HCL := Lib.hid hcl
 have HG3 := Lib.hid hg3w
 clear hV hbx3 hbV hg3 hba hbVW hg3w hok hcl hrg HW HB HX HH HOWN
 go_wp2_with fail
 refine HCL.out.mono ?_
 rintro _ w4 ⟨A4, c4, M, rfl, hsm, hrow, hb4, hnw⟩
 have hml : M.length = n := by rw [← hsm.len, HN.out]
 have hba4 := HBA.out.below hb4
 have c35 := hba4.cell.2.2.2.2
 have f35 := hba4.fz 35
 have HBA4 := Lib.hid hba4
 have HSM := Lib.hid hsm
 have HROW := Lib.hid hrow
 have HNW := Lib.hid hnw
 have HML := Lib.hid hml
 have hbl4 := HBV.out.trans (hb4.mono HBV.out.size)
 have HBL4 := Lib.hid hbl4
 have HX4 := Lib.hid ((hb4.block _ (Array.getElem?_eq_some_iff.1 HXV.out).1).trans HXV.out)
 have hg3V : g3 < V.heap.size := HBA.out.lt
 have HG3V := Lib.hid hg3V
 clear hsm hrow hb4 hnw hml hba4 hbl4 hg3V HCL HBA HBV HXV
 go_upto_region 5 with fail
 obtain ⟨w5, hw5⟩ : ∃ V, V = w4.setCell ⟨g3, 35, none⟩ (.slice A4 n c4) := ⟨_, rfl⟩
 rw [← hw5]
 have hba5 : BsAt w5 g3 X (.slice A4 n c4) := by rw [hw5]; exact HBA4.out.set (fun cs h => h.set35)
 have hon : Only (fun k => k = g3) w4 w5 := by rw [hw5]; exact Only.setCell _ _ _ rfl
 have hrow5 : RowE w5 V.heap.size (.slice A4 n c4) M := by
  have h1 := HROW.out
  refine ⟨hon.own h1.own (fun k hk e => ?_), fun e he => ?_⟩
  ·have h2 := (h1.own.lt k hk).1
   have h3 := HG3V.out
   have e : k = g3 := e
   omega
  ·exact (h1.ok e he).only hon (fun a ha h0 e' => by
    have h2 := HNW.out e he a ha h0
    have h3 := HG3V.out
    have e' : a.block = g3 := e'
    omega) (fun _ h => .inl h)
 have hbl5 : Below w.heap.size w w5 := HBL4.out.trans ⟨hon.os, hon.tape, hon.output, hon.size, fun k hk => hon.block k (Nat.lt_of_lt_of_le hk HBL4.out.size) (fun e => by have e : k = g3 := e; have := HG3.out; omega)⟩
 have hx5 : w5.heap[w.heap.size]? = some (.cells zeroBase 63 (0, 0)) := (hon.block _ (Array.getElem?_eq_some_iff.1 HX4.out).1 (fun e => by have e : w.heap.size = g3 := e; have := HG3.out; omega)).trans HX4.out
 obtain ⟨cs5, hcs5, hbs5⟩ := hba5.at_
 have HBS5 := Lib.hid hbs5
 have HX5 := Lib.hid hx5
 have HC5 := Lib.hid hcs5
 have HROW5 := Lib.hid hrow5
 have HBL5 := Lib.hid hbl5
 clear hw5 hba5 hon hrow5 hbl5 hx5 hcs5 hbs5 c35 f35 HBA4 HROW HX4 HBL4
 go_wp2_with (first
  | (refine wpList_load_row rfl _ _ rfl g3 rfl _ _ _ _ HC5.out Tryz.underlying63 rfl HBS5.out.infoA ?_)
  | (refine wpList_store_row rfl _ _ _ rfl w.heap.size cs5.toArray rfl rfl _ _ HX5.out HBS5.out.infoA HBS5.out.size36 HBS5.out.one ?_)
  | fail)
 have hwl : w.heap.size < w5.heap.size := (Array.getElem?_eq_some_iff.1 HX5.out).1
 have hon6 := onlyRow w.heap.size cs5.toArray w5
 have hnb : ∀ e ∈ M, LabNew w.heap.size e := fun e he a ha h0 => by have h1 := HNW.out e he a ha h0; have h2 := HG3V.out; have h3 := HG3.out; omega
 refine bodyPost_ret (v := .agg cs5.toArray) (results_cell_row rfl _ _ w.heap.size _ _ _ _ rfl (setRow_heap _ _ _ _ _ _ HX5.out) Tryz.underlying63 rfl HBS5.out.infoA) rfl
  ⟨cs5, A4, c4, M, rfl, by rw [HML.out]; exact HBS5.out, HSM.out, ?_, hnb, below_setRow HBL5.out (Nat.le_refl _) _⟩
 rw [HML.out]
 refine ⟨?_, fun e he => ?_⟩
 ·have h1 : w5.ownsRow w.heap.size 74 14 (.slice A4 n c4) M.length (cellsE M) := ownB_mono HROW5.out.own (by have h2 := HG3V.out; have h3 := HG3.out; omega)
  exact hon6.own h1 (fun k hk e => by
   have h2 := (HROW5.out.own.lt k hk).1
   have h3 := HG3V.out
   have h4 := HG3.out
   have e : k = w.heap.size := e
   omega)
 ·exact (HROW5.out.ok e he).only hon6 (fun a ha h0 e' => by
   have h1 := HNW.out e he a ha h0
   have h2 := HG3V.out
   have h3 := HG3.out
   have e' : a.block = w.heap.size := e'
   omega) (fun _ h => .inl h)
end Go.Proofs.YtholdcgkhicdmaaGreatDoor