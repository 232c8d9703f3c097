/- Several texts in one: StRep, StRec, StSnp. -/
import Derived.Test.YtholdcgkhicdmaaGreatDoorZq37
namespace Go.Proofs.YtholdcgkhicdmaaGreatDoor
open Go.RowKit
theorem set_both {B : Nat} {w w' : World} (h : Below B w w') (a : Addr) (v : Value) : Below B (w.setCell a v) (w'.setCell a v) :=
 ⟨h.os, h.tape, h.output, by simpa [World.setCell] using h.size, fun k hk => by
  simp only [World.setCell, Array.getElem?_modify]
  rw [h.block k hk]⟩
theorem RepRet.imp {w0 : World} {P : Nat → Nat → Prop} {R : Rc} {n : Nat} {o : Option Ab} {E E' : Nat → Prop} {e : Ending} {w' : World} (h : RepRet w0 P R n o E e w') (hE : ∀ z, z ≠ 0 → E z → E' z) : RepRet w0 P R n o E' e w' := by
 obtain ⟨z, h1, h2⟩ := h
 refine ⟨z, h1, h2.imp (fun ⟨a, b, c, d⟩ => ⟨a, b, hE z a c, d⟩) id⟩
structure ReOk (R : Rc) (r : List Nat) : Prop where
 hh : ∀ i, i < 32 → R.X.h i ≤ 1099511627776
 hv : sumE R.L + (itemB (partI (takeR (r, 0)).1 R.X.h)).length ≤ R.X.q ∨ R.X.v + cntE R.L < 18446744073709551615
 hf : R.L.length < 100000
 hF : R.F.length ≤ 90000
 ri : RiseE R.L
 q1 : 64 ≤ R.X.q
 q2 : R.X.q ≤ 65536
theorem errOf_known {k : Nat} {r : List Nat} (hk : k < 5) {z : Nat} (hz : z ≠ 0) : ErrOf (k :: r) z := ⟨hz, fun k' r' e h5 => by injection e with e1 _; omega⟩
theorem repA_1 {s g : Nat} {a : Ab} {r : List Nat} : repA s g a (1 :: r) = rep1 s a r := by simp [repA]
theorem repA_2 {s g : Nat} {a : Ab} {r : List Nat} : repA s g a (2 :: r) = rep2 a r := by simp [repA]
theorem repA_3 {s g : Nat} {a : Ab} {r : List Nat} : repA s g a (3 :: r) = rep3 a r := by simp [repA]
theorem repA_4 {s g : Nat} {a : Ab} {r : List Nat} : repA s g a (4 :: r) = rep4 s g a r := by simp [repA]
theorem repA_x {s g k : Nat} {a : Ab} {r : List Nat} (h1 : k ≠ 1) (h2 : k ≠ 2) (h3 : k ≠ 3) (h4 : k ≠ 4) : repA s g a (k :: r) = none := by simp [repA, h1, h2, h3, h4]
theorem repRet_pre {w0 w1 : World} {P : Nat → Nat → Prop} {R R1 : Rc} {n : Nat} {o : Option Ab} {E : Nat → Prop} {e : Ending} {w' : World} (h : RepRet w1 P R1 n o E e w') (ho : Only (Own3 P) w0 w1) (hm : Mv6 w0 P w1 P) (hs : SameS R R1) : RepRet w0 P R n o E e w' := by
 obtain ⟨z, h1, h2⟩ := h
 refine ⟨z, h1, h2.imp (fun ⟨a, b, c, d⟩ => ⟨a, b, c, ho.trans d (fun _ h => .inl h)⟩) (fun ⟨a, P', R', b, c, d, f⟩ => ⟨a, P', R', b, c, hs.trans d, hm.trans f⟩)⟩
theorem rep4_first {s gen : Nat} {a : Ab} {r : List Nat} (h : 0 < gen) : rep4 s gen a r = rep4 s 0 { a with f := r.length + 9 } r := by
 unfold rep4
 simp [h]
theorem rep4_zero {s gen : Nat} {a : Ab} {r : List Nat} (h : ¬ 0 < gen) : rep4 s gen a r = rep4 s 0 a r := by
 unfold rep4
 simp [h]
theorem Rdr.apart {w : World} {g : Nat} {l : List Nat} {er : Int} (h : Rdr w g l er) (a : Addr) (v u : Value) (hg : a.block ≠ g) (ha : w.cell? a = some u) (hu : ∀ x : Int, u ≠ .int .u8 x) : Rdr (w.setCell a v) g l er := by
 obtain ⟨h1, ⟨A, n, c, h2, h3, h4, h5, h6, h7⟩, h8, h9, h10, h11, h12⟩ := h
 have hne : ∀ o, a ≠ ⟨g, o, none⟩ := fun o e => hg (by rw [e])
 refine ⟨by simpa using h1, ⟨A, n, c, (World.cell?_setCell_other _ _ _ _ (hne 0)).trans h2, h3, h4, h5, fun h0 => ?_, h7⟩, (World.cell?_setCell_other _ _ _ _ (hne 1)).trans h8, by simpa using h9, by simpa using h10, h11, h12⟩
 obtain ⟨b, o, e, hb, hc⟩ := h6 h0
 refine ⟨b, o, e, hb, fun i x hx => ?_⟩
 have h13 := hc i x hx
 refine (World.cell?_setCell_other _ _ _ _ (fun e => ?_)).trans h13
 rw [← e, ha] at h13
 exact hu x (Option.some.inj h13)
set_option maxRecDepth 100000 in
set_option maxHeartbeats 4000000 in
theorem replay_any {P : Nat → Nat → Prop} {R : Rc} {n : Nat} (A : Option Addr) (m c : Nat) (cs : List Nat) (w0 : World) (h : Sto w0 P R n) (hm : m = cs.length) (hc : m ≤ c) (hl : m ≤ 60000) (hr : RdB w0 w0.heap.size A cs) (hok : OkB cs) (hre : ∀ k r, cs = k :: r → ReOk R r) :
  Calls Tryz.prog 61 #[.pointer (some ⟨R.st, 0, none⟩), .slice A m c] w0 (RepRet w0 P R n (repA R.self R.gen R.ab cs) (ErrOf cs)) := by
 cases cs with
 | nil =>
   obtain rfl : m = 0 := hm
   clear hr hok hre
   go_enter Tryz.func61, Tryz.ntmps61
   go_wp2
   go_ret
   exact ⟨12, rfl, .inl ⟨by decide, rfl, ⟨by decide, fun k r e => by cases e⟩, Only.refl _ _⟩⟩
 | cons k r =>
   have hm1 : m = r.length + 1 := hm
   have hre := hre k r rfl
   obtain ⟨b, o, hA, hb, hcell⟩ := hr (by simp)
   subst hA
   have c0 : w0.cell? ⟨b, o, none⟩ = some (.int .u8 k) := hcell 0 k rfl
   have hk256 : k < 256 := hok k (List.mem_cons_self ..)
   obtain ⟨A1, hA1⟩ : ∃ A1, A1 = subA (some ⟨b, o, none⟩) c 1 := ⟨_, rfl⟩
   have s1 : ∀ w : World, (Instr.sliceAt 77 (.slice (some ⟨b, o, none⟩) m c) (some (.int .i64 1)) none none).run Tryz.prog w = .ok (.slice A1 (m - 1) (c - 1)) w := fun w => by
    rw [hA1]
    exact slB_l (some ⟨b, o, none⟩) m c 1 1 rfl (by omega) w
   have hr1 : RdB w0 w0.heap.size A1 r := by
    rw [hA1]
    have := hr.sub (c := c) (lo := 1) (by rw [← hm]; exact hc)
    exact this
   have hn1 : A1 ≠ none := fun e => by have := subA_nil (hA1 ▸ e : subA (some ⟨b, o, none⟩) c 1 = none); cases this
   have HRD := Lib.hid (rread_any A1 (m - 1) (c - 1) r w0.heap.size w0 (by omega) (fun e => absurd e hn1) (by omega) hr1 (Nat.le_refl _) (fun x hx => hok x (List.mem_cons_of_mem _ hx)))
   have HS := Lib.hid h
   have HRE := Lib.hid hre
   have d0 : ((m : Int) == 0) = false := by rw [beq_eq_false_iff_ne]; omega
   have hlr : r.length ≤ 60000 := by omega
   have HLR := Lib.hid hlr
   have HK := Lib.hid hk256
   have hm0 : 0 < m := by omega
   have HM1 := Lib.hid hm1
   have HC := Lib.hid hc
   clear hr hr1 hn1 hA1 hcell hok hre hm h hm1 hc hl hlr hk256
   go_enter Tryz.func61, Tryz.ntmps61
   go_wp2_with fail
   refine HRD.out.mono ?_
   rintro _ w1 ⟨g, rfl, hrd1, hg1, hb1⟩
   have c1 : w1.cell? ⟨b, o, none⟩ = some (.int .u8 k) := (hb1.cell (p := ⟨b, o, none⟩) hb).trans c0
   have HRT : Hid (RdT w1 g (r, 0)) := hrd1
   have HB1 := Lib.hid hb1
   clear hrd1 hb1 c0 HRD
   go_upto_region 5 with fail
   by_cases k1 : k = 1
   ·subst k1
    have H1 := Lib.hid (replayPut_any w0 w1 HS.out HB1.out HRT.out hg1 HLR.out HRE.out.hh HRE.out.hv HRE.out.hf HRE.out.hF)
    clear c1
    go_wp2_with fail
    refine H1.out.mono ?_
    rintro _ w2 ⟨z, rfl, h3⟩
    have H3 := Lib.hid h3
    clear h3 H1
    go_wp2
    go_ret
    rw [repA_1]
    exact RepRet.imp (E := fun _ => True) ⟨z, rfl, H3.out⟩ (fun z hz _ => errOf_known (by decide) hz)
   by_cases k2 : k = 2
   ·subst k2
    have H1 := Lib.hid (replayAck_any w0 w1 HS.out HB1.out HRT.out hg1 HRE.out.ri)
    clear c1 k1
    go_wp2_with fail
    refine H1.out.mono ?_
    rintro _ w2 ⟨z, rfl, h3⟩
    have H3 := Lib.hid h3
    clear h3 H1
    go_wp2
    go_ret
    rw [repA_2]
    exact RepRet.imp (E := fun _ => True) ⟨z, rfl, H3.out⟩ (fun z hz _ => errOf_known (by decide) hz)
   by_cases k3 : k = 3
   ·subst k3
    clear c1 k1 k2
    obtain ⟨N, s1', hx⟩ : ∃ x s, rU (r, 0) = (x, s) := ⟨_, _, rfl⟩
    have t1 := tk_uint g (r, 0) w1 HRT.out
    rw [hx] at t1
    have HT1 := Lib.hid t1
    have HX := Lib.hid hx
    clear t1 hx
    go_upto_region 10 with fail
    go_wp2_with fail
    refine HT1.out.mono ?_
    rintro _ w2 ⟨rfl, hr2, hg2⟩
    have hb2 := grown_low HB1.out hg2 hg1
    have hs2 := HS.out.below hb2
    have c6 : w2.cell? ⟨R.st, 6, none⟩ = some (.int .u64 R.life) := cell_of_row _ _ 6 _ _ _ hs2.blk
    have f6 : w2.frozen? ⟨R.st, 6, none⟩ = false := frozen_of_row _ _ 6 _ _ hs2.blk
    have hgs : R.st ≠ g := fun e => by have := HS.out.own.lt 2 _ HS.out.p2; omega
    have hr3 := Rdr.apart hr2 ⟨R.st, 6, none⟩ (.int .u64 N) _ hgs c6 (fun x e => by cases e)
    obtain ⟨hs3, hm3⟩ := HS.out.set { R with life := N } 6 (.int .u64 N) rfl rfl rfl rfl rfl rfl rfl rfl rfl rfl rfl rfl
    have ho3 : Only (Own3 P) w0 (w0.setCell ⟨R.st, 6, none⟩ (.int .u64 N)) := Only.setCell _ _ _ (.inl HS.out.p2)
    have hbv : Below w0.heap.size (w0.setCell ⟨R.st, 6, none⟩ (.int .u64 N)) (w2.setCell ⟨R.st, 6, none⟩ (.int .u64 N)) := set_both hb2 _ _
    have HO3 := Lib.hid ho3
    have HS3 := Lib.hid hs3
    have HM3 := Lib.hid hm3
    have HBV := Lib.hid hbv
    have HD := Lib.hid (tk_done g s1' _ (show RdT _ g s1' from hr3))
    obtain ⟨st, hst⟩ : ∃ z, z = R.st := ⟨_, rfl⟩
    rw [← hst] at c6 f6 HO3 HS3 HM3 HD HBV ⊢
    have HST := Lib.hid hst
    clear hst hr2 hg2 hb2 hs2 hgs hr3 hs3 hm3 ho3 hbv HT1
    go_wp2_with fail
    refine HD.out.mono ?_
    rintro _ w4 ⟨rfl, hg4⟩
    have hE : rep3 R.ab r = if endE s1' = 0 then some { R.ab with m := N } else none := by unfold rep3; rw [HX.out]
    have hz0 : (w0.setCell ⟨st, 6, none⟩ (.int .u64 N)).heap.size = w0.heap.size := by simp [World.setCell]
    have hb4 : Below (w0.setCell ⟨st, 6, none⟩ (.int .u64 N)).heap.size (w0.setCell ⟨st, 6, none⟩ (.int .u64 N)) w4 := by
     rw [hz0]
     exact HBV.out.trans ⟨hg4.os, hg4.tape, hg4.output, hg4.size, fun k hk => hg4.block k (by have := HBV.out.size; omega) (fun e => by have e := Option.some.inj e; omega)⟩
    have HB4 := Lib.hid hb4
    clear hg4 HD c6 f6 hb4
    by_cases hz : endE s1' = 0
    ·rw [if_pos hz] at hE
     rw [hz]
     have HE := Lib.hid hE
     clear hz hE
     go_wp2
     go_ret
     have hst := HST.out
     subst hst
     rw [repA_3]
     exact ⟨0, rfl, .inr ⟨rfl, P, _, HS3.out.below HB4.out, HE.out, ⟨rfl, rfl, rfl, rfl, rfl, rfl, rfl, rfl⟩, HM3.out.trans (Mv6.of_below HB4.out P)⟩⟩
    ·rw [if_neg hz] at hE
     obtain ⟨z, hze⟩ : ∃ z, z = endE s1' := ⟨_, rfl⟩
     rw [← hze] at hz ⊢
     have HE := Lib.hid hE
     have HZ := Lib.hid hz
     have d9 : ((z : Int) != 0) = true := by rw [bne_iff_ne]; omega
     clear hE hze hz
     go_wp2
     go_ret
     rw [repA_3]
     exact ⟨z, rfl, .inl ⟨HZ.out, HE.out, errOf_known (by decide) HZ.out, HO3.out.trans (Only.of_below HB4.out (Own3 P)) (fun i h => .inl h)⟩⟩
   by_cases k4 : k = 4
   ·subst k4
    clear c1 k1 k2 k3
    have hs1 := HS.out.below HB1.out
    have c3 : w1.cell? ⟨R.st, 3, none⟩ = some (.int .u64 R.gen) := cell_of_row _ _ 3 _ _ _ hs1.blk
    by_cases hgen : 0 < R.gen
    ·have c4 : w1.cell? ⟨R.st, 4, none⟩ = some (.int .i64 R.first) := cell_of_row _ _ 4 _ _ _ hs1.blk
     have f4 : w1.frozen? ⟨R.st, 4, none⟩ = false := frozen_of_row _ _ 4 _ _ hs1.blk
     have hgs : R.st ≠ g := fun e => by have := HS.out.own.lt 2 _ HS.out.p2; omega
     have hr3 := Rdr.apart HRT.out ⟨R.st, 4, none⟩ (.int .i64 ((r.length + 9 : Nat) : Int)) _ hgs c4 (fun x e => by cases e)
     obtain ⟨hs3, hm3⟩ := HS.out.set { R with first := r.length + 9 } 4 (.int .i64 ((r.length + 9 : Nat) : Int)) rfl rfl rfl rfl rfl rfl rfl rfl rfl rfl rfl rfl
     have ho3 : Only (Own3 P) w0 (w0.setCell ⟨R.st, 4, none⟩ (.int .i64 ((r.length + 9 : Nat) : Int))) := Only.setCell _ _ _ (.inl HS.out.p2)
     have hbv : Below w0.heap.size (w0.setCell ⟨R.st, 4, none⟩ (.int .i64 ((r.length + 9 : Nat) : Int))) (w1.setCell ⟨R.st, 4, none⟩ (.int .i64 ((r.length + 9 : Nat) : Int))) := set_both HB1.out _ _
     have hz0 : (w0.setCell ⟨R.st, 4, none⟩ (.int .i64 ((r.length + 9 : Nat) : Int))).heap.size = w0.heap.size := by simp [World.setCell]
     have H1 := Lib.hid (replaySnap_any _ _ hs3 (by rw [hz0]; exact hbv) (show RdT _ g (r, 0) from hr3) (by rw [hz0]; exact hg1) HLR.out HRE.out.q1 HRE.out.q2)
     have HO3 := Lib.hid ho3
     have HM3 := Lib.hid hm3
     have hsum : (8 : Int) + (m : Int) = ((r.length + 9 : Nat) : Int) := by have := HM1.out; omega
     have hwr : IntKind.i64.wrap ((8 : Int) + (m : Int)) = ((r.length + 9 : Nat) : Int) := by rw [IntKind.wrap_i64]; have := HM1.out; have := HLR.out; omega
     obtain ⟨fz, hfz⟩ : ∃ z : Nat, z = r.length + 9 := ⟨_, rfl⟩
     rw [← hfz] at H1 HO3 HM3 hwr hsum
     have HFZ := Lib.hid hfz
     clear hs1 hgs hr3 hs3 hm3 ho3 hbv hz0 hsum hfz
     go_wp2_with fail
     refine H1.out.mono ?_
     rintro _ w2 ⟨z, rfl, h3⟩
     have H3 := Lib.hid h3
     clear h3 H1 c3 c4 f4
     go_wp2
     go_ret
     rw [repA_4, rep4_first hgen]
     have h5 := repRet_pre (E := fun _ => True) (R := R) ⟨z, rfl, H3.out⟩ HO3.out HM3.out ⟨rfl, rfl, rfl, rfl, rfl, rfl, rfl, rfl⟩
     rw [← HFZ.out]
     exact RepRet.imp (E := fun _ => True) h5 (fun z hz _ => errOf_known (by decide) hz)
    ·have hgz : R.gen = 0 := by omega
     have H1 := Lib.hid (replaySnap_any w0 w1 HS.out HB1.out HRT.out hg1 HLR.out HRE.out.q1 HRE.out.q2)
     rw [hgz] at c3
     have HGZ := Lib.hid hgz
     have HGN := Lib.hid hgen
     clear hs1 hgz hgen
     go_wp2_with fail
     refine H1.out.mono ?_
     rintro _ w2 ⟨z, rfl, h3⟩
     have H3 := Lib.hid h3
     clear h3 H1 c3
     go_wp2
     go_ret
     rw [repA_4, rep4_zero HGN.out]
     exact RepRet.imp (E := fun _ => True) ⟨z, rfl, H3.out⟩ (fun z hz _ => errOf_known (by decide) hz)
   have d1 : ((k : Int) == 1) = false := by rw [beq_eq_false_iff_ne]; omega
   have d2 : ((k : Int) == 2) = false := by rw [beq_eq_false_iff_ne]; omega
   have d3 : ((k : Int) == 3) = false := by rw [beq_eq_false_iff_ne]; omega
   have d4 : ((k : Int) == 4) = false := by rw [beq_eq_false_iff_ne]; omega
   have HE := Lib.hid (repA_x (s := R.self) (g := R.gen) (a := R.ab) (r := r) k1 k2 k3 k4)
   clear k1 k2 k3 k4 c1
   go_wp2
   go_ret
   exact ⟨12, rfl, .inl ⟨by decide, HE.out, ⟨by decide, fun k r e h5 => rfl⟩, Only.of_below HB1.out _⟩⟩
theorem Puts.low {w0 w w' : World} {g : Nat} {v : Value} {l l2 : List Nat} (h : Puts w w' g v l) (hw : Wtr w g v l2) (hb : Below w0.heap.size w0 w) (hg : w0.heap.size ≤ g) : Below w0.heap.size w0 w' := by
 obtain ⟨v', _, h2⟩ := h
 exact hb.trans (h2.below hb.size hg (fun k hk => by have := hw.ne k hk; omega))
set_option maxRecDepth 100000 in
set_option maxHeartbeats 1000000 in
theorem record_any (kd : Nat) (fn : FuncId) (hent : ∀ args w, (callFunc fn args).run Tryz.prog w = .ok (.enter fn args) w) (p : Addr) (l : List Nat) (w : World) (hl : l.length ≤ 500000)
  (hfill : ∀ (g : Nat) (v : Value) (w1 : World), Below w.heap.size w w1 → w.heap.size ≤ g → Wtr w1 g v [kd] → Calls Tryz.prog fn #[.pointer (some ⟨g, 0, none⟩), .pointer (some p)] w1 fun e w2 => e = .returned (.tuple #[]) ∧ Puts w1 w2 g v (kd :: l)) :
  Calls Tryz.prog 75 #[.int .u8 kd, .func (.func fn) #[] #[.pointer (some p)]] w fun e w' => ∃ A c, e = .returned (.slice A (l.length + 1) c) ∧ w'.ownsRow w.heap.size 5 1 (.slice A (l.length + 1) c) (l.length + 1) (cellsB (kd :: l)) ∧ Below w.heap.size w w' := by
 obtain ⟨w0, hw0⟩ : ∃ V, V = w.alloc (.cells #[.slice none 0 0] 195) := ⟨_, rfl⟩
 have hb0 : Below w.heap.size w w0 := by rw [hw0]; exact (Below.refl _ _).alloc (Nat.le_refl _) _
 have hW0 : Wtr w0 w.heap.size (.slice none 0 0) [] := by rw [hw0]; exact Wtr.new w _
 have HW0 := Lib.hid hw0
 have HB0 := Lib.hid hb0
 have HWT := Lib.hid hW0
 have HF := Lib.hid hfill
 clear hw0 hb0 hW0 hfill
 go_enter Tryz.func75, Tryz.ntmps75
 go_wp2_with fail
 rw [← HW0.out]
 refine (wbyte_any w.heap.size (.slice none 0 0) [] kd w0 HWT.out (by simp)).mono ?_
 rintro _ w1 ⟨rfl, hp1⟩
 have HB1 := Lib.hid (hp1.low HWT.out HB0.out (Nat.le_refl _))
 obtain ⟨v1, hw1, hr1⟩ := hp1
 have HW1 := Lib.hid hw1
 clear hw1 hr1
 go_wp2_with fail
 refine (HF.out w.heap.size v1 w1 HB1.out (Nat.le_refl _) HW1.out).mono ?_
 rintro _ w2 ⟨rfl, hp2⟩
 have HB2 := Lib.hid (hp2.low HW1.out HB1.out (Nat.le_refl _))
 obtain ⟨v2, hw2, hr2⟩ := hp2
 have HW2 := Lib.hid hw2
 clear hw2 hr2
 go_wp2_with fail
 refine (wbytes_any w.heap.size v2 (kd :: l) w2 HW2.out (by simp; omega)).mono ?_
 rintro _ w3 ⟨v3, rfl, ho, hb3⟩
 obtain ⟨A, c, rfl⟩ := ownB_slice ho
 have HO := Lib.hid (ownB_mono ho HB2.out.size)
 have HB3 := Lib.hid (HB2.out.trans (hb3.mono HB2.out.size))
 clear ho hb3
 go_wp2
 go_ret
 exact ⟨A, c, rfl, HO.out, HB3.out⟩
theorem fill_life (R : Rc) (hR : R.life < 18446744073709551616) (p g : Nat) (v : Value) (l : List Nat) (w : World) (hp : w.cell? ⟨p, 0, none⟩ = some (.pointer (some ⟨R.st, 0, none⟩))) (hs : w.heap[R.st]? = some (.cells (stC R) 112 (0, 0))) (h : Wtr w g v l) (hl : l.length ≤ 2097000) :
  Calls Tryz.prog 64 #[.pointer (some ⟨g, 0, none⟩), .pointer (some ⟨p, 0, none⟩)] w fun e w' => e = .returned (.tuple #[]) ∧ Puts w w' g v (l ++ leb R.life) := by
 have HP := Lib.hid (wuint_any g v l R.life hR w h hl)
 have c6 : w.cell? ⟨R.st, 6, none⟩ = some (.int .u64 R.life) := cell_of_row _ _ 6 _ _ _ hs
 clear h hs
 go_enter Tryz.func64, Tryz.ntmps64
 go_wp2_with fail
 refine HP.out.mono ?_
 rintro _ w1 ⟨rfl, h1⟩
 have H1 := Lib.hid h1
 clear h1
 go_wp2
 go_end0
 exact ⟨rfl, H1.out⟩
theorem fill_put (x : It) (A : Option Addr) (c : Nat) (hx : Mod x) (p g : Nat) (v : Value) (l : List Nat) (w : World) (hp : w.heap[p]? = some (.cells (itC x A c).toArray 47 (0, 0))) (h : Wtr w g v l) (hl : l.length ≤ 100) (hr : LabAt w g v.ownBlock A x.l) :
  Calls Tryz.prog 37 #[.pointer (some ⟨g, 0, none⟩), .pointer (some ⟨p, 0, none⟩)] w fun e w' => e = .returned (.tuple #[]) ∧ Puts w w' g v (l ++ itemB x) := by
 have HP := Lib.hid (iput_any g v l x A x.l.length c hx.ok hx.sh rfl (by have := hx.ln; omega) w h (by have := hx.lb; omega) hr)
 have HB := Lib.hid hp
 clear h hr hp
 go_enter Tryz.func37, Tryz.ntmps37
 go_wp2_with (first | (refine wpList_load_row rfl _ _ rfl p rfl _ _ _ _ HB.out Tryz.underlying47 rfl Tryz.infoIt ?_) | fail)
 refine HP.out.mono ?_
 rintro _ w1 ⟨rfl, h1⟩
 have H1 := Lib.hid h1
 clear h1
 go_wp2
 go_end0
 exact ⟨rfl, H1.out⟩
def hisB (h : Nat → Nat) : Nat → List Nat
 | 0 => []
 | k + 1 => hisB h k ++ leb (h k)
def entsB (L : List Ett) : List Nat := L.flatMap fun e => leb e.i ++ itemB e.x
def baseB (X : Sp) (L : List Ett) : List Nat := leb X.n ++ leb X.a ++ leb X.v ++ hisB X.h 32 ++ leb L.length ++ entsB L
theorem entsB_app (a b : List Ett) : entsB (a ++ b) = entsB a ++ entsB b := by simp [entsB]
theorem entsB_step {M : List Ett} {k : Nat} {e : Ett} (h : M[k]? = some e) : entsB (M.take (k + 1)) = entsB (M.take k) ++ leb e.i ++ itemB e.x := by
 rw [List.take_add_one, h, entsB_app]
 simp [entsB]
theorem entsB_take (M : List Ett) (k : Nat) : (entsB (M.take k)).length ≤ (entsB M).length := by
 have h : entsB M = entsB (M.take k) ++ entsB (M.drop k) := by rw [← entsB_app, List.take_append_drop]
 rw [h, List.length_append]
 omega
theorem hisB_len (h : Nat → Nat) (hh : ∀ i, i < 32 → h i < 18446744073709551616) : ∀ k, k ≤ 32 → (hisB h k).length ≤ 10 * k
 | 0, _ => Nat.le_refl _
 | k + 1, hk => by
   have h1 := hisB_len h hh k (by omega)
   have h2 := leb_le10 (hh k (by omega))
   show (hisB h k ++ leb (h k)).length ≤ _
   rw [List.length_append]
   omega
def EntAt (w : World) (g : Nat) (r : Option Nat) (A : Option Addr) (k : Nat) (e : Ett) : Prop :=
 (OkI e.x ∧ ShortI e.x ∧ e.x.l.length ≤ 1000 ∧ e.i < 18446744073709551616) ∧ (∃ b, A = some ⟨b, 0, none⟩ ∧ b < w.heap.size ∧ b ≠ g ∧ some b ≠ r ∧ w.rangeAt b (k * 14) (entC e)) ∧ LabAt w g r e.A e.x.l
theorem row_ne {b : Nat} {w w1 : World} {g : Nat} {r r1 : Option Nat} (hw : Wrote w w1 g r r1) (hb : b < w.heap.size) (hr : some b ≠ r) : some b ≠ r1 := by
 rcases hw.row with h1 | ⟨k, h1, h2⟩
 ·rw [h1]; exact hr
 ·rw [h1]; intro e; injection e with e; omega
theorem EntAt.wrote {w w1 : World} {g : Nat} {r r1 : Option Nat} {A : Option Addr} {k : Nat} {e : Ett} (h : EntAt w g r A k e) (hw : Wrote w w1 g r r1) : EntAt w1 g r1 A k e := by
 obtain ⟨h1, ⟨b, rfl, hb, hg, hr, hc⟩, h3⟩ := h
 exact ⟨h1, ⟨b, rfl, Nat.lt_of_lt_of_le hb hw.size, hg, row_ne hw hb hr, fun j v hv => (hw.cell (p := ⟨b, k * 14 + j, none⟩) hb hg hr).trans (hc j v hv)⟩, h3.wrote hw⟩
structure PS (w : World) (g p : Nat) (X : Sp) (A : Option Addr) (c : Nat) (M : List Ett) (v : Value) (l : List Nat) : Prop where
 wt : Wtr w g v l
 bs : BsAt w p X (.slice A M.length c)
 pg : p ≠ g
 pv : some p ≠ v.ownBlock
 en : ∀ (k : Nat) e, M[k]? = some e → EntAt w g v.ownBlock A k e
section
variable {w w' : World} {g p c : Nat} {X : Sp} {A : Option Addr} {M : List Ett} {v : Value} {l l2 : List Nat}
theorem PS.puts (h : PS w g p X A c M v l) (hp : Puts w w' g v l2) : ∃ v', PS w' g p X A c M v' l2 ∧ Wrote w w' g v.ownBlock v'.ownBlock := by
 obtain ⟨v', h1, h2⟩ := hp
 exact ⟨v', ⟨h1, h.bs.as (h2.block _ h.bs.lt h.pg h.pv), h.pg, row_ne h2 h.bs.lt h.pv, fun k e he => (h.en k e he).wrote h2⟩, h2⟩
theorem PS.below (h : PS w g p X A c M v l) (hb : Below w.heap.size w w') : PS w' g p X A c M v l :=
 ⟨h.wt.below hb, h.bs.below hb, h.pg, h.pv, fun k e he => (h.en k e he).wrote (Wrote.of_below hb g _)⟩
end
set_option maxRecDepth 100000 in
set_option maxHeartbeats 4000000 in
theorem putBase_any (g c : Nat) (cs : List Value) (X : Sp) (A : Option Addr) (M : List Ett) (v : Value) (l : List Nat) (w : World) (hbs : BsV cs X (.slice A M.length c)) (hW : Wtr w g v l) (hM : ∀ (k : Nat) e, M[k]? = some e → EntAt w g v.ownBlock A k e)
  (hX : X.n < 18446744073709551616 ∧ X.a < 18446744073709551616 ∧ X.v < 18446744073709551616 ∧ ∀ i, i < 32 → X.h i < 18446744073709551616) (hlen : l.length + (baseB X M).length ≤ 1000000) (hm : M.length ≤ 100000) :
  Calls Tryz.prog 125 #[.pointer (some ⟨g, 0, none⟩), .agg cs.toArray] w fun e w' => e = .returned (.tuple #[]) ∧ Puts w w' g v (l ++ baseB X M) := by
 obtain ⟨w0, hw0⟩ : ∃ V, V = w.alloc (.cells cs.toArray 63) := ⟨_, rfl⟩
 have hb0 : Below w.heap.size w w0 := by rw [hw0]; exact (Below.refl _ _).alloc (Nat.le_refl _) _
 obtain ⟨p, hp⟩ : ∃ p, p = w.heap.size := ⟨_, rfl⟩
 have hbox : w0.heap[p]? = some (.cells cs.toArray 63 (0, 0)) := by rw [hw0, hp]; exact heap_alloc_new _ _
 have hps : PS w0 g p X A c M v l := ⟨hW.below hb0, BsAt.of hbox hbs, by have := hW.lt; omega, fun e => by have := hW.row_lt e.symm; omega, fun k e he => (hM k e he).wrote (Wrote.of_below hb0 g _)⟩
 have hlb : (baseB X M).length = (leb X.n).length + (leb X.a).length + (leb X.v).length + (hisB X.h 32).length + (leb M.length).length + (entsB M).length := by
  unfold baseB
  simp only [List.length_append]
 rw [hlb] at hlen
 have HLN := Lib.hid hlen
 have HX := Lib.hid hX
 have HW0 := Lib.hid hw0
 have HPE := Lib.hid hp
 have HPS := Lib.hid hps
 have HWR0 := Lib.hid (Wrote.of_below hb0 g v.ownBlock)
 obtain ⟨nm, hnm⟩ : ∃ z, z = M.length := ⟨_, rfl⟩
 have HNM := Lib.hid hnm
 obtain ⟨c0, c1, c2, -, c35⟩ := hps.bs.cell
 have hU := fun (V : Value) (W : World) (L : List Nat) (N : Nat) (hN : N < 18446744073709551616) (h : PS W g p X A c M V L) (hl : L.length ≤ 2097000) => wuint_any g V L N hN W h.wt hl
 have HU := Lib.hid hU
 clear hw0 hb0 hbox hps hW hM hX hp hbs hlen hlb hnm hU
 go_enter Tryz.func125, Tryz.ntmps125
 go_upto_region 1 with fail
 rw [← HW0.out, ← HPE.out]
 go_wp2_with fail
 refine (HU.out v w0 l X.n HX.out.1 HPS.out (by have := HLN.out; omega)).mono ?_
 rintro _ w1 ⟨rfl, hp1⟩
 obtain ⟨v1, hps1, hwr1⟩ := HPS.out.puts hp1
 obtain ⟨-, c1, c2, -, c35⟩ := hps1.bs.cell
 have HPS1 := Lib.hid hps1
 have HWR1 := Lib.hid (HWR0.out.trans hwr1)
 clear hp1 hps1 hwr1 HPS HWR0 HW0
 go_wp2_with fail
 refine (HU.out v1 w1 _ X.a HX.out.2.1 HPS1.out (by have := HLN.out; simp only [List.length_append]; omega)).mono ?_
 rintro _ w2 ⟨rfl, hp2⟩
 obtain ⟨v2, hps2, hwr2⟩ := HPS1.out.puts hp2
 obtain ⟨-, -, c2, -, c35⟩ := hps2.bs.cell
 have HPS2 := Lib.hid hps2
 have HWR2 := Lib.hid (HWR1.out.trans hwr2)
 clear hp2 hps2 hwr2 HPS1 HWR1
 go_wp2_with fail
 refine (HU.out v2 w2 _ X.v HX.out.2.2.1 HPS2.out (by have := HLN.out; simp only [List.length_append]; omega)).mono ?_
 rintro _ w3 ⟨rfl, hp3⟩
 obtain ⟨v3, hps3, hwr3⟩ := HPS2.out.puts hp3
 obtain ⟨-, -, -, -, c35⟩ := hps3.bs.cell
 have hrg := hps3.bs.highs
 have HPS3 := Lib.hid hps3
 have HWR3 := Lib.hid (HWR2.out.trans hwr3)
 clear hp3 hps3 hwr3 HPS2 HWR2
 go_upto_region 5 with (first
  | (refine wpList_load_mid rfl _ _ rfl p 3 rfl (highsL X) _ hrg Tryz.underlying60 rfl (infoH X) ?_)
  | fail)
 clear hrg c35
 go_loopw [22] (fun iv wx => ∃ k : Nat, k ≤ 32 ∧ iv = .int .i64 k ∧ Hid (∃ v', PS wx g p X A c M v' (l ++ leb X.n ++ leb X.a ++ leb X.v ++ hisB X.h k) ∧ Wrote w wx g v.ownBlock v'.ownBlock)) (fun iv _ => 32 - (intOf iv).toNat)
 case atStart => exact ⟨0, Nat.zero_le _, rfl, v3, (by rw [show hisB X.h 0 = [] from rfl, List.append_nil]; exact HPS3.out), HWR3.out⟩
 case round =>
  obtain ⟨k, hk, rfl, HI⟩ := hrel
  clear HPS3 HWR3
  obtain ⟨vk, hpsk, hwrk⟩ := HI.out
  have HPSK := Lib.hid hpsk
  have HWRK := Lib.hid hwrk
  clear HI
  by_cases hk32 : k < 32
  ·have hidx : ∀ W, (Instr.index 60 (.agg (highsL X).toArray) (.int .i64 (k : Int))).run Tryz.prog W = .ok (.int .u64 ((X.h k : Nat) : Int)) W := fun W => run_index32 _ k _ hk32 (by rw [List.getElem?_toArray]; exact highsL_get X hk32) W
   have hHL := hisB_len X.h HX.out.2.2.2 k hk
   clear hpsk hwrk
   go_wp2_with fail
   refine (HU.out vk wr _ (X.h k) (HX.out.2.2.2 k hk32) HPSK.out (by have := HLN.out; simp only [List.length_append]; omega)).mono ?_
   rintro _ w5 ⟨rfl, hp5⟩
   obtain ⟨v5, hps5, hwr5⟩ := HPSK.out.puts hp5
   have HI5 : Hid (∃ v', PS w5 g p X A c M v' (l ++ leb X.n ++ leb X.a ++ leb X.v ++ hisB X.h (k + 1)) ∧ Wrote w w5 g v.ownBlock v'.ownBlock) := by
    refine ⟨v5, ?_, HWRK.out.trans hwr5⟩
    rw [show hisB X.h (k + 1) = hisB X.h k ++ leb (X.h k) from rfl, ← List.append_assoc]
    exact hps5
   clear hp5 hps5 hwr5 hHL
   go_wp2
   go_roundw
   case rel => exact ⟨k + 1, by omega, by go_num, HI5.out⟩
   case measure => simp [intOf]; omega
  ·obtain rfl : k = 32 := by omega
   obtain ⟨-, -, -, -, c35⟩ := hpsk.bs.cell
   rw [← HNM.out] at c35
   have hnm64 : nm < 18446744073709551616 := by rw [HNM.out]; omega
   have hcv : IntKind.u64.wrap (nm : Int) = (nm : Int) := by rw [IntKind.wrap_u64]; omega
   have hu := HU.out vk wr _ nm hnm64 HPSK.out (by have := HLN.out; simp only [List.length_append]; omega)
   have HU1 := Lib.hid hu
   clear hpsk hwrk hu
   go_wp2_with fail
   refine HU1.out.mono ?_
   rintro _ w6 ⟨rfl, hp6⟩
   obtain ⟨v6, hps6, hwr6⟩ := HPSK.out.puts hp6
   obtain ⟨-, -, -, -, c35⟩ := hps6.bs.cell
   rw [← HNM.out] at c35
   have hm6 : nm ≤ 100000 := by rw [HNM.out]; exact hm
   obtain ⟨B4, hB4⟩ : ∃ z, z = l ++ leb X.n ++ leb X.a ++ leb X.v ++ hisB X.h 32 ++ leb nm := ⟨_, rfl⟩
   rw [← hB4] at hps6
   have hB4l : B4.length + (entsB M).length ≤ 1000000 := by
    rw [hB4, HNM.out]
    have := HLN.out
    simp only [List.length_append]
    omega
   have HPS6 := Lib.hid hps6
   have HWR6 := Lib.hid (HWRK.out.trans hwr6)
   have HB4 := Lib.hid hB4
   have HB4L := Lib.hid hB4l
   clear hp6 hps6 hwr6 HPSK HWRK HU1 hcv hnm64 hB4 hB4l
   go_upto_region 11 with fail
   clear c35
   go_loopw [38] (fun iv wx => ∃ k : Nat, k ≤ nm ∧ iv = .int .i64 k ∧ Hid (∃ v', PS wx g p X A c M v' (B4 ++ entsB (M.take k)) ∧ Wrote w wx g v.ownBlock v'.ownBlock)) (fun iv _ => nm - (intOf iv).toNat)
   case atStart => exact ⟨0, Nat.zero_le _, rfl, v6, (by rw [show entsB (M.take 0) = [] from rfl, List.append_nil]; exact HPS6.out), HWR6.out⟩
   case round =>
    obtain ⟨k, hk, rfl, HI⟩ := hrel
    clear HPS6 HWR6
    obtain ⟨vk, hpsk, hwrk⟩ := HI.out
    have HPSK := Lib.hid hpsk
    have HWRK := Lib.hid hwrk
    clear HI
    by_cases hkn : k < nm
    ·obtain ⟨e, he⟩ : ∃ e, M[k]? = some e := ⟨_, List.getElem?_eq_getElem (by rw [← HNM.out]; exact hkn)⟩
     obtain ⟨hoke, ⟨b, rfl, hbl, hbg, hbr, hrg⟩, hlabe⟩ := hpsk.en k e he
     have hst := entsB_step he
     have htk := entsB_take M (k + 1)
     have HST := Lib.hid hst
     have HTK : Hid ((entsB (M.take k)).length + (leb e.i).length + (itemB e.x).length ≤ (entsB M).length) := by
      rw [hst] at htk
      simp only [List.length_append] at htk
      exact htk
     have HOKE := Lib.hid hoke
     have HRG := Lib.hid hrg
     clear hst htk hoke hrg hbg hbr hlabe hpsk hwrk hbl
     go_upto_region 13 with (first
      | (refine wpList_load_mid rfl _ _ rfl b (k * 14) rfl (entC e) _ HRG.out Tryz.underlying74 rfl Tryz.infoEn ?_)
      | (refine wpList_store_row rfl _ _ _ rfl wr.heap.size (entC e).toArray rfl rfl _ _ (heap_alloc_new _ _) Tryz.infoEn rfl (by simp [Value.oneCell', entC, itC]) ?_)
      | fail)
     obtain ⟨wB, hwB, hcB, hbB, hrB, hlB⟩ := boxE wr #[.int .u64 0, .bool false, .int .u8 0, .int .u64 0, .int .u64 0, .string ⟨#[]⟩, .slice none 0 0, .int .u8 0, .int .u8 0, .int .i64 0, .int .u8 0, .int .u8 0, .int .u64 0, .int .u64 0] e
     rw [← hwB, act_put_no]
     have hpsB := HPSK.out.below hbB
     have HWRB := Lib.hid (HWRK.out.trans (Wrote.of_below hbB g _))
     have d0 : wB.cell? ⟨wr.heap.size, 0, none⟩ = some (.int .u64 e.i) := cell_of_row _ _ 0 _ _ _ hcB
     have hu := HU.out vk wB _ e.i HOKE.out.2.2.2 hpsB (by have := HB4L.out; have := HTK.out; simp only [List.length_append]; omega)
     have hpn : some wr.heap.size ≠ vk.ownBlock := fun e => by have := HPSK.out.wt.row_lt e.symm; omega
     have hpg : wr.heap.size ≠ g := by have := HPSK.out.wt.lt; omega
     obtain ⟨pb, hpb⟩ : ∃ z, z = wr.heap.size := ⟨_, rfl⟩
     rw [← hpb] at d0 hcB hlB hpn hpg hrB ⊢
     have HPSB := Lib.hid hpsB
     have HU1 := Lib.hid hu
     have HPB := Lib.hid (⟨hpn, hpg, hlB⟩ : _ ∧ _ ∧ _)
     have HRB := Lib.hid hrB
     clear hwB hcB hbB hpsB hu hpb hpn hpg hlB hrB HPSK HWRK
     go_wp2_with fail
     refine HU1.out.mono ?_
     rintro _ wC ⟨rfl, hpC⟩
     obtain ⟨vC, hpsC, hwrC⟩ := HPSB.out.puts hpC
     have hrC : wC.rangeAt pb 1 (itC e.x e.A e.c) := fun j u hj => (hwrC.cell (p := ⟨pb, 1 + j, none⟩) HPB.out.2.2 HPB.out.2.1 HPB.out.1).trans (HRB.out j u hj)
     obtain ⟨-, -, hlabC⟩ := hpsC.en k e he
     have hi := iput_any g vC _ e.x e.A e.x.l.length e.c HOKE.out.1 HOKE.out.2.1 rfl (by have := HOKE.out.2.2.1; omega) wC hpsC.wt (by have := HB4L.out; have := HTK.out; simp only [List.length_append]; omega) hlabC
     have HPSC := Lib.hid hpsC
     have HWRC := Lib.hid (HWRB.out.trans hwrC)
     have HI1 := Lib.hid hi
     have HRC := Lib.hid hrC
     clear hpC hpsC hwrC hlabC hi hrC HPSB HWRB HU1 HRB d0
     go_wp2_with (first
      | (refine wpList_load_mid rfl _ _ rfl pb 1 rfl (itC e.x e.A e.c) _ HRC.out Tryz.underlying47 rfl Tryz.infoIt ?_)
      | fail)
     refine HI1.out.mono ?_
     rintro _ wD ⟨rfl, hpD⟩
     obtain ⟨vD, hpsD, hwrD⟩ := HPSC.out.puts hpD
     have HI5 : Hid (∃ v', PS wD g p X (some ⟨b, 0, none⟩) c M v' (B4 ++ entsB (M.take (k + 1))) ∧ Wrote w wD g v.ownBlock v'.ownBlock) := by
      refine ⟨vD, ?_, HWRC.out.trans hwrD⟩
      rw [HST.out]
      simp only [List.append_assoc] at hpsD ⊢
      exact hpsD
     clear hpD hpsD hwrD HPSC HWRC HI1 HRC
     go_wp2
     go_roundw
     case rel => exact ⟨k + 1, by omega, by go_num, HI5.out⟩
     case measure => simp [intOf]; omega
    ·obtain rfl : k = nm := by omega
     clear hpsk hwrk
     go_wp2
     go_end0
     have h9 := HPSK.out
     rw [HNM.out, List.take_length, HB4.out, HNM.out] at h9
     refine ⟨rfl, vk, ?_, HWRK.out⟩
     have h10 := h9.wt
     simp only [List.append_assoc] at h10
     unfold baseB
     simp only [List.append_assoc]
     exact h10
end Go.Proofs.YtholdcgkhicdmaaGreatDoor