/- Several texts in one: ItTkE, ItTake, StRd. -/
import Derived.Test.YtholdcgkhicdmaaGreatDoorZq27
import Derived.Test.YtholdcgkhicdmaaGreatDoorZq32
namespace Go.Proofs.YtholdcgkhicdmaaGreatDoor
open Go.RowKit
theorem Tryz.infoEv : (Tryz.prog.info? 41).map (·.size) = some 9 := by kernel_rfl
def EvRet (x : It) (s : St) (g : Nat) (w : World) (e : Ending) (w' : World) : Prop :=
 ∃ A n c, e = .returned (.agg #[.int .u8 x.o, .int .u64 x.q, .int .u64 x.t, .string x.r, .slice A n c, .int .u8 x.s, .int .u8 x.p, .int .i64 x.v, .int .u8 x.w]) ∧ n = x.l.length ∧ w'.ownsRow w.heap.size 37 2 (.slice A n c) n (cellsP x.l) ∧ RdT w' g s ∧ w.grownBy w' (some g)
theorem own_far {w w' : World} {base g size n : Nat} {e : TypeId} {v : Value} {xs : List Value} (h : w.ownsRow base e size v n xs) (hg : w.grownBy w' (some g)) (hgl : g < base) : w'.ownsRow base e size v n xs := by
 refine h.kept hg ?_
 cases hv : v.ownBlock with
 | none => exact .inl rfl
 | some k => exact .inr (fun e => by have := (h.lt k hv).1; cases e; omega)
set_option maxRecDepth 100000 in
set_option maxHeartbeats 2000000 in
theorem takeEvent_any (g : Nat) (s : St) (w : World) (h : RdT w g s) :
  Calls Tryz.prog 178 #[.pointer (some ⟨g, 0, none⟩)] w (EvRet (evR 12 8 8 16 s).1 (evR 12 8 8 16 s).2 g w) := by
 obtain ⟨o, s1, h1⟩ : ∃ z z2, rByte s = (z, z2) := ⟨_, _, rfl⟩
 obtain ⟨q, s2, h2⟩ : ∃ z z2, rU s1 = (z, z2) := ⟨_, _, rfl⟩
 obtain ⟨t, s3, h3⟩ : ∃ z z2, rU s2 = (z, z2) := ⟨_, _, rfl⟩
 obtain ⟨r, s4, h4⟩ : ∃ z z2, rT 12 s3 = (z, z2) := ⟨_, _, rfl⟩
 obtain ⟨l, s5, h5⟩ : ∃ z z2, rLabs 8 8 16 s4 = (z, z2) := ⟨_, _, rfl⟩
 obtain ⟨st, s6, h6⟩ : ∃ z z2, rByte s5 = (z, z2) := ⟨_, _, rfl⟩
 obtain ⟨p, s7, h7⟩ : ∃ z z2, rByte s6 = (z, z2) := ⟨_, _, rfl⟩
 obtain ⟨v, s8, h8⟩ : ∃ z z2, rI s7 = (z, z2) := ⟨_, _, rfl⟩
 obtain ⟨ow, s9, h9⟩ : ∃ z z2, rByte s8 = (z, z2) := ⟨_, _, rfl⟩
 have hE : evR 12 8 8 16 s = (⟨false, o, q, t, r, l, st, p, v, ow, 0, 0, 0⟩, s9) := by simp [evR, bnd, h1, h2, h3, h4, h5, h6, h7, h8, h9, ret]
 rw [hE]
 have t1 := fun W H => tk_byte g s W H
 rw [h1] at t1
 have HT1 := Lib.hid t1
 have t2 := fun W H => tk_uint g s1 W H
 rw [h2] at t2
 have HT2 := Lib.hid t2
 have t3 := fun W H => tk_uint g s2 W H
 rw [h3] at t3
 have HT3 := Lib.hid t3
 have t4 := fun W H => tk_text12 g s3 W H
 rw [h4] at t4
 have HT4 := Lib.hid t4
 have t5 := fun W H => takeLabels_any g s4 W H
 rw [h5] at t5
 have HT5 := Lib.hid t5
 have t6 := fun W H => tk_byte g s5 W H
 rw [h6] at t6
 have HT6 := Lib.hid t6
 have t7 := fun W H => tk_byte g s6 W H
 rw [h7] at t7
 have HT7 := Lib.hid t7
 have t8 := fun W H => tk_int g s7 W H
 rw [h8] at t8
 have HT8 := Lib.hid t8
 have t9 := fun W H => tk_byte g s8 W H
 rw [h9] at t9
 have HT9 := Lib.hid t9
 obtain ⟨W, hW⟩ : ∃ W, W = w.alloc (.cells #[.int .u8 0, .int .u64 0, .int .u64 0, .string ⟨#[]⟩, .slice none 0 0, .int .u8 0, .int .u8 0, .int .i64 0, .int .u8 0] 41) := ⟨_, rfl⟩
 have hb : Below w.heap.size w W := by rw [hW]; exact (Below.refl _ _).alloc (Nat.le_refl _) _
 have hc : W.heap[w.heap.size]? = some (.cells #[.int .u8 0, .int .u64 0, .int .u64 0, .string ⟨#[]⟩, .slice none 0 0, .int .u8 0, .int .u8 0, .int .i64 0, .int .u8 0] 41 (0, 0)) := by rw [hW]; exact heap_alloc_new _ _
 have hl : w.heap.size < W.heap.size := by rw [hW]; simp
 have hgl := h.lt
 have HW := Lib.hid hW
 have HC := Lib.hid hc
 have HG0 := Lib.hid (grown_below0 hb (some g))
 have HR0 := Lib.hid (h.below hb)
 have HL := Lib.hid hl
 clear hW hb hc h hE hl h1 h2 h3 h4 h5 h6 h7 h8 h9 t1 t2 t3 t4 t5 t6 t7 t8 t9
 go_enter Tryz.func178, Tryz.ntmps178
 go_upto_region 1 with fail
 rw [← HW.out]
 obtain ⟨w0, hw0⟩ : ∃ V, W = V := ⟨_, rfl⟩
 rw [hw0] at HC HG0 HR0 HL HW ⊢
 clear hw0
 have HE0 := Lib.hid (World.grownBy.refl w0 (some g))
 go_wp2_with fail
 refine (HT1.out w0 HR0.out).mono ?_
 rintro e w1 ⟨rfl, hr, hg⟩
 have HR1 := Lib.hid hr
 have HE1 := Lib.hid (grownBy_trans HE0.out hg)
 clear hr hg HE0 HR0 HT1
 go_wp2_with fail
 refine (HT2.out w1 HR1.out).mono ?_
 rintro e w2 ⟨rfl, hr, hg⟩
 have HR2 := Lib.hid hr
 have HE2 := Lib.hid (grownBy_trans HE1.out hg)
 clear hr hg HE1 HR1 HT2
 go_wp2_with fail
 refine (HT3.out w2 HR2.out).mono ?_
 rintro e w3 ⟨rfl, hr, hg⟩
 have HR3 := Lib.hid hr
 have HE3 := Lib.hid (grownBy_trans HE2.out hg)
 clear hr hg HE2 HR2 HT3
 go_wp2_with fail
 refine (HT4.out w3 HR3.out).mono ?_
 rintro e w4 ⟨rfl, hr, hg⟩
 have HR4 := Lib.hid hr
 have HE4 := Lib.hid (grownBy_trans HE3.out hg)
 clear hr hg HE3 HR3 HT4
 go_wp2_with fail
 refine (HT5.out w4 HR4.out).mono ?_
 rintro e w5 ⟨A, n, c, rfl, hn, ho, hr, hg⟩
 have HN := Lib.hid hn
 have HO5 := Lib.hid ho
 have hsb : Hid (g < w4.heap.size ∧ w.heap.size < w4.heap.size) := ⟨HR4.out.lt, Nat.lt_of_lt_of_le HL.out HE4.out.size⟩
 have HR5 := Lib.hid hr
 have HE5 := Lib.hid (grownBy_trans HE4.out hg)
 clear hr hg hn ho HE4 HR4 HT5
 go_wp2_with fail
 refine (HT6.out w5 HR5.out).mono ?_
 rintro e w6 ⟨rfl, hr, hg⟩
 have HR6 := Lib.hid hr
 have HE6 := Lib.hid (grownBy_trans HE5.out hg)
 have HO6 := Lib.hid (own_far HO5.out hg hsb.out.1)
 clear hr hg HE5 HR5 HT6 HO5
 go_wp2_with fail
 refine (HT7.out w6 HR6.out).mono ?_
 rintro e w7 ⟨rfl, hr, hg⟩
 have HR7 := Lib.hid hr
 have HE7 := Lib.hid (grownBy_trans HE6.out hg)
 have HO7 := Lib.hid (own_far HO6.out hg hsb.out.1)
 clear hr hg HE6 HR6 HT7 HO6
 go_wp2_with fail
 refine (HT8.out w7 HR7.out).mono ?_
 rintro e w8 ⟨rfl, hr, hg⟩
 have HR8 := Lib.hid hr
 have HE8 := Lib.hid (grownBy_trans HE7.out hg)
 have HO8 := Lib.hid (own_far HO7.out hg hsb.out.1)
 clear hr hg HE7 HR7 HT8 HO7
 go_wp2_with fail
 refine (HT9.out w8 HR8.out).mono ?_
 rintro e w9 ⟨rfl, hr, hg⟩
 have HR9 := Lib.hid hr
 have HE9 := Lib.hid (grownBy_trans HE8.out hg)
 have HO9 := Lib.hid (own_far HO8.out hg hsb.out.1)
 clear hr hg HE8 HR8 HT9 HO8
 have HC9 := Lib.hid ((HE9.out.block w.heap.size HL.out (by simp; omega)).trans HC.out)
 go_wp2_with (first | (refine wpList_store_row rfl _ _ _ rfl w.heap.size _ rfl rfl _ _ HC9.out Tryz.infoEv rfl (by simp [Value.oneCell']) ?_) | fail)
 refine bodyPost_ret (v := .agg #[.int .u8 (o : Nat), .int .u64 (q : Nat), .int .u64 (t : Nat), .string r, .slice A n c, .int .u8 (st : Nat), .int .u8 (p : Nat), .int .i64 v, .int .u8 (ow : Nat)]) ?_ rfl ⟨A, n, c, rfl, HN.out, ?_, ?_, ?_⟩
 ·exact results_cell_row rfl _ _ w.heap.size _ _ _ _ rfl (setRow_heap _ _ _ _ _ _ HC9.out) Tryz.underlying41 rfl (by kernel_rfl)
 ·exact ownB_mono (own_setRow HO9.out hsb.out.2 _) (Nat.le_of_lt hsb.out.2)
 ·exact HR9.out.setRow hgl _
 ·exact grown_setRow (grownBy_trans HG0.out HE9.out) (Nat.le_refl _) _
theorem rLabs_len (mc mk mv : Nat) (s : St) : (rLabs mc mk mv s).1.length ≤ mc := by
 show (rL mk mv (rC mc s).1 (rC mc s).2).1.length ≤ mc
 rw [rL_len]; exact rC_le mc s
theorem evR_len (mr mc mk mv : Nat) (s : St) : (evR mr mc mk mv s).1.l.length ≤ mc := rLabs_len mc mk mv _
def TkRet (x : It) (s : St) (g : Nat) (w : World) (e : Ending) (w' : World) : Prop :=
 ∃ A n c, e = .returned (.agg #[.bool x.g, .int .u8 x.o, .int .u64 x.q, .int .u64 x.t, .string x.r, .slice A n c, .int .u8 x.s, .int .u8 x.p, .int .i64 x.v, .int .u8 x.w, .int .u8 x.ga, .int .u64 x.gf, .int .u64 x.gt]) ∧ n = x.l.length ∧ w'.ownsRow w.heap.size 37 2 (.slice A n c) n (cellsP x.l) ∧ RdT w' g s ∧ w.grownBy w' (some g)
theorem act_put_none (a : Act) (v : Value) : a.put none v = a := rfl
theorem there_row {w : World} {b o n : Nat} {C : Array Value} {t : TypeId} (h : w.heap[b]? = some (.cells C t (0, 0))) (hn : o + n ≤ C.size) : w.there b o n := fun j hj =>
 ⟨by rw [cell_of_row w b (o + j) C t _ h, Array.getElem?_eq_getElem (by omega)]; rfl, frozen_of_row w b (o + j) C t h⟩
set_option maxRecDepth 100000 in
set_option maxHeartbeats 4000000 in
theorem take_any (g : Nat) (s : St) (w : World) (h : RdT w g s) :
  Calls Tryz.prog 147 #[.pointer (some ⟨g, 0, none⟩)] w (TkRet (takeR s).1 (takeR s).2 g w) := by
 obtain ⟨b, s1, h1⟩ : ∃ b s1, rB s = (b, s1) := ⟨_, _, rfl⟩
 obtain ⟨y, s2, h2⟩ : ∃ y s2, (if b then gapR else evR 12 8 8 16) s1 = (y, s2) := ⟨_, _, rfl⟩
 have hT : takeR s = chkR y s2 := by simp only [takeR, itR, bnd, h1, h2]
 have hlen : y.l.length ≤ 8 := by
  have h3 : ((if b then gapR else evR 12 8 8 16) s1).1.l.length ≤ 8 := by
   cases b
   ·exact evR_len 12 8 8 16 s1
   ·exact Nat.zero_le _
  rw [h2] at h3; exact h3
 rw [hT]
 have t1 := tk_bool g s
 rw [h1] at t1
 have HT1 := Lib.hid t1
 obtain ⟨W, hW⟩ : ∃ W, W = w.alloc (.cells #[.bool false, .int .u8 0, .int .u64 0, .int .u64 0, .string ⟨#[]⟩, .slice none 0 0, .int .u8 0, .int .u8 0, .int .i64 0, .int .u8 0, .int .u8 0, .int .u64 0, .int .u64 0] 47) := ⟨_, rfl⟩
 have hb : Below w.heap.size w W := by rw [hW]; exact (Below.refl _ _).alloc (Nat.le_refl _) _
 have hc : W.heap[w.heap.size]? = some (.cells #[.bool false, .int .u8 0, .int .u64 0, .int .u64 0, .string ⟨#[]⟩, .slice none 0 0, .int .u8 0, .int .u8 0, .int .i64 0, .int .u8 0, .int .u8 0, .int .u64 0, .int .u64 0] 47 (0, 0)) := by rw [hW]; exact heap_alloc_new _ _
 have hl : w.heap.size < W.heap.size := by rw [hW]; simp
 have hgl := h.lt
 have HW := Lib.hid hW
 have HC := Lib.hid hc
 have HG0 := Lib.hid (grown_below0 hb (some g))
 have HR0 := Lib.hid (h.below hb)
 have HL := Lib.hid hl
 have H2 := Lib.hid h2
 have HLen := Lib.hid hlen
 clear hW hb hc h hl h1 h2 hT t1 hlen
 go_enter Tryz.func147, Tryz.ntmps147
 go_upto_region 1 with fail
 rw [← HW.out]
 go_wp2_with fail
 refine (HT1.out W HR0.out).mono ?_
 rintro e w1 ⟨rfl, hr, hg⟩
 have HR1 := Lib.hid hr
 have HG1 := Lib.hid (grownBy_trans HG0.out hg)
 have HC1 := Lib.hid ((hg.block w.heap.size HL.out (by simp; omega)).trans HC.out)
 have HS1 : Hid (w.heap.size < w1.heap.size) := Nat.lt_of_lt_of_le HL.out hg.size
 clear hr hg HC HG0 HR0 HT1 HL HW
 go_upto_region 2 with (first | (refine wpList_store_row rfl _ _ _ rfl w1.heap.size _ rfl rfl _ _ (heap_alloc_new _ _) Tryz.infoI rfl (by simp [Value.oneCell']) ?_) | fail)
 obtain ⟨w2, hw2⟩ : ∃ V, V = (w1.alloc (.cells #[.bool false, .int .u8 0, .int .u64 0, .int .u64 0, .string ⟨#[]⟩, .slice none 0 0, .int .u8 0, .int .u8 0, .int .i64 0, .int .u8 0, .int .u8 0, .int .u64 0, .int .u64 0] 47)).setRow w1.heap.size #[.bool b, .int .u8 0, .int .u64 0, .int .u64 0, .string ⟨#[]⟩, .slice none 0 0, .int .u8 0, .int .u8 0, .int .i64 0, .int .u8 0, .int .u8 0, .int .u64 0, .int .u64 0] := ⟨_, rfl⟩
 rw [← hw2, act_put_none]
 have hX : w2.heap[w1.heap.size]? = some (.cells #[.bool b, .int .u8 0, .int .u64 0, .int .u64 0, .string ⟨#[]⟩, .slice none 0 0, .int .u8 0, .int .u8 0, .int .i64 0, .int .u8 0, .int .u8 0, .int .u64 0, .int .u64 0] 47 (0, 0)) := by rw [hw2]; exact setRow_heap _ _ _ _ _ _ (heap_alloc_new _ _)
 have hb2 : Below w1.heap.size w1 w2 := by rw [hw2]; exact below_setRow ((Below.refl _ _).alloc (Nat.le_refl _) _) (Nat.le_refl _) _
 have hX2 : w1.heap.size < w2.heap.size := (Array.getElem?_eq_some_iff.1 hX).1
 have HR2 := Lib.hid (HR1.out.below hb2)
 have HG2 := Lib.hid (grownBy_trans HG1.out (grown_below0 hb2 _))
 have HC2 := Lib.hid ((hb2.block w.heap.size HS1.out).trans HC1.out)
 obtain ⟨X, hXe⟩ : ∃ X, w1.heap.size = X := ⟨_, rfl⟩
 have HSX := HS1.out
 rw [hXe] at hX hX2 HSX ⊢
 have HX := Lib.hid hX
 have HX2 := Lib.hid hX2
 have HSx := Lib.hid HSX
 have c0 : w2.cell? ⟨X, 0, none⟩ = some (.bool b) := cell_of_row _ _ 0 _ _ _ hX
 clear hw2 hb2 hX2 hXe HSX HR1 HG1 HC1 HS1 hX
 go_upto_if 8 with fail
 clear c0
 go_cut [] from 9 to 14 (fun wx => ∃ A n c, wx.heap[X]? = some (.cells #[.bool y.g, .int .u8 y.o, .int .u64 y.q, .int .u64 y.t, .string y.r, .slice A n c, .int .u8 y.s, .int .u8 y.p, .int .i64 y.v, .int .u8 y.w, .int .u8 y.ga, .int .u64 y.gf, .int .u64 y.gt] 47 (0, 0)) ∧ n = y.l.length ∧ wx.ownsRow w2.heap.size 37 2 (.slice A n c) n (cellsP y.l) ∧ RdT wx g s2 ∧ w.grownBy wx (some g) ∧ wx.heap[w.heap.size]? = some (.cells #[.bool false, .int .u8 0, .int .u64 0, .int .u64 0, .string ⟨#[]⟩, .slice none 0 0, .int .u8 0, .int .u8 0, .int .i64 0, .int .u8 0, .int .u8 0, .int .u64 0, .int .u64 0] 47 (0, 0)) ∧ w2.heap.size ≤ wx.heap.size)
 case first =>
  cases b
  case' true =>
   have hy : gapR s1 = (y, s2) := H2.out
   have t2 := takeGap_any g s1 w2 HR2.out
   have hy1 : (gapR s1).1 = y := by rw [hy]
   have hy2 : (gapR s1).2 = s2 := by rw [hy]
   rw [hy2] at t2
   have HT2 := Lib.hid t2
   have HY1 := Lib.hid hy1
   clear t2 hy hy1 hy2 H2
   go_wp2_with fail
   refine HT2.out.mono ?_
   rintro e w3 ⟨rfl, hr, hg⟩
   have HX3 := Lib.hid ((hg.block X HX2.out (by have := HSx.out; simp; omega)).trans HX.out)
   have hth := there_row (o := 10) (n := 3) HX3.out (by decide)
   go_wp2_with (first | (refine wpList_store_mid rfl _ _ _ rfl X 10 _ rfl rfl hth Tryz.infoGap (by simp [Value.oneCell']) ?_) | fail)
   go_meet
   have k1 := heap_setCell_same _ X 10 _ _ (.int .u8 ((gapR s1).1.ga : Nat)) HX3.out
   have k2 := heap_setCell_same _ X 11 _ _ (.int .u64 ((gapR s1).1.gf : Nat)) k1
   have k3 := heap_setCell_same _ X 12 _ _ (.int .u64 ((gapR s1).1.gt : Nat)) k2
   have hsz := hg.size
   have hlx := HX2.out
   have hsx := HSx.out
   refine ⟨none, 0, 0, ?_, ?_, ?_, ?_, ?_, ?_, ?_⟩
   ·rw [← HY1.out]; exact k3
   ·rw [← HY1.out]; rfl
   ·rw [← HY1.out]; exact World.ownsRow_nil _ _ _ _
   ·exact ((hr.setCell (by omega) _).setCell (by omega) _).setCell (by omega) _
   ·exact grown_fresh (grown_fresh (grown_fresh (grownBy_trans HG2.out hg) (grown_set _ X 10 _) (fun k e => by cases e; omega)) (grown_set _ X 11 _) (fun k e => by cases e; omega)) (grown_set _ X 12 _) (fun k e => by cases e; omega)
   ·exact (heap_setCell_other _ _ _ _ (by simp; omega)).trans ((heap_setCell_other _ _ _ _ (by simp; omega)).trans ((heap_setCell_other _ _ _ _ (by simp; omega)).trans ((hg.block w.heap.size (by omega) (by simp; omega)).trans HC2.out)))
   ·show w2.heap.size ≤ (((w3.setCell _ _).setCell _ _).setCell _ _).heap.size
    simpa using hsz
  case' false =>
   have hy : evR 12 8 8 16 s1 = (y, s2) := H2.out
   have t2 := takeEvent_any g s1 w2 HR2.out
   have hy1 : (evR 12 8 8 16 s1).1 = y := by rw [hy]
   have hy2 : (evR 12 8 8 16 s1).2 = s2 := by rw [hy]
   have hy3 : y.g = false ∧ y.ga = 0 ∧ y.gf = 0 ∧ y.gt = 0 := by rw [← hy1]; exact ⟨rfl, rfl, rfl, rfl⟩
   rw [hy1, hy2] at t2
   have HT2 := Lib.hid t2
   have HY3 := Lib.hid hy3
   clear t2 hy hy1 hy2 H2 hy3
   go_wp2_with fail
   refine HT2.out.mono ?_
   rintro e w3 ⟨A, n, c, rfl, hn, ho, hr, hg⟩
   have HX3 := Lib.hid ((hg.block X HX2.out (by have := HSx.out; simp; omega)).trans HX.out)
   have hth := there_row (o := 1) (n := 9) HX3.out (by decide)
   have HN := Lib.hid hn
   clear hn
   go_wp2_with (first | (refine wpList_store_mid rfl _ _ _ rfl X 1 _ rfl rfl hth Tryz.infoEv (by simp [Value.oneCell']) ?_) | fail)
   go_meet
   have k1 := heap_setCell_same _ X 1 _ _ (.int .u8 (y.o : Nat)) HX3.out
   have k2 := heap_setCell_same _ X 2 _ _ (.int .u64 (y.q : Nat)) k1
   have k3 := heap_setCell_same _ X 3 _ _ (.int .u64 (y.t : Nat)) k2
   have k4 := heap_setCell_same _ X 4 _ _ (.string y.r) k3
   have k5 := heap_setCell_same _ X 5 _ _ (.slice A n c) k4
   have k6 := heap_setCell_same _ X 6 _ _ (.int .u8 (y.s : Nat)) k5
   have k7 := heap_setCell_same _ X 7 _ _ (.int .u8 (y.p : Nat)) k6
   have k8 := heap_setCell_same _ X 8 _ _ (.int .i64 y.v) k7
   have k9 := heap_setCell_same _ X 9 _ _ (.int .u8 (y.w : Nat)) k8
   have hsz := hg.size
   have hlx := HX2.out
   have hsx := HSx.out
   refine ⟨A, n, c, ?_, HN.out, ?_, ?_, ?_, ?_, ?_⟩
   ·rw [HY3.out.1, HY3.out.2.1, HY3.out.2.2.1, HY3.out.2.2.2]; exact k9
   ·exact ownsRow_setCell_below (ownsRow_setCell_below (ownsRow_setCell_below (ownsRow_setCell_below (ownsRow_setCell_below (ownsRow_setCell_below (ownsRow_setCell_below (ownsRow_setCell_below (ownsRow_setCell_below (ho) (a := ⟨X, 1, none⟩) hlx _) (a := ⟨X, 2, none⟩) hlx _) (a := ⟨X, 3, none⟩) hlx _) (a := ⟨X, 4, none⟩) hlx _) (a := ⟨X, 5, none⟩) hlx _) (a := ⟨X, 6, none⟩) hlx _) (a := ⟨X, 7, none⟩) hlx _) (a := ⟨X, 8, none⟩) hlx _) (a := ⟨X, 9, none⟩) hlx _
   ·exact (((((((((hr).setCell (by omega) _).setCell (by omega) _).setCell (by omega) _).setCell (by omega) _).setCell (by omega) _).setCell (by omega) _).setCell (by omega) _).setCell (by omega) _).setCell (by omega) _
   ·exact grown_fresh (grown_fresh (grown_fresh (grown_fresh (grown_fresh (grown_fresh (grown_fresh (grown_fresh (grown_fresh (grownBy_trans HG2.out hg) (grown_set _ X 1 _) (fun k e => by cases e; omega)) (grown_set _ X 2 _) (fun k e => by cases e; omega)) (grown_set _ X 3 _) (fun k e => by cases e; omega)) (grown_set _ X 4 _) (fun k e => by cases e; omega)) (grown_set _ X 5 _) (fun k e => by cases e; omega)) (grown_set _ X 6 _) (fun k e => by cases e; omega)) (grown_set _ X 7 _) (fun k e => by cases e; omega)) (grown_set _ X 8 _) (fun k e => by cases e; omega)) (grown_set _ X 9 _) (fun k e => by cases e; omega)
   ·exact (heap_setCell_other _ _ _ _ (by simp; omega)).trans ((heap_setCell_other _ _ _ _ (by simp; omega)).trans ((heap_setCell_other _ _ _ _ (by simp; omega)).trans ((heap_setCell_other _ _ _ _ (by simp; omega)).trans ((heap_setCell_other _ _ _ _ (by simp; omega)).trans ((heap_setCell_other _ _ _ _ (by simp; omega)).trans ((heap_setCell_other _ _ _ _ (by simp; omega)).trans ((heap_setCell_other _ _ _ _ (by simp; omega)).trans ((heap_setCell_other _ _ _ _ (by simp; omega)).trans ((hg.block w.heap.size (by omega) (by simp; omega)).trans HC2.out)))))))))
   ·show w2.heap.size ≤ (World.setCells w3 X 1 _).heap.size
    simp only [World.setCells, World.size_setCell]
    exact hsz
 case rest =>
  obtain ⟨A, n, c, hX, hn, ho, hr, hg, hc, hsz⟩ := hcut
  have HX3 := Lib.hid hX
  have HN := Lib.hid hn
  have HO := Lib.hid ho
  have HR := Lib.hid hr
  have HG := Lib.hid hg
  have HC := Lib.hid hc
  have hn8 : n ≤ maxLen := by have := HLen.out; unfold maxLen; omega
  have t3 := itemCheck_any y A n c wc hn hn8 (RdP.of_own ho)
  have HT3 := Lib.hid t3
  have hbx : X < wc.heap.size := Nat.lt_of_lt_of_le HX2.out hsz
  have HBX := Lib.hid hbx
  clear hX hn ho hr hg hc t3 HX HC2 HG2 HR2 H2 hn8 hbx hsz
  go_wp2_with (first | (refine wpList_load_row rfl _ _ rfl X rfl _ _ _ _ HX3.out Tryz.underlying47 rfl (by kernel_rfl) ?_) | fail)
  refine HT3.out.mono ?_
  rintro e w4 ⟨rfl, hb⟩
  have HX4 := Lib.hid ((hb.block X HBX.out).trans HX3.out)
  have HO4 := Lib.hid (own_below HO.out hb)
  have HR4 := Lib.hid (HR.out.below hb)
  have HG4 := Lib.hid (grownBy_trans HG.out (grown_below0 hb _))
  have HC4 := Lib.hid ((hb.block w.heap.size (by have := HBX.out; have := HSx.out; omega)).trans HC.out)
  clear HX3 HO HR HG HC HT3 hb HBX
  obtain ⟨l2, er⟩ := s2
  by_cases he : er = 0
  ·subst he
   by_cases hi : itemN y = 0
   ·have HF := Lib.hid (rfail_keep g l2 0 (itemN y : Nat) (.inr (by rw [hi]; rfl)) w4 HR4.out)
    have HE := Lib.hid (rerr_any g l2 0 w4 HR4.out)
    have HCk : Hid (chkR y (l2, 0) = (y, (l2, 0))) := by show _ = _; simp [chkR, hi]
    clear hi
    go_wp2_with fail
    refine HF.out.mono ?_
    rintro e w5 ⟨rfl, rfl⟩
    go_wp2_with fail
    refine HE.out.mono ?_
    rintro e w5 ⟨rfl, rfl⟩
    go_wp2_with (first
     | (refine wpList_load_row rfl _ _ rfl X rfl _ _ _ _ HX4.out Tryz.underlying47 rfl (by kernel_rfl) ?_)
     | (refine wpList_store_row rfl _ _ _ rfl w.heap.size _ rfl rfl _ _ HC4.out Tryz.infoI rfl (by simp [Value.oneCell']) ?_)
     | fail)
    refine bodyPost_ret (v := .agg #[.bool y.g, .int .u8 y.o, .int .u64 y.q, .int .u64 y.t, .string y.r, .slice A n c, .int .u8 y.s, .int .u8 y.p, .int .i64 y.v, .int .u8 y.w, .int .u8 y.ga, .int .u64 y.gf, .int .u64 y.gt]) ?_ rfl ⟨A, n, c, ?_, ?_, ?_, ?_, ?_⟩
    ·exact results_cell_row rfl _ _ w.heap.size _ _ _ _ rfl (setRow_heap _ _ _ _ _ _ HC4.out) Tryz.underlying47 rfl (by kernel_rfl)
    ·rw [HCk.out]
    ·rw [HCk.out]; exact HN.out
    ·rw [HCk.out]; exact ownB_mono (own_setRow HO4.out (by have := HX2.out; have := HSx.out; omega) _) (by have := HX2.out; have := HSx.out; omega)
    ·rw [HCk.out]; exact HR4.out.setRow hgl _
    ·exact grown_setRow HG4.out (Nat.le_refl _) _
   ·have HF := Lib.hid (rfail_set g l2 (itemN y : Nat) (by omega) w4 HR4.out)
    have HCk : Hid (chkR y (l2, 0) = (zeroI, ([], itemN y))) := by show _ = _; simp [chkR, hi]
    have hq : ((itemN y : Int) != 0) = true := by rw [bne_iff_ne]; omega
    clear hi
    go_wp2_with fail
    refine HF.out.mono ?_
    rintro e w5 ⟨rfl, hr, hg⟩
    have HE := Lib.hid (rerr_any g [] (itemN y : Nat) w5 hr)
    have HR5 := Lib.hid (show RdT w5 g ([], itemN y) from hr)
    have HG5 := Lib.hid (grownBy_trans HG4.out hg)
    have HC5 := Lib.hid ((hg.block w.heap.size (Array.getElem?_eq_some_iff.1 HC4.out).1 (by simp; omega)).trans HC4.out)
    clear hr hg HR4 HG4 HC4 HF HO4 HX4
    go_wp2_with fail
    refine HE.out.mono ?_
    rintro e w5 ⟨rfl, rfl⟩
    go_wp2_with (first
     | (refine wpList_store_row rfl _ _ _ rfl w.heap.size _ rfl rfl _ _ HC5.out Tryz.infoI rfl (by simp [Value.oneCell']) ?_)
     | fail)
    refine bodyPost_ret (v := .agg #[.bool false, .int .u8 0, .int .u64 0, .int .u64 0, .string ⟨#[]⟩, .slice none 0 0, .int .u8 0, .int .u8 0, .int .i64 0, .int .u8 0, .int .u8 0, .int .u64 0, .int .u64 0]) ?_ rfl ⟨none, 0, 0, ?_, ?_, ?_, ?_, ?_⟩
    ·exact results_cell_row rfl _ _ w.heap.size _ _ _ _ rfl (setRow_heap _ _ _ _ _ _ HC5.out) Tryz.underlying47 rfl (by kernel_rfl)
    ·rw [HCk.out]; rfl
    ·rw [HCk.out]; rfl
    ·rw [HCk.out]; exact World.ownsRow_nil _ _ _ _
    ·rw [HCk.out]; exact HR5.out.setRow hgl _
    ·exact grown_setRow HG5.out (Nat.le_refl _) _
  ·have HF := Lib.hid (rfail_keep g l2 (er : Nat) (itemN y : Nat) (.inl (by omega)) w4 HR4.out)
   have HE := Lib.hid (rerr_any g l2 (er : Nat) w4 HR4.out)
   have HCk : Hid (chkR y (l2, er) = (zeroI, (l2, er))) := by show _ = _; simp [chkR, he]
   have hq : ((er : Int) != 0) = true := by rw [bne_iff_ne]; omega
   clear he
   go_wp2_with fail
   refine HF.out.mono ?_
   rintro e w5 ⟨rfl, rfl⟩
   go_wp2_with fail
   refine HE.out.mono ?_
   rintro e w5 ⟨rfl, rfl⟩
   go_wp2_with (first
    | (refine wpList_store_row rfl _ _ _ rfl w.heap.size _ rfl rfl _ _ HC4.out Tryz.infoI rfl (by simp [Value.oneCell']) ?_)
    | fail)
   refine bodyPost_ret (v := .agg #[.bool false, .int .u8 0, .int .u64 0, .int .u64 0, .string ⟨#[]⟩, .slice none 0 0, .int .u8 0, .int .u8 0, .int .i64 0, .int .u8 0, .int .u8 0, .int .u64 0, .int .u64 0]) ?_ rfl ⟨none, 0, 0, ?_, ?_, ?_, ?_, ?_⟩
   ·exact results_cell_row rfl _ _ w.heap.size _ _ _ _ rfl (setRow_heap _ _ _ _ _ _ HC4.out) Tryz.underlying47 rfl (by kernel_rfl)
   ·rw [HCk.out]; rfl
   ·rw [HCk.out]; rfl
   ·rw [HCk.out]; exact World.ownsRow_nil _ _ _ _
   ·rw [HCk.out]; exact HR4.out.setRow hgl _
   ·exact grown_setRow HG4.out (Nat.le_refl _) _
def nR : Nat → St → List Nat × St
 | 0, s => ([], s)
 | k + 1, s => ((nR k s).1 ++ [(rU (nR k s).2).1], (rU (nR k s).2).2)
theorem nR_len : ∀ (k : Nat) (s : St), (nR k s).1.length = k
 | 0, _ => rfl
 | k + 1, s => by
   show ((nR k s).1 ++ [_]).length = k + 1
   rw [List.length_append, nR_len k s]; rfl
def entsR : Nat → List Ett → St → List Ett × St
 | 0, acc, s => (acc, s)
 | n + 1, acc, s => if s.2 = 0 then entsR n (acc ++ [⟨(rU s).1, (takeR (rU s).2).1, none, 0⟩]) (takeR (rU s).2).2 else (acc, s)
theorem entsR_err {n : Nat} {acc : List Ett} {s : St} (h : s.2 ≠ 0) : entsR n acc s = (acc, s) := by
 cases n with
 | zero => rfl
 | succ n => unfold entsR; rw [if_neg h]
theorem entsR_step {n : Nat} {acc : List Ett} {s : St} (h : s.2 = 0) : entsR (n + 1) acc s = entsR n (acc ++ [⟨(rU s).1, (takeR (rU s).2).1, none, 0⟩]) (takeR (rU s).2).2 := by
 conv => lhs; unfold entsR
 rw [if_pos h]
def failS (z : Nat) (s : St) : St := if s.2 = 0 then ([], z) else s
def firR : Nat → List It → St → List It × St
 | 0, acc, s => (acc, s)
 | n + 1, acc, s => if s.2 = 0 then firR n (acc ++ [(takeR s).1]) (if (takeR s).1.g = true ∨ (takeR s).1.s ≠ 2 then failS 12 (takeR s).2 else (takeR s).2) else (acc, s)
theorem firR_err {n : Nat} {acc : List It} {s : St} (h : s.2 ≠ 0) : firR n acc s = (acc, s) := by
 cases n with
 | zero => rfl
 | succ n => unfold firR; rw [if_neg h]
theorem firR_step {n : Nat} {acc : List It} {s : St} (h : s.2 = 0) : firR (n + 1) acc s = firR n (acc ++ [(takeR s).1]) (if (takeR s).1.g = true ∨ (takeR s).1.s ≠ 2 then failS 12 (takeR s).2 else (takeR s).2) := by
 conv => lhs; unfold firR
 rw [if_pos h]
def bsN (s : St) : Nat × St := rU s
def bsA (s : St) : Nat × St := rU (bsN s).2
def bsV (s : St) : Nat × St := rU (bsA s).2
def bsH (k : Nat) (s : St) : List Nat × St := nR k (bsV s).2
def bsX (k : Nat) (s : St) : Sp := ⟨0, (bsN s).1, (bsA s).1, (bsV s).1, fun i => (bsH k s).1.getD i 0⟩
def bsC (s : St) : Nat × St := rU (bsH 32 s).2
def baseR (s : St) : List Ett × St := entsR (bsC s).1 [] (bsC s).2
def fsC (s : St) : Nat × St := rU s
def firesR (s : St) : List It × St := firR (fsC s).1 [] (fsC s).2
theorem rU_less {l : List Nat} (hok : OkB l) (h : (rU (l, 0)).2.2 = 0) : (rU (l, 0)).2.1.length < l.length := by
 obtain ⟨n, l', e, hr⟩ : ∃ n l' e, rU (l, 0) = (n, (l', e)) := ⟨_, _, _, rfl⟩
 rw [hr] at h ⊢
 have h : e = 0 := h
 subst h
 obtain ⟨h1, _⟩ := rU_b hok hr
 have := leb_pos n
 have h2 := congrArg List.length h1
 rw [List.length_append] at h2
 show l'.length < _
 omega
theorem takeR_less {l : List Nat} (hok : OkB l) (h : (takeR (l, 0)).2.2 = 0) : (takeR (l, 0)).2.1.length < l.length := by
 obtain ⟨n, l', e, hr⟩ : ∃ n l' e, takeR (l, 0) = (n, (l', e)) := ⟨_, _, _, rfl⟩
 rw [hr] at h ⊢
 have h : e = 0 := h
 subst h
 obtain ⟨_, h1, _⟩ := takeR_b hok hr
 have : 0 < (itemB n).length := by unfold itemB; split <;> simp
 have h2 := congrArg List.length h1
 rw [List.length_append] at h2
 show l'.length < _
 omega
theorem itR_norm (s : St) : normI (itR 12 8 8 16 s).1 = (itR 12 8 8 16 s).1 := by
 show normI ((if (rB s).1 then gapR else evR 12 8 8 16) (rB s).2).1 = ((if (rB s).1 then gapR else evR 12 8 8 16) (rB s).2).1
 cases (rB s).1
 ·rw [if_neg (by decide)]
  simp only [evR, bnd, ret, normI, Bool.false_eq_true, if_false]
 ·rw [if_pos rfl]
  simp only [gapR, bnd, ret, normI, if_true]
theorem takeR_norm (s : St) : normI (takeR s).1 = (takeR s).1 := by
 show normI (chkR (itR 12 8 8 16 s).1 (itR 12 8 8 16 s).2).1 = (chkR (itR 12 8 8 16 s).1 (itR 12 8 8 16 s).2).1
 unfold chkR
 split
 ·split
  ·exact itR_norm s
  ·rfl
 ·rfl
theorem mod_right {x : It} (hx : OkI x) (h : itemN x = 0) (hn : normI x = x) (hl : (itemB x).length ≤ 100000) : Mod x := by
 cases hg : x.g with
 | true =>
   have h1 : x.r = ⟨#[]⟩ ∧ x.l = [] := by
    rw [← hn]
    unfold normI
    rw [hg]
    exact ⟨rfl, rfl⟩
   refine ⟨hx, ⟨by rw [h1.1]; decide, fun i p hp => ?_⟩, by rw [h1.2]; decide, hl⟩
   rw [h1.2] at hp
   simp at hp
 | false =>
   have hf := fit_right h hg
   refine ⟨hx, ⟨by have := hf.r; omega, fun i p hp => ?_⟩, by have := hf.c; omega, hl⟩
   exact (hf.l p (List.mem_iff_getElem?.2 ⟨i, hp⟩)).2
theorem zeroI_mod : Mod zeroI := by
 refine ⟨?_, ⟨by decide, fun i p hp => by simp [zeroI] at hp⟩, by decide, by decide +kernel⟩
 constructor <;> first | decide | (intro i p hp; simp [zeroI] at hp)
theorem takeR_mod {s : St} (hok : OkB s.1) (hl : s.1.length ≤ 100000) : Mod (takeR s).1 := by
 obtain ⟨l, er⟩ := s
 by_cases he : er = 0
 ·subst he
  obtain ⟨z, l', e, hr⟩ : ∃ n l' e, takeR (l, 0) = (n, (l', e)) := ⟨_, _, _, rfl⟩
  by_cases h0 : e = 0
  ·subst h0
   obtain ⟨h1, h2, h3, _⟩ := takeR_b hok hr
   have hn := takeR_norm (l, 0)
   rw [hr] at hn ⊢
   refine mod_right h3 h1 hn ?_
   have := congrArg List.length h2
   rw [List.length_append] at this
   have hl : l.length ≤ 100000 := hl
   show (itemB z).length ≤ _
   omega
  ·have hz : (takeR (l, 0)).1 = zeroI := by
    have h5 : (chkR (itR 12 8 8 16 (l, 0)).1 (itR 12 8 8 16 (l, 0)).2).2.2 = e := by
     show (takeR (l, 0)).2.2 = e
     rw [hr]
    show (chkR (itR 12 8 8 16 (l, 0)).1 (itR 12 8 8 16 (l, 0)).2).1 = zeroI
    unfold chkR at h5 ⊢
    split
    ·rename_i h6
     rw [if_pos h6] at h5
     split
     ·rename_i h7
      rw [if_pos h7] at h5
      exact absurd (h5.symm.trans h6) h0
     ·rfl
    ·rfl
   rw [hz]
   exact zeroI_mod
 ·have hz : (takeR (l, er)).1 = zeroI := by
   have h6 : (itR 12 8 8 16 (l, er)).2 = (l, er) := (rB_s.bnd fun g => itG_s 12 8 8 16 g) l er he
   show (chkR (itR 12 8 8 16 (l, er)).1 (itR 12 8 8 16 (l, er)).2).1 = zeroI
   rw [h6]
   unfold chkR
   rw [if_neg he]
  rw [hz]
  exact zeroI_mod
theorem rU_okB {l l' : List Nat} {n : Nat} (hok : OkB l) (h : rU (l, 0) = (n, (l', 0))) : OkB l' := by
 obtain ⟨h1, _⟩ := rU_b hok h
 rw [h1] at hok
 exact hok.behind
theorem takeR_okB {l l' : List Nat} {z : It} (hok : OkB l) (h : takeR (l, 0) = (z, (l', 0))) : OkB l' := by
 obtain ⟨_, h1, _⟩ := takeR_b hok h
 rw [h1] at hok
 exact hok.behind
theorem takeR_st : Sticks takeR := (rB_s.bnd fun g => itG_s 12 8 8 16 g).bnd fun x => chkR_s x
theorem entsR_right : ∀ {n : Nat} {acc : List Ett} {s : St}, OkB s.1 → (entsR n acc s).2.2 = 0 → (∀ e ∈ acc, itemN e.x = 0) → ∀ e ∈ (entsR n acc s).1, itemN e.x = 0
 | 0, acc, s, _, _, ha => ha
 | n + 1, acc, s, hok, hz, ha => by
   by_cases h0 : s.2 = 0
   ·rw [entsR_step h0] at hz ⊢
    by_cases h1 : (takeR (rU s).2).2.2 = 0
    ·have h2 : (rU s).2.2 = 0 := Classical.byContradiction fun hne => by
      have h3 := takeR_st (rU s).2.1 (rU s).2.2 hne
      rw [show ((rU s).2.1, (rU s).2.2) = (rU s).2 from rfl] at h3
      rw [h3] at h1
      exact hne h1
     obtain ⟨l, er⟩ := s
     have h0 : er = 0 := h0
     subst h0
     obtain ⟨i, l1, hr⟩ : ∃ i l1, rU (l, 0) = (i, (l1, 0)) := ⟨(rU (l, 0)).1, (rU (l, 0)).2.1, Prod.ext rfl (Prod.ext rfl h2)⟩
     have hok1 := rU_okB hok hr
     rw [hr] at h1 hz ⊢
     obtain ⟨x, l2, hr2⟩ : ∃ x l2, takeR (l1, 0) = (x, (l2, 0)) := ⟨(takeR (l1, 0)).1, (takeR (l1, 0)).2.1, Prod.ext rfl (Prod.ext rfl h1)⟩
     have hok2 := takeR_okB hok1 hr2
     have hx := (takeR_b hok1 hr2).1
     rw [hr2] at hz ⊢
     refine entsR_right hok2 hz (fun e he => ?_)
     rcases List.mem_append.1 he with h5 | h5
     ·exact ha e h5
     ·rw [List.mem_singleton] at h5; rw [h5]; exact hx
    ·rw [entsR_err h1] at hz
     exact absurd hz h1
   ·rw [entsR_err h0] at hz
    exact absurd hz h0
theorem firesR_stick {s : St} (h : (firesR s).2.2 = 0) : s.2 = 0 := Classical.byContradiction fun hne => by
 have h1 : (rU s).2 = s := rU_s s.1 s.2 hne
 unfold firesR fsC at h
 rw [h1, firR_err hne] at h
 exact hne h
theorem nR_okB : ∀ (k : Nat) {s : St}, OkB s.1 → (nR k s).2.2 = 0 → OkB (nR k s).2.1
 | 0, s, hok, _ => hok
 | k + 1, s, hok, hz => by
   have hz : (rU (nR k s).2).2.2 = 0 := hz
   show OkB (rU (nR k s).2).2.1
   have h1 : (nR k s).2.2 = 0 := Classical.byContradiction fun hne => by
    have h2 := rU_s (nR k s).2.1 (nR k s).2.2 hne
    rw [show ((nR k s).2.1, (nR k s).2.2) = (nR k s).2 from rfl] at h2
    rw [h2] at hz
    exact hne hz
   have h3 := nR_okB k hok h1
   obtain ⟨⟨l, er⟩, hs⟩ : ∃ r, r = (nR k s).2 := ⟨_, rfl⟩
   rw [← hs] at h1 h3 hz ⊢
   have h1 : er = 0 := h1
   subst h1
   exact rU_okB (n := (rU (l, 0)).1) h3 (Prod.ext rfl (Prod.ext rfl hz))
end Go.Proofs.YtholdcgkhicdmaaGreatDoor