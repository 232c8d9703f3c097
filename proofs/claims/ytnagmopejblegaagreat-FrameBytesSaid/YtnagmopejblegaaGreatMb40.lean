/- Several texts in one: FrTake. -/
import Derived.Test.YtnagmopejblegaaGreatMb20
import Derived.Test.YtnagmopejblegaaGreatMb38
import Derived.Test.YtnagmopejblegaaGreatMb39
/- Layer 5: frame.take. -/
namespace Go.Proofs.YtnagmopejblegaaGreat
open Go.RowKit

/-- a frame that was taken: its item's labels lie in new memory -/
def FTkRet (x : Fr) (s : St) (g : Nat) (w : World) (e : Ending) (w' : World) : Prop :=
  ∃ A n c, e = .returned (.agg #[.int .u8 x.k, .int .u8 x.f, .int .u8 x.t, .int .u64 x.e, .int .u64 x.q, .bool x.i.g, .int .u8 x.i.o, .int .u64 x.i.q, .int .u64 x.i.t, .string x.i.r, .slice A n c, .int .u8 x.i.s, .int .u8 x.i.p, .int .i64 x.i.v, .int .u8 x.i.w, .int .u8 x.i.ga, .int .u64 x.i.gf, .int .u64 x.i.gt, .int .u64 x.c, .int .u64 x.b, .int .u64 x.l]) ∧ n = x.i.l.length ∧ w'.ownsRow w.heap.size 98 2 (.slice A n c) n (cellsP x.i.l) ∧ RdT w' g s ∧ w.grownBy w' (some g)
theorem tk_fail11 (g m : Nat) (hm : m ≠ 183) (s : St) (w : World) (h : RdT w g s) :
    Calls Tryz.prog 41 #[.pointer (some ⟨g, 0, none⟩), .int .i64 11] w fun e w' => e = .returned (.tuple #[]) ∧ RdT w' g (failR m s).2 ∧ w.grownBy w' (some g) := by
  obtain ⟨l, er⟩ := s
  unfold failR
  rw [if_neg hm]
  by_cases he : er = 0
  · subst he
    exact (rfail_set g l 11 (by decide) w h).mono fun e w' ⟨h1, h2, h3⟩ => ⟨h1, h2, h3⟩
  · rw [if_neg he]
    refine (rfail_keep g l (er : Nat) 11 (.inl (by omega)) w h).mono ?_
    rintro e w' ⟨rfl, rfl⟩
    exact ⟨rfl, h, World.grownBy.refl w _⟩
/-- the Reader and the frame that is being made -/
structure TfAt (w V : World) (g X : Nat) (cs : Array Value) (s : St) : Prop where
  gr : w.grownBy V (some g)
  re : V.heap[w.heap.size]? = some (.cells #[.int .u8 0, .int .u8 0, .int .u8 0, .int .u64 0, .int .u64 0, .bool false, .int .u8 0, .int .u64 0, .int .u64 0, .string ⟨#[]⟩, .slice none 0 0, .int .u8 0, .int .u8 0, .int .i64 0, .int .u8 0, .int .u8 0, .int .u64 0, .int .u64 0, .int .u64 0, .int .u64 0, .int .u64 0] 42 (0, 0))
  fr : V.heap[X]? = some (.cells cs 42 (0, 0))
  r : RdT V g s
  lt : g < w.heap.size
  x : w.heap.size < X
section
variable {w V V2 : World} {g X : Nat} {cs : Array Value} {s s2 : St}
theorem TfAt.xl (h : TfAt w V g X cs s) : X < V.heap.size := (Array.getElem?_eq_some_iff.1 h.fr).1
theorem TfAt.tk (h : TfAt w V g X cs s) (hr : RdT V2 g s2) (hg : V.grownBy V2 (some g)) : TfAt w V2 g X cs s2 :=
  have hl := h.xl
  have hx := h.x
  have ht := h.lt
  ⟨grownBy_trans h.gr hg, (hg.block _ (by omega) (by simp; omega)).trans h.re, (hg.block _ hl (by simp; omega)).trans h.fr, hr, ht, hx⟩
theorem TfAt.set (h : TfAt w V g X cs s) (cs2 : Array Value) : TfAt w (V.setRow X cs2) g X cs2 s :=
  have hx := h.x
  have ht := h.lt
  ⟨grown_setRow h.gr (by omega) _, (setRow_other _ _ _ _ (by omega)).trans h.re, setRow_heap _ _ _ _ _ _ h.fr, h.r.setRow (by omega) _, ht, hx⟩
theorem TfAt.cell (h : TfAt w V g X cs s) (j : Nat) : V.cell? ⟨X, j, none⟩ = cs[j]? := cell_of_row _ _ _ _ _ _ h.fr
theorem TfAt.frz (h : TfAt w V g X cs s) (j : Nat) : V.frozen? ⟨X, j, none⟩ = false := frozen_of_row _ _ _ _ _ h.fr
theorem TfAt.setc (h : TfAt w V g X cs s) (j : Nat) (v : Value) : TfAt w (V.setCell ⟨X, j, none⟩ v) g X (cs.setIfInBounds j v) s := by
  rw [setCell_eq_setRow V X j cs 42 (0, 0) v h.fr]; exact h.set _
end

set_option maxRecDepth 100000 in
set_option maxHeartbeats 4000000 in
theorem ftake_any (g : Nat) (s : St) (w : World) (h : RdT w g s) :
    Calls Tryz.prog 23 #[.pointer (some ⟨g, 0, none⟩)] w (FTkRet (takeF s).1 (takeF s).2 g w) := by
  obtain ⟨m, s1, h1⟩ : ∃ z z2, rByte s = (z, z2) := ⟨_, _, rfl⟩
  obtain ⟨u, s2, h2⟩ : ∃ z z2, failR m s1 = (z, z2) := ⟨_, _, rfl⟩
  obtain ⟨k, s3, h3⟩ : ∃ z z2, rByte s2 = (z, z2) := ⟨_, _, rfl⟩
  obtain ⟨f, s4, h4⟩ : ∃ z z2, rByte s3 = (z, z2) := ⟨_, _, rfl⟩
  obtain ⟨t, s5, h5⟩ : ∃ z z2, rByte s4 = (z, z2) := ⟨_, _, rfl⟩
  have hE : takeF s = restR k f t s5 := by simp only [takeF, bnd, h1, h2, h3, h4, h5]
  rw [hE]
  have t1 := fun W H => tk_byte g s W H
  rw [h1] at t1
  have HT1 := Lib.hid t1
  have t2 := fun (hm : m ≠ 183) W H => tk_fail11 g m hm s1 W H
  rw [h2] at t2
  have HT2 := Lib.hid t2
  have H2 := Lib.hid h2
  have t3 := fun W H => tk_byte g s2 W H
  rw [h3] at t3
  have HT3 := Lib.hid t3
  have t4 := fun W H => tk_byte g s3 W H
  rw [h4] at t4
  have HT4 := Lib.hid t4
  have t5 := fun W H => tk_byte g s4 W H
  rw [h5] at t5
  have HT5 := Lib.hid t5
  obtain ⟨W, hW⟩ : ∃ W, W = w.alloc (.cells #[.int .u8 0, .int .u8 0, .int .u8 0, .int .u64 0, .int .u64 0, .bool false, .int .u8 0, .int .u64 0, .int .u64 0, .string ⟨#[]⟩, .slice none 0 0, .int .u8 0, .int .u8 0, .int .i64 0, .int .u8 0, .int .u8 0, .int .u64 0, .int .u64 0, .int .u64 0, .int .u64 0, .int .u64 0] 42) := ⟨_, rfl⟩
  have hb : Below w.heap.size w W := by rw [hW]; exact (Below.refl _ _).alloc (Nat.le_refl _) _
  have hc : W.heap[w.heap.size]? = some (.cells #[.int .u8 0, .int .u8 0, .int .u8 0, .int .u64 0, .int .u64 0, .bool false, .int .u8 0, .int .u64 0, .int .u64 0, .string ⟨#[]⟩, .slice none 0 0, .int .u8 0, .int .u8 0, .int .i64 0, .int .u8 0, .int .u8 0, .int .u64 0, .int .u64 0, .int .u64 0, .int .u64 0, .int .u64 0] 42 (0, 0)) := by rw [hW]; exact heap_alloc_new _ _
  have hl : w.heap.size < W.heap.size := by rw [hW]; simp
  have HGL := Lib.hid h.lt
  have HW := Lib.hid hW
  have HC := Lib.hid hc
  have HG0 := Lib.hid (grown_below0 hb (some g))
  have HR0 := Lib.hid (h.below hb)
  have HL := Lib.hid hl
  clear hW hb hc h hE hl h1 h2 h3 h4 h5 t1 t2 t3 t4 t5
  go_enter Tryz.func23, Tryz.ntmps23
  go_upto_region 1 with fail
  rw [← HW.out]
  go_wp2_with fail
  refine (HT1.out W HR0.out).mono ?_
  rintro e w1 ⟨rfl, hr, hg⟩
  have HR1 := Lib.hid hr
  have HG1 := Lib.hid (grownBy_trans HG0.out hg)
  have HC1 := Lib.hid ((hg.block w.heap.size HL.out (by have := HGL.out; simp; omega)).trans HC.out)
  have HL1 : Hid (w.heap.size < w1.heap.size) := Nat.lt_of_lt_of_le HL.out hg.size
  clear hr hg HC HG0 HR0 HT1 HL HW
  go_upto_if 6 with fail
  go_cut [] from 6 to 9 (fun wx => RdT wx g s2 ∧ w.grownBy wx (some g) ∧ wx.heap[w.heap.size]? = some (.cells #[.int .u8 0, .int .u8 0, .int .u8 0, .int .u64 0, .int .u64 0, .bool false, .int .u8 0, .int .u64 0, .int .u64 0, .string ⟨#[]⟩, .slice none 0 0, .int .u8 0, .int .u8 0, .int .i64 0, .int .u8 0, .int .u8 0, .int .u64 0, .int .u64 0, .int .u64 0, .int .u64 0, .int .u64 0] 42 (0, 0)))
  case first =>
    by_cases hm : m = 183
    case pos =>
      have k1 : ((m : Int) != 183) = false := by rw [bne_eq_false_iff_eq]; omega
      have HE : Hid (s1 = s2) := by have h := H2.out; unfold failR at h; rw [if_pos hm] at h; exact congrArg (·.2) h
      clear hm HT2 H2
      go_wp2_with fail
      go_meet
      exact ⟨HE.out ▸ HR1.out, HG1.out, HC1.out⟩
    case neg =>
      have k1 : ((m : Int) != 183) = true := by rw [bne_iff_ne]; omega
      have HF := Lib.hid (HT2.out hm w1 HR1.out)
      clear hm HT2 H2
      go_wp2_with fail
      refine HF.out.mono ?_
      rintro e w2 ⟨rfl, hr, hg⟩
      go_wp2_with fail
      go_meet
      exact ⟨hr, grownBy_trans HG1.out hg, (hg.block w.heap.size HL1.out (by have := HGL.out; simp; omega)).trans HC1.out⟩
  case rest =>
    obtain ⟨hr, hg, hc⟩ := hcut
    have HR2 := Lib.hid hr
    have HG2 := Lib.hid hg
    have HC2 := Lib.hid hc
    have HL2 : Hid (w.heap.size < wc.heap.size) := (Array.getElem?_eq_some_iff.1 hc).1
    clear hr hg hc HR1 HG1 HC1 HL1 HT2 H2
    go_wp2_with fail
    refine (HT3.out wc HR2.out).mono ?_
    rintro e w3 ⟨rfl, hr, hg⟩
    have HR3 := Lib.hid hr
    have HG3 := Lib.hid (grownBy_trans HG2.out hg)
    have HC3 := Lib.hid ((hg.block w.heap.size HL2.out (by have := HGL.out; simp; omega)).trans HC2.out)
    have HL3 : Hid (w.heap.size < w3.heap.size) := Nat.lt_of_lt_of_le HL2.out hg.size
    clear hr hg HC2 HG2 HR2 HT3 HL2
    go_wp2_with fail
    refine (HT4.out w3 HR3.out).mono ?_
    rintro e w4 ⟨rfl, hr, hg⟩
    have HR4 := Lib.hid hr
    have HG4 := Lib.hid (grownBy_trans HG3.out hg)
    have HC4 := Lib.hid ((hg.block w.heap.size HL3.out (by have := HGL.out; simp; omega)).trans HC3.out)
    have HL4 : Hid (w.heap.size < w4.heap.size) := Nat.lt_of_lt_of_le HL3.out hg.size
    clear hr hg HC3 HG3 HR3 HT4 HL3
    go_wp2_with fail
    refine (HT5.out w4 HR4.out).mono ?_
    rintro e w5 ⟨rfl, hr, hg⟩
    have HR5 := Lib.hid hr
    have HG5 := Lib.hid (grownBy_trans HG4.out hg)
    have HC5 := Lib.hid ((hg.block w.heap.size HL4.out (by have := HGL.out; simp; omega)).trans HC4.out)
    have HL5 : Hid (w.heap.size < w5.heap.size) := Nat.lt_of_lt_of_le HL4.out hg.size
    clear hr hg HC4 HG4 HR4 HT5 HL4
    have hbu : Tryz.prog.built 42 [(0, .int .u8 (k : Nat)), (1, .int .u8 (f : Nat)), (2, .int .u8 (t : Nat))] = some #[.int .u8 (k : Nat), .int .u8 (f : Nat), .int .u8 (t : Nat), .int .u64 0, .int .u64 0, .bool false, .int .u8 0, .int .u64 0, .int .u64 0, .string ⟨#[]⟩, .slice none 0 0, .int .u8 0, .int .u8 0, .int .i64 0, .int .u8 0, .int .u8 0, .int .u64 0, .int .u64 0, .int .u64 0, .int .u64 0, .int .u64 0] := by kernel_rfl
    go_upto_region 4 with (first | (refine wpList_build_at rfl _ _ rfl hbu ?_) | (refine wpList_store_row rfl _ _ _ rfl w5.heap.size _ rfl rfl _ _ (heap_alloc_new _ _) Tryz.infoF rfl (by kernel_rfl) ?_) | fail)
    rw [act_put0]
    clear hbu
    have hV6 : TfAt w ((w5.alloc (.cells #[.int .u8 0, .int .u8 0, .int .u8 0, .int .u64 0, .int .u64 0, .bool false, .int .u8 0, .int .u64 0, .int .u64 0, .string ⟨#[]⟩, .slice none 0 0, .int .u8 0, .int .u8 0, .int .i64 0, .int .u8 0, .int .u8 0, .int .u64 0, .int .u64 0, .int .u64 0, .int .u64 0, .int .u64 0] 42)).setRow w5.heap.size #[.int .u8 (k : Nat), .int .u8 (f : Nat), .int .u8 (t : Nat), .int .u64 0, .int .u64 0, .bool false, .int .u8 0, .int .u64 0, .int .u64 0, .string ⟨#[]⟩, .slice none 0 0, .int .u8 0, .int .u8 0, .int .i64 0, .int .u8 0, .int .u8 0, .int .u64 0, .int .u64 0, .int .u64 0, .int .u64 0, .int .u64 0]) g w5.heap.size #[.int .u8 (k : Nat), .int .u8 (f : Nat), .int .u8 (t : Nat), .int .u64 0, .int .u64 0, .bool false, .int .u8 0, .int .u64 0, .int .u64 0, .string ⟨#[]⟩, .slice none 0 0, .int .u8 0, .int .u8 0, .int .i64 0, .int .u8 0, .int .u8 0, .int .u64 0, .int .u64 0, .int .u64 0, .int .u64 0, .int .u64 0] s5 :=
      have hb : Below w5.heap.size w5 ((w5.alloc (.cells #[.int .u8 0, .int .u8 0, .int .u8 0, .int .u64 0, .int .u64 0, .bool false, .int .u8 0, .int .u64 0, .int .u64 0, .string ⟨#[]⟩, .slice none 0 0, .int .u8 0, .int .u8 0, .int .i64 0, .int .u8 0, .int .u8 0, .int .u64 0, .int .u64 0, .int .u64 0, .int .u64 0, .int .u64 0] 42)).setRow w5.heap.size #[.int .u8 (k : Nat), .int .u8 (f : Nat), .int .u8 (t : Nat), .int .u64 0, .int .u64 0, .bool false, .int .u8 0, .int .u64 0, .int .u64 0, .string ⟨#[]⟩, .slice none 0 0, .int .u8 0, .int .u8 0, .int .i64 0, .int .u8 0, .int .u8 0, .int .u64 0, .int .u64 0, .int .u64 0, .int .u64 0, .int .u64 0]) := below_setRow ((Below.refl _ _).alloc (Nat.le_refl _) _) (Nat.le_refl _) _
      ⟨grownBy_trans HG5.out (grown_below0 hb _), (hb.block _ HL5.out).trans HC5.out, setRow_heap _ _ _ _ _ _ (heap_alloc_new _ _), HR5.out.below hb, HGL.out, HL5.out⟩
    obtain ⟨X, hXe⟩ : ∃ X, w5.heap.size = X := ⟨_, rfl⟩
    generalize hw6 : (w5.alloc (.cells #[.int .u8 0, .int .u8 0, .int .u8 0, .int .u64 0, .int .u64 0, .bool false, .int .u8 0, .int .u64 0, .int .u64 0, .string ⟨#[]⟩, .slice none 0 0, .int .u8 0, .int .u8 0, .int .i64 0, .int .u8 0, .int .u8 0, .int .u64 0, .int .u64 0, .int .u64 0, .int .u64 0, .int .u64 0] 42)).setRow w5.heap.size #[.int .u8 (k : Nat), .int .u8 (f : Nat), .int .u8 (t : Nat), .int .u64 0, .int .u64 0, .bool false, .int .u8 0, .int .u64 0, .int .u64 0, .string ⟨#[]⟩, .slice none 0 0, .int .u8 0, .int .u8 0, .int .i64 0, .int .u8 0, .int .u8 0, .int .u64 0, .int .u64 0, .int .u64 0, .int .u64 0, .int .u64 0] = w6 at *
    rw [hXe] at hV6 ⊢
    clear hw6 hXe HR5 HG5 HC5 HL5
    have HV6 := Lib.hid hV6
    have c0 : w6.cell? ⟨X, 0, none⟩ = some (.int .u8 (k : Nat)) := hV6.cell 0
    clear hV6
    by_cases hk1 : k = 1
    case pos =>
      have m1 : ((k : Int) == 1) = true := by rw [beq_iff_eq]; omega
      obtain ⟨e6, s6, h6⟩ : ∃ z z2, rU s5 = (z, z2) := ⟨_, _, rfl⟩
      obtain ⟨e7, s7, h7⟩ : ∃ z z2, rU s6 = (z, z2) := ⟨_, _, rfl⟩
      obtain ⟨y, s8, h8⟩ : ∃ z z2, takeR s7 = (z, z2) := ⟨_, _, rfl⟩
      have HE : Hid (restR k f t s5 = (⟨k, f, t, e6, e7, y, 0, 0, 0⟩, s8)) := by show _ = _; unfold restR; rw [if_pos hk1]; simp only [dataR, bnd, h6, h7, h8, ret]
      have t6 := fun W H => tk_uint g s5 W H
      rw [h6] at t6
      have HT6 := Lib.hid t6
      have t7 := fun W H => tk_uint g s6 W H
      rw [h7] at t7
      have HT7 := Lib.hid t7
      have t8 := fun W H => take_any g s7 W H
      rw [h8] at t8
      have HT8 := Lib.hid t8
      clear hk1 h6 h7 h8 t6 t7 t8
      go_wp2_with fail
      refine (HT6.out w6 HV6.out.r).mono ?_
      rintro e w7 ⟨rfl, hr, hg⟩
      have hV7 := HV6.out.tk hr hg
      have g3 : w7.cell? ⟨X, 3, none⟩ = some (.int .u64 0) := hV7.cell 3
      have f3 := hV7.frz 3
      have HV7 := Lib.hid (hV7.setc 3 (.int .u64 (e6 : Nat)))
      clear hV7 hr hg HV6 HT6 c0
      go_wp2_with fail
      refine (HT7.out _ HV7.out.r).mono ?_
      rintro e w8 ⟨rfl, hr, hg⟩
      have hV8 := HV7.out.tk hr hg
      have g4 : w8.cell? ⟨X, 4, none⟩ = some (.int .u64 0) := hV8.cell 4
      have f4 := hV8.frz 4
      have HV8 := Lib.hid (hV8.setc 4 (.int .u64 (e7 : Nat)))
      clear hV8 hr hg HV7 HT7 g3 f3
      go_wp2_with fail
      have hXb := HV8.out.xl
      refine (HT8.out _ HV8.out.r).mono ?_
      rintro e w9 ⟨A, n, c, rfl, hn, ho, hr, hg⟩
      have HN := Lib.hid hn
      have HV9 := Lib.hid (HV8.out.tk hr hg)
      have HO := Lib.hid ho
      clear hn hr hg HT8 g4 f4
      have HXB := Lib.hid hXb
      clear hXb ho
      have hth := sf_there (o := 5) (n := 13) HV9.out.fr (by show 18 ≤ 21; omega)
      have hrow : putAll (((#[.int .u8 (k : Nat), .int .u8 (f : Nat), .int .u8 (t : Nat), .int .u64 0, .int .u64 0, .bool false, .int .u8 0, .int .u64 0, .int .u64 0, .string ⟨#[]⟩, .slice none 0 0, .int .u8 0, .int .u8 0, .int .i64 0, .int .u8 0, .int .u8 0, .int .u64 0, .int .u64 0, .int .u64 0, .int .u64 0, .int .u64 0] : Array Value).setIfInBounds 3 (.int .u64 (e6 : Nat))).setIfInBounds 4 (.int .u64 (e7 : Nat))) 5 (#[.bool y.g, .int .u8 y.o, .int .u64 y.q, .int .u64 y.t, .string y.r, .slice A n c, .int .u8 y.s, .int .u8 y.p, .int .i64 y.v, .int .u8 y.w, .int .u8 y.ga, .int .u64 y.gf, .int .u64 y.gt] : Array Value).toList = #[.int .u8 (k : Nat), .int .u8 (f : Nat), .int .u8 (t : Nat), .int .u64 (e6 : Nat), .int .u64 (e7 : Nat), .bool y.g, .int .u8 y.o, .int .u64 y.q, .int .u64 y.t, .string y.r, .slice A n c, .int .u8 y.s, .int .u8 y.p, .int .i64 y.v, .int .u8 y.w, .int .u8 y.ga, .int .u64 y.gf, .int .u64 y.gt, .int .u64 0, .int .u64 0, .int .u64 0] := by kernel_rfl
      have hw9 : w9.setCells X 5 (#[.bool y.g, .int .u8 y.o, .int .u64 y.q, .int .u64 y.t, .string y.r, .slice A n c, .int .u8 y.s, .int .u8 y.p, .int .i64 y.v, .int .u8 y.w, .int .u8 y.ga, .int .u64 y.gf, .int .u64 y.gt] : Array Value).toList = w9.setRow X #[.int .u8 (k : Nat), .int .u8 (f : Nat), .int .u8 (t : Nat), .int .u64 (e6 : Nat), .int .u64 (e7 : Nat), .bool y.g, .int .u8 y.o, .int .u64 y.q, .int .u64 y.t, .string y.r, .slice A n c, .int .u8 y.s, .int .u8 y.p, .int .i64 y.v, .int .u8 y.w, .int .u8 y.ga, .int .u64 y.gf, .int .u64 y.gt, .int .u64 0, .int .u64 0, .int .u64 0] := by rw [setCells_row _ _ _ _ _ _ HV9.out.fr, hrow]
      have HV10 := Lib.hid (HV9.out.set #[.int .u8 (k : Nat), .int .u8 (f : Nat), .int .u8 (t : Nat), .int .u64 (e6 : Nat), .int .u64 (e7 : Nat), .bool y.g, .int .u8 y.o, .int .u64 y.q, .int .u64 y.t, .string y.r, .slice A n c, .int .u8 y.s, .int .u8 y.p, .int .i64 y.v, .int .u8 y.w, .int .u8 y.ga, .int .u64 y.gf, .int .u64 y.gt, .int .u64 0, .int .u64 0, .int .u64 0])
      have HO10 := Lib.hid (own_setRow HO.out HXB.out #[.int .u8 (k : Nat), .int .u8 (f : Nat), .int .u8 (t : Nat), .int .u64 (e6 : Nat), .int .u64 (e7 : Nat), .bool y.g, .int .u8 y.o, .int .u64 y.q, .int .u64 y.t, .string y.r, .slice A n c, .int .u8 y.s, .int .u8 y.p, .int .i64 y.v, .int .u8 y.w, .int .u8 y.ga, .int .u64 y.gf, .int .u64 y.gt, .int .u64 0, .int .u64 0, .int .u64 0])
      clear hrow
      go_upto_region 14 with (first | (refine wpList_store_mid rfl _ _ _ rfl X 5 _ rfl rfl hth Tryz.infoI13 (by kernel_rfl) ?_; rw [hw9]) | fail)
      generalize hq : w9.setRow X #[.int .u8 (k : Nat), .int .u8 (f : Nat), .int .u8 (t : Nat), .int .u64 (e6 : Nat), .int .u64 (e7 : Nat), .bool y.g, .int .u8 y.o, .int .u64 y.q, .int .u64 y.t, .string y.r, .slice A n c, .int .u8 y.s, .int .u8 y.p, .int .i64 y.v, .int .u8 y.w, .int .u8 y.ga, .int .u64 y.gf, .int .u64 y.gt, .int .u64 0, .int .u64 0, .int .u64 0] = w10 at *
      clear hq hw9 hth HO
      have Hre := Lib.hid HV10.out.re
      have Hfr := Lib.hid HV10.out.fr
      go_wp2_with (first
        | (refine wpList_load_row rfl _ _ rfl X rfl _ _ _ _ Hfr.out Tryz.underlying42 rfl (by kernel_rfl) ?_)
        | (refine wpList_store_row rfl _ _ _ rfl w.heap.size _ rfl rfl _ _ Hre.out Tryz.infoF rfl (by kernel_rfl) ?_)
        | fail)
      refine bodyPost_ret (v := .agg #[.int .u8 (k : Nat), .int .u8 (f : Nat), .int .u8 (t : Nat), .int .u64 (e6 : Nat), .int .u64 (e7 : Nat), .bool y.g, .int .u8 y.o, .int .u64 y.q, .int .u64 y.t, .string y.r, .slice A n c, .int .u8 y.s, .int .u8 y.p, .int .i64 y.v, .int .u8 y.w, .int .u8 y.ga, .int .u64 y.gf, .int .u64 y.gt, .int .u64 0, .int .u64 0, .int .u64 0]) ?_ rfl ⟨A, n, c, ?_, ?_, ?_, ?_, ?_⟩
      · exact results_cell_row rfl _ _ w.heap.size _ _ _ _ rfl (setRow_heap _ _ _ _ _ _ Hre.out) Tryz.underlying42 rfl (by kernel_rfl)
      · rw [HE.out]; try rfl
      · rw [HE.out]; exact HN.out
      · rw [HE.out]; exact ownB_mono (own_setRow HO10.out (by have := HV10.out.x; have := HXB.out; omega) _) (by have := HV10.out.x; have := HXB.out; omega)
      · rw [HE.out]; exact HV10.out.r.setRow HGL.out _
      · exact grown_setRow HV10.out.gr (Nat.le_refl _) _
    case neg =>
      have m1 : ((k : Int) == 1) = false := by rw [beq_eq_false_iff_ne]; omega
      by_cases hk2 : k = 2
      case pos =>
        have m2 : ((k : Int) == 2) = true := by rw [beq_iff_eq]; omega
        obtain ⟨e6, s6, h6⟩ : ∃ z z2, rU s5 = (z, z2) := ⟨_, _, rfl⟩
        obtain ⟨e7, s7, h7⟩ : ∃ z z2, rU s6 = (z, z2) := ⟨_, _, rfl⟩
        obtain ⟨e8, s8, h8⟩ : ∃ z z2, rU s7 = (z, z2) := ⟨_, _, rfl⟩
        obtain ⟨e9, s9, h9⟩ : ∃ z z2, rU s8 = (z, z2) := ⟨_, _, rfl⟩
        have HE : Hid (restR k f t s5 = (⟨k, f, t, e6, 0, zeroI, e7, e8, e9⟩, s9)) := by show _ = _; unfold restR; rw [if_neg hk1, if_pos hk2]; simp only [ackR, bnd, h6, h7, h8, h9, ret]
        have t6 := fun W H => tk_uint g s5 W H
        rw [h6] at t6
        have HT6 := Lib.hid t6
        have t7 := fun W H => tk_uint g s6 W H
        rw [h7] at t7
        have HT7 := Lib.hid t7
        have t8 := fun W H => tk_uint g s7 W H
        rw [h8] at t8
        have HT8 := Lib.hid t8
        have t9 := fun W H => tk_uint g s8 W H
        rw [h9] at t9
        have HT9 := Lib.hid t9
        clear hk1 hk2 h6 h7 h8 h9 t6 t7 t8 t9
        go_wp2_with fail
        refine (HT6.out w6 HV6.out.r).mono ?_
        rintro e w7 ⟨rfl, hr, hg⟩
        have hV7 := HV6.out.tk hr hg
        have g6 : w7.cell? ⟨X, 3, none⟩ = some (.int .u64 0) := hV7.cell 3
        have f6 := hV7.frz 3
        have HV7 := Lib.hid (hV7.setc 3 (.int .u64 (e6 : Nat)))
        clear hV7 hr hg HV6 HT6 c0
        go_wp2_with fail
        refine (HT7.out _ HV7.out.r).mono ?_
        rintro e w8 ⟨rfl, hr, hg⟩
        have hV8 := HV7.out.tk hr hg
        have g7 : w8.cell? ⟨X, 18, none⟩ = some (.int .u64 0) := hV8.cell 18
        have f7 := hV8.frz 18
        have HV8 := Lib.hid (hV8.setc 18 (.int .u64 (e7 : Nat)))
        clear hV8 hr hg HV7 HT7 g6 f6
        go_wp2_with fail
        refine (HT8.out _ HV8.out.r).mono ?_
        rintro e w9 ⟨rfl, hr, hg⟩
        have hV9 := HV8.out.tk hr hg
        have g8 : w9.cell? ⟨X, 19, none⟩ = some (.int .u64 0) := hV9.cell 19
        have f8 := hV9.frz 19
        have HV9 := Lib.hid (hV9.setc 19 (.int .u64 (e8 : Nat)))
        clear hV9 hr hg HV8 HT8 g7 f7
        go_wp2_with fail
        refine (HT9.out _ HV9.out.r).mono ?_
        rintro e w10 ⟨rfl, hr, hg⟩
        have hV10 := HV9.out.tk hr hg
        have g9 : w10.cell? ⟨X, 20, none⟩ = some (.int .u64 0) := hV10.cell 20
        have f9 := hV10.frz 20
        have HV10 := Lib.hid (hV10.setc 20 (.int .u64 (e9 : Nat)))
        clear hV10 hr hg HV9 HT9 g8 f8
        go_upto_region 14 with fail
        generalize hq : w10.setCell ⟨X, 20, none⟩ (.int .u64 (e9 : Nat)) = w11 at *
        clear hq g9 f9
        have Hre := Lib.hid HV10.out.re
        have Hfr := Lib.hid HV10.out.fr
        go_wp2_with (first
          | (refine wpList_load_row rfl _ _ rfl X rfl _ _ _ _ Hfr.out Tryz.underlying42 rfl (by kernel_rfl) ?_)
          | (refine wpList_store_row rfl _ _ _ rfl w.heap.size _ rfl rfl _ _ Hre.out Tryz.infoF rfl (by kernel_rfl) ?_)
          | fail)
        refine bodyPost_ret (v := .agg #[.int .u8 (k : Nat), .int .u8 (f : Nat), .int .u8 (t : Nat), .int .u64 (e6 : Nat), .int .u64 0, .bool false, .int .u8 0, .int .u64 0, .int .u64 0, .string ⟨#[]⟩, .slice none 0 0, .int .u8 0, .int .u8 0, .int .i64 0, .int .u8 0, .int .u8 0, .int .u64 0, .int .u64 0, .int .u64 (e7 : Nat), .int .u64 (e8 : Nat), .int .u64 (e9 : Nat)]) ?_ rfl ⟨none, 0, 0, ?_, ?_, ?_, ?_, ?_⟩
        · exact results_cell_row rfl _ _ w.heap.size _ _ _ _ rfl (setRow_heap _ _ _ _ _ _ Hre.out) Tryz.underlying42 rfl (by kernel_rfl)
        · rw [HE.out]; try rfl
        · rw [HE.out]; exact rfl
        · rw [HE.out]; exact World.ownsRow_nil _ _ _ _
        · rw [HE.out]; exact HV10.out.r.setRow HGL.out _
        · exact grown_setRow HV10.out.gr (Nat.le_refl _) _
      case neg =>
        have m2 : ((k : Int) == 2) = false := by rw [beq_eq_false_iff_ne]; omega
        have HE : Hid (restR k f t s5 = (⟨k, f, t, 0, 0, zeroI, 0, 0, 0⟩, s5)) := by show _ = _; unfold restR; rw [if_neg hk1, if_neg hk2]; rfl
        clear hk1 hk2
        have Hre := Lib.hid HV6.out.re
        have Hfr := Lib.hid HV6.out.fr
        go_wp2_with (first
          | (refine wpList_load_row rfl _ _ rfl X rfl _ _ _ _ Hfr.out Tryz.underlying42 rfl (by kernel_rfl) ?_)
          | (refine wpList_store_row rfl _ _ _ rfl w.heap.size _ rfl rfl _ _ Hre.out Tryz.infoF rfl (by kernel_rfl) ?_)
          | fail)
        refine bodyPost_ret (v := .agg #[.int .u8 (k : Nat), .int .u8 (f : Nat), .int .u8 (t : Nat), .int .u64 0, .int .u64 0, .bool false, .int .u8 0, .int .u64 0, .int .u64 0, .string ⟨#[]⟩, .slice none 0 0, .int .u8 0, .int .u8 0, .int .i64 0, .int .u8 0, .int .u8 0, .int .u64 0, .int .u64 0, .int .u64 0, .int .u64 0, .int .u64 0]) ?_ rfl ⟨none, 0, 0, ?_, ?_, ?_, ?_, ?_⟩
        · exact results_cell_row rfl _ _ w.heap.size _ _ _ _ rfl (setRow_heap _ _ _ _ _ _ Hre.out) Tryz.underlying42 rfl (by kernel_rfl)
        · rw [HE.out]; try rfl
        · rw [HE.out]; exact rfl
        · rw [HE.out]; exact World.ownsRow_nil _ _ _ _
        · rw [HE.out]; exact HV6.out.r.setRow HGL.out _
        · exact grown_setRow HV6.out.gr (Nat.le_refl _) _
end Go.Proofs.YtnagmopejblegaaGreat
