/- Several texts in one: ItTake. -/
import Derived.Deep.MidRow
import Derived.Deep.CutRange
import Derived.Test.YtnagmopejblegaaGreatMb18
import Derived.Test.YtnagmopejblegaaGreatMb37
/- Layer 4: item.Take. -/
namespace Go.Proofs.YtnagmopejblegaaGreat
open Go.RowKit

theorem rLabs_len (mc mk mv : Nat) (s : St) : (rLabs mc mk mv s).1.length ≤ mc := by
  show (rL mk mv (rC mc s).1 (rC mc s).2).1.length ≤ mc
  rw [rL_len]; exact rC_le mc s
theorem evR_len (mr mc mk mv : Nat) (s : St) : (evR mr mc mk mv s).1.l.length ≤ mc := rLabs_len mc mk mv _
/-- an item that was taken: its labels lie in new memory -/
def TkRet (x : It) (s : St) (g : Nat) (w : World) (e : Ending) (w' : World) : Prop :=
  ∃ A n c, e = .returned (.agg #[.bool x.g, .int .u8 x.o, .int .u64 x.q, .int .u64 x.t, .string x.r, .slice A n c, .int .u8 x.s, .int .u8 x.p, .int .i64 x.v, .int .u8 x.w, .int .u8 x.ga, .int .u64 x.gf, .int .u64 x.gt]) ∧ n = x.l.length ∧ w'.ownsRow w.heap.size 98 2 (.slice A n c) n (cellsP x.l) ∧ RdT w' g s ∧ w.grownBy w' (some g)
theorem act_put_none (a : Act) (v : Value) : a.put none v = a := rfl
theorem there_row {w : World} {b o n : Nat} {C : Array Value} {t : TypeId} (h : w.heap[b]? = some (.cells C t (0, 0))) (hn : o + n ≤ C.size) : w.there b o n := fun j hj =>
  ⟨by rw [cell_of_row w b (o + j) C t _ h, Array.getElem?_eq_getElem (by omega)]; rfl, frozen_of_row w b (o + j) C t h⟩

set_option maxRecDepth 100000 in
set_option maxHeartbeats 4000000 in
theorem take_any (g : Nat) (s : St) (w : World) (h : RdT w g s) :
    Calls Tryz.prog 43 #[.pointer (some ⟨g, 0, none⟩)] w (TkRet (takeR s).1 (takeR s).2 g w) := by
  obtain ⟨b, s1, h1⟩ : ∃ b s1, rB s = (b, s1) := ⟨_, _, rfl⟩
  obtain ⟨y, s2, h2⟩ : ∃ y s2, (if b then gapR else evR 12 8 8 16) s1 = (y, s2) := ⟨_, _, rfl⟩
  have hT : takeR s = chkR y s2 := by simp only [takeR, itR, bnd, h1, h2]
  have hlen : y.l.length ≤ 8 := by
    have h3 : ((if b then gapR else evR 12 8 8 16) s1).1.l.length ≤ 8 := by
      cases b
      · exact evR_len 12 8 8 16 s1
      · exact Nat.zero_le _
    rw [h2] at h3; exact h3
  rw [hT]
  have t1 := tk_bool g s
  rw [h1] at t1
  have HT1 := Lib.hid t1
  obtain ⟨W, hW⟩ : ∃ W, W = w.alloc (.cells #[.bool false, .int .u8 0, .int .u64 0, .int .u64 0, .string ⟨#[]⟩, .slice none 0 0, .int .u8 0, .int .u8 0, .int .i64 0, .int .u8 0, .int .u8 0, .int .u64 0, .int .u64 0] 40) := ⟨_, rfl⟩
  have hb : Below w.heap.size w W := by rw [hW]; exact (Below.refl _ _).alloc (Nat.le_refl _) _
  have hc : W.heap[w.heap.size]? = some (.cells #[.bool false, .int .u8 0, .int .u64 0, .int .u64 0, .string ⟨#[]⟩, .slice none 0 0, .int .u8 0, .int .u8 0, .int .i64 0, .int .u8 0, .int .u8 0, .int .u64 0, .int .u64 0] 40 (0, 0)) := by rw [hW]; exact heap_alloc_new _ _
  have hl : w.heap.size < W.heap.size := by rw [hW]; simp
  have hgl := h.lt
  have HW := Lib.hid hW
  have HC := Lib.hid hc
  have HG0 := Lib.hid (grown_below0 hb (some g))
  have HR0 := Lib.hid (h.below hb)
  have HL := Lib.hid hl
  have H2 := Lib.hid h2
  have HLen := Lib.hid hlen
  clear hW hb hc h hl h1 h2 hT t1 hlen
  go_enter Tryz.func43, Tryz.ntmps43
  go_upto_region 1 with fail
  rw [← HW.out]
  go_wp2_with fail
  refine (HT1.out W HR0.out).mono ?_
  rintro e w1 ⟨rfl, hr, hg⟩
  have HR1 := Lib.hid hr
  have HG1 := Lib.hid (grownBy_trans HG0.out hg)
  have HC1 := Lib.hid ((hg.block w.heap.size HL.out (by simp; omega)).trans HC.out)
  have HS1 : Hid (w.heap.size < w1.heap.size) := Nat.lt_of_lt_of_le HL.out hg.size
  clear hr hg HC HG0 HR0 HT1 HL HW
  go_upto_region 2 with (first | (refine wpList_store_row rfl _ _ _ rfl w1.heap.size _ rfl rfl _ _ (heap_alloc_new _ _) Tryz.infoI rfl (by simp [Value.oneCell']) ?_) | fail)
  obtain ⟨w2, hw2⟩ : ∃ V, V = (w1.alloc (.cells #[.bool false, .int .u8 0, .int .u64 0, .int .u64 0, .string ⟨#[]⟩, .slice none 0 0, .int .u8 0, .int .u8 0, .int .i64 0, .int .u8 0, .int .u8 0, .int .u64 0, .int .u64 0] 40)).setRow w1.heap.size #[.bool b, .int .u8 0, .int .u64 0, .int .u64 0, .string ⟨#[]⟩, .slice none 0 0, .int .u8 0, .int .u8 0, .int .i64 0, .int .u8 0, .int .u8 0, .int .u64 0, .int .u64 0] := ⟨_, rfl⟩
  rw [← hw2, act_put_none]
  have hX : w2.heap[w1.heap.size]? = some (.cells #[.bool b, .int .u8 0, .int .u64 0, .int .u64 0, .string ⟨#[]⟩, .slice none 0 0, .int .u8 0, .int .u8 0, .int .i64 0, .int .u8 0, .int .u8 0, .int .u64 0, .int .u64 0] 40 (0, 0)) := by rw [hw2]; exact setRow_heap _ _ _ _ _ _ (heap_alloc_new _ _)
  have hb2 : Below w1.heap.size w1 w2 := by rw [hw2]; exact below_setRow ((Below.refl _ _).alloc (Nat.le_refl _) _) (Nat.le_refl _) _
  have hX2 : w1.heap.size < w2.heap.size := (Array.getElem?_eq_some_iff.1 hX).1
  have HR2 := Lib.hid (HR1.out.below hb2)
  have HG2 := Lib.hid (grownBy_trans HG1.out (grown_below0 hb2 _))
  have HC2 := Lib.hid ((hb2.block w.heap.size HS1.out).trans HC1.out)
  obtain ⟨X, hXe⟩ : ∃ X, w1.heap.size = X := ⟨_, rfl⟩
  have HSX := HS1.out
  rw [hXe] at hX hX2 HSX ⊢
  have HX := Lib.hid hX
  have HX2 := Lib.hid hX2
  have HSx := Lib.hid HSX
  have c0 : w2.cell? ⟨X, 0, none⟩ = some (.bool b) := cell_of_row _ _ 0 _ _ _ hX
  clear hw2 hb2 hX2 hXe HSX HR1 HG1 HC1 HS1 hX
  go_upto_if 8 with fail
  clear c0
  go_cut [] from 9 to 14 (fun wx => ∃ A n c, wx.heap[X]? = some (.cells #[.bool y.g, .int .u8 y.o, .int .u64 y.q, .int .u64 y.t, .string y.r, .slice A n c, .int .u8 y.s, .int .u8 y.p, .int .i64 y.v, .int .u8 y.w, .int .u8 y.ga, .int .u64 y.gf, .int .u64 y.gt] 40 (0, 0)) ∧ n = y.l.length ∧ wx.ownsRow w2.heap.size 98 2 (.slice A n c) n (cellsP y.l) ∧ RdT wx g s2 ∧ w.grownBy wx (some g) ∧ wx.heap[w.heap.size]? = some (.cells #[.bool false, .int .u8 0, .int .u64 0, .int .u64 0, .string ⟨#[]⟩, .slice none 0 0, .int .u8 0, .int .u8 0, .int .i64 0, .int .u8 0, .int .u8 0, .int .u64 0, .int .u64 0] 40 (0, 0)) ∧ w2.heap.size ≤ wx.heap.size)
  case first =>
    cases b
    case' true =>
      have hy : gapR s1 = (y, s2) := H2.out
      have t2 := takeGap_any g s1 w2 HR2.out
      have hy1 : (gapR s1).1 = y := by rw [hy]
      have hy2 : (gapR s1).2 = s2 := by rw [hy]
      rw [hy2] at t2
      have HT2 := Lib.hid t2
      have HY1 := Lib.hid hy1
      clear t2 hy hy1 hy2 H2
      go_wp2_with fail
      refine HT2.out.mono ?_
      rintro e w3 ⟨rfl, hr, hg⟩
      have HX3 := Lib.hid ((hg.block X HX2.out (by have := HSx.out; simp; omega)).trans HX.out)
      have hth := there_row (o := 10) (n := 3) HX3.out (by decide)
      go_wp2_with (first | (refine wpList_store_mid rfl _ _ _ rfl X 10 _ rfl rfl hth Tryz.infoGap (by simp [Value.oneCell']) ?_) | fail)
      go_meet
      have k1 := heap_setCell_same _ X 10 _ _ (.int .u8 ((gapR s1).1.ga : Nat)) HX3.out
      have k2 := heap_setCell_same _ X 11 _ _ (.int .u64 ((gapR s1).1.gf : Nat)) k1
      have k3 := heap_setCell_same _ X 12 _ _ (.int .u64 ((gapR s1).1.gt : Nat)) k2
      have hsz := hg.size
      have hlx := HX2.out
      have hsx := HSx.out
      refine ⟨none, 0, 0, ?_, ?_, ?_, ?_, ?_, ?_, ?_⟩
      · rw [← HY1.out]; exact k3
      · rw [← HY1.out]; rfl
      · rw [← HY1.out]; exact World.ownsRow_nil _ _ _ _
      · exact ((hr.setCell (by omega) _).setCell (by omega) _).setCell (by omega) _
      · exact grown_fresh (grown_fresh (grown_fresh (grownBy_trans HG2.out hg) (grown_set _ X 10 _) (fun k e => by cases e; omega)) (grown_set _ X 11 _) (fun k e => by cases e; omega)) (grown_set _ X 12 _) (fun k e => by cases e; omega)
      · exact (heap_setCell_other _ _ _ _ (by simp; omega)).trans ((heap_setCell_other _ _ _ _ (by simp; omega)).trans ((heap_setCell_other _ _ _ _ (by simp; omega)).trans ((hg.block w.heap.size (by omega) (by simp; omega)).trans HC2.out)))
      · show w2.heap.size ≤ (((w3.setCell _ _).setCell _ _).setCell _ _).heap.size
        simpa using hsz
    case' false =>
      have hy : evR 12 8 8 16 s1 = (y, s2) := H2.out
      have t2 := takeEvent_any g s1 w2 HR2.out
      have hy1 : (evR 12 8 8 16 s1).1 = y := by rw [hy]
      have hy2 : (evR 12 8 8 16 s1).2 = s2 := by rw [hy]
      have hy3 : y.g = false ∧ y.ga = 0 ∧ y.gf = 0 ∧ y.gt = 0 := by rw [← hy1]; exact ⟨rfl, rfl, rfl, rfl⟩
      rw [hy1, hy2] at t2
      have HT2 := Lib.hid t2
      have HY3 := Lib.hid hy3
      clear t2 hy hy1 hy2 H2 hy3
      go_wp2_with fail
      refine HT2.out.mono ?_
      rintro e w3 ⟨A, n, c, rfl, hn, ho, hr, hg⟩
      have HX3 := Lib.hid ((hg.block X HX2.out (by have := HSx.out; simp; omega)).trans HX.out)
      have hth := there_row (o := 1) (n := 9) HX3.out (by decide)
      have HN := Lib.hid hn
      clear hn
      go_wp2_with (first | (refine wpList_store_mid rfl _ _ _ rfl X 1 _ rfl rfl hth Tryz.infoEv (by simp [Value.oneCell']) ?_) | fail)
      go_meet
      have k1 := heap_setCell_same _ X 1 _ _ (.int .u8 (y.o : Nat)) HX3.out
      have k2 := heap_setCell_same _ X 2 _ _ (.int .u64 (y.q : Nat)) k1
      have k3 := heap_setCell_same _ X 3 _ _ (.int .u64 (y.t : Nat)) k2
      have k4 := heap_setCell_same _ X 4 _ _ (.string y.r) k3
      have k5 := heap_setCell_same _ X 5 _ _ (.slice A n c) k4
      have k6 := heap_setCell_same _ X 6 _ _ (.int .u8 (y.s : Nat)) k5
      have k7 := heap_setCell_same _ X 7 _ _ (.int .u8 (y.p : Nat)) k6
      have k8 := heap_setCell_same _ X 8 _ _ (.int .i64 y.v) k7
      have k9 := heap_setCell_same _ X 9 _ _ (.int .u8 (y.w : Nat)) k8
      have hsz := hg.size
      have hlx := HX2.out
      have hsx := HSx.out
      refine ⟨A, n, c, ?_, HN.out, ?_, ?_, ?_, ?_, ?_⟩
      · rw [HY3.out.1, HY3.out.2.1, HY3.out.2.2.1, HY3.out.2.2.2]; exact k9
      · exact ownsRow_setCell_below (ownsRow_setCell_below (ownsRow_setCell_below (ownsRow_setCell_below (ownsRow_setCell_below (ownsRow_setCell_below (ownsRow_setCell_below (ownsRow_setCell_below (ownsRow_setCell_below (ho) (a := ⟨X, 1, none⟩) hlx _) (a := ⟨X, 2, none⟩) hlx _) (a := ⟨X, 3, none⟩) hlx _) (a := ⟨X, 4, none⟩) hlx _) (a := ⟨X, 5, none⟩) hlx _) (a := ⟨X, 6, none⟩) hlx _) (a := ⟨X, 7, none⟩) hlx _) (a := ⟨X, 8, none⟩) hlx _) (a := ⟨X, 9, none⟩) hlx _
      · exact (((((((((hr).setCell (by omega) _).setCell (by omega) _).setCell (by omega) _).setCell (by omega) _).setCell (by omega) _).setCell (by omega) _).setCell (by omega) _).setCell (by omega) _).setCell (by omega) _
      · exact grown_fresh (grown_fresh (grown_fresh (grown_fresh (grown_fresh (grown_fresh (grown_fresh (grown_fresh (grown_fresh (grownBy_trans HG2.out hg) (grown_set _ X 1 _) (fun k e => by cases e; omega)) (grown_set _ X 2 _) (fun k e => by cases e; omega)) (grown_set _ X 3 _) (fun k e => by cases e; omega)) (grown_set _ X 4 _) (fun k e => by cases e; omega)) (grown_set _ X 5 _) (fun k e => by cases e; omega)) (grown_set _ X 6 _) (fun k e => by cases e; omega)) (grown_set _ X 7 _) (fun k e => by cases e; omega)) (grown_set _ X 8 _) (fun k e => by cases e; omega)) (grown_set _ X 9 _) (fun k e => by cases e; omega)
      · exact (heap_setCell_other _ _ _ _ (by simp; omega)).trans ((heap_setCell_other _ _ _ _ (by simp; omega)).trans ((heap_setCell_other _ _ _ _ (by simp; omega)).trans ((heap_setCell_other _ _ _ _ (by simp; omega)).trans ((heap_setCell_other _ _ _ _ (by simp; omega)).trans ((heap_setCell_other _ _ _ _ (by simp; omega)).trans ((heap_setCell_other _ _ _ _ (by simp; omega)).trans ((heap_setCell_other _ _ _ _ (by simp; omega)).trans ((heap_setCell_other _ _ _ _ (by simp; omega)).trans ((hg.block w.heap.size (by omega) (by simp; omega)).trans HC2.out)))))))))
      · show w2.heap.size ≤ (World.setCells w3 X 1 _).heap.size
        simp only [World.setCells, World.size_setCell]
        exact hsz
  case rest =>
    obtain ⟨A, n, c, hX, hn, ho, hr, hg, hc, hsz⟩ := hcut
    have HX3 := Lib.hid hX
    have HN := Lib.hid hn
    have HO := Lib.hid ho
    have HR := Lib.hid hr
    have HG := Lib.hid hg
    have HC := Lib.hid hc
    have hn8 : n ≤ maxLen := by have := HLen.out; unfold maxLen; omega
    have t3 := itemCheck_any y A n c wc hn hn8 (RdP.of_own ho)
    have HT3 := Lib.hid t3
    have hbx : X < wc.heap.size := Nat.lt_of_lt_of_le HX2.out hsz
    have HBX := Lib.hid hbx
    clear hX hn ho hr hg hc t3 HX HC2 HG2 HR2 H2 hn8 hbx hsz
    go_wp2_with (first | (refine wpList_load_row rfl _ _ rfl X rfl _ _ _ _ HX3.out Tryz.underlying40 rfl (by kernel_rfl) ?_) | fail)
    refine HT3.out.mono ?_
    rintro e w4 ⟨rfl, hb⟩
    have HX4 := Lib.hid ((hb.block X HBX.out).trans HX3.out)
    have HO4 := Lib.hid (own_below HO.out hb)
    have HR4 := Lib.hid (HR.out.below hb)
    have HG4 := Lib.hid (grownBy_trans HG.out (grown_below0 hb _))
    have HC4 := Lib.hid ((hb.block w.heap.size (by have := HBX.out; have := HSx.out; omega)).trans HC.out)
    clear HX3 HO HR HG HC HT3 hb HBX
    obtain ⟨l2, er⟩ := s2
    by_cases he : er = 0
    · subst he
      by_cases hi : itemN y = 0
      · have HF := Lib.hid (rfail_keep g l2 0 (itemN y : Nat) (.inr (by rw [hi]; rfl)) w4 HR4.out)
        have HE := Lib.hid (rerr_any g l2 0 w4 HR4.out)
        have HCk : Hid (chkR y (l2, 0) = (y, (l2, 0))) := by show _ = _; simp [chkR, hi]
        clear hi
        go_wp2_with fail
        refine HF.out.mono ?_
        rintro e w5 ⟨rfl, rfl⟩
        go_wp2_with fail
        refine HE.out.mono ?_
        rintro e w5 ⟨rfl, rfl⟩
        go_wp2_with (first
          | (refine wpList_load_row rfl _ _ rfl X rfl _ _ _ _ HX4.out Tryz.underlying40 rfl (by kernel_rfl) ?_)
          | (refine wpList_store_row rfl _ _ _ rfl w.heap.size _ rfl rfl _ _ HC4.out Tryz.infoI rfl (by simp [Value.oneCell']) ?_)
          | fail)
        refine bodyPost_ret (v := .agg #[.bool y.g, .int .u8 y.o, .int .u64 y.q, .int .u64 y.t, .string y.r, .slice A n c, .int .u8 y.s, .int .u8 y.p, .int .i64 y.v, .int .u8 y.w, .int .u8 y.ga, .int .u64 y.gf, .int .u64 y.gt]) ?_ rfl ⟨A, n, c, ?_, ?_, ?_, ?_, ?_⟩
        · exact results_cell_row rfl _ _ w.heap.size _ _ _ _ rfl (setRow_heap _ _ _ _ _ _ HC4.out) Tryz.underlying40 rfl (by kernel_rfl)
        · rw [HCk.out]
        · rw [HCk.out]; exact HN.out
        · rw [HCk.out]; exact ownB_mono (own_setRow HO4.out (by have := HX2.out; have := HSx.out; omega) _) (by have := HX2.out; have := HSx.out; omega)
        · rw [HCk.out]; exact HR4.out.setRow hgl _
        · exact grown_setRow HG4.out (Nat.le_refl _) _
      · have HF := Lib.hid (rfail_set g l2 (itemN y : Nat) (by omega) w4 HR4.out)
        have HCk : Hid (chkR y (l2, 0) = (zeroI, ([], itemN y))) := by show _ = _; simp [chkR, hi]
        have hq : ((itemN y : Int) != 0) = true := by rw [bne_iff_ne]; omega
        clear hi
        go_wp2_with fail
        refine HF.out.mono ?_
        rintro e w5 ⟨rfl, hr, hg⟩
        have HE := Lib.hid (rerr_any g [] (itemN y : Nat) w5 hr)
        have HR5 := Lib.hid (show RdT w5 g ([], itemN y) from hr)
        have HG5 := Lib.hid (grownBy_trans HG4.out hg)
        have HC5 := Lib.hid ((hg.block w.heap.size (Array.getElem?_eq_some_iff.1 HC4.out).1 (by simp; omega)).trans HC4.out)
        clear hr hg HR4 HG4 HC4 HF HO4 HX4
        go_wp2_with fail
        refine HE.out.mono ?_
        rintro e w5 ⟨rfl, rfl⟩
        go_wp2_with (first
          | (refine wpList_store_row rfl _ _ _ rfl w.heap.size _ rfl rfl _ _ HC5.out Tryz.infoI rfl (by simp [Value.oneCell']) ?_)
          | fail)
        refine bodyPost_ret (v := .agg #[.bool false, .int .u8 0, .int .u64 0, .int .u64 0, .string ⟨#[]⟩, .slice none 0 0, .int .u8 0, .int .u8 0, .int .i64 0, .int .u8 0, .int .u8 0, .int .u64 0, .int .u64 0]) ?_ rfl ⟨none, 0, 0, ?_, ?_, ?_, ?_, ?_⟩
        · exact results_cell_row rfl _ _ w.heap.size _ _ _ _ rfl (setRow_heap _ _ _ _ _ _ HC5.out) Tryz.underlying40 rfl (by kernel_rfl)
        · rw [HCk.out]; rfl
        · rw [HCk.out]; rfl
        · rw [HCk.out]; exact World.ownsRow_nil _ _ _ _
        · rw [HCk.out]; exact HR5.out.setRow hgl _
        · exact grown_setRow HG5.out (Nat.le_refl _) _
    · have HF := Lib.hid (rfail_keep g l2 (er : Nat) (itemN y : Nat) (.inl (by omega)) w4 HR4.out)
      have HE := Lib.hid (rerr_any g l2 (er : Nat) w4 HR4.out)
      have HCk : Hid (chkR y (l2, er) = (zeroI, (l2, er))) := by show _ = _; simp [chkR, he]
      have hq : ((er : Int) != 0) = true := by rw [bne_iff_ne]; omega
      clear he
      go_wp2_with fail
      refine HF.out.mono ?_
      rintro e w5 ⟨rfl, rfl⟩
      go_wp2_with fail
      refine HE.out.mono ?_
      rintro e w5 ⟨rfl, rfl⟩
      go_wp2_with (first
        | (refine wpList_store_row rfl _ _ _ rfl w.heap.size _ rfl rfl _ _ HC4.out Tryz.infoI rfl (by simp [Value.oneCell']) ?_)
        | fail)
      refine bodyPost_ret (v := .agg #[.bool false, .int .u8 0, .int .u64 0, .int .u64 0, .string ⟨#[]⟩, .slice none 0 0, .int .u8 0, .int .u8 0, .int .i64 0, .int .u8 0, .int .u8 0, .int .u64 0, .int .u64 0]) ?_ rfl ⟨none, 0, 0, ?_, ?_, ?_, ?_, ?_⟩
      · exact results_cell_row rfl _ _ w.heap.size _ _ _ _ rfl (setRow_heap _ _ _ _ _ _ HC4.out) Tryz.underlying40 rfl (by kernel_rfl)
      · rw [HCk.out]; rfl
      · rw [HCk.out]; rfl
      · rw [HCk.out]; exact World.ownsRow_nil _ _ _ _
      · rw [HCk.out]; exact HR4.out.setRow hgl _
      · exact grown_setRow HG4.out (Nat.le_refl _) _
end Go.Proofs.YtnagmopejblegaaGreat
