/- Several texts in one: SpPart, SpBuild. -/
import Derived.Test.YtholdcgkhicdmaaGreatDoorZq13
namespace Go.Proofs.YtholdcgkhicdmaaGreatDoor
open Go.RowKit
def partE (x : It) (h : Nat → Nat) : Nat := if itemN x ≠ 0 then itemN x else if spT x ≤ h (spO x) then 17 else if h (spO x) + 1 < spF x then 16 else 0
def partI (x : It) (h : Nat → Nat) : It := if partE x h = 0 then trimI x (h (spO x)) else zeroI
theorem itemN_spO {x : It} (h : itemN x = 0) : spO x < 32 := by
 unfold itemN at h
 unfold spO
 split at h <;> rename_i hg
 ·rw [if_pos hg]
  unfold gapN at h
  split at h
  ·cases h
  ·omega
 ·rw [if_neg hg]
  unfold evN at h
  split at h
  ·cases h
  ·omega
theorem onlyRow (g : Nat) (cs : Array Value) (w : World) : Only (fun k => k = g) w (w.setRow g cs) := ⟨rfl, rfl, rfl, by simp [World.setRow], fun k _ hne => setRow_other w g k cs hne⟩
theorem boxI (W : World) (Z cs : Array Value) : ∃ V, V = (W.alloc (.cells Z 47)).setRow W.heap.size cs ∧ V.heap[W.heap.size]? = some (.cells cs 47 (0, 0)) ∧ Below W.heap.size W V ∧ W.heap.size < V.heap.size := by
 have h := setRow_heap (W.alloc (.cells Z 47)) W.heap.size Z cs _ _ (heap_alloc_new _ _)
 exact ⟨_, rfl, h, below_setRow ((Below.refl _ _).alloc (Nat.le_refl _) _) (Nat.le_refl _) _, (Array.getElem?_eq_some_iff.1 h).1⟩
set_option maxRecDepth 100000 in
set_option maxHeartbeats 2000000 in
theorem part_any {S : Nat → Prop} {s : Nat} {X : Sp} {L : List Ett} (x : It) (A : Option Addr) (c : Nat) (w : World) (h : SpAt w S s X L) (hx : OkI x) (hn : x.l.length ≤ 1000) (hA : A = none → x.l.length = 0) (hr : RdP w w.heap.size A x.l) (hh : ∀ i, i < 32 → X.h i ≤ 1099511627776) :
  Calls Tryz.prog 67 #[.pointer (some ⟨s, 0, none⟩), .agg (itC x A c).toArray] w fun e w' => ∃ A' c', e = .returned (.tuple #[.agg (itC (partI x X.h) A' c').toArray, .int .i64 (partE x X.h)]) ∧
   (A' = none → (partI x X.h).l.length = 0) ∧ RdP w' w'.heap.size A' (partI x X.h).l ∧ (∀ a, A' = some a → 0 < (partI x X.h).l.length → w.heap.size ≤ a.block) ∧ Below w.heap.size w w' := by
 obtain ⟨W, hW⟩ : ∃ W, W = ((w.alloc (.cells (itC x A c).toArray 47)).alloc (.cells #[.bool false, .int .u8 0, .int .u64 0, .int .u64 0, .string ⟨#[]⟩, .slice none 0 0, .int .u8 0, .int .u8 0, .int .i64 0, .int .u8 0, .int .u8 0, .int .u64 0, .int .u64 0] 47)) := ⟨_, rfl⟩
 have hb : Below w.heap.size w W := by rw [hW]; exact ((Below.refl _ _).alloc (Nat.le_refl _) _).alloc (by simp) _
 have hz : W.heap.size = w.heap.size + 2 := by rw [hW]; simp
 have h0 : W.heap[w.heap.size]? = some (.cells (itC x A c).toArray 47 (0, 0)) := by rw [hW]; exact heap_alloc2_old _ _ _
 have h1 : W.heap[w.heap.size + 1]? = some (.cells #[.bool false, .int .u8 0, .int .u64 0, .int .u64 0, .string ⟨#[]⟩, .slice none 0 0, .int .u8 0, .int .u8 0, .int .i64 0, .int .u8 0, .int .u8 0, .int .u64 0, .int .u64 0] 47 (0, 0)) := by rw [hW]; exact heap_alloc2_new _ _ _
 have HB := Lib.hid hb
 have HZ := Lib.hid hz
 have H0 := Lib.hid h0
 have H1 := Lib.hid h1
 have HW := Lib.hid hW
 have HS := Lib.hid h
 have HX := Lib.hid hx
 have HN := Lib.hid hn
 have HA := Lib.hid hA
 have HR := Lib.hid hr
 have HH := Lib.hid hh
 clear h hx hn hA hr hh hb hz h0 h1 hW
 go_enter Tryz.func67, Tryz.ntmps67
 go_upto_region 1 with fail
 rw [← HW.out]
 have H0' := H0.out
 go_wp2_with (first | (refine wpList_load_row rfl _ _ rfl w.heap.size rfl _ _ _ _ H0' Tryz.underlying47 rfl Tryz.infoIt ?_) | fail)
 clear H0'
 refine (itemCheck_any x A x.l.length c W rfl (by have := HN.out; unfold maxLen; omega) ((HR.out.below HB.out).more HB.out.size)).mono ?_
 rintro _ w1 ⟨rfl, hb1⟩
 have hz := HZ.out
 have hs1 := hb1.size
 have G0 := Lib.hid ((hb1.block w.heap.size (by omega)).trans H0.out)
 have G1 := Lib.hid ((hb1.block (w.heap.size + 1) (by omega)).trans H1.out)
 have HB1 := Lib.hid (HB.out.trans (hb1.mono HB.out.size))
 have HS1 := Lib.hid (HS.out.below HB1.out)
 clear hb1 H0 H1 HW HS
 by_cases hN : itemN x = 0
 rotate_left
 ·obtain ⟨N, hNN⟩ : ∃ N, N = itemN x := ⟨_, rfl⟩
  rw [← hNN] at hN ⊢
  have HNN := Lib.hid hNN
  have d1 : ((N : Int) == 0) = false := by simp; omega
  clear hNN
  go_wp2_with (first | (refine wpList_store_row rfl _ _ _ rfl (w.heap.size + 1) _ rfl rfl _ _ G1.out Tryz.infoIt rfl (by simp [Value.oneCell']) ?_) | fail)
  refine bodyPost_ret (v := .tuple #[.agg #[.bool false, .int .u8 0, .int .u64 0, .int .u64 0, .string ⟨#[]⟩, .slice none 0 0, .int .u8 0, .int .u8 0, .int .i64 0, .int .u8 0, .int .u8 0, .int .u64 0, .int .u64 0], .int .i64 (N : Int)]) ?_ rfl ⟨none, 0, ?_⟩
  ·exact results_cell_two rfl _ _ (w.heap.size + 1) _ _ _ _ rfl rfl (setRow_heap _ _ _ _ _ _ G1.out) Tryz.underlying47 rfl Tryz.infoIt
  ·have hP : partE x X.h = N := by unfold partE; rw [if_pos (by rw [← HNN.out]; exact hN), HNN.out]
   have hI : partI x X.h = zeroI := by unfold partI; rw [if_neg (by rw [hP]; omega)]
   rw [hP, hI]
   exact ⟨rfl, fun _ => rfl, RdP.nil, fun a ha => (by cases ha), below_setRow HB1.out (by omega) _⟩
 rw [hN]
 have G0' := G0.out
 go_wp2_with (first | (refine wpList_load_row rfl _ _ rfl w.heap.size rfl _ _ _ _ G0' Tryz.underlying47 rfl Tryz.infoIt ?_) | fail)
 clear G0'
 refine (span_any x A x.l.length c w1).mono ?_
 rintro _ w2 ⟨rfl, hb2⟩
 have hs2 := hb2.size
 have G02 := Lib.hid ((hb2.block w.heap.size (by omega)).trans G0.out)
 have G12 := Lib.hid ((hb2.block (w.heap.size + 1) (by omega)).trans G1.out)
 have HB2 := Lib.hid (HB1.out.trans (hb2.mono HB1.out.size))
 have HS2 := Lib.hid (HS1.out.below hb2)
 have ho := itemN_spO hN
 have HNN := Lib.hid hN
 clear hb2 G0 G1 HS1 hN
 go_wp2_with fail
 refine (high_any (spO x) ho w2 HS2.out).mono ?_
 rintro _ w3 ⟨rfl, rfl⟩
 obtain ⟨H, hH⟩ : ∃ H, H = X.h (spO x) := ⟨_, rfl⟩
 have hHm : H ≤ 1099511627776 := by rw [hH]; exact HH.out _ ho
 rw [← hH]
 have HHH := Lib.hid hH
 clear hH
 have G0' := G02.out
 go_wp2_with (first | (refine wpList_load_row rfl _ _ rfl w.heap.size rfl _ _ _ _ G0' Tryz.underlying47 rfl Tryz.infoIt ?_) | fail)
 clear G0'
 refine (trim_new x HX.out A x.l.length c H w2 rfl HA.out (by have := HN.out; omega) ((HR.out.below HB2.out).more HB2.out.size)).mono ?_
 rintro _ w4 ⟨A', n', c', rfl, hn', hr', hnil', hnew', hb4⟩
 subst hn'
 have hs4 := hb4.size
 have G14 := Lib.hid ((hb4.block (w.heap.size + 1) (by omega)).trans G12.out)
 have HB4 := Lib.hid (HB2.out.trans (hb4.mono HB2.out.size))
 have HR4 := Lib.hid hr'
 have HNIL := Lib.hid hnil'
 have HNEW : Hid (∀ a, A' = some a → 0 < (trimI x H).l.length → w.heap.size + 2 ≤ a.block) := fun a ha h0 => by have := hnew' a ha h0; omega
 clear hb4 hr' hnil' hnew' G02 G12
 have hbB : aboveB x H = decide (¬ spT x ≤ H) := rfl
 obtain ⟨y, hy⟩ : ∃ y, y = trimI x H := ⟨_, rfl⟩
 rw [← hy] at HR4 HNIL HNEW ⊢
 have HY := Lib.hid hy
 have HBB := Lib.hid hbB
 clear hy hbB
 go_upto_region 9 with (first | (refine wpList_store_row rfl _ _ _ rfl w4.heap.size (itC y A' c').toArray rfl rfl _ _ (heap_alloc_new _ _) Tryz.infoIt rfl (by simp [Value.oneCell', itC]) ?_) | fail)
 obtain ⟨w5, hw5, hc5, hb5, hl5⟩ := boxI w4 _ (itC y A' c').toArray
 rw [← hw5]
 have G15 := Lib.hid ((hb5.block (w.heap.size + 1) (by omega)).trans G14.out)
 have HB5 := Lib.hid (HB4.out.trans (hb5.mono HB4.out.size))
 have HR5 : Hid (RdP w5 w5.heap.size A' y.l) := (HR4.out.below hb5).more hb5.size
 have HC5 := Lib.hid hc5
 have hs5 := hb5.size
 clear hw5 hc5 hb5 G14 HR4
 by_cases c1 : spT x ≤ H
 ·have hb : aboveB x H = false := by rw [HBB.out]; exact decide_eq_false (by omega)
  rw [hb]
  clear hb
  go_wp2_with (first | (refine wpList_store_row rfl _ _ _ rfl (w.heap.size + 1) _ rfl rfl _ _ G15.out Tryz.infoIt rfl (by simp [Value.oneCell']) ?_) | fail)
  refine bodyPost_ret (v := .tuple #[.agg #[.bool false, .int .u8 0, .int .u64 0, .int .u64 0, .string ⟨#[]⟩, .slice none 0 0, .int .u8 0, .int .u8 0, .int .i64 0, .int .u8 0, .int .u8 0, .int .u64 0, .int .u64 0], .int .i64 17]) ?_ rfl ⟨none, 0, ?_⟩
  ·exact results_cell_two rfl _ _ (w.heap.size + 1) _ _ _ _ rfl rfl (setRow_heap _ _ _ _ _ _ G15.out) Tryz.underlying47 rfl Tryz.infoIt
  ·have hP : partE x X.h = 17 := by unfold partE; rw [if_neg (by rw [HNN.out]; decide), if_pos (by rw [← HHH.out]; exact c1)]
   have hI : partI x X.h = zeroI := by unfold partI; rw [if_neg (by rw [hP]; omega)]
   rw [hP, hI]
   exact ⟨rfl, fun _ => rfl, RdP.nil, fun a ha => (by cases ha), below_setRow HB5.out (by omega) _⟩
 ·have hb : aboveB x H = true := by rw [HBB.out]; exact decide_eq_true c1
  rw [hb]
  clear hb
  have hw1 : IntKind.u64.wrap ((H : Int) + 1) = ((H + 1 : Nat) : Int) := by rw [IntKind.wrap_u64]; omega
  by_cases c2 : H + 1 < spF x
  ·have d2 : decide ((H : Int) + 1 < (spF x : Int)) = true := decide_eq_true (by omega)
   go_wp2_with (first | (refine wpList_store_row rfl _ _ _ rfl (w.heap.size + 1) _ rfl rfl _ _ G15.out Tryz.infoIt rfl (by simp [Value.oneCell']) ?_) | fail)
   refine bodyPost_ret (v := .tuple #[.agg #[.bool false, .int .u8 0, .int .u64 0, .int .u64 0, .string ⟨#[]⟩, .slice none 0 0, .int .u8 0, .int .u8 0, .int .i64 0, .int .u8 0, .int .u8 0, .int .u64 0, .int .u64 0], .int .i64 16]) ?_ rfl ⟨none, 0, ?_⟩
   ·exact results_cell_two rfl _ _ (w.heap.size + 1) _ _ _ _ rfl rfl (setRow_heap _ _ _ _ _ _ G15.out) Tryz.underlying47 rfl Tryz.infoIt
   ·have hP : partE x X.h = 16 := by unfold partE; rw [if_neg (by rw [HNN.out]; decide), if_neg (by rw [← HHH.out]; exact c1), if_pos (by rw [← HHH.out]; exact c2)]
    have hI : partI x X.h = zeroI := by unfold partI; rw [if_neg (by rw [hP]; omega)]
    rw [hP, hI]
    exact ⟨rfl, fun _ => rfl, RdP.nil, fun a ha => (by cases ha), below_setRow HB5.out (by omega) _⟩
  ·have d2 : decide ((H : Int) + 1 < (spF x : Int)) = false := decide_eq_false (by omega)
   have hP : partE x X.h = 0 := by unfold partE; rw [if_neg (by rw [HNN.out]; decide), if_neg (by rw [← HHH.out]; exact c1), if_neg (by rw [← HHH.out]; exact c2)]
   have hI : partI x X.h = y := by unfold partI; rw [if_pos hP, HY.out, HHH.out]
   have HP := Lib.hid hP
   have HI := Lib.hid hI
   clear hP hI
   go_wp2_with (first
    | (refine wpList_load_row rfl _ _ rfl w4.heap.size rfl _ _ _ _ HC5.out Tryz.underlying47 rfl Tryz.infoIt ?_)
    | (refine wpList_store_row rfl _ _ _ rfl (w.heap.size + 1) (itC y A' c').toArray rfl rfl _ _ G15.out Tryz.infoIt rfl (by simp [Value.oneCell', itC]) ?_) | fail)
   refine bodyPost_ret (v := .tuple #[.agg (itC y A' c').toArray, .int .i64 0]) ?_ rfl ⟨A', c', ?_⟩
   ·exact results_cell_two rfl _ _ (w.heap.size + 1) _ _ _ _ rfl rfl (setRow_heap _ _ _ _ _ _ G15.out) Tryz.underlying47 rfl Tryz.infoIt
   ·rw [HP.out, HI.out]
    exact ⟨rfl, HNIL.out, (onlyRow (w.heap.size + 1) _ w5).rdP HR5.out (fun a ha h0 e => by have := HNEW.out a ha h0; have e : a.block = w.heap.size + 1 := e; omega), fun a ha h0 => by have := HNEW.out a ha h0; omega, below_setRow HB5.out (by omega) _⟩
end Go.Proofs.YtholdcgkhicdmaaGreatDoor