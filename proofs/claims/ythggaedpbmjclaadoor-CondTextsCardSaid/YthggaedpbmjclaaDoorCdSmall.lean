/- Layer 13: a condition as the document has it; the statements' small condition. -/
import Derived.Test.YthggaedpbmjclaaDoorCdRef
import Derived.Deep.CutBlock
import Derived.Deep.DeepCutAuto
namespace Go.Proofs.YthggaedpbmjclaaDoor
open Go.RowKit Go.Proofs

theorem Tryd.infoRc : (Tryd.prog.info? 35).map (·.size) = some 3 := by kernel_rfl
theorem Tryd.infoCc : (Tryd.prog.info? 26).map (·.size) = some 3 := by kernel_rfl
set_option maxRecDepth 100000 in
set_option maxHeartbeats 400000 in
theorem rref_any (k : Nat) (lim : Int) (tk : Nat) (w : World) (hk : k < 256) :
    Calls Tryd.prog 8 #[.agg #[.int .u8 k, .int .i64 lim, .int .u64 tk]] w fun e w' => e = .returned (.agg #[.int .i64 k, .int .i64 lim, .int .u64 tk]) ∧ Below w.heap.size w w' := by
  obtain ⟨w1, hw1, hc1, hb1, hs1⟩ : ∃ w1 : World, w1 = w.alloc (.cells #[.int .u8 k, .int .i64 lim, .int .u64 tk] 26) ∧ w1.heap[w.heap.size]? = some (.cells #[.int .u8 k, .int .i64 lim, .int .u64 tk] 26 (0, 0)) ∧ Below w.heap.size w w1 ∧ w1.heap.size = w.heap.size + 1 := ⟨_, rfl, heap_alloc_new _ _, (Below.refl _ _).alloc (Nat.le_refl _) _, by simp⟩
  obtain ⟨w2, hw2, hc2, hb2, hs2⟩ : ∃ w2 : World, w2 = w1.alloc (.cells #[.int .i64 0, .int .i64 0, .int .u64 0] 35) ∧ w2.heap[w1.heap.size]? = some (.cells #[.int .i64 0, .int .i64 0, .int .u64 0] 35 (0, 0)) ∧ Below w1.heap.size w1 w2 ∧ w2.heap.size = w1.heap.size + 1 := ⟨_, rfl, heap_alloc_new _ _, (Below.refl _ _).alloc (Nat.le_refl _) _, by simp⟩
  have hr1 : w2.heap[w.heap.size]? = some (.cells #[.int .u8 k, .int .i64 lim, .int .u64 tk] 26 (0, 0)) := (hb2.block _ (by omega)).trans hc1
  have c0 : w2.cell? ⟨w.heap.size, 0, none⟩ = some (.int .u8 k) := cell_of_row _ _ 0 _ _ _ hr1
  have c1 : w2.cell? ⟨w.heap.size, 1, none⟩ = some (.int .i64 lim) := cell_of_row _ _ 1 _ _ _ hr1
  have c2 : w2.cell? ⟨w.heap.size, 2, none⟩ = some (.int .u64 tk) := cell_of_row _ _ 2 _ _ _ hr1
  have HW1 := Lib.hid hw1
  have HW2 := Lib.hid hw2
  have hwr : IntKind.i64.wrap (k : Int) = (k : Int) := by rw [IntKind.wrap_i64]; omega
  obtain ⟨g, hg⟩ : ∃ g, g = w1.heap.size := ⟨_, rfl⟩
  rw [← hg] at hc2
  have HC2 := Lib.hid hc2
  have HG : Hid (w.heap.size + 1 = g) := by show _ = _; omega
  have HB : Hid (Below w.heap.size w w2 ∧ w.heap.size ≤ g) := ⟨hb1.trans (hb2.mono hb1.size), by omega⟩
  clear hw1 hc1 hb1 hs1 hw2 hc2 hb2 hs2 hr1 hk hg
  go_enter Tryd.func8, Tryd.ntmps8
  go_upto_region 1 with fail
  rw [← HW1.out]
  first | rw [← HW2.out] | skip
  rw [HG.out]
  go_wp2_with (first | (refine wpList_store_row rfl _ _ _ rfl g #[.int .i64 k, .int .i64 lim, .int .u64 tk] rfl rfl _ _ HC2.out Tryd.infoRc rfl (by simp [Value.oneCell']) ?_) | fail)
  refine bodyPost_ret (v := .agg #[.int .i64 k, .int .i64 lim, .int .u64 tk]) ?_ rfl ⟨rfl, below_setRow HB.out.1 HB.out.2 _⟩
  exact results_cell_row rfl _ _ g _ _ _ _ rfl (setRow_heap _ _ _ _ _ _ HC2.out) Tryd.underlying35 rfl (by kernel_rfl)
/-- a small condition: one that may be -/
def SmallRet (w : World) (e : Ending) (w' : World) : Prop :=
  ∃ (k : Nat) (lim : Int) (tk : Nat), e = .returned (.agg #[.int .u8 k, .int .i64 lim, .int .u64 tk]) ∧ okC k lim tk ∧ k < 256 ∧ -40000 ≤ lim ∧ lim ≤ 40000 ∧ tk ≤ 20 ∧ Below w.heap.size w w'
set_option maxRecDepth 100000 in
set_option maxHeartbeats 1000000 in
theorem csmall_any (K T : Nat) (L : Int) (w : World) (hK : K < 256) (hT : T < 256) (hL : -32768 ≤ L) (hL2 : L < 32768) :
    Calls Tryd.prog 13 #[.agg #[.int .u8 K, .int .i16 L, .int .u8 T]] w (SmallRet w) := by
  obtain ⟨r, hr⟩ : ∃ r, r = K % 5 := ⟨_, rfl⟩
  obtain ⟨q, hq⟩ : ∃ q, q = T % 20 := ⟨_, rfl⟩
  have hr5 : r < 5 := by omega
  have hq20 : q < 20 := by omega
  obtain ⟨k, hk⟩ : ∃ k, k = 1 + r := ⟨_, rfl⟩
  obtain ⟨t, ht⟩ : ∃ t, t = 1 + q := ⟨_, rfl⟩
  have e1 : (K : Int) % 5 = (r : Int) := by omega
  have e2 : (1 : Int) + (r : Int) = (k : Int) := by omega
  have e3 : IntKind.u8.wrap (k : Int) = (k : Int) := by rw [IntKind.wrap_u8]; omega
  have e4 : IntKind.i64.wrap L = L := by rw [IntKind.wrap_i64]; omega
  have e5 : IntKind.u64.wrap (T : Int) = (T : Int) := by rw [IntKind.wrap_u64]; omega
  have e6 : (T : Int) % 20 = (q : Int) := by omega
  have e7 : (1 : Int) + (q : Int) = (t : Int) := by omega
  have e8 : IntKind.u64.wrap (t : Int) = (t : Int) := by rw [IntKind.wrap_u64]; omega
  have e9 : IntKind.i64.wrap (-L) = -L := by rw [IntKind.wrap_i64]; omega
  obtain ⟨m, hm⟩ : ∃ m, m = max L (-L) := ⟨_, rfl⟩
  have em : max L (-L) = m := hm.symm
  have HM : Hid (0 ≤ m ∧ m ≤ 32768) := by show _ ∧ _; omega
  have HT : Hid (1 ≤ t ∧ t ≤ 20) := by show _ ∧ _; omega
  have HLL : Hid (-40000 ≤ L ∧ L ≤ 40000) := by show _ ∧ _; omega
  obtain ⟨w1, hw1, hc1, hb1, hs1⟩ : ∃ w1 : World, w1 = w.alloc (.cells #[.int .u8 K, .int .i16 L, .int .u8 T] 29) ∧ w1.heap[w.heap.size]? = some (.cells #[.int .u8 K, .int .i16 L, .int .u8 T] 29 (0, 0)) ∧ Below w.heap.size w w1 ∧ w1.heap.size = w.heap.size + 1 := ⟨_, rfl, heap_alloc_new _ _, (Below.refl _ _).alloc (Nat.le_refl _) _, by simp⟩
  obtain ⟨w2, hw2, hc2, hb2, hs2⟩ : ∃ w2 : World, w2 = w1.alloc (.cells #[.int .u8 0, .int .i64 0, .int .u64 0] 26) ∧ w2.heap[w1.heap.size]? = some (.cells #[.int .u8 0, .int .i64 0, .int .u64 0] 26 (0, 0)) ∧ Below w1.heap.size w1 w2 ∧ w2.heap.size = w1.heap.size + 1 := ⟨_, rfl, heap_alloc_new _ _, (Below.refl _ _).alloc (Nat.le_refl _) _, by simp⟩
  have hr1 : w2.heap[w.heap.size]? = some (.cells #[.int .u8 K, .int .i16 L, .int .u8 T] 29 (0, 0)) := (hb2.block _ (by omega)).trans hc1
  have c0 : w2.cell? ⟨w.heap.size, 0, none⟩ = some (.int .u8 K) := cell_of_row _ _ 0 _ _ _ hr1
  have c1 : w2.cell? ⟨w.heap.size, 1, none⟩ = some (.int .i16 L) := cell_of_row _ _ 1 _ _ _ hr1
  have c2 : w2.cell? ⟨w.heap.size, 2, none⟩ = some (.int .u8 T) := cell_of_row _ _ 2 _ _ _ hr1
  obtain ⟨w3, hw3, hc3, hb3, hs3⟩ := boxP2 w2 26 #[.int .u8 0, .int .i64 0, .int .u64 0] #[.int .u8 k, .int .i64 L, .int .u64 t]
  obtain ⟨g, hg⟩ : ∃ g, g = w1.heap.size := ⟨_, rfl⟩
  obtain ⟨b, hb⟩ : ∃ b, b = w2.heap.size := ⟨_, rfl⟩
  rw [← hb] at hc3
  have hcg : w3.heap[g]? = some (.cells #[.int .u8 0, .int .i64 0, .int .u64 0] 26 (0, 0)) := by rw [hg]; exact (hb3.block _ (by omega)).trans hc2
  have HW1 := Lib.hid hw1
  have HW2 := Lib.hid hw2
  have HW3 := Lib.hid hw3
  have HCG := Lib.hid hcg
  have HCB := Lib.hid hc3
  have HG : Hid (w.heap.size + 1 = g) := by show _ = _; omega
  have HB2 : Hid (w2.heap.size = b) := hb.symm
  have HB : Hid (Below w.heap.size w w3 ∧ w.heap.size ≤ g ∧ w.heap.size ≤ b ∧ g ≠ b) := ⟨(hb1.trans (hb2.mono hb1.size)).trans (hb3.mono (by omega)), by omega, by omega, by omega⟩
  have hk5 : k = 1 ∨ k = 2 ∨ k = 3 ∨ k = 4 ∨ k = 5 := by omega
  clear hw1 hc1 hb1 hs1 hw2 hc2 hb2 hs2 hr1 hg hcg hw3 hc3 hb3 hs3 hr hq hk ht hm hK hT hL hL2 hr5 hq20 hb
  go_enter Tryd.func13, Tryd.ntmps13
  go_upto_region 1 with fail
  rw [← HW1.out]
  first | rw [← HW2.out] | skip
  rw [HG.out]
  go_upto_region 2 with (first | (refine wpList_store_row rfl _ _ _ rfl w2.heap.size #[.int .u8 k, .int .i64 L, .int .u64 t] rfl rfl _ _ (heap_alloc_new _ _) Tryd.infoCc rfl (by simp [Value.oneCell']) ?_) | fail)
  first | rw [← HW3.out, act_put_pt] | rw [← HW3.out]
  rw [HB2.out]
  clear e1 e2 e3 e4 e5 e6 e7 e8
  have b0 : w3.cell? ⟨b, 0, none⟩ = some (.int .u8 k) := cell_of_row _ _ 0 _ _ _ HCB.out
  have b1 : w3.cell? ⟨b, 1, none⟩ = some (.int .i64 L) := cell_of_row _ _ 1 _ _ _ HCB.out
  have b2 : w3.cell? ⟨b, 2, none⟩ = some (.int .u64 t) := cell_of_row _ _ 2 _ _ _ HCB.out
  have z1 : w3.frozen? ⟨b, 1, none⟩ = false := frozen_of_row _ _ _ _ _ HCB.out
  have z2 : w3.frozen? ⟨b, 2, none⟩ = false := frozen_of_row _ _ _ _ _ HCB.out
  clear HW1 HW2 HW3 c0 c1 c2
  have HZ : Hid (∀ (j : Nat) (v : Value) (cs : Array Value), #[Value.int .u8 k, Value.int .i64 L, Value.int .u64 t].setIfInBounds j v = cs → (w3.setCell ⟨b, j, none⟩ v).heap[b]? = some (.cells cs 26 (0, 0)) ∧ (w3.setCell ⟨b, j, none⟩ v).heap[g]? = some (.cells #[.int .u8 0, .int .i64 0, .int .u64 0] 26 (0, 0)) ∧ Below w.heap.size w (w3.setCell ⟨b, j, none⟩ v)) := fun j v cs he => by
    have ho := Only13.setCell w3 b j v
    have hl : g < w3.heap.size := (Array.getElem?_eq_some_iff.1 HCG.out).1
    refine ⟨?_, (ho.block g hl HB.out.2.2.2).trans HCG.out, ho.below HB.out.1 HB.out.1.size HB.out.2.2.1⟩
    rw [← he]
    exact heap_setCell_same _ _ _ _ _ _ HCB.out
  go_upto_block 0 with fail
  go_cut [] (fun wx => Hid (∃ (lim : Int) (tk : Nat), okC k lim tk ∧ -40000 ≤ lim ∧ lim ≤ 40000 ∧ tk ≤ 20 ∧ wx.heap[b]? = some (.cells #[.int .u8 k, .int .i64 lim, .int .u64 tk] 26 (0, 0)) ∧ wx.heap[g]? = some (.cells #[.int .u8 0, .int .i64 0, .int .u64 0] 26 (0, 0)) ∧ Below w.heap.size w wx))
  case first =>
    rcases hk5 with rfl | rfl | rfl | rfl | rfl
    · go_wp2
      go_meet
      obtain ⟨q1, q2, q3⟩ := HZ.out 2 _ _ rfl
      exact ⟨L, 0, by unfold okC; omega, HLL.out.1, HLL.out.2, by omega, q1, q2, q3⟩
    · go_wp2
      go_meet
      obtain ⟨q1, q2, q3⟩ := HZ.out 2 _ _ rfl
      exact ⟨L, 0, by unfold okC; omega, HLL.out.1, HLL.out.2, by omega, q1, q2, q3⟩
    · go_wp2
      go_meet
      obtain ⟨q1, q2, q3⟩ := HZ.out 1 _ _ rfl
      have := HT.out
      exact ⟨0, t, by unfold okC; omega, by decide, by decide, by omega, q1, q2, q3⟩
    · go_wp2
      go_meet
      obtain ⟨q1, q2, q3⟩ := HZ.out 1 _ _ rfl
      have := HT.out
      have := HM.out
      exact ⟨m, t, by unfold okC; omega, by omega, by omega, by omega, q1, q2, q3⟩
    · go_wp2
      go_meet
      obtain ⟨q1, q2, q3⟩ := HZ.out 1 _ _ rfl
      have := HT.out
      have := HM.out
      exact ⟨m, t, by unfold okC; omega, by omega, by omega, by omega, q1, q2, q3⟩
  case rest =>
    obtain ⟨lim, tk, h1, h2, h3, h4, h5, h6, h7⟩ := hcut.out
    have HX := Lib.hid (⟨h1, h2, h3, h4, h5, h6, h7⟩ : _ ∧ _ ∧ _ ∧ _ ∧ _ ∧ _ ∧ _)
    have HK5 : Hid (k < 256) := by show k < 256; omega
    clear hcut h1 h2 h3 h4 h5 h6 h7 HZ
    go_wp2_with (first
      | (refine wpList_load_row rfl _ _ rfl b rfl _ _ _ _ HX.out.2.2.2.2.1 Tryd.underlying26 rfl (by kernel_rfl) ?_)
      | (refine wpList_store_row rfl _ _ _ rfl g #[.int .u8 k, .int .i64 lim, .int .u64 tk] rfl rfl _ _ HX.out.2.2.2.2.2.1 Tryd.infoCc rfl (by simp [Value.oneCell']) ?_)
      | fail)
    refine bodyPost_ret (v := .agg #[.int .u8 k, .int .i64 lim, .int .u64 tk]) ?_ rfl ⟨k, lim, tk, rfl, HX.out.1, HK5.out, HX.out.2.1, HX.out.2.2.1, HX.out.2.2.2.1, below_setRow HX.out.2.2.2.2.2.2 HB.out.2.1 _⟩
    exact results_cell_row rfl _ _ g _ _ _ _ rfl (setRow_heap _ _ _ _ _ _ HX.out.2.2.2.2.2.1) Tryd.underlying26 rfl (by kernel_rfl)
end Go.Proofs.YthggaedpbmjclaaDoor
