/- Layer 13: Holds of a series that has points, and of one that has none. -/
import Derived.Test.YthggaedpbmjclaaDoorCdHold2
import Derived.Deep.CutBlock
import Derived.Deep.DeepCutAuto
namespace Go.Proofs.YthggaedpbmjclaaDoor
open Go.RowKit Go.Proofs

section
variable {s : Nat} {L : List Pt} {p : Pt}
set_option maxRecDepth 100000 in
set_option maxHeartbeats 1000000 in
theorem chol_some {k tk now : Nat} {lim : Int} (w : World) (h : SerAt w s L) (hok : ∀ q ∈ L, OkPt q) (hp : L.getLast? = some p) (hk : 1 ≤ k) (hk5 : k ≤ 5) (hl : 4 ≤ k → 0 ≤ lim) (hl2 : lim < 9223372036854775808) (htk : tk ≤ 1048576) (hn : now ≤ 4398046511104) :
    Calls Tryd.prog 19 #[.agg #[.int .u8 k, .int .i64 lim, .int .u64 tk], .pointer (some ⟨s, 0, none⟩), .int .u64 now] w fun e w' => e = .returned (.tuple #[.bool (holdsK k lim tk L p now), .int .i64 p.v]) ∧ Below w.heap.size w w' := by
  have hpo : OkPt p := hok p (List.mem_of_getLast? hp)
  obtain ⟨w1, hw1, hc1, hb1, hs1⟩ : ∃ w1 : World, w1 = w.alloc (.cells #[.int .u8 k, .int .i64 lim, .int .u64 tk] 26) ∧ w1.heap[w.heap.size]? = some (.cells #[.int .u8 k, .int .i64 lim, .int .u64 tk] 26 (0, 0)) ∧ Below w.heap.size w w1 ∧ w1.heap.size = w.heap.size + 1 := ⟨_, rfl, heap_alloc_new _ _, (Below.refl _ _).alloc (Nat.le_refl _) _, by simp⟩
  obtain ⟨w2, hw2, hc2, hb2, hs2⟩ : ∃ w2 : World, w2 = w1.alloc (.cells #[.int .u64 now] 24) ∧ w2.heap[w1.heap.size]? = some (.cells #[.int .u64 now] 24 (0, 0)) ∧ Below w1.heap.size w1 w2 ∧ w2.heap.size = w1.heap.size + 1 := ⟨_, rfl, heap_alloc_new _ _, (Below.refl _ _).alloc (Nat.le_refl _) _, by simp⟩
  have hb02 : Below w.heap.size w w2 := hb1.trans (hb2.mono hb1.size)
  have HL := Lib.hid (clast_some w2 (h.below hb02) hp)
  have HC : Hid (∀ W, Below w2.heap.size w2 W → W.cell? ⟨w.heap.size, 0, none⟩ = some (.int .u8 k) ∧ W.cell? ⟨w.heap.size, 1, none⟩ = some (.int .i64 lim) ∧ W.cell? ⟨w.heap.size, 2, none⟩ = some (.int .u64 tk) ∧ W.cell? ⟨w1.heap.size, 0, none⟩ = some (.int .u64 now) ∧ SerAt W s L ∧ Below w.heap.size w W) := fun W hW => by
    have e1 : W.heap[w.heap.size]? = some (.cells #[.int .u8 k, .int .i64 lim, .int .u64 tk] 26 (0, 0)) := (hW.block _ (by omega)).trans ((hb2.block _ (by omega)).trans hc1)
    have e2 : W.heap[w1.heap.size]? = some (.cells #[.int .u64 now] 24 (0, 0)) := (hW.block _ (by omega)).trans hc2
    have hbW := hb02.trans (hW.mono hb02.size)
    exact ⟨cell_of_row _ _ 0 _ _ _ e1, cell_of_row _ _ 1 _ _ _ e1, cell_of_row _ _ 2 _ _ _ e1, cell_of_row _ _ 0 _ _ _ e2, h.below hbW, hbW⟩
  have HW1 := Lib.hid hw1
  have HW2 := Lib.hid hw2
  have HOK := Lib.hid hok
  have HPO := Lib.hid hpo
  obtain ⟨bc, hbc⟩ : ∃ b, b = w.heap.size := ⟨_, rfl⟩
  obtain ⟨bn, hbn⟩ : ∃ b, b = w1.heap.size := ⟨_, rfl⟩
  have HBC := Lib.hid hbc
  have HBN := Lib.hid hbn
  rw [← hbc, ← hbn] at HC
  have HBE : Hid (bc + 1 = bn) := by show bc + 1 = bn; omega
  clear h hok hp hpo hw1 hc1 hb1 hs1 hw2 hc2 hb2 hs2 hb02 hbc hbn
  go_enter Tryd.func19, Tryd.ntmps19
  go_upto_region 1 with fail
  rw [← HW1.out]
  first | rw [← HW2.out] | skip
  rw [← HBC.out]
  rw [HBE.out]
  go_wp2_with fail
  refine HL.out.mono ?_
  rintro _ w3 ⟨rfl, hb3⟩
  have HB3 := Lib.hid hb3
  clear hb3
  go_upto_region 2 with (first | (refine wpList_store_row rfl _ _ _ rfl w3.heap.size #[.int .u64 p.t, .int .i64 p.v] rfl rfl _ _ (heap_alloc_new _ _) Tryd.infoPt rfl (by simp [Value.oneCell']) ?_) | fail)
  obtain ⟨w4, hw4, hc4, hb4, -⟩ := boxP2 w3 51 #[.int .u64 0, .int .i64 0] #[.int .u64 p.t, .int .i64 p.v]
  first | rw [← hw4, act_put_pt] | rw [← hw4]
  obtain ⟨bl, hbl⟩ : ∃ b, b = w3.heap.size := ⟨_, rfl⟩
  rw [← hbl] at hc4 ⊢
  obtain ⟨c0, c1, c2, n0, hser, hbw⟩ := HC.out w4 (HB3.out.trans (hb4.mono HB3.out.size))
  have l0 : w4.cell? ⟨bl, 0, none⟩ = some (.int .u64 p.t) := cell_of_row _ _ 0 _ _ _ hc4
  have l1 : w4.cell? ⟨bl, 1, none⟩ = some (.int .i64 p.v) := cell_of_row _ _ 1 _ _ _ hc4
  have hbw : Below w.heap.size w w4 := by rw [HBC.out] at hbw; exact hbw
  have HS := Lib.hid hser
  have HB := Lib.hid hbw
  clear hw4 hc4 hb4 HB3 HL HC HW1 HW2 HBC HBN HBE hser hbw hbl
  obtain ⟨v, hv⟩ : ∃ v, v = p.v := ⟨_, rfl⟩
  obtain ⟨t, ht⟩ : ∃ t, t = p.t := ⟨_, rfl⟩
  have HCT : Hid (Caught w4 bc bn bl lim tk now p) := ⟨c1, c2, n0, l1⟩
  have HV := Lib.hid hv
  have HT := Lib.hid ht
  obtain ⟨r, hr⟩ : ∃ r, r = holdsK k lim tk L p now := ⟨_, rfl⟩
  have HR := Lib.hid hr
  clear hr
  have HRES : Hid (∀ (W : World), Below w.heap.size w W → (Ending.returned (.tuple #[.bool r, .int .i64 v]) = Ending.returned (.tuple #[.bool (holdsK k lim tk L p now), .int .i64 p.v]))) := fun W _ => by rw [HR.out, HV.out]
  rw [← hv] at l1
  rw [← ht] at l0
  clear hv ht
  go_upto_block 0 with fail
  go_cut [10] (fun bv wx => bv = .bool r ∧ Hid (Below w.heap.size w wx ∧ wx.cell? ⟨bl, 1, none⟩ = some (.int .i64 v)))
  case first =>
    have hkk : k = 1 ∨ k = 2 ∨ k = 3 ∨ k = 4 ∨ k = 5 := by omega
    rcases hkk with rfl | rfl | rfl | rfl | rfl
    · have e1 : r = decide (lim < v) := by rw [HR.out, HV.out]; rfl
      subst e1
      clear HR HRES
      go_wp2
      go_meet
      exact ⟨rfl, HB.out, l1⟩
    · have e1 : r = decide (v < lim) := by rw [HR.out, HV.out]; rfl
      subst e1
      clear HR HRES
      go_wp2
      go_meet
      exact ⟨rfl, HB.out, l1⟩
    · have e1 : r = (decide (t < now) && decide (t + tk ≤ now)) := by rw [HR.out, HT.out]; rfl
      by_cases h1 : t < now
      · obtain ⟨d, hd⟩ : ∃ d, now = t + d := ⟨now - t, by omega⟩
        have d1 : decide ((t : Int) < (now : Int)) = true := decide_eq_true (by omega)
        have d2 : decide (t < now) = true := decide_eq_true h1
        have e3 : (now : Int) - (t : Int) = (d : Int) := by omega
        have e4 : IntKind.u64.wrap (d : Int) = (d : Int) := by rw [IntKind.wrap_u64]; omega
        have e5 : decide (t + tk ≤ now) = decide (tk ≤ d) := by rw [decide_eq_decide]; omega
        rw [e5, d2, Bool.true_and] at e1
        clear hd h1 e5
        subst e1
        clear HR HRES
        go_wp2
        go_meet
        exact ⟨by simp, HB.out, l1⟩
      · have d1 : decide ((t : Int) < (now : Int)) = false := decide_eq_false (by omega)
        have d2 : decide (t < now) = false := decide_eq_false h1
        rw [d2, Bool.false_and] at e1
        clear h1
        subst e1
        clear HR HRES
        go_wp2
        go_meet
        exact ⟨rfl, HB.out, l1⟩
    · have e1 : r = L.any (risesB p lim tk now) := by rw [HR.out]; rfl
      have HCS := Lib.hid (csome_any w4 HS.out HOK.out (risesB p lim tk now) 31 #[.pointer (some ⟨bc, 0, none⟩), .pointer (some ⟨bn, 0, none⟩), .pointer (some ⟨bl, 0, none⟩)] (enters_of Tryd.func31 (by kernel_rfl) rfl) (rises_pred (HCT.out.below (Below.refl _ w4).drew) (hl (by omega)) hl2 (by omega) (by omega) HPO.out))
      rw [← e1] at HCS
      clear e1 HR HRES
      go_wp2_with fail
      refine HCS.out.mono ?_
      rintro _ w5 ⟨rfl, hb5⟩
      have l2 := (hb5.cell (p := ⟨bl, 1, none⟩) (World.block_lt_of_cell? _ _ l1)).trans l1
      have HB5 := Lib.hid (HB.out.trans (hb5.mono HB.out.size))
      clear hb5
      go_wp2
      go_meet
      exact ⟨rfl, HB5.out, l2⟩
    · have e1 : r = L.any (fallsB p lim tk now) := by rw [HR.out]; rfl
      have HCS := Lib.hid (csome_any w4 HS.out HOK.out (fallsB p lim tk now) 34 #[.pointer (some ⟨bc, 0, none⟩), .pointer (some ⟨bn, 0, none⟩), .pointer (some ⟨bl, 0, none⟩)] (enters_of Tryd.func34 (by kernel_rfl) rfl) (falls_pred (HCT.out.below (Below.refl _ w4).drew) (hl (by omega)) hl2 (by omega) (by omega) HPO.out))
      rw [← e1] at HCS
      clear e1 HR HRES
      go_wp2_with fail
      refine HCS.out.mono ?_
      rintro _ w5 ⟨rfl, hb5⟩
      have l2 := (hb5.cell (p := ⟨bl, 1, none⟩) (World.block_lt_of_cell? _ _ l1)).trans l1
      have HB5 := Lib.hid (HB.out.trans (hb5.mono HB.out.size))
      clear hb5
      go_wp2
      go_meet
      exact ⟨rfl, HB5.out, l2⟩
  case rest =>
    obtain ⟨rfl, HX⟩ := hcut
    have l2 := HX.out.2
    clear HR
    go_upto_region 16 with fail
    go_quiet (fail)
    have hb : Below w.heap.size w (wc.drewN nq) := (HX.out.1).trans ⟨rfl, rfl, rfl, Nat.le_refl _, fun _ _ => rfl⟩
    go_wp2
    go_ret2
    exact ⟨HRES.out wc HX.out.1, hb⟩
set_option maxRecDepth 100000 in
set_option maxHeartbeats 1000000 in
theorem chol_none {k tk now : Nat} {lim : Int} (w : World) (h : SerAt w s []) :
    Calls Tryd.prog 19 #[.agg #[.int .u8 k, .int .i64 lim, .int .u64 tk], .pointer (some ⟨s, 0, none⟩), .int .u64 now] w fun e w' => e = .returned (.tuple #[.bool false, .int .i64 0]) ∧ Below w.heap.size w w' := by
  obtain ⟨w2, hw2⟩ : ∃ w2 : World, w2 = (w.alloc (.cells #[.int .u8 k, .int .i64 lim, .int .u64 tk] 26)).alloc (.cells #[.int .u64 now] 24) := ⟨_, rfl⟩
  have hb2 : Below w.heap.size w w2 := by rw [hw2]; exact ((Below.refl _ _).alloc (Nat.le_refl _) _).alloc (by simp) _
  have HL := Lib.hid (clast_none w2 (h.below hb2))
  have HW2 := Lib.hid hw2
  have HB2 := Lib.hid hb2
  clear h hw2 hb2
  go_enter Tryd.func19, Tryd.ntmps19
  go_upto_region 1 with fail
  rw [← HW2.out]
  go_wp2_with fail
  refine HL.out.mono ?_
  rintro _ w3 ⟨rfl, hb3⟩
  have HB3 := Lib.hid (HB2.out.trans (hb3.mono HB2.out.size))
  clear hb3
  go_upto_region 2 with (first | (refine wpList_store_row rfl _ _ _ rfl w3.heap.size #[.int .u64 0, .int .i64 0] rfl rfl _ _ (heap_alloc_new _ _) Tryd.infoPt rfl (by simp [Value.oneCell']) ?_) | fail)
  obtain ⟨w4, hw4, hc4, hb4, -⟩ := boxP2 w3 51 #[.int .u64 0, .int .i64 0] #[.int .u64 0, .int .i64 0]
  first | rw [← hw4, act_put_pt] | rw [← hw4]
  have HB4 := Lib.hid (HB3.out.trans (hb4.mono HB3.out.size))
  clear hw4 hc4 hb4
  go_wp2
  go_ret2
  exact ⟨rfl, HB4.out⟩
end
end Go.Proofs.YthggaedpbmjclaaDoor
