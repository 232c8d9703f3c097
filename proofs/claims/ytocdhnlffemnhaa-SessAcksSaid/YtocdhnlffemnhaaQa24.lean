/- Several texts in one: SsCode, SsChk. -/
import Derived.Test.YtocdhnlffemnhaaQa6
import Derived.Test.YtocdhnlffemnhaaQa19
import Derived.Test.YtocdhnlffemnhaaQa21
import Derived.Test.YtocdhnlffemnhaaQa23
/- Layer 12: which errors New, NewOut, NewIn answer, of any numbers. -/
namespace Go.Proofs.Ytocdhnlffemnhaa
open Go.RowKit
def winE (z : Int) : Nat := if z < 1 ∨ 64 < z then 19 else 0
def newE (z : Int) (f m : Nat) : Nat := if z < 1 ∨ 64 < z then 19 else if f = 0 ∨ m < f ∨ 1048576 < m then 6 else 0
def endE (a b l c : Nat) : Nat := if 31 < a ∨ 31 < b ∨ a = b then 20 else if l < 1 ∨ 1048575 < l then 6 else c
/-- an error and what comes beside it -/
def CodeP (w : World) (n : Nat) (e : Ending) (w' : World) : Prop := ∃ v : Option Addr, e = .returned (.tuple #[.pointer v, .int .i64 n]) ∧ (n = 0 → ∃ b, v = some ⟨b, 0, none⟩) ∧ (n ≠ 0 → v = none) ∧ Below w.heap.size w w'
theorem sdnew_code (z : Int) (f m : Nat) (w : World) : Calls Try.prog 9 #[.int .i64 z, .int .u64 f, .int .u64 m] w (CodeP w (newE z f m)) := by
  unfold newE
  by_cases h1 : z < 1 ∨ 64 < z
  · rw [if_pos h1]
    refine (sdnew_wrong z f m h1 w).mono ?_
    rintro e w' ⟨rfl, rfl⟩
    exact ⟨none, rfl, fun h => (by cases h), fun _ => rfl, Below.refl _ _⟩
  · rw [if_neg h1]
    by_cases h2 : f = 0 ∨ m < f ∨ 1048576 < m
    · rw [if_pos h2]
      refine (sdnew_range z f m (by omega) (by omega) h2 w).mono ?_
      rintro e w' ⟨rfl, rfl⟩
      exact ⟨none, rfl, fun h => (by cases h), fun _ => rfl, Below.refl _ _⟩
    · rw [if_neg h2]
      obtain ⟨k, rfl⟩ : ∃ k : Nat, z = k := ⟨z.toNat, by omega⟩
      refine (sdnew_any k f m (by omega) (by omega) (by omega) (by omega) (by omega) w).mono ?_
      rintro e w' ⟨rfl, _, hb⟩
      exact ⟨_, rfl, fun _ => ⟨_, rfl⟩, fun h => absurd rfl h, hb⟩
theorem sdnew_err {z : Int} {f m n : Nat} (hn : newE z f m = n) (h0 : n ≠ 0) (w : World) : Calls Try.prog 9 #[.int .i64 z, .int .u64 f, .int .u64 m] w fun e w' => e = .returned (.tuple #[.pointer none, .int .i64 n]) ∧ w = w' := by
  unfold newE at hn
  by_cases h1 : z < 1 ∨ 64 < z
  · rw [if_pos h1] at hn
    subst hn
    exact sdnew_wrong z f m h1 w
  · rw [if_neg h1] at hn
    by_cases h2 : f = 0 ∨ m < f ∨ 1048576 < m
    · rw [if_pos h2] at hn
      subst hn
      exact sdnew_range z f m (by omega) (by omega) h2 w
    · rw [if_neg h2] at hn
      exact absurd hn.symm h0
theorem rnew_code (z : Int) (w : World) : Calls Try.prog 10 #[.int .i64 z] w (CodeP w (winE z)) := by
  unfold winE
  by_cases h1 : z < 1 ∨ 64 < z
  · rw [if_pos h1]
    refine (rnew_wrong z h1 w).mono ?_
    rintro e w' ⟨rfl, rfl⟩
    exact ⟨none, rfl, fun h => (by cases h), fun _ => rfl, Below.refl _ _⟩
  · rw [if_neg h1]
    obtain ⟨k, rfl⟩ : ∃ k : Nat, z = k := ⟨z.toNat, by omega⟩
    refine (rnew_any k (by omega) (by omega) w).mono ?_
    rintro e w' ⟨rfl, _, hb⟩
    exact ⟨_, rfl, fun _ => ⟨_, rfl⟩, fun h => absurd rfl h, hb⟩
theorem newOut_code (a b l f m : Nat) (z : Int) (w : World) : Calls Try.prog 6 #[.int .u8 a, .int .u8 b, .int .u64 l, timV z f m] w (CodeP w (endE a b l (newE z f m))) := by
  unfold endE
  by_cases h1 : 31 < a ∨ 31 < b ∨ a = b
  · rw [if_pos h1]
    refine (newOut_ends a b l f m z 20 w (by decide) (fun W => newEnds_node a b l h1 W)).mono ?_
    rintro e w' ⟨rfl, hb⟩
    exact ⟨none, rfl, fun h => (by cases h), fun _ => rfl, hb⟩
  · rw [if_neg h1]
    by_cases h2 : l < 1 ∨ 1048575 < l
    · rw [if_pos h2]
      refine (newOut_ends a b l f m z 6 w (by decide) (fun W => newEnds_range a b l (by omega) (by omega) (by omega) (by omega) W)).mono ?_
      rintro e w' ⟨rfl, hb⟩
      exact ⟨none, rfl, fun h => (by cases h), fun _ => rfl, hb⟩
    · rw [if_neg h2]
      obtain ⟨n, hn⟩ : ∃ n, n = newE z f m := ⟨_, rfl⟩
      rw [← hn]
      by_cases h0 : n = 0
      · have h3 : ∃ k : Nat, z = k ∧ 1 ≤ k ∧ k ≤ 64 ∧ 0 < f ∧ f ≤ m ∧ m ≤ 1048576 := by
          unfold newE at hn
          split at hn
          · omega
          · split at hn
            · omega
            · exact ⟨z.toNat, by omega, by omega, by omega, by omega, by omega, by omega⟩
        obtain ⟨k, rfl, k1, k2, k3, k4, k5⟩ := h3
        refine (newOut_any a b l k f m w (by omega) (by omega) (by omega) (by omega) (by omega) k1 k2 k3 k4 k5).mono ?_
        rintro e w' ⟨S, o, rfl, _, _, hb⟩
        rw [h0]
        exact ⟨_, rfl, fun _ => ⟨_, rfl⟩, fun h => absurd rfl h, hb⟩
      · refine (newOut_bad a b l f m z n w (by omega) (by omega) (by omega) (by omega) (by omega) (by omega) (fun W => sdnew_err hn.symm h0 W)).mono ?_
        rintro e w' ⟨rfl, hb⟩
        exact ⟨none, rfl, fun h => absurd h h0, fun _ => rfl, hb⟩
theorem newIn_code (a b l : Nat) (z : Int) (w : World) : Calls Try.prog 11 #[.int .u8 a, .int .u8 b, .int .u64 l, .int .i64 z] w (CodeP w (endE a b l (winE z))) := by
  unfold endE
  by_cases h1 : 31 < a ∨ 31 < b ∨ a = b
  · rw [if_pos h1]
    refine (newIn_ends a b l z 20 w (by decide) (fun W => newEnds_node a b l h1 W)).mono ?_
    rintro e w' ⟨rfl, hb⟩
    exact ⟨none, rfl, fun h => (by cases h), fun _ => rfl, hb⟩
  · rw [if_neg h1]
    by_cases h2 : l < 1 ∨ 1048575 < l
    · rw [if_pos h2]
      refine (newIn_ends a b l z 6 w (by decide) (fun W => newEnds_range a b l (by omega) (by omega) (by omega) (by omega) W)).mono ?_
      rintro e w' ⟨rfl, hb⟩
      exact ⟨none, rfl, fun h => (by cases h), fun _ => rfl, hb⟩
    · rw [if_neg h2]
      unfold winE
      by_cases h3 : z < 1 ∨ 64 < z
      · rw [if_pos h3]
        refine (newIn_bad a b l z 19 w (by omega) (by omega) (by omega) (by omega) (by omega) (by decide) (fun W => rnew_wrong z h3 W)).mono ?_
        rintro e w' ⟨rfl, hb⟩
        exact ⟨none, rfl, fun h => (by cases h), fun _ => rfl, hb⟩
      · rw [if_neg h3]
        obtain ⟨k, rfl⟩ : ∃ k : Nat, z = k := ⟨z.toNat, by omega⟩
        refine (newIn_any a b l k w (by omega) (by omega) (by omega) (by omega) (by omega) (by omega) (by omega)).mono ?_
        rintro e w' ⟨S, i, rfl, _, _, hb⟩
        exact ⟨_, rfl, fun _ => ⟨_, rfl⟩, fun h => absurd rfl h, hb⟩
set_option maxRecDepth 100000 in
set_option maxHeartbeats 400000 in
theorem tcheck_any (f m : Nat) (z : Int) (w : World) : Calls Try.prog 13 #[timV z f m] w fun e w' => e = .returned (.int .i64 (newE z f m : Nat)) ∧ Below w.heap.size w w' := by
  have HN := Lib.hid (fun W => sdnew_code z f m W)
  obtain ⟨V, hV⟩ : ∃ V, V = w.alloc (.cells #[.int .i64 z, .int .u64 f, .int .u64 m] 40) := ⟨_, rfl⟩
  have hx : V.heap[w.heap.size]? = some (.cells #[.int .i64 z, .int .u64 f, .int .u64 m] 40 (0, 0)) := by rw [hV]; exact heap_alloc_new _ _
  have HB : Hid (Below w.heap.size w V) := by rw [hV]; exact (Below.refl _ _).alloc (Nat.le_refl _) _
  have x0 : V.cell? ⟨w.heap.size, 0, none⟩ = some (.int .i64 z) := cell_of_row _ _ 0 _ _ _ hx
  have x1 : V.cell? ⟨w.heap.size, 1, none⟩ = some (.int .u64 f) := cell_of_row _ _ 1 _ _ _ hx
  have x2 : V.cell? ⟨w.heap.size, 2, none⟩ = some (.int .u64 m) := cell_of_row _ _ 2 _ _ _ hx
  clear hx
  unfold timV
  go_enter Try.func13, Try.ntmps13
  go_upto_region 1 with fail
  rw [← hV]
  clear hV
  go_wp2_with fail
  refine (HN.out V).mono ?_
  rintro _ w1 ⟨v, rfl, _, _, hb1⟩
  have HB1 := Lib.hid (HB.out.trans (hb1.mono HB.out.size))
  clear hb1 HN
  go_wp2
  go_ret
  exact ⟨rfl, HB1.out⟩
set_option maxRecDepth 100000 in
set_option maxHeartbeats 400000 in
/-- the document's example -/
theorem awake12_any (w : World) : Calls Try.prog 5 #[] w fun e w' => e = .returned (.bool true) ∧ Below w.heap.size w w' := by
  have HN := Lib.hid (newOut_any 1 0 2 3 1 4 w (by decide) (by decide) (by decide) (by decide) (by decide) (by decide) (by decide) (by decide) (by decide) (by decide))
  unfold timV at HN
  go_enter Try.func5, Try.ntmps5
  go_wp2_with fail
  refine HN.out.mono ?_
  rintro _ w1 ⟨S, o, rfl, ho, hS, hb1⟩
  have HB1 := Lib.hid hb1
  have HE := Lib.hid (oepoch_any w1 ho (by decide) (by decide))
  clear hb1 ho hS HN
  go_wp2_with fail
  refine HE.out.mono ?_
  rintro _ w2 ⟨rfl, hb2⟩
  have HB2 := Lib.hid (HB1.out.trans (hb2.mono HB1.out.size))
  clear hb2 HE
  have e1 : (Ou.ep ⟨1, 0, 2, 3, 1, 4, 1, 0⟩ : Nat) = 2097153 := by decide
  rw [e1]
  go_wp2
  go_ret
  exact ⟨rfl, HB2.out⟩
end Go.Proofs.Ytocdhnlffemnhaa
/- Layer 12: a frame's kind and way. -/
namespace Go.Proofs.Ytocdhnlffemnhaa
open Go.RowKit
set_option maxRecDepth 100000 in
set_option maxHeartbeats 400000 in
theorem echeck_any (me pe li kd : Nat) (f : Fm) (w : World) :
    Calls Try.prog 23 #[.agg #[.int .u8 me, .int .u8 pe, .int .u64 li], .agg (frmC f).toArray, .int .u8 kd] w fun e w' => e = .returned (.int .i64 (wayE me pe kd f : Nat)) ∧ Below w.heap.size w w' := by
  obtain ⟨b1, hb1⟩ : ∃ b1, b1 = ((f.k : Int) == (kd : Int)) := ⟨_, rfl⟩
  obtain ⟨b2, hb2⟩ : ∃ b2, b2 = ((f.f : Int) == (pe : Int)) := ⟨_, rfl⟩
  obtain ⟨b3, hb3⟩ : ∃ b3, b3 = ((f.t : Int) == (me : Int)) := ⟨_, rfl⟩
  have g1 : ((f.k : Int) == (kd : Int)) = b1 := hb1.symm
  have g2 : ((f.f : Int) == (pe : Int)) = b2 := hb2.symm
  have g3 : ((f.t : Int) == (me : Int)) = b3 := hb3.symm
  have HE : Hid (wayE me pe kd f = if b1 then (if b2 && b3 then 0 else 21) else 12) := by
    have e1 : b1 = decide (f.k = kd) := by rw [hb1, Bool.eq_iff_iff, beq_iff_eq, decide_eq_true_iff]; omega
    have e2 : b2 = decide (f.f = pe) := by rw [hb2, Bool.eq_iff_iff, beq_iff_eq, decide_eq_true_iff]; omega
    have e3 : b3 = decide (f.t = me) := by rw [hb3, Bool.eq_iff_iff, beq_iff_eq, decide_eq_true_iff]; omega
    unfold wayE
    rw [e1, e2, e3]
    by_cases h1 : f.k = kd
    · rw [if_neg (fun h => h h1), decide_eq_true h1]
      by_cases h2 : f.f = pe
      · by_cases h3 : f.t = me
        · rw [if_neg (by simp [h2, h3]), decide_eq_true h2, decide_eq_true h3]; rfl
        · rw [if_pos (.inr h3), decide_eq_false h3, Bool.and_false]; rfl
      · rw [if_pos (.inl h2), decide_eq_false h2]; rfl
    · rw [if_pos h1, decide_eq_false h1]; rfl
  obtain ⟨n1, hn1⟩ : ∃ n1, n1 = !b1 := ⟨_, rfl⟩
  obtain ⟨n2, hn2⟩ : ∃ n2, n2 = !b2 := ⟨_, rfl⟩
  obtain ⟨n3, hn3⟩ : ∃ n3, n3 = !b3 := ⟨_, rfl⟩
  have m1 : ((f.k : Int) != (kd : Int)) = n1 := by rw [hn1, bne, g1]
  have m2 : ((f.f : Int) != (pe : Int)) = n2 := by rw [hn2, bne, g2]
  have m3 : ((f.t : Int) != (me : Int)) = n3 := by rw [hn3, bne, g3]
  clear hb1 hb2 hb3
  obtain ⟨V, hV⟩ : ∃ V, V = (w.alloc (.cells #[.int .u8 me, .int .u8 pe, .int .u64 li] 66)).alloc (.cells (frmC f).toArray 32) := ⟨_, rfl⟩
  have hb : Below w.heap.size w V := by rw [hV]; exact ((Below.refl _ _).alloc (Nat.le_refl _) _).alloc (by simp) _
  have hx : V.heap[w.heap.size + 1]? = some (.cells (frmC f).toArray 32 (0, 0)) := by
    rw [hV]
    have := heap_alloc_new (w.alloc (.cells #[.int .u8 me, .int .u8 pe, .int .u64 li] 66)) (.cells (frmC f).toArray 32)
    simpa using this
  have hy : V.heap[w.heap.size]? = some (.cells #[.int .u8 me, .int .u8 pe, .int .u64 li] 66 (0, 0)) := by
    rw [hV]
    exact (((Below.refl _ _).alloc (by simp) _ : Below (w.heap.size + 1) _ _).block _ (by simp)).trans (heap_alloc_new _ _)
  have HX := Lib.hid (⟨cell_of_row _ _ 0 _ _ _ hx, cell_of_row _ _ 1 _ _ _ hx, cell_of_row _ _ 2 _ _ _ hx⟩ : V.cell? ⟨w.heap.size + 1, 0, none⟩ = some (.int .u8 f.k) ∧ V.cell? ⟨w.heap.size + 1, 1, none⟩ = some (.int .u8 f.f) ∧ V.cell? ⟨w.heap.size + 1, 2, none⟩ = some (.int .u8 f.t))
  have HY := Lib.hid (⟨cell_of_row _ _ 0 _ _ _ hy, cell_of_row _ _ 1 _ _ _ hy⟩ : V.cell? ⟨w.heap.size, 0, none⟩ = some (.int .u8 me) ∧ V.cell? ⟨w.heap.size, 1, none⟩ = some (.int .u8 pe))
  have HB := Lib.hid hb
  clear hx hy hb
  go_enter Try.func23, Try.ntmps23
  go_upto_region 1 with fail
  rw [← hV]
  clear hV
  obtain ⟨x0, x1, x2⟩ := HX.out
  obtain ⟨y0, y1⟩ := HY.out
  cases b1 <;> cases b2 <;> cases b3
  all_goals
    subst hn1; subst hn2; subst hn3
    simp only [Bool.not_true, Bool.not_false] at m1 m2 m3
    clear g1 g2 g3
    go_wp2
    go_ret
    exact ⟨by rw [HE.out]; rfl, HB.out⟩
end Go.Proofs.Ytocdhnlffemnhaa
