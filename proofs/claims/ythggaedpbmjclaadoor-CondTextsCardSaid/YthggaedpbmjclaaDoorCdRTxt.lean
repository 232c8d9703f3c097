/- Layer 13: a condition's text: the document's. -/
import Derived.Test.YthggaedpbmjclaaDoorCdText
namespace Go.Proofs.YthggaedpbmjclaaDoor
open Go.RowKit Go.Proofs

theorem joinJ1 (x y : ByteArray) : joinJ x [y] = x ++ ⟨#[32]⟩ ++ y := by
  apply ByteArray.ext
  apply Array.toList_inj.1
  simp [joinJ, tailJ]
theorem joinJ2 (x y z : ByteArray) : joinJ x [y, z] = x ++ ⟨#[32]⟩ ++ y ++ ⟨#[32]⟩ ++ z := by
  apply ByteArray.ext
  apply Array.toList_inj.1
  simp [joinJ, tailJ]
/-- the row of the kinds' words -/
def namesR : Array Value := #[.string ⟨#[]⟩, .string nameA, .string nameB, .string nameC, .string nameR, .string nameF]
theorem boxRow (W : World) (q : TypeId) (r : Array Value) : ∃ V, V = W.alloc (.cells r q) ∧ V.heap[W.heap.size]? = some (.cells r q (0, 0)) ∧ Below W.heap.size W V :=
  ⟨_, rfl, heap_alloc_new _ _, (Below.refl _ _).alloc (Nat.le_refl _) _⟩
set_option maxRecDepth 100000 in
set_option maxHeartbeats 4000000 in
theorem rtext_any (k : Nat) (lim : Int) (tk : Nat) (w : World) (h0 : -9223372036854775808 ≤ lim) (h1 : lim < 9223372036854775808) (h2 : tk < 18446744073709551616) :
    Calls Tryd.prog 12 #[.agg #[.int .i64 k, .int .i64 lim, .int .u64 tk]] w fun e w' => e = .returned (.string (textF k lim tk)) ∧ Below w.heap.size w w' := by
  have HI := Lib.hid (fun W => rsigned_any lim h0 h1 W)
  have HU := Lib.hid (fun W => ritoa_any tk W h2)
  obtain ⟨w1, hw1, hc1, hb1⟩ := boxRow w 35 #[.int .i64 k, .int .i64 lim, .int .u64 tk]
  obtain ⟨w2, hw2, hc2, hb2⟩ := boxRow w1 9 #[.string ⟨#[]⟩, .string ⟨#[97, 98, 111, 118, 101]⟩, .string ⟨#[98, 101, 108, 111, 119]⟩, .string ⟨#[97, 98, 115, 101, 110, 116]⟩, .string ⟨#[114, 105, 115, 101, 115]⟩, .string ⟨#[102, 97, 108, 108, 115]⟩]
  have hb02 := hb1.trans (hb2.mono hb1.size)
  obtain ⟨bc, hbc⟩ : ∃ b, b = w.heap.size := ⟨_, rfl⟩
  obtain ⟨bn, hbn⟩ : ∃ b, b = w1.heap.size := ⟨_, rfl⟩
  rw [← hbc] at hc1
  rw [← hbn] at hc2
  have hlt := (Array.getElem?_eq_some_iff.1 hc1).1
  have hlt2 := (Array.getElem?_eq_some_iff.1 hc2).1
  have HC : Hid (∀ W, Below w2.heap.size w2 W → W.cell? ⟨bc, 0, none⟩ = some (.int .i64 k) ∧ W.cell? ⟨bc, 1, none⟩ = some (.int .i64 lim) ∧ W.cell? ⟨bc, 2, none⟩ = some (.int .u64 tk) ∧ (∀ j x, namesR[j]? = some x → W.cell? ⟨bn, j, none⟩ = some x) ∧ Below w.heap.size w W) := fun W hW => by
    have e1 : W.heap[bc]? = some (.cells #[.int .i64 k, .int .i64 lim, .int .u64 tk] 35 (0, 0)) := (hW.block _ (by omega)).trans ((hb2.block _ (by omega)).trans hc1)
    have e2 : W.heap[bn]? = some (.cells namesR 9 (0, 0)) := (hW.block _ (by omega)).trans hc2
    exact ⟨cell_of_row _ _ 0 _ _ _ e1, cell_of_row _ _ 1 _ _ _ e1, cell_of_row _ _ 2 _ _ _ e1, fun j x hx => (cell_of_row _ _ j _ _ _ e2).trans hx, hb02.trans (hW.mono hb02.size)⟩
  have HW1 := Lib.hid hw1
  have HW2 := Lib.hid hw2
  have HBC := Lib.hid hbc
  have HBN := Lib.hid hbn
  have cc0 : w1.cell? ⟨bc, 0, none⟩ = some (.int .i64 k) := cell_of_row _ _ 0 _ _ _ hc1
  by_cases hk : k < 1 ∨ 5 < k
  · have E : Hid (textF k lim tk = ⟨#[]⟩) := by show _ = _; unfold textF; rw [if_pos hk]
    have d : (k < 1) ∨ (¬ k < 1 ∧ 5 < k) := by omega
    obtain ⟨c0, -, -, -, hbw⟩ := HC.out w2 (Below.refl _ _)
    have HBW := Lib.hid hbw
    clear hw1 hc1 hb1 hw2 hc2 hb2 hb02 hbc hbn h0 h1 h2 hlt hlt2 hbw
    have fin : ∀ W, W = w2 → (Ending.returned (.string ⟨#[]⟩) = .returned (.string (textF k lim tk)) ∧ Below w.heap.size w W) := fun W hW => by
      subst hW
      exact ⟨by rw [E.out], HBW.out⟩
    rcases d with d | ⟨d, d5⟩
    · have d1 : decide ((k : Int) < 1) = true := decide_eq_true (by omega)
      have d1' : decide (k < 1) = true := decide_eq_true d
      clear d hk
      go_enter Tryd.func12, Tryd.ntmps12
      go_upto_region 1 with fail
      rw [← HW1.out, ← HBC.out]
      go_upto_region 2 with fail
      rw [← HW2.out]
      go_wp2
      go_ret
      exact fin _ rfl
    · have d1 : decide ((k : Int) < 1) = false := decide_eq_false (by omega)
      have d1' : decide (k < 1) = false := decide_eq_false d
      have d2 : decide ((5 : Int) < (k : Int)) = true := decide_eq_true (by omega)
      have d2' : decide (5 < k) = true := decide_eq_true d5
      clear d hk
      go_enter Tryd.func12, Tryd.ntmps12
      go_upto_region 1 with fail
      rw [← HW1.out, ← HBC.out]
      go_upto_region 2 with fail
      rw [← HW2.out]
      go_wp2
      go_ret
      exact fin _ rfl
  have d1 : decide ((k : Int) < 1) = false := decide_eq_false (by omega)
  have d1' : decide (k < 1) = false := decide_eq_false (by omega)
  have d2 : decide ((5 : Int) < (k : Int)) = false := decide_eq_false (by omega)
  have d2' : decide (5 < k) = false := decide_eq_false (by omega)
  have k6 : k < 6 := by omega
  have k6' : (k : Int) < 6 := by omega
  have hcs : k = 1 ∨ k = 2 ∨ k = 3 ∨ k = 4 ∨ k = 5 := by omega
  have hnm : namesR[k]? = some (.string (nameK k)) := by rcases hcs with rfl | rfl | rfl | rfl | rfl <;> rfl
  have HN : Hid (∀ W, Below w2.heap.size w2 W → W.cell? ⟨bn, k, none⟩ = some (.string (nameK k))) := fun W hW => (HC.out W hW).2.2.2.1 k _ hnm
  have E : Hid (textF k lim tk = joinJ (nameK k) (wordsF k lim tk)) := by show _ = _; unfold textF; rw [if_neg hk]
  obtain ⟨O, hO⟩ : ∃ O, O = textF k lim tk := ⟨_, rfl⟩
  rw [← hO] at E ⊢
  obtain ⟨c0, c1, c2, -, -⟩ := HC.out w2 (Below.refl _ _)
  have cn := HN.out w2 (Below.refl _ _)
  have HNM : (nameK k).size ≤ 6 := by rcases hcs with rfl | rfl | rfl | rfl | rfl <;> decide
  have HSI := itoB_size lim h0 h1
  have HSU := decB_size tk h2
  have hb1' : (⟨#[32]⟩ : ByteArray).size = 1 := rfl
  have s1 : ¬ 9223372036854775807 < (nameK k).size + 1 := by omega
  have s1' : ¬ 9223372036854775807 < (nameK k).size + (⟨#[32]⟩ : ByteArray).size := by omega
  have s2 : ¬ 9223372036854775807 < (nameK k).size + 1 + (itoB lim).size := by omega
  have s2' : ¬ 9223372036854775807 < (nameK k ++ ⟨#[32]⟩).size + (itoB lim).size := by rw [ByteArray.size_append]; omega
  have s3 : ¬ 9223372036854775807 < (nameK k).size + 1 + (decB tk).size := by omega
  have s3' : ¬ 9223372036854775807 < (nameK k ++ ⟨#[32]⟩).size + (decB tk).size := by rw [ByteArray.size_append]; omega
  have s4 : ¬ 9223372036854775807 < (nameK k).size + 1 + (itoB lim).size + 1 := by omega
  have s4' : ¬ 9223372036854775807 < (nameK k ++ ⟨#[32]⟩ ++ itoB lim).size + 1 := by rw [ByteArray.size_append, ByteArray.size_append]; omega
  have s5 : ¬ 9223372036854775807 < (nameK k).size + 1 + (itoB lim).size + 1 + (decB tk).size := by omega
  have s5' : ¬ 9223372036854775807 < (nameK k ++ ⟨#[32]⟩ ++ itoB lim ++ ⟨#[32]⟩).size + (decB tk).size := by rw [ByteArray.size_append, ByteArray.size_append, ByteArray.size_append]; omega
  clear HNM HSI HSU hb1'
  clear hO hnm hw1 hc1 hb1 hw2 hc2 hb2 hb02 hbc hbn h0 h1 h2 hlt hlt2
  have h3 : k = 3 ∨ k < 3 ∨ 3 < k := by omega
  rcases h3 with h3 | h3 | h3
  · have d3 : ((k : Int) == 3) = true := by rw [beq_iff_eq]; omega
    have d4 : decide ((3 : Int) ≤ (k : Int)) = true := decide_eq_true (by omega)
    have d4' : decide (3 ≤ k) = true := decide_eq_true (by omega)
    have EE : Hid (O = nameK k ++ ⟨#[32]⟩ ++ decB tk) := by rw [E.out, ← joinJ1, h3]; rfl
    clear h3 hk hcs
    go_enter Tryd.func12, Tryd.ntmps12
    go_upto_region 1 with fail
    rw [← HW1.out, ← HBC.out]
    go_upto_region 2 with fail
    rw [← HW2.out, ← HBN.out]
    go_wp2_with fail
    refine (HU.out w2).mono ?_
    rintro _ w3 ⟨rfl, hb3⟩
    have HB3 : Hid (Below w2.heap.size w2 w3) := hb3
    clear hb3
    obtain ⟨c0, c1, c2, -, -⟩ := HC.out w3 HB3.out
    go_wp2_with fail
    go_ret
    exact ⟨by rw [EE.out]; rfl, (HC.out w3 HB3.out).2.2.2.2⟩
  · have d3 : ((k : Int) == 3) = false := by rw [beq_eq_false_iff_ne]; omega
    have d4 : decide ((3 : Int) ≤ (k : Int)) = false := decide_eq_false (by omega)
    have d4' : decide (3 ≤ k) = false := decide_eq_false (by omega)
    have EE : Hid (O = nameK k ++ ⟨#[32]⟩ ++ itoB lim) := by
      rw [E.out, ← joinJ1]
      have : k = 1 ∨ k = 2 := by omega
      rcases this with rfl | rfl <;> rfl
    clear h3 hk hcs
    go_enter Tryd.func12, Tryd.ntmps12
    go_upto_region 1 with fail
    rw [← HW1.out, ← HBC.out]
    go_upto_region 2 with fail
    rw [← HW2.out, ← HBN.out]
    go_wp2_with fail
    refine (HI.out w2).mono ?_
    rintro _ w3 ⟨rfl, hb3⟩
    have HB3 : Hid (Below w2.heap.size w2 w3) := hb3
    clear hb3
    obtain ⟨c0, c1, c2, -, -⟩ := HC.out w3 HB3.out
    go_wp2_with fail
    go_ret
    exact ⟨by rw [EE.out]; rfl, (HC.out w3 HB3.out).2.2.2.2⟩
  · have d3 : ((k : Int) == 3) = false := by rw [beq_eq_false_iff_ne]; omega
    have d4 : decide ((3 : Int) ≤ (k : Int)) = true := decide_eq_true (by omega)
    have d4' : decide (3 ≤ k) = true := decide_eq_true (by omega)
    have EE : Hid (O = nameK k ++ ⟨#[32]⟩ ++ itoB lim ++ ⟨#[32]⟩ ++ decB tk) := by
      rw [E.out, ← joinJ2]
      have : k = 4 ∨ k = 5 := by omega
      rcases this with rfl | rfl <;> rfl
    clear h3 hk hcs
    go_enter Tryd.func12, Tryd.ntmps12
    go_upto_region 1 with fail
    rw [← HW1.out, ← HBC.out]
    go_upto_region 2 with fail
    rw [← HW2.out, ← HBN.out]
    go_wp2_with fail
    refine (HI.out w2).mono ?_
    rintro _ w3 ⟨rfl, hb3⟩
    have HB3 : Hid (Below w2.heap.size w2 w3) := hb3
    clear hb3
    obtain ⟨c0, c1, c2, -, -⟩ := HC.out w3 HB3.out
    go_wp2_with fail
    refine (HU.out w3).mono ?_
    rintro _ w4 ⟨rfl, hb4⟩
    have HB4 : Hid (Below w2.heap.size w2 w4) := HB3.out.trans (hb4.mono HB3.out.size)
    clear hb4
    obtain ⟨c0, c1, c2, -, -⟩ := HC.out w4 HB4.out
    go_wp2_with fail
    go_ret
    exact ⟨by rw [EE.out]; rfl, (HC.out w4 HB4.out).2.2.2.2⟩
end Go.Proofs.YthggaedpbmjclaaDoor
