/- Layer 13: CondTexts' walk. -/
import Derived.Test.YthggaedpbmjclaaDoorCdCut
namespace Go.Proofs.YthggaedpbmjclaaDoor
open Go.RowKit Go.Proofs
namespace condTexts
set_option maxRecDepth 100000 in
set_option maxHeartbeats 8000000 in
theorem walk (A : Option Addr) (n c : Nat) (l : List ByteArray) (k tk : Nat) (lim : Int) (K T : Nat) (S : Int) (w : World) (hn : n = l.length) (hc : n ≤ c) (hm : n ≤ maxLen) (hl : ∀ x ∈ l, x.size ≤ 9223372036854775807) (hr : RdW w w.heap.size A l) (ht : GlT w)
    (hk : k < 256) (htk : tk < 18446744073709551616) (h0 : -9223372036854775808 ≤ lim) (h1 : lim < 9223372036854775808) (hK : K < 256) (hT : T < 256) (hS : -32768 ≤ S) (hS2 : S < 32768) :
    Calls Tryd.prog 3 #[.slice A n c, .agg #[.int .u8 k, .int .i64 lim, .int .u64 tk], .agg #[.int .u8 K, .int .i16 S, .int .u8 T]] w fun e w' => e = .returned (.bool true) ∧ Below w.heap.size w w' := by
  unfold maxLen at hm
  obtain ⟨w1, hw1, hc1, hb1⟩ := boxRow w 26 #[.int .u8 k, .int .i64 lim, .int .u64 tk]
  obtain ⟨w2, hw2, hc2, hb2⟩ := boxRow w1 29 #[.int .u8 K, .int .i16 S, .int .u8 T]
  have hb02 : Below w.heap.size w w2 := hb1.trans (hb2.mono hb1.size)
  obtain ⟨bc, hbc⟩ : ∃ b, b = w.heap.size := ⟨_, rfl⟩
  obtain ⟨bs, hbs⟩ : ∃ b, b = w1.heap.size := ⟨_, rfl⟩
  rw [← hbc] at hc1
  rw [← hbs] at hc2
  have l1 := (Array.getElem?_eq_some_iff.1 hc1).1
  have l2 := (Array.getElem?_eq_some_iff.1 hc2).1
  have HCS : Hid (∀ W, Below w2.heap.size w2 W → W.heap[bc]? = some (.cells #[.int .u8 k, .int .i64 lim, .int .u64 tk] 26 (0, 0)) ∧ W.heap[bs]? = some (.cells #[.int .u8 K, .int .i16 S, .int .u8 T] 29 (0, 0)) ∧ Below w.heap.size w W ∧ GlT W ∧ RdW W W.heap.size A l) := fun W hW => by
    have hbW := hb02.trans (hW.mono hb02.size)
    exact ⟨(hW.block _ (by have := hb2.size; omega)).trans ((hb2.block _ l1).trans hc1), (hW.block _ l2).trans hc2, hbW, ht.below hbW, (hr.below hbW).more hbW.size⟩
  have HBE : Hid (bc + 1 = bs) := by show bc + 1 = bs; rw [hbs, hbc, hw1]; simp
  have HW1 := Lib.hid hw1
  have HW2 := Lib.hid hw2
  have HBC := Lib.hid hbc
  have HBS := Lib.hid hbs
  have HN := Lib.hid hn
  have HL := Lib.hid hl
  have HAR : Hid (k < 256 ∧ tk < 18446744073709551616 ∧ -9223372036854775808 ≤ lim ∧ lim < 9223372036854775808 ∧ K < 256 ∧ T < 256 ∧ -32768 ≤ S ∧ S < 32768) := ⟨hk, htk, h0, h1, hK, hT, hS, hS2⟩
  clear hr hn hl hk htk h0 h1 hK hT hS hS2 hw1 hc1 hb1 hw2 hc2 hb2 hb02 hbc hbs l1 l2 ht
  go_enter Tryd.func3, Tryd.ntmps3
  go_upto_region 1 with fail
  rw [← HW1.out]
  first | rw [← HW2.out] | skip
  rw [← HBC.out, HBE.out]
  go_wp2_with fail
  refine (awake13_any w2).mono ?_
  rintro _ w3 ⟨rfl, hb3⟩
  have HB3 := Lib.hid hb3
  clear hb3 HW1 HW2 HBE HBS
  by_cases h6 : 6 < n
  · have p1 : decide ((6 : Int) < (n : Int)) = true := decide_eq_true (by omega)
    have p2 : decide (6 < n) = true := decide_eq_true h6
    go_wp2
    go_ret
    exact ⟨rfl, (HCS.out w3 HB3.out).2.2.1⟩
  have p1 : decide ((6 : Int) < (n : Int)) = false := decide_eq_false (by omega)
  have p2 : decide (6 < n) = false := decide_eq_false h6
  obtain ⟨-, -, -, ht3, hr3⟩ := HCS.out w3 HB3.out
  have HP := Lib.hid (cparse_any A n c l w3 HN.out hc HL.out hr3 ht3)
  have HRP : Hid (∀ W, Below w2.heap.size w2 W → Calls Tryd.prog 7 #[.slice A n c] W fun e w' => e = .returned (poV .i64 (parsF l)) ∧ Below W.heap.size W w') := fun W hW => rparse_any A n c l W HN.out hc HL.out (HCS.out W hW).2.2.2.2 (by omega)
  obtain ⟨hx1, hx2, hx3, hx4⟩ := parsF_bounds l
  obtain ⟨⟨X, z, t, E⟩, hO⟩ : ∃ O, O = parsF l := ⟨_, rfl⟩
  rw [← hO] at HP HRP hx1 hx2 hx3 hx4
  have HX : Hid (X ≤ 5 ∧ -9223372036854775808 ≤ z ∧ z < 9223372036854775808 ∧ t < 18446744073709551616) := ⟨hx1, hx2, hx3, hx4⟩
  clear hO hx1 hx2 hx3 hx4 ht3 hr3 hm hc h6
  unfold poV at HP HRP
  dsimp only at HP HRP
  go_wp2_with fail
  refine HP.out.mono ?_
  rintro _ w4 ⟨rfl, hb4⟩
  have HB4 := Lib.hid (HB3.out.trans (hb4.mono HB3.out.size))
  clear hb4 HP p1 p2
  obtain ⟨w5, hw5, hc5, hb5, -⟩ := boxP2 w4 26 #[.int .u8 0, .int .i64 0, .int .u64 0] #[.int .u8 X, .int .i64 z, .int .u64 t]
  obtain ⟨bx, hbx⟩ : ∃ b, b = w4.heap.size := ⟨_, rfl⟩
  rw [← hbx] at hc5
  have HW5 := Lib.hid hw5
  have HBX := Lib.hid hbx
  have HC5 := Lib.hid hc5
  have HB5 := Lib.hid (HB4.out.trans (hb5.mono HB4.out.size))
  clear hw5 hc5 hb5 hbx
  go_upto_region 6 with (first
    | (refine wpList_store_row rfl _ _ _ rfl w4.heap.size #[.int .u8 X, .int .i64 z, .int .u64 t] rfl rfl _ _ (heap_alloc_new _ _) Tryd.infoCc rfl (by simp [Value.oneCell']) ?_)
    | fail)
  first | rw [← HW5.out, act_put_pt] | rw [← HW5.out]
  rw [← HBX.out]
  go_wp2_with fail
  refine (HRP.out w5 HB5.out).mono ?_
  rintro _ w6 ⟨rfl, hb6⟩
  have HB6 := Lib.hid hb6
  clear hb6 HRP HW5 HBX
  obtain ⟨w7, hw7, hc7, hb7, -⟩ := boxP2 w6 35 #[.int .i64 0, .int .i64 0, .int .u64 0] #[.int .i64 X, .int .i64 z, .int .u64 t]
  obtain ⟨cy, hcy⟩ : ∃ b, b = w6.heap.size := ⟨_, rfl⟩
  rw [← hcy] at hc7
  have HW7 := Lib.hid hw7
  have HBY := Lib.hid hcy
  have HB7 : Hid (Below w2.heap.size w2 w7) := by
    have h := HB5.out.trans (HB6.out.mono HB5.out.size)
    exact h.trans (hb7.mono h.size)
  have l5 := (Array.getElem?_eq_some_iff.1 HC5.out).1
  have l7 := (Array.getElem?_eq_some_iff.1 hc7).1
  have HF : Hid (∀ W, Below w7.heap.size w7 W → (W.cell? ⟨bc, 0, none⟩ = some (.int .u8 k) ∧ W.cell? ⟨bc, 1, none⟩ = some (.int .i64 lim) ∧ W.cell? ⟨bc, 2, none⟩ = some (.int .u64 tk)) ∧
      (W.cell? ⟨bx, 0, none⟩ = some (.int .u8 X) ∧ W.cell? ⟨bx, 1, none⟩ = some (.int .i64 z) ∧ W.cell? ⟨bx, 2, none⟩ = some (.int .u64 t)) ∧
      (W.cell? ⟨cy, 0, none⟩ = some (.int .i64 X) ∧ W.cell? ⟨cy, 1, none⟩ = some (.int .i64 z) ∧ W.cell? ⟨cy, 2, none⟩ = some (.int .u64 t)) ∧ GlT W) := fun W hW => by
    obtain ⟨q1, -, -, q4, -⟩ := HCS.out W (HB7.out.trans (hW.mono HB7.out.size))
    have q2 : W.heap[bx]? = _ := (hW.block _ (by have := hb7.size; have := HB6.out.size; omega)).trans ((hb7.block _ (by have := HB6.out.size; omega)).trans ((HB6.out.block _ l5).trans HC5.out))
    have q3 : W.heap[cy]? = _ := (hW.block _ l7).trans hc7
    exact ⟨⟨cell_of_row _ _ 0 _ _ _ q1, cell_of_row _ _ 1 _ _ _ q1, cell_of_row _ _ 2 _ _ _ q1⟩, ⟨cell_of_row _ _ 0 _ _ _ q2, cell_of_row _ _ 1 _ _ _ q2, cell_of_row _ _ 2 _ _ _ q2⟩, ⟨cell_of_row _ _ 0 _ _ _ q3, cell_of_row _ _ 1 _ _ _ q3, cell_of_row _ _ 2 _ _ _ q3⟩, q4⟩
  clear hw7 hb7 hc7 hcy l5 l7 HB6 HC5
  go_upto_region 7 with (first
    | (refine wpList_store_row rfl _ _ _ rfl w6.heap.size #[.int .i64 X, .int .i64 z, .int .u64 t] rfl rfl _ _ (heap_alloc_new _ _) Tryd.infoRc rfl (by simp [Value.oneCell']) ?_)
    | fail)
  first | rw [← HW7.out, act_put_pt] | rw [← HW7.out]
  rw [← HBY.out]
  clear HW7 HBY
  have k0 : (E == E) = true := by simp
  have q7 : ∀ w, (binOp .neq 35 (.agg #[.int .i64 X, .int .i64 z, .int .u64 t]) (.agg #[.int .i64 X, .int .i64 z, .int .u64 t])).run Tryd.prog w = .ok (.bool false) w := fun w => by rw [run_neqRc]; simp
  obtain ⟨C, hC⟩ : ∃ C, C = checkC k lim tk := ⟨_, rfl⟩
  obtain ⟨X0, hX0⟩ : ∃ C, C = textF k lim tk := ⟨_, rfl⟩
  have HCC : Hid (∀ W, Calls Tryd.prog 9 #[.agg #[.int .u8 k, .int .i64 lim, .int .u64 tk]] W fun e w' => e = .returned (.int .i64 C) ∧ Below W.heap.size W w') := by rw [hC]; exact fun W => ccheck_any k lim tk W
  have HCR : Hid (∀ W, Calls Tryd.prog 10 #[.agg #[.int .i64 k, .int .i64 lim, .int .u64 tk]] W fun e w' => e = .returned (.int .i64 C) ∧ Below W.heap.size W w') := by rw [hC]; exact fun W => rccheck_any k lim tk W
  have HTC : Hid (∀ W, Below w7.heap.size w7 W → Calls Tryd.prog 11 #[.agg #[.int .u8 k, .int .i64 lim, .int .u64 tk]] W fun e w' => e = .returned (.string X0) ∧ Below W.heap.size W w') := by rw [hX0]; exact fun W hW => ctext_any k lim tk W HAR.out.2.2.1 HAR.out.2.2.2.1 HAR.out.2.1 (HF.out W hW).2.2.2
  have HTR : Hid (∀ W, Calls Tryd.prog 12 #[.agg #[.int .i64 k, .int .i64 lim, .int .u64 tk]] W fun e w' => e = .returned (.string X0) ∧ Below W.heap.size W w') := by rw [hX0]; exact fun W => rtext_any k lim tk W HAR.out.2.2.1 HAR.out.2.2.2.1 HAR.out.2.1
  have HRX : Hid (∀ W, Calls Tryd.prog 8 #[.agg #[.int .u8 X, .int .i64 z, .int .u64 t]] W fun e w' => e = .returned (.agg #[.int .i64 X, .int .i64 z, .int .u64 t]) ∧ Below W.heap.size W w') := fun W => rref_any X z t W (by have := HX.out.1; omega)
  have HRK : Hid (∀ W, Calls Tryd.prog 8 #[.agg #[.int .u8 k, .int .i64 lim, .int .u64 tk]] W fun e w' => e = .returned (.agg #[.int .i64 k, .int .i64 lim, .int .u64 tk]) ∧ Below W.heap.size W w') := fun W => rref_any k lim tk W HAR.out.1
  have k1 : (C == C) = true := by simp
  have k2 : (X0.toList == X0.toList) = true := by simp
  clear hC hX0
  refine wp_region_noPanic ?_
  refine wp_region_held_drew (S := fun W => Below w7.heap.size w7 W) (by kernel_rfl) ?_ (fun hHeld => ?_)
  · exact ⟨rfl, rfl, rfl, Nat.le_refl _, fun _ _ => rfl⟩
  refine heldTake (i := 0) (v := ?_) rfl (by kernel_rfl) (by kernel_rfl) (by kernel_rfl) (fun _ _ _ h => h) (Or.inl ⟨by rfl, ?_⟩) (by assumption) ?_
  rotate_left
  · (intro w hSw; (try dsimp only at hSw); go_simp; try with_reducible rfl)
  try simp only [heldPut, List.set]
  refine heldTake (i := 1) (v := ?_) rfl (by kernel_rfl) (by kernel_rfl) (by kernel_rfl) (fun _ _ _ h => h) (Or.inl ⟨by rfl, ?_⟩) (by assumption) ?_
  rotate_left
  · (intro w hSw; (try dsimp only at hSw); go_simp; try with_reducible rfl)
  try simp only [heldPut, List.set]
  refine heldTake (i := 2) (v := .bool false) rfl (by kernel_rfl) (by kernel_rfl) (by kernel_rfl) (fun _ _ _ h => h) (Or.inl ⟨by rfl, ?_⟩) (by assumption) ?_
  · (intro w hSw; (try dsimp only at hSw); go_simp; try with_reducible rfl)
  try simp only [heldPut, List.set]
  refine heldTake (i := 3) (v := ?_) rfl (by kernel_rfl) (by kernel_rfl) (by kernel_rfl) (fun _ _ _ h => h) (Or.inl ⟨by rfl, ?_⟩) (by assumption) ?_
  rotate_left
  · (intro w hSw; (try dsimp only at hSw); go_simp; try with_reducible rfl)
  try simp only [heldPut, List.set]
  refine heldTake (i := 4) (v := ?_) rfl (by kernel_rfl) (by kernel_rfl) (by kernel_rfl) (fun _ _ _ h => h) (Or.inl ⟨by rfl, ?_⟩) (by assumption) ?_
  rotate_left
  · (intro w hSw; (try dsimp only at hSw); have f := HF.out _ hSw; obtain ⟨⟨f1, f2, f3⟩, ⟨f4, f5, f6⟩, ⟨f7, f8, f9⟩, f0⟩ := f; go_simp; try with_reducible rfl)
  try simp only [heldPut, List.set]
  refine heldTake (i := 6) (v := ?_) rfl (by kernel_rfl) (by kernel_rfl) (by kernel_rfl) (fun _ _ _ h => h) (Or.inl ⟨by rfl, ?_⟩) (by assumption) ?_
  rotate_left
  · (intro w hSw; (try dsimp only at hSw); have f := HF.out _ hSw; obtain ⟨⟨f1, f2, f3⟩, ⟨f4, f5, f6⟩, ⟨f7, f8, f9⟩, f0⟩ := f; go_simp; try with_reducible rfl)
  try simp only [heldPut, List.set]
  refine heldOne (i := 5) rfl (by kernel_rfl) (fun K hK => ?_)
  go_simp
  refine (HRX.out _).mono ?_
  rintro _ V1 ⟨rfl, hbV⟩
  go_wp2_with fail
  refine hK.out _ _ ?_ (fun hHeld1 => ?_)
  · exact hHeld.trans (hbV.mono hHeld.size)
  clear hK K hbV
  try simp only [heldPut, List.set]
  refine heldTake (i := 7) (v := .bool false) rfl (by kernel_rfl) (by kernel_rfl) (by kernel_rfl) (fun _ _ _ h => h) (Or.inl ⟨by rfl, ?_⟩) (by assumption) ?_
  · (intro w hSw; (try dsimp only at hSw); go_simp; try with_reducible rfl)
  try simp only [heldPut, List.set]
  refine heldTake (i := 8) (v := .bool false) rfl (by kernel_rfl) (by kernel_rfl) (by kernel_rfl) (fun _ _ _ h => h) (Or.inl ⟨by rfl, ?_⟩) (by assumption) ?_
  · (intro w hSw; (try dsimp only at hSw); go_simp; try with_reducible rfl)
  try simp only [heldPut, List.set]
  refine heldTake (i := 9) (v := ?_) rfl (by kernel_rfl) (by kernel_rfl) (by kernel_rfl) (fun _ _ _ h => h) (Or.inl ⟨by rfl, ?_⟩) (by assumption) ?_
  rotate_left
  · (intro w hSw; (try dsimp only at hSw); go_simp; try with_reducible rfl)
  try simp only [heldPut, List.set]
  refine heldTake (i := 10) (v := ?_) rfl (by kernel_rfl) (by kernel_rfl) (by kernel_rfl) (fun _ _ _ h => h) (Or.inl ⟨by rfl, ?_⟩) (by assumption) ?_
  rotate_left
  · (intro w hSw; (try dsimp only at hSw); have f := HF.out _ hSw; obtain ⟨⟨f1, f2, f3⟩, ⟨f4, f5, f6⟩, ⟨f7, f8, f9⟩, f0⟩ := f; go_simp; try with_reducible rfl)
  try simp only [heldPut, List.set]
  refine heldTake (i := 12) (v := ?_) rfl (by kernel_rfl) (by kernel_rfl) (by kernel_rfl) (fun _ _ _ h => h) (Or.inl ⟨by rfl, ?_⟩) (by assumption) ?_
  rotate_left
  · (intro w hSw; (try dsimp only at hSw); have f := HF.out _ hSw; obtain ⟨⟨f1, f2, f3⟩, ⟨f4, f5, f6⟩, ⟨f7, f8, f9⟩, f0⟩ := f; go_simp; try with_reducible rfl)
  try simp only [heldPut, List.set]
  refine heldOne (i := 11) rfl (by kernel_rfl) (fun K hK => ?_)
  go_simp
  refine (HCC.out _).mono ?_
  rintro _ V2 ⟨rfl, hbV⟩
  go_wp2_with fail
  refine hK.out _ _ ?_ (fun hHeld2 => ?_)
  · exact hHeld1.trans (hbV.mono hHeld1.size)
  clear hK K hbV
  try simp only [heldPut, List.set]
  refine heldOne (i := 13) rfl (by kernel_rfl) (fun K hK => ?_)
  go_simp
  refine (HRK.out _).mono ?_
  rintro _ V3 ⟨rfl, hbV⟩
  go_wp2_with fail
  refine hK.out _ _ ?_ (fun hHeld3 => ?_)
  · exact hHeld2.trans (hbV.mono hHeld2.size)
  clear hK K hbV
  try simp only [heldPut, List.set]
  refine heldOne (i := 14) rfl (by kernel_rfl) (fun K hK => ?_)
  go_simp
  refine (HCR.out _).mono ?_
  rintro _ V4 ⟨rfl, hbV⟩
  go_wp2_with fail
  refine hK.out _ _ ?_ (fun hHeld4 => ?_)
  · exact hHeld3.trans (hbV.mono hHeld3.size)
  clear hK K hbV
  try simp only [heldPut, List.set]
  refine heldTake (i := 15) (v := .bool false) rfl (by kernel_rfl) (by kernel_rfl) (by kernel_rfl) (fun _ _ _ h => h) (Or.inl ⟨by rfl, ?_⟩) (by assumption) ?_
  · (intro w hSw; (try dsimp only at hSw); go_simp; try with_reducible rfl)
  try simp only [heldPut, List.set]
  refine heldTake (i := 16) (v := .bool false) rfl (by kernel_rfl) (by kernel_rfl) (by kernel_rfl) (fun _ _ _ h => h) (Or.inl ⟨by rfl, ?_⟩) (by assumption) ?_
  · (intro w hSw; (try dsimp only at hSw); go_simp; try with_reducible rfl)
  try simp only [heldPut, List.set]
  refine heldTake (i := 17) (v := ?_) rfl (by kernel_rfl) (by kernel_rfl) (by kernel_rfl) (fun _ _ _ h => h) (Or.inl ⟨by rfl, ?_⟩) (by assumption) ?_
  rotate_left
  · (intro w hSw; (try dsimp only at hSw); go_simp; try with_reducible rfl)
  try simp only [heldPut, List.set]
  refine heldTake (i := 18) (v := ?_) rfl (by kernel_rfl) (by kernel_rfl) (by kernel_rfl) (fun _ _ _ h => h) (Or.inl ⟨by rfl, ?_⟩) (by assumption) ?_
  rotate_left
  · (intro w hSw; (try dsimp only at hSw); have f := HF.out _ hSw; obtain ⟨⟨f1, f2, f3⟩, ⟨f4, f5, f6⟩, ⟨f7, f8, f9⟩, f0⟩ := f; go_simp; try with_reducible rfl)
  try simp only [heldPut, List.set]
  refine heldTake (i := 20) (v := ?_) rfl (by kernel_rfl) (by kernel_rfl) (by kernel_rfl) (fun _ _ _ h => h) (Or.inl ⟨by rfl, ?_⟩) (by assumption) ?_
  rotate_left
  · (intro w hSw; (try dsimp only at hSw); have f := HF.out _ hSw; obtain ⟨⟨f1, f2, f3⟩, ⟨f4, f5, f6⟩, ⟨f7, f8, f9⟩, f0⟩ := f; go_simp; try with_reducible rfl)
  try simp only [heldPut, List.set]
  refine heldOne (i := 19) rfl (by kernel_rfl) (fun K hK => ?_)
  go_simp
  refine (HTC.out _ hHeld4).mono ?_
  rintro _ V5 ⟨rfl, hbV⟩
  go_wp2_with fail
  refine hK.out _ _ ?_ (fun hHeld5 => ?_)
  · exact hHeld4.trans (hbV.mono hHeld4.size)
  clear hK K hbV
  try simp only [heldPut, List.set]
  refine heldOne (i := 21) rfl (by kernel_rfl) (fun K hK => ?_)
  go_simp
  refine (HRK.out _).mono ?_
  rintro _ V6 ⟨rfl, hbV⟩
  go_wp2_with fail
  refine hK.out _ _ ?_ (fun hHeld6 => ?_)
  · exact hHeld5.trans (hbV.mono hHeld5.size)
  clear hK K hbV
  try simp only [heldPut, List.set]
  refine heldOne (i := 22) rfl (by kernel_rfl) (fun K hK => ?_)
  go_simp
  refine (HTR.out _).mono ?_
  rintro _ V7 ⟨rfl, hbV⟩
  go_wp2_with fail
  refine hK.out _ _ ?_ (fun hHeld7 => ?_)
  · exact hHeld6.trans (hbV.mono hHeld6.size)
  clear hK K hbV
  try simp only [heldPut, List.set]
  refine heldTake (i := 23) (v := .bool false) rfl (by kernel_rfl) (by kernel_rfl) (by kernel_rfl) (fun _ _ _ h => h) (Or.inl ⟨by rfl, ?_⟩) (by assumption) ?_
  · (intro w hSw; (try dsimp only at hSw); go_simp; try with_reducible rfl)
  try simp only [heldPut, List.set]
  refine heldTake (i := 24) (v := .bool false) rfl (by kernel_rfl) (by kernel_rfl) (by kernel_rfl) (fun _ _ _ h => h) (Or.inl ⟨by rfl, ?_⟩) (by assumption) ?_
  · (intro w hSw; (try dsimp only at hSw); go_simp; try with_reducible rfl)
  try simp only [heldPut, List.set]
  refine wpAnyH_done (by kernel_rfl) ?_ _
  refine NoPanic.normal ?_
  clear HCC HCR HTC HTR HRX HRK k0 k1 k2 q7
  have HB8 := Lib.hid (HB7.out.trans (hHeld7.mono HB7.out.size))
  clear hHeld hHeld1 hHeld2 hHeld3 hHeld4 hHeld5 hHeld6 hHeld7 HF HX
  obtain ⟨w8, hw8⟩ : ∃ V, V = V7 := ⟨_, rfl⟩
  rw [← hw8] at HB8 ⊢
  clear hw8
  go_upto_region 9 with fail
  have HF : Hid (∀ W, Below w8.heap.size w8 W → (W.cell? ⟨bc, 0, none⟩ = some (.int .u8 k) ∧ W.cell? ⟨bc, 1, none⟩ = some (.int .i64 lim) ∧ W.cell? ⟨bc, 2, none⟩ = some (.int .u64 tk)) ∧
      (W.cell? ⟨bs, 0, none⟩ = some (.int .u8 K) ∧ W.cell? ⟨bs, 1, none⟩ = some (.int .i16 S) ∧ W.cell? ⟨bs, 2, none⟩ = some (.int .u8 T)) ∧ (True ∧ True ∧ True) ∧ GlT W) := fun W hW => by
    obtain ⟨q1, q2, -, q4, -⟩ := HCS.out W (HB8.out.trans (hW.mono HB8.out.size))
    exact ⟨⟨cell_of_row _ _ 0 _ _ _ q1, cell_of_row _ _ 1 _ _ _ q1, cell_of_row _ _ 2 _ _ _ q1⟩, ⟨cell_of_row _ _ 0 _ _ _ q2, cell_of_row _ _ 1 _ _ _ q2, cell_of_row _ _ 2 _ _ _ q2⟩, ⟨trivial, trivial, trivial⟩, q4⟩
  refine wp_region_noPanic ?_
  refine wp_region_held_drew (S := fun W => Below w8.heap.size w8 W) (by kernel_rfl) ?_ (fun hHeld => ?_)
  · exact ⟨rfl, rfl, rfl, Nat.le_refl _, fun _ _ => rfl⟩
  refine heldTake (i := 0) (v := ?_) rfl (by kernel_rfl) (by kernel_rfl) (by kernel_rfl) (fun _ _ _ h => h) (Or.inl ⟨by rfl, ?_⟩) (by assumption) ?_
  rotate_left
  · (intro w hSw; (try dsimp only at hSw); have f := HF.out _ hSw; obtain ⟨⟨f1, f2, f3⟩, ⟨f4, f5, f6⟩, ⟨f7, f8, f9⟩, f0⟩ := f; go_simp; try with_reducible rfl)
  try simp only [heldPut, List.set]
  refine heldTake (i := 1) (v := ?_) rfl (by kernel_rfl) (by kernel_rfl) (by kernel_rfl) (fun _ _ _ h => h) (Or.inl ⟨by rfl, ?_⟩) (by assumption) ?_
  rotate_left
  · (intro w hSw; (try dsimp only at hSw); have f := HF.out _ hSw; obtain ⟨⟨f1, f2, f3⟩, ⟨f4, f5, f6⟩, ⟨f7, f8, f9⟩, f0⟩ := f; go_simp; try with_reducible rfl)
  try simp only [heldPut, List.set]
  refine heldTake (i := 5) (v := ?_) rfl (by kernel_rfl) (by kernel_rfl) (by kernel_rfl) (fun _ _ _ h => h) (Or.inl ⟨by rfl, ?_⟩) (by assumption) ?_
  rotate_left
  · (intro w hSw; (try dsimp only at hSw); go_simp; try with_reducible rfl)
  try simp only [heldPut, List.set]
  refine heldOne (i := 2) rfl (by kernel_rfl) (fun Kk hK => ?_)
  go_simp
  refine (csmall_any K T S _ HAR.out.2.2.2.2.1 HAR.out.2.2.2.2.2.1 HAR.out.2.2.2.2.2.2.1 HAR.out.2.2.2.2.2.2.2).mono ?_
  rintro _ V8 ⟨k2, lim2, tk2, rfl, hok2, hk2, hl2, hl3, ht2, hbV⟩
  go_wp2_with fail
  refine hK.out _ _ ?_ (fun hHeld1 => ?_)
  · exact hHeld.trans (hbV.mono hHeld.size)
  clear hK Kk
  try simp only [heldPut, List.set]
  have HSM : Hid (okC k2 lim2 tk2 ∧ k2 < 256 ∧ -9223372036854775808 ≤ lim2 ∧ lim2 < 9223372036854775808 ∧ tk2 < 18446744073709551616) := ⟨hok2, hk2, by omega, by omega, by omega⟩
  clear hok2 hk2 hl2 hl3 ht2 hbV
  refine heldOne (i := 3) rfl (by kernel_rfl) (fun Kk hK => ?_)
  go_simp
  refine hK.out _ _ ?_ (fun hHeld2 => ?_)
  · exact hHeld1.trans ((Below.refl w8.heap.size V8).alloc hHeld1.size _)
  clear hK Kk
  try simp only [heldPut, List.set]
  refine heldTake (i := 4) (v := ?_) rfl (by kernel_rfl) (by kernel_rfl) (by kernel_rfl) (fun _ _ _ h => h) (Or.inl ⟨by rfl, ?_⟩) (by assumption) ?_
  rotate_left
  · (intro w hSw; (try dsimp only at hSw); go_simp; try with_reducible rfl)
  try simp only [heldPut, List.set]
  refine wpAnyH_done (by kernel_rfl) ?_ _
  refine NoPanic.normal ?_
  obtain ⟨w9, hw9⟩ : ∃ V, V = V8.alloc (.cells #[.int .u8 k, .int .i64 lim, .int .u64 tk, .int .u8 k2, .int .i64 lim2, .int .u64 tk2] 26) := ⟨_, rfl⟩
  have hc9 : w9.heap[V8.heap.size]? = some (.cells #[.int .u8 k, .int .i64 lim, .int .u64 tk, .int .u8 k2, .int .i64 lim2, .int .u64 tk2] 26 (0, 0)) := by rw [hw9]; exact heap_alloc_new _ _
  obtain ⟨b9, hb9⟩ : ∃ b, b = V8.heap.size := ⟨_, rfl⟩
  rw [← hw9] at hHeld2
  have HB9 := Lib.hid (HB8.out.trans (hHeld2.mono HB8.out.size))
  rw [← hb9] at hc9
  rw [← hw9, ← hb9]
  have l9 := (Array.getElem?_eq_some_iff.1 hc9).1
  have HZ : Hid (∀ i, i < 2 → ∃ (κ : Nat) (μ : Int) (τ : Nat), κ < 256 ∧ -9223372036854775808 ≤ μ ∧ μ < 9223372036854775808 ∧ τ < 18446744073709551616 ∧ ∀ W, Below w9.heap.size w9 W → W.rangeAt b9 (i * 3) [.int .u8 κ, .int .i64 μ, .int .u64 τ]) := fun i hi => by
    have key : ∀ W, Below w9.heap.size w9 W → W.heap[b9]? = some (.cells #[.int .u8 k, .int .i64 lim, .int .u64 tk, .int .u8 k2, .int .i64 lim2, .int .u64 tk2] 26 (0, 0)) := fun W hW => (hW.block _ l9).trans hc9
    have h2 : i = 0 ∨ i = 1 := by omega
    rcases h2 with rfl | rfl
    · exact ⟨k, lim, tk, HAR.out.1, HAR.out.2.2.1, HAR.out.2.2.2.1, HAR.out.2.1, fun W hW j v hj => by
        match j, hj with
        | 0, hj => exact (cell_of_row _ _ 0 _ _ _ (key W hW)).trans hj
        | 1, hj => exact (cell_of_row _ _ 1 _ _ _ (key W hW)).trans hj
        | 2, hj => exact (cell_of_row _ _ 2 _ _ _ (key W hW)).trans hj
        | j + 3, hj => simp at hj⟩
    · exact ⟨k2, lim2, tk2, HSM.out.2.1, HSM.out.2.2.1, HSM.out.2.2.2.1, HSM.out.2.2.2.2, fun W hW j v hj => by
        match j, hj with
        | 0, hj => exact (cell_of_row _ _ 3 _ _ _ (key W hW)).trans hj
        | 1, hj => exact (cell_of_row _ _ 4 _ _ _ (key W hW)).trans hj
        | 2, hj => exact (cell_of_row _ _ 5 _ _ _ (key W hW)).trans hj
        | j + 3, hj => simp at hj⟩
  clear hHeld hHeld1 hHeld2 hw9 hc9 hb9 l9 HF HSM HB8
  go_upto_region 10 with fail
  go_loopw [64] (fun iv wx => ∃ i : Nat, i ≤ 2 ∧ iv = .int .i64 i ∧ Hid (Below w9.heap.size w9 wx)) (fun iv _ => 2 - (intOf iv).toNat)
  case atStart => exact ⟨0, by decide, rfl, Below.refl _ _⟩
  case round =>
    obtain ⟨i, hi2, rfl, HBR⟩ := hrel
    by_cases hlt : i < 2
    · have q1 : decide ((i : Int) < 2) = true := decide_eq_true (by omega)
      have q2 : decide (i < 2) = true := decide_eq_true hlt
      obtain ⟨κ, μ, τ, hκ, hμ, hμ2, hτ, hrow⟩ := HZ.out i hlt
      have HRW := Lib.hid (hrow wr HBR.out)
      have HBD : Hid (κ < 256 ∧ -9223372036854775808 ≤ μ ∧ μ < 9223372036854775808 ∧ τ < 18446744073709551616) := ⟨hκ, hμ, hμ2, hτ⟩
      obtain ⟨y, hy⟩ : ∃ y, y = i + 1 := ⟨_, rfl⟩
      have e5 : (i : Int) + 1 = (y : Int) := by omega
      have e6 : IntKind.i64.wrap (y : Int) = (y : Int) := by rw [IntKind.wrap_i64]; omega
      have HY : Hid (y = i + 1 ∧ y ≤ 2) := ⟨hy, by omega⟩
      obtain ⟨w10, hw10, hc10, hb10, -⟩ := boxP2 wr 26 #[.int .u8 0, .int .i64 0, .int .u64 0] #[.int .u8 κ, .int .i64 μ, .int .u64 τ]
      obtain ⟨bz, hbz⟩ : ∃ b, b = wr.heap.size := ⟨_, rfl⟩
      rw [← hbz] at hc10
      have HB10 := Lib.hid (HBR.out.trans (hb10.mono HBR.out.size))
      have HW10 := Lib.hid hw10
      have HBZ := Lib.hid hbz
      have l10 := (Array.getElem?_eq_some_iff.1 hc10).1
      have HC10 : Hid (∀ W, Below w10.heap.size w10 W → W.heap[bz]? = some (.cells #[.int .u8 κ, .int .i64 μ, .int .u64 τ] 26 (0, 0))) := fun W hW => (hW.block _ l10).trans hc10
      have hltI : (i : Int) < 2 := by omega
      clear hκ hμ hμ2 hτ hrow hy hi2 hw10 hc10 hb10 hbz l10
      go_upto_region 12 with (first
        | (refine wpList_load_mid rfl _ _ rfl b9 (i * 3) rfl [.int .u8 κ, .int .i64 μ, .int .u64 τ] _ HRW.out Tryd.underlying26 rfl Tryd.infoCc ?_)
        | (refine wpList_store_row rfl _ _ _ rfl wr.heap.size #[.int .u8 κ, .int .i64 μ, .int .u64 τ] rfl rfl _ _ (heap_alloc_new _ _) Tryd.infoCc rfl (by simp [Value.oneCell']) ?_)
        | fail)
      first | rw [← HW10.out, act_put_pt] | rw [← HW10.out]
      rw [← HBZ.out]
      clear HW10 HBZ HRW q1 q2
      obtain ⟨C2, hC2⟩ : ∃ C, C = checkC κ μ τ := ⟨_, rfl⟩
      have HCR2 : Hid (∀ W, Calls Tryd.prog 10 #[.agg #[.int .i64 κ, .int .i64 μ, .int .u64 τ]] W fun e w' => e = .returned (.int .i64 C2) ∧ Below W.heap.size W w') := by rw [hC2]; exact fun W => rccheck_any κ μ τ W
      have HRK2 : Hid (∀ W, Calls Tryd.prog 8 #[.agg #[.int .u8 κ, .int .i64 μ, .int .u64 τ]] W fun e w' => e = .returned (.agg #[.int .i64 κ, .int .i64 μ, .int .u64 τ]) ∧ Below W.heap.size W w') := fun W => rref_any κ μ τ W HBD.out.1
      have HC2 := Lib.hid hC2
      clear hC2
      go_wp2_with (first | (refine wpList_load_row rfl _ _ rfl bz rfl _ _ _ _ (HC10.out w10 (Below.refl _ _)) Tryd.underlying26 rfl (by kernel_rfl) ?_) | fail)
      refine (HRK2.out w10).mono ?_
      rintro _ w11 ⟨rfl, hb11⟩
      have HB11 := Lib.hid hb11
      clear hb11 HRK2
      go_wp2_with fail
      refine (HCR2.out w11).mono ?_
      rintro _ w12 ⟨rfl, hb12⟩
      have HB12 : Hid (Below w10.heap.size w10 w12) := HB11.out.trans (hb12.mono HB11.out.size)
      clear hb12 HCR2 HB11
      by_cases hz : C2 = 0
      · have hok : okC κ μ τ := checkC_0.1 (by rw [← HC2.out]; exact hz)
        obtain ⟨hw1, hw2, hw3⟩ := words_sizes hok HBD.out.2.1 HBD.out.2.2.1 HBD.out.2.2.2
        have hcut := text_cut hok
        have hback := parsF_back hok HBD.out.2.1 HBD.out.2.2.1
        subst hz
        obtain ⟨L3, hL3⟩ : ∃ L, L = nameK κ :: wordsF κ μ τ := ⟨_, rfl⟩
        obtain ⟨TX, hTX⟩ : ∃ T, T = textF κ μ τ := ⟨_, rfl⟩
        rw [← hL3] at hw1 hw2 hcut hback
        rw [← hTX] at hw3 hcut
        have HTC2 : Hid (∀ W, Below w10.heap.size w10 W → Calls Tryd.prog 11 #[.agg #[.int .u8 κ, .int .i64 μ, .int .u64 τ]] W fun e w' => e = .returned (.string TX) ∧ Below W.heap.size W w') := by
          rw [hTX]
          exact fun W hW => ctext_any κ μ τ W HBD.out.2.1 HBD.out.2.2.1 HBD.out.2.2.2 (HCS.out W (HB9.out.trans ((HB10.out.trans (hW.mono HB10.out.size)).mono HB9.out.size))).2.2.2.1
        obtain ⟨r3, hr3⟩ : ∃ r, L3 = nameK κ :: r := ⟨_, hL3⟩
        have HL3 : Hid (L3.length ≤ 3 ∧ (∀ x ∈ L3, x.size ≤ 1000) ∧ TX.size ≤ 3100 ∧ cutW (TX ++ ⟨#[32]⟩).data.toList [] [] = L3 ∧ parsF L3 = (κ, μ, τ, 0) ∧ L3 = nameK κ :: r3) := ⟨hw1, hw2, hw3, hcut, hback, hr3⟩
        have s1 : ¬ 9223372036854775807 < TX.size + 1 := by omega
        clear hok hw1 hw2 hw3 hcut hback hL3 hTX hr3 HC2
        go_upto_region 15 with fail
        go_wp2_with (first | (refine wpList_load_row rfl _ _ rfl bz rfl _ _ _ _ (HC10.out w12 HB12.out) Tryd.underlying26 rfl (by kernel_rfl) ?_) | fail)
        refine (HTC2.out w12 HB12.out).mono ?_
        rintro _ w13 ⟨rfl, hb13⟩
        have HB13 : Hid (Below w10.heap.size w10 w13) := HB12.out.trans (hb13.mono HB12.out.size)
        clear hb13 HTC2 HB12
        obtain ⟨XB, hXB⟩ : ∃ XB, XB = TX ++ (⟨#[32]⟩ : ByteArray) := ⟨_, rfl⟩
        have hxs : XB.size ≤ 3101 := by rw [hXB, ByteArray.size_append]; have := HL3.out.2.2.1; show TX.size + 1 ≤ _; omega
        have hst : CutI w13.heap.size XB L3 w13 (.slice none 0 0) [] 0 0 w13 := cutI_start (by rw [hXB]; exact HL3.out.2.2.2.1)
        go_upto_region 16 with fail
        rw [← hXB]
        have HST := Lib.hid hst
        clear hst hXB s1
        go_upto_region 17 with fail
        go_loopw [13, 14, 77] (fun lv fv iv wx => ∃ (acc : List ByteArray) (f j : Nat), fv = .int .i64 f ∧ iv = .int .i64 j ∧ Hid (CutI w13.heap.size XB L3 w13 lv acc f j wx)) (fun _ _ iv _ => XB.size - (intOf iv).toNat)
        case atStart => exact ⟨[], 0, 0, rfl, rfl, HST.out⟩
        case round =>
          obtain ⟨acc, f, j, rfl, rfl, HI⟩ := hrel
          have hfj : f ≤ j := HI.out.2.2.1
          have hjn : j ≤ XB.size := HI.out.2.2.2.1
          by_cases hlt2 : j < XB.size
          · have q1 : decide ((j : Int) < (XB.size : Int)) = true := decide_eq_true (by omega)
            have q2 : decide (j < XB.size) = true := decide_eq_true hlt2
            have hI : (j : Int) < (XB.size : Int) := by omega
            obtain ⟨u, hu⟩ : ∃ u, u = j + 1 := ⟨_, rfl⟩
            have e7 : (j : Int) + 1 = (u : Int) := by omega
            have e8 : IntKind.i64.wrap (u : Int) = (u : Int) := by rw [IntKind.wrap_i64]; omega
            have HU2 := Lib.hid hu
            clear hu
            by_cases hc : XB[j]'hlt2 = 32
            · have d8 : (((XB[j]'hlt2).toNat : Int) == 32) = true := by rw [hc]; rfl
              obtain ⟨WD, hWD⟩ : ∃ x, x = XB.extract f j := ⟨_, rfl⟩
              obtain ⟨V3, hV3, hx3, hb3⟩ := wordBox wr WD
              have HX3 := Lib.hid hx3
              have HR3 := Lib.hid (HI.out.1.below hb3)
              have HBI : Hid (Below w13.heap.size w13 wr) := HI.out.2.2.2.2
              have HB33 := Lib.hid (HBI.out.trans (hb3.mono HBI.out.size))
              have HV3 := Lib.hid hV3
              have HAC : Hid (acc.length ≤ 1000) := by have := HI.out.few; have := HL3.out.1; show acc.length ≤ 1000; omega
              have HWD := Lib.hid hWD
              have HC := Lib.hid hc
              clear hx3 hb3 hV3 hWD hc
              go_upto_region 20 with fail
              clear d8
              go_upto_region 21 with (at_builtin; (rw [← HWD.out]); (rw [← HV3.out]); refine wpList_app_word (l := acc) (B := w13.heap.size) rfl _ _ rfl rfl HR3.out HAC.out rfl HX3.out HB33.out.size ?_; intro g5 cap5 w15 hr5 hb5; replace hr5 := Lib.hid hr5; replace hb5 := Lib.hid (hb5 _ HB33.out))
              have HN2 : Hid (CutI w13.heap.size XB L3 w13 (.slice (some ⟨g5, 0, none⟩) (acc.length + 1) cap5) (acc ++ [XB.extract f j]) u u w15) := by
                show CutI _ _ _ _ _ _ _ _ _
                rw [HU2.out]
                exact cutI_word HI.out hlt2 HC.out (by rw [← HWD.out]; exact hr5.out) hb5.out
              clear HI HX3 HR3 HBI HB33 HV3 HAC HWD HC hr5 hb5
              go_wp2
              go_roundw
              case rel => exact ⟨_, u, u, rfl, rfl, HN2⟩
              case measure => have := HU2.out; simp [intOf]; omega
            · have d8 : (((XB[j]'hlt2).toNat : Int) == 32) = false := by
                rw [beq_eq_false_iff_ne]
                intro h
                exact hc (UInt8.toNat_inj.1 (by show (XB[j]'hlt2).toNat = 32; omega))
              have HN2 := Lib.hid (cutI_next HI.out hlt2 hc)
              rw [← HU2.out] at HN2
              clear HI hc
              go_wp2
              go_roundw
              case rel => exact ⟨acc, f, u, rfl, rfl, HN2⟩
              case measure => have := HU2.out; simp [intOf]; omega
          · obtain rfl : j = XB.size := by omega
            have q1 : decide (((XB.size : Nat) : Int) < (XB.size : Int)) = false := decide_eq_false (by omega)
            have q2 : decide (XB.size < XB.size) = false := decide_eq_false (by omega)
            have hrow := cutI_end HI.out
            obtain ⟨hl3, hs3, -, -, hbk, he3⟩ := HL3.out
            rw [he3] at hrow
            obtain ⟨g3, c3, hlv, hcc, hrd⟩ := rowS_rd hrow
            subst hlv
            obtain ⟨n3, hn3⟩ : ∃ m, m = r3.length + 1 := ⟨_, rfl⟩
            rw [← hn3] at hcc ⊢
            have HBI : Hid (Below w13.heap.size w13 wr) := HI.out.2.2.2.2
            have HBW : Hid (Below w10.heap.size w10 wr) := HB13.out.trans (HBI.out.mono HB13.out.size)
            have hgt := (HCS.out wr (HB9.out.trans ((HB10.out.trans (HBW.out.mono HB10.out.size)).mono HB9.out.size))).2.2.2.1
            have HPP := cparse_any (some ⟨g3, 0, none⟩) n3 c3 (nameK κ :: r3) wr (by rw [hn3]; simp) hcc (fun x hx => by have := hs3 x (by rw [he3]; exact hx); omega) hrd hgt
            rw [← he3, hbk] at HPP
            unfold poV at HPP
            dsimp only at HPP
            have HPA := Lib.hid HPP
            have q8 : ∀ w, (binOp .neq 26 (.agg #[.int .u8 κ, .int .i64 μ, .int .u64 τ]) (.agg #[.int .u8 κ, .int .i64 μ, .int .u64 τ])).run Tryd.prog w = .ok (.bool false) w := fun w => by rw [run_neqCc]; simp
            clear hrow hl3 hs3 hbk he3 hcc hrd hn3 hgt HPP HI hfj hjn hlt2
            go_wp2_with fail
            refine HPA.out.mono ?_
            rintro _ w16 ⟨rfl, hb16⟩
            have HB16 : Hid (Below w10.heap.size w10 w16) := HBW.out.trans (hb16.mono HBW.out.size)
            clear hb16 HPA HBW HBI HB13 HST q1 q2
            obtain ⟨w17, hw17, hc17, hb17, -⟩ := boxP2 w16 26 #[.int .u8 0, .int .i64 0, .int .u64 0] #[.int .u8 κ, .int .i64 μ, .int .u64 τ]
            obtain ⟨bq, hbq⟩ : ∃ b, b = w16.heap.size := ⟨_, rfl⟩
            rw [← hbq] at hc17
            have HW17 := Lib.hid hw17
            have HBQ := Lib.hid hbq
            have HB17 := Lib.hid (HB16.out.trans (hb17.mono HB16.out.size))
            have HC17 := Lib.hid hc17
            clear hw17 hc17 hb17 hbq
            go_upto_region 24 with (first
              | (refine wpList_store_row rfl _ _ _ rfl w16.heap.size #[.int .u8 κ, .int .i64 μ, .int .u64 τ] rfl rfl _ _ (heap_alloc_new _ _) Tryd.infoCc rfl (by simp [Value.oneCell']) ?_)
              | fail)
            first | rw [← HW17.out, act_put_pt] | rw [← HW17.out]
            rw [← HBQ.out]
            clear HW17 HBQ
            have m0 : w17.cell? ⟨bq, 0, none⟩ = some (.int .u8 κ) := cell_of_row _ _ 0 _ _ _ HC17.out
            have m1 : w17.cell? ⟨bq, 1, none⟩ = some (.int .i64 μ) := cell_of_row _ _ 1 _ _ _ HC17.out
            have m2 : w17.cell? ⟨bq, 2, none⟩ = some (.int .u64 τ) := cell_of_row _ _ 2 _ _ _ HC17.out
            have hz17 := HC10.out w17 HB17.out
            have o0 : w17.cell? ⟨bz, 0, none⟩ = some (.int .u8 κ) := cell_of_row _ _ 0 _ _ _ hz17
            have o1 : w17.cell? ⟨bz, 1, none⟩ = some (.int .i64 μ) := cell_of_row _ _ 1 _ _ _ hz17
            have o2 : w17.cell? ⟨bz, 2, none⟩ = some (.int .u64 τ) := cell_of_row _ _ 2 _ _ _ hz17
            clear hz17 HC17
            go_wp2
            go_roundw
            case rel => exact ⟨y, HY.out.2, rfl, HB10.out.trans (HB17.out.mono HB10.out.size)⟩
            case measure => have := HY.out; simp [intOf]; omega
      · have q7 : (C2 == 0) = false := by rw [beq_eq_false_iff_ne]; exact hz
        go_wp2
        go_roundw
        case rel => exact ⟨y, HY.out.2, rfl, HB10.out.trans (HB12.out.mono HB10.out.size)⟩
        case measure => have := HY.out; simp [intOf]; omega
    · obtain rfl : i = 2 := by omega
      have HBW := Lib.hid (HB9.out.trans (HBR.out.mono HB9.out.size))
      clear hi2 hlt HBR HZ HB9
      obtain ⟨-, hcs, hbw, -, -⟩ := HCS.out wr HBW.out
      have HBX := Lib.hid hbw
      clear hbw
      go_wp2_with (first | (refine wpList_load_row rfl _ _ rfl bs rfl _ _ _ _ hcs Tryd.underlying29 rfl (by kernel_rfl) ?_) | fail)
      refine (csmall_any K T S _ HAR.out.2.2.2.2.1 HAR.out.2.2.2.2.2.1 HAR.out.2.2.2.2.2.2.1 HAR.out.2.2.2.2.2.2.2).mono ?_
      rintro _ w20 ⟨k3, lim3, tk3, rfl, hok3, hk3, -, -, -, hb20⟩
      have hc3 : checkC k3 lim3 tk3 = 0 := checkC_0.2 hok3
      have HR3 := Lib.hid (rref_any k3 lim3 tk3 w20 hk3)
      have HB20 := Lib.hid (HBX.out.trans (hb20.mono HBX.out.size))
      have HC3 : Hid (∀ W, Calls Tryd.prog 10 #[.agg #[.int .i64 k3, .int .i64 lim3, .int .u64 tk3]] W fun e w' => e = .returned (.int .i64 0) ∧ Below W.heap.size W w') := by rw [← hc3]; exact fun W => rccheck_any k3 lim3 tk3 W
      clear hok3 hk3 hb20 hc3 hcs
      go_wp2_with fail
      refine HR3.out.mono ?_
      rintro _ w21 ⟨rfl, hb21⟩
      have HB21 := Lib.hid (HB20.out.trans (hb21.mono HB20.out.size))
      clear hb21 HR3
      go_wp2_with fail
      refine (HC3.out w21).mono ?_
      rintro _ w22 ⟨rfl, hb22⟩
      have HB22 := Lib.hid (HB21.out.trans (hb22.mono HB21.out.size))
      clear hb22 HC3
      go_wp2
      go_ret
      exact ⟨rfl, HB22.out⟩
end condTexts
end Go.Proofs.YthggaedpbmjclaaDoor
