/- Layer 6: the statements' comparison of the program's disk with the document's own. -/
import Derived.Test.YtheojokfgndheaaDkRfCr
import Derived.Test.YtheojokfgndheaaDkNames
import Derived.Test.YtheojokfgndheaaHeld
namespace Go.Proofs.Ytheojokfgndheaa
open Go.RowKit Go.Maps

set_option maxRecDepth 100000 in
set_option maxHeartbeats 4000000 in
theorem same_any {S T : Nat → Prop} {g m : Nat} {L : List (ByteArray × Fl)} {wr0 sy : Nat} (w : World) (h : Disk w S g L wr0 sy) (k : RfL w T m L wr0 sy) :
    Calls Try.prog 26 #[.pointer (some ⟨g, 0, none⟩), .pointer (some ⟨m, 0, none⟩)] w fun e w' => e = .returned (.bool true) ∧ Below w.heap.size w w' := by
  obtain ⟨v, R, hRL, k⟩ := k
  obtain ⟨A0, c0', rfl⟩ := k.slice
  have hRl : R.length = L.length := by rw [← hRL]; simp [flsR]
  have HD := Lib.hid h
  have HK := Lib.hid k
  have HRL := Lib.hid hRL
  have HRl := Lib.hid hRl
  clear h k hRL hRl
  go_enter Try.func26, Try.ntmps26
  go_wp2_with fail
  refine (names_any w HD.out).mono ?_
  rintro e w1 ⟨v, rfl, ho, hb⟩
  obtain ⟨V, vc, rfl⟩ := ownB_slice ho
  have HO := Lib.hid ho
  have HB1 := Lib.hid hb
  have D1 := Lib.hid (HD.out.below hb)
  clear ho hb
  go_wp2_with fail
  refine (counts_some w1 D1.out).mono ?_
  rintro e w2 ⟨rfl, hb⟩
  have HB2 := Lib.hid (HB1.out.trans (hb.mono HB1.out.size))
  have D2 := Lib.hid (D1.out.below hb)
  have K2 := Lib.hid (HK.out.below HB2.out)
  have HO2 := Lib.hid (ownB_below HO.out hb)
  have hc0 := K2.out.c0
  have hc1 := K2.out.c1
  have hc2 := K2.out.c2
  have hml := K2.out.lt m K2.out.mT
  rw [HRl.out] at hc0
  have hfew : L.length ≤ 64 := D2.out.few
  clear hb
  go_wp2
  go_loopw [48] (fun iv wx => ∃ (j : Nat), j ≤ L.length ∧ iv = .int .i64 j ∧ Hid (Below w2.heap.size w2 wx)) (fun iv _ => L.length - (intOf iv).toNat)
  case atStart => exact ⟨0, Nat.zero_le _, rfl, Below.refl _ _⟩
  case round =>
    obtain ⟨j, hj, rfl, Hb5⟩ := hrel
    by_cases hlt : j < L.length
    · have hjR : j < R.length := by rw [HRl.out]; exact hlt
      obtain ⟨x, hx⟩ : ∃ x, R[j]? = some x := ⟨R[j], List.getElem?_eq_getElem hjR⟩
      obtain ⟨gg, cap, hv, hgl, x0, x1, x2, _⟩ := (K2.out.below Hb5.out).at_ hx
      injection hv with hv1 hv2 hv3
      subst hv1
      subst hv3
      have hLk : L[j]? = some x.fl := by rw [← HRL.out]; exact flsR_get hx
      have hxx := (K2.out.below Hb5.out).each x (List.mem_of_getElem? hx)
      have hxm := hxx.max
      have hxn := hxx.n
      have hxs := hxx.syn
      rw [← hxn] at hxm hxs
      have HX := Lib.hid hxx
      have HXn := Lib.hid hxn
      have hfd : findP L x.s = some ⟨x.by_, x.syn⟩ := find_at D2.out.rise hLk
      have hsn : x.s.size ≤ maxLen := hxx.s
      obtain ⟨r, cap2, hV, hrb, hrl⟩ := HO2.out.form (by omega)
      injection hV with hV1 hV2 hV3
      subst hV1
      subst hV3
      have hnm1 : w2.cell? ⟨r, j, none⟩ = some (.string x.s) := by
        have := HO2.out.cells (g := r) rfl j (.string x.s) (by unfold nmCells; rw [List.getElem?_map, hLk]; rfl)
        rw [Addr.add_lit] at this
        rw [← this]
        congr 2
        omega
      have hnm2 := (Hb5.out.cell (p := ⟨r, j, none⟩) hrl).trans hnm1
      have hrl2 := Nat.lt_of_lt_of_le hrl Hb5.out.size
      have HFd := Lib.hid hfd
      have HSn := Lib.hid hsn
      clear hV2 hv2 hLk hfd hsn hnm1 hxx hxn hx
      go_wp2_with fail
      obtain ⟨fb, hfbe⟩ : ∃ fb, fb = wr.heap.size := ⟨_, rfl⟩
      generalize hW4 : wr.alloc (.cells #[.string x.s, .slice x.A x.n x.c, .int .i64 x.syn] 89) = w4
      have hb4 : Below wr.heap.size wr w4 := hW4 ▸ (Below.refl _ _).alloc (Nat.le_refl _) _
      have y0 : w4.cell? ⟨fb, 0, none⟩ = some (.string x.s) := by rw [← hW4, hfbe, World.cell?_alloc_at _ _ _ _ rfl]; rfl
      have y1 : w4.cell? ⟨fb, 1, none⟩ = some (.slice x.A x.n x.c) := by rw [← hW4, hfbe, World.cell?_alloc_at _ _ _ _ rfl]; rfl
      have y2 : w4.cell? ⟨fb, 2, none⟩ = some (.int .i64 x.syn) := by rw [← hW4, hfbe, World.cell?_alloc_at _ _ _ _ rfl]; rfl
      have hf4 : fb < w4.heap.size := by rw [← hW4, hfbe]; simp
      rw [← hfbe]
      have HB4 := Lib.hid (Hb5.out.trans (hb4.mono Hb5.out.size))
      have D4 := Lib.hid ((D2.out.below Hb5.out).below hb4)
      have X4 := Lib.hid (HX.out.rd.below hb4)
      have HBx := Lib.hid hb4
      clear hb4 hW4 hfbe
      refine (read_some _ D4.out HSn.out HFd.out).mono ?_
      rintro e w7 ⟨v1, rfl, o6, b6⟩
      obtain ⟨A6, c6, rfl⟩ := ownB_slice o6
      have D7 := Lib.hid (D4.out.below b6)
      have Hb7 := Lib.hid (HB4.out.trans (b6.mono HB4.out.size))
      obtain ⟨r1, r2, r3⟩ := rdB_of_own o6
      have z0 := (b6.cell (p := ⟨fb, 0, none⟩) hf4).trans y0
      have z1 := (b6.cell (p := ⟨fb, 1, none⟩) hf4).trans y1
      have z2 := (b6.cell (p := ⟨fb, 2, none⟩) hf4).trans y2
      have hfb := Nat.lt_of_lt_of_le hf4 b6.size
      have hrl4 := Nat.lt_of_lt_of_le hrl2 HBx.out.size
      have hnm7 := (b6.cell (p := ⟨r, j, none⟩) hrl4).trans ((HBx.out.cell (p := ⟨r, j, none⟩) hrl2).trans hnm2)
      have hrl7 := Nat.lt_of_lt_of_le hrl4 b6.size
      have s1 := X4.out.below (b6.mono HBx.out.size)
      have s2 := HXn.out
      have s3 := HX.out.nil
      have hsz7 : wr.heap.size ≤ w7.heap.size := Nat.le_trans HBx.out.size b6.size
      have hsub : IntKind.i64.wrap ((x.n : Int) - x.syn) = ((x.by_.length - x.syn : Nat) : Int) := by rw [IntKind.wrap_i64]; have := HXn.out; omega
      clear o6 b6 y0 y1 y2 x0 x1 x2 hnm2 hrl2 hrl4 hf4
      go_upto_region 9 with fail
      have HC0 : Hid (∀ W, Below w7.heap.size w7 W → W.cell? ⟨fb, 0, none⟩ = some (.string x.s)) := fun W hW => (hW.cell (p := ⟨fb, 0, none⟩) hfb).trans z0
      have HC1 : Hid (∀ W, Below w7.heap.size w7 W → W.cell? ⟨fb, 1, none⟩ = some (.slice x.A x.n x.c)) := fun W hW => (hW.cell (p := ⟨fb, 1, none⟩) hfb).trans z1
      have HC2 : Hid (∀ W, Below w7.heap.size w7 W → W.cell? ⟨fb, 2, none⟩ = some (.int .i64 x.syn)) := fun W hW => (hW.cell (p := ⟨fb, 2, none⟩) hfb).trans z2
      have HCn : Hid (∀ W, Below w7.heap.size w7 W → W.cell? ⟨r, j, none⟩ = some (.string x.s)) := fun W hW => (hW.cell (p := ⟨r, j, none⟩) hrl7).trans hnm7
      have HVa : Hid (∀ W, Below w7.heap.size w7 W → (convert 30 9 (.slice A6 x.by_.length c6)).run Try.prog W = .ok (.string (strB x.by_)) W) := fun W hW => conv_any (w := W) (r1.below hW) rfl r3
      have HVb : Hid (∀ W, Below w7.heap.size w7 W → (convert 30 9 (.slice x.A x.n x.c)).run Try.prog W = .ok (.string (strB x.by_)) W) := fun W hW => conv_any (w := W) ((s1.more hsz7).below hW) s2 s3
      clear z0 z1 z2 hnm7 r1 r2 r3 s1 s2 s3
      refine wp_region_noPanic ?_
      refine wp_region_held_drew (S := fun W => Below w7.heap.size w7 W) (by kernel_rfl) ?_ (fun hHeld => ?_)
      · exact (Below.refl _ _).drew
      try simp only [heldPut, List.set]
      refine heldTake (i := 0) (v := ?_) rfl (by kernel_rfl) (by kernel_rfl) (by kernel_rfl) (fun _ _ _ h => h) (Or.inl ⟨by rfl, ?_⟩) (by assumption) ?_
      rotate_left
      · (intro W hSw; (try dsimp only at hSw); have f0 := HC0.out W hSw; have f1 := HC1.out W hSw; have f2 := HC2.out W hSw; have fn := HCn.out W hSw; have fa := HVa.out W hSw; have fb := HVb.out W hSw; go_simp; try with_reducible rfl)
      try simp only [heldPut, List.set]
      refine heldTake (i := 1) (v := ?_) rfl (by kernel_rfl) (by kernel_rfl) (by kernel_rfl) (fun _ _ _ h => h) (Or.inl ⟨by rfl, ?_⟩) (by assumption) ?_
      rotate_left
      · (intro W hSw; (try dsimp only at hSw); have f0 := HC0.out W hSw; have f1 := HC1.out W hSw; have f2 := HC2.out W hSw; have fn := HCn.out W hSw; have fa := HVa.out W hSw; have fb := HVb.out W hSw; go_simp; try with_reducible rfl)
      try simp only [heldPut, List.set]
      refine heldTake (i := 2) (v := ?_) rfl (by kernel_rfl) (by kernel_rfl) (by kernel_rfl) (fun _ _ _ h => h) (Or.inl ⟨by rfl, ?_⟩) (by assumption) ?_
      rotate_left
      · (intro W hSw; (try dsimp only at hSw); have f0 := HC0.out W hSw; have f1 := HC1.out W hSw; have f2 := HC2.out W hSw; have fn := HCn.out W hSw; have fa := HVa.out W hSw; have fb := HVb.out W hSw; go_simp; try with_reducible rfl)
      try simp only [heldPut, List.set]
      refine heldTake (i := 3) (v := ?_) rfl (by kernel_rfl) (by kernel_rfl) (by kernel_rfl) (fun _ _ _ h => h) (Or.inl ⟨by rfl, ?_⟩) (by assumption) ?_
      rotate_left
      · (intro W hSw; (try dsimp only at hSw); have f0 := HC0.out W hSw; have f1 := HC1.out W hSw; have f2 := HC2.out W hSw; have fn := HCn.out W hSw; have fa := HVa.out W hSw; have fb := HVb.out W hSw; go_simp; try with_reducible rfl)
      try simp only [heldPut, List.set]
      refine heldTake (i := 4) (v := ?_) rfl (by kernel_rfl) (by kernel_rfl) (by kernel_rfl) (fun _ _ _ h => h) (Or.inl ⟨by rfl, ?_⟩) (by assumption) ?_
      rotate_left
      · (intro W hSw; (try dsimp only at hSw); have f0 := HC0.out W hSw; have f1 := HC1.out W hSw; have f2 := HC2.out W hSw; have fn := HCn.out W hSw; have fa := HVa.out W hSw; have fb := HVb.out W hSw; go_simp; try with_reducible rfl)
      try simp only [heldPut, List.set]
      refine heldTake (i := 5) (v := ?_) rfl (by kernel_rfl) (by kernel_rfl) (by kernel_rfl) (fun _ _ _ h => h) (Or.inl ⟨by rfl, ?_⟩) (by assumption) ?_
      rotate_left
      · (intro W hSw; (try dsimp only at hSw); have f0 := HC0.out W hSw; have f1 := HC1.out W hSw; have f2 := HC2.out W hSw; have fn := HCn.out W hSw; have fa := HVa.out W hSw; have fb := HVb.out W hSw; go_simp; try with_reducible rfl)
      try simp only [heldPut, List.set]
      refine heldTake (i := 6) (v := ?_) rfl (by kernel_rfl) (by kernel_rfl) (by kernel_rfl) (fun _ _ _ h => h) (Or.inl ⟨by rfl, ?_⟩) (by assumption) ?_
      rotate_left
      · (intro W hSw; (try dsimp only at hSw); have f0 := HC0.out W hSw; have f1 := HC1.out W hSw; have f2 := HC2.out W hSw; have fn := HCn.out W hSw; have fa := HVa.out W hSw; have fb := HVb.out W hSw; go_simp; try with_reducible rfl)
      try simp only [heldPut, List.set]
      refine heldTake (i := 7) (v := ?_) rfl (by kernel_rfl) (by kernel_rfl) (by kernel_rfl) (fun _ _ _ h => h) (Or.inl ⟨by rfl, ?_⟩) (by assumption) ?_
      rotate_left
      · (intro W hSw; (try dsimp only at hSw); have f0 := HC0.out W hSw; have f1 := HC1.out W hSw; have f2 := HC2.out W hSw; have fn := HCn.out W hSw; have fa := HVa.out W hSw; have fb := HVb.out W hSw; go_simp; try with_reducible rfl)
      try simp only [heldPut, List.set]
      refine heldTake (i := 8) (v := ?_) rfl (by kernel_rfl) (by kernel_rfl) (by kernel_rfl) (fun _ _ _ h => h) (Or.inl ⟨by rfl, ?_⟩) (by assumption) ?_
      rotate_left
      · (intro W hSw; (try dsimp only at hSw); have f0 := HC0.out W hSw; have f1 := HC1.out W hSw; have f2 := HC2.out W hSw; have fn := HCn.out W hSw; have fa := HVa.out W hSw; have fb := HVb.out W hSw; go_simp; try with_reducible rfl)
      try simp only [heldPut, List.set]
      refine heldTake (i := 9) (v := ?_) rfl (by kernel_rfl) (by kernel_rfl) (by kernel_rfl) (fun _ _ _ h => h) (Or.inl ⟨by rfl, ?_⟩) (by assumption) ?_
      rotate_left
      · (intro W hSw; (try dsimp only at hSw); have f0 := HC0.out W hSw; have f1 := HC1.out W hSw; have f2 := HC2.out W hSw; have fn := HCn.out W hSw; have fa := HVa.out W hSw; have fb := HVb.out W hSw; go_simp; try with_reducible rfl)
      try simp only [heldPut, List.set]
      refine heldTake (i := 10) (v := ?_) rfl (by kernel_rfl) (by kernel_rfl) (by kernel_rfl) (fun _ _ _ h => h) (Or.inl ⟨by rfl, ?_⟩) (by assumption) ?_
      rotate_left
      · (intro W hSw; (try dsimp only at hSw); have f0 := HC0.out W hSw; have f1 := HC1.out W hSw; have f2 := HC2.out W hSw; have fn := HCn.out W hSw; have fa := HVa.out W hSw; have fb := HVb.out W hSw; go_simp; try with_reducible rfl)
      try simp only [heldPut, List.set]
      refine heldTake (i := 11) (v := ?_) rfl (by kernel_rfl) (by kernel_rfl) (by kernel_rfl) (fun _ _ _ h => h) (Or.inl ⟨by rfl, ?_⟩) (by assumption) ?_
      rotate_left
      · (intro W hSw; (try dsimp only at hSw); have f0 := HC0.out W hSw; have f1 := HC1.out W hSw; have f2 := HC2.out W hSw; have fn := HCn.out W hSw; have fa := HVa.out W hSw; have fb := HVb.out W hSw; go_simp; try with_reducible rfl)
      try simp only [heldPut, List.set]
      refine heldTake (i := 12) (v := ?_) rfl (by kernel_rfl) (by kernel_rfl) (by kernel_rfl) (fun _ _ _ h => h) (Or.inl ⟨by rfl, ?_⟩) (by assumption) ?_
      rotate_left
      · (intro W hSw; (try dsimp only at hSw); have f0 := HC0.out W hSw; have f1 := HC1.out W hSw; have f2 := HC2.out W hSw; have fn := HCn.out W hSw; have fa := HVa.out W hSw; have fb := HVb.out W hSw; go_simp; try with_reducible rfl)
      try simp only [heldPut, List.set]
      refine heldTake (i := 13) (v := ?_) rfl (by kernel_rfl) (by kernel_rfl) (by kernel_rfl) (fun _ _ _ h => h) (Or.inl ⟨by rfl, ?_⟩) (by assumption) ?_
      rotate_left
      · (intro W hSw; (try dsimp only at hSw); have f0 := HC0.out W hSw; have f1 := HC1.out W hSw; have f2 := HC2.out W hSw; have fn := HCn.out W hSw; have fa := HVa.out W hSw; have fb := HVb.out W hSw; go_simp; try with_reducible rfl)
      try simp only [heldPut, List.set]
      refine heldTake (i := 14) (v := ?_) rfl (by kernel_rfl) (by kernel_rfl) (by kernel_rfl) (fun _ _ _ h => h) (Or.inl ⟨by rfl, ?_⟩) (by assumption) ?_
      rotate_left
      · (intro W hSw; (try dsimp only at hSw); have f0 := HC0.out W hSw; have f1 := HC1.out W hSw; have f2 := HC2.out W hSw; have fn := HCn.out W hSw; have fa := HVa.out W hSw; have fb := HVb.out W hSw; go_simp; try with_reducible rfl)
      try simp only [heldPut, List.set]
      refine heldTake (i := 15) (v := ?_) rfl (by kernel_rfl) (by kernel_rfl) (by kernel_rfl) (fun _ _ _ h => h) (Or.inl ⟨by rfl, ?_⟩) (by assumption) ?_
      rotate_left
      · (intro W hSw; (try dsimp only at hSw); have f0 := HC0.out W hSw; have f1 := HC1.out W hSw; have f2 := HC2.out W hSw; have fn := HCn.out W hSw; have fa := HVa.out W hSw; have fb := HVb.out W hSw; go_simp; try with_reducible rfl)
      try simp only [heldPut, List.set]
      refine heldTake (i := 16) (v := ?_) rfl (by kernel_rfl) (by kernel_rfl) (by kernel_rfl) (fun _ _ _ h => h) (Or.inl ⟨by rfl, ?_⟩) (by assumption) ?_
      rotate_left
      · (intro W hSw; (try dsimp only at hSw); have f0 := HC0.out W hSw; have f1 := HC1.out W hSw; have f2 := HC2.out W hSw; have fn := HCn.out W hSw; have fa := HVa.out W hSw; have fb := HVb.out W hSw; go_simp; try with_reducible rfl)
      try simp only [heldPut, List.set]
      refine heldTake (i := 17) (v := ?_) rfl (by kernel_rfl) (by kernel_rfl) (by kernel_rfl) (fun _ _ _ h => h) (Or.inl ⟨by rfl, ?_⟩) (by assumption) ?_
      rotate_left
      · (intro W hSw; (try dsimp only at hSw); have f0 := HC0.out W hSw; have f1 := HC1.out W hSw; have f2 := HC2.out W hSw; have fn := HCn.out W hSw; have fa := HVa.out W hSw; have fb := HVb.out W hSw; go_simp; try with_reducible rfl)
      try simp only [heldPut, List.set]
      refine heldTake (i := 18) (v := ?_) rfl (by kernel_rfl) (by kernel_rfl) (by kernel_rfl) (fun _ _ _ h => h) (Or.inl ⟨by rfl, ?_⟩) (by assumption) ?_
      rotate_left
      · (intro W hSw; (try dsimp only at hSw); have f0 := HC0.out W hSw; have f1 := HC1.out W hSw; have f2 := HC2.out W hSw; have fn := HCn.out W hSw; have fa := HVa.out W hSw; have fb := HVb.out W hSw; go_simp; try with_reducible rfl)
      try simp only [heldPut, List.set]
      refine heldTake (i := 19) (v := ?_) rfl (by kernel_rfl) (by kernel_rfl) (by kernel_rfl) (fun _ _ _ h => h) (Or.inl ⟨by rfl, ?_⟩) (by assumption) ?_
      rotate_left
      · (intro W hSw; (try dsimp only at hSw); have f0 := HC0.out W hSw; have f1 := HC1.out W hSw; have f2 := HC2.out W hSw; have fn := HCn.out W hSw; have fa := HVa.out W hSw; have fb := HVb.out W hSw; go_simp; try with_reducible rfl)
      try simp only [heldPut, List.set]
      refine heldTake (i := 20) (v := ?_) rfl (by kernel_rfl) (by kernel_rfl) (by kernel_rfl) (fun _ _ _ h => h) (Or.inl ⟨by rfl, ?_⟩) (by assumption) ?_
      rotate_left
      · (intro W hSw; (try dsimp only at hSw); have f0 := HC0.out W hSw; have f1 := HC1.out W hSw; have f2 := HC2.out W hSw; have fn := HCn.out W hSw; have fa := HVa.out W hSw; have fb := HVb.out W hSw; go_simp; try with_reducible rfl)
      try simp only [heldPut, List.set]
      refine heldTake (i := 21) (v := ?_) rfl (by kernel_rfl) (by kernel_rfl) (by kernel_rfl) (fun _ _ _ h => h) (Or.inl ⟨by rfl, ?_⟩) (by assumption) ?_
      rotate_left
      · (intro W hSw; (try dsimp only at hSw); have f0 := HC0.out W hSw; have f1 := HC1.out W hSw; have f2 := HC2.out W hSw; have fn := HCn.out W hSw; have fa := HVa.out W hSw; have fb := HVb.out W hSw; go_simp; try with_reducible rfl)
      try simp only [heldPut, List.set]
      refine heldTake (i := 22) (v := ?_) rfl (by kernel_rfl) (by kernel_rfl) (by kernel_rfl) (fun _ _ _ h => h) (Or.inl ⟨by rfl, ?_⟩) (by assumption) ?_
      rotate_left
      · (intro W hSw; (try dsimp only at hSw); have f0 := HC0.out W hSw; have f1 := HC1.out W hSw; have f2 := HC2.out W hSw; have fn := HCn.out W hSw; have fa := HVa.out W hSw; have fb := HVb.out W hSw; go_simp; try with_reducible rfl)
      try simp only [heldPut, List.set]
      refine heldTake (i := 23) (v := ?_) rfl (by kernel_rfl) (by kernel_rfl) (by kernel_rfl) (fun _ _ _ h => h) (Or.inl ⟨by rfl, ?_⟩) (by assumption) ?_
      rotate_left
      · (intro W hSw; (try dsimp only at hSw); have f0 := HC0.out W hSw; have f1 := HC1.out W hSw; have f2 := HC2.out W hSw; have fn := HCn.out W hSw; have fa := HVa.out W hSw; have fb := HVb.out W hSw; go_simp; try with_reducible rfl)
      try simp only [heldPut, List.set]
      refine heldTake (i := 24) (v := ?_) rfl (by kernel_rfl) (by kernel_rfl) (by kernel_rfl) (fun _ _ _ h => h) (Or.inl ⟨by rfl, ?_⟩) (by assumption) ?_
      rotate_left
      · (intro W hSw; (try dsimp only at hSw); have f0 := HC0.out W hSw; have f1 := HC1.out W hSw; have f2 := HC2.out W hSw; have fn := HCn.out W hSw; have fa := HVa.out W hSw; have fb := HVb.out W hSw; go_simp; try with_reducible rfl)
      try simp only [heldPut, List.set]
      refine heldTake (i := 26) (v := ?_) rfl (by kernel_rfl) (by kernel_rfl) (by kernel_rfl) (fun _ _ _ h => h) (Or.inl ⟨by rfl, ?_⟩) (by assumption) ?_
      rotate_left
      · (intro W hSw; (try dsimp only at hSw); have f0 := HC0.out W hSw; have f1 := HC1.out W hSw; have f2 := HC2.out W hSw; have fn := HCn.out W hSw; have fa := HVa.out W hSw; have fb := HVb.out W hSw; go_simp; try with_reducible rfl)
      try simp only [heldPut, List.set]
      refine heldTake (i := 27) (v := ?_) rfl (by kernel_rfl) (by kernel_rfl) (by kernel_rfl) (fun _ _ _ h => h) (Or.inl ⟨by rfl, ?_⟩) (by assumption) ?_
      rotate_left
      · (intro W hSw; (try dsimp only at hSw); have f0 := HC0.out W hSw; have f1 := HC1.out W hSw; have f2 := HC2.out W hSw; have fn := HCn.out W hSw; have fa := HVa.out W hSw; have fb := HVb.out W hSw; go_simp; try with_reducible rfl)
      try simp only [heldPut, List.set]
      refine heldTake (i := 28) (v := ?_) rfl (by kernel_rfl) (by kernel_rfl) (by kernel_rfl) (fun _ _ _ h => h) (Or.inl ⟨by rfl, ?_⟩) (by assumption) ?_
      rotate_left
      · (intro W hSw; (try dsimp only at hSw); have f0 := HC0.out W hSw; have f1 := HC1.out W hSw; have f2 := HC2.out W hSw; have fn := HCn.out W hSw; have fa := HVa.out W hSw; have fb := HVb.out W hSw; go_simp; try with_reducible rfl)
      try simp only [heldPut, List.set]
      refine heldTake (i := 29) (v := ?_) rfl (by kernel_rfl) (by kernel_rfl) (by kernel_rfl) (fun _ _ _ h => h) (Or.inl ⟨by rfl, ?_⟩) (by assumption) ?_
      rotate_left
      · (intro W hSw; (try dsimp only at hSw); have f0 := HC0.out W hSw; have f1 := HC1.out W hSw; have f2 := HC2.out W hSw; have fn := HCn.out W hSw; have fa := HVa.out W hSw; have fb := HVb.out W hSw; go_simp; try with_reducible rfl)
      try simp only [heldPut, List.set]
      refine heldTake (i := 30) (v := ?_) rfl (by kernel_rfl) (by kernel_rfl) (by kernel_rfl) (fun _ _ _ h => h) (Or.inl ⟨by rfl, ?_⟩) (by assumption) ?_
      rotate_left
      · (intro W hSw; (try dsimp only at hSw); have f0 := HC0.out W hSw; have f1 := HC1.out W hSw; have f2 := HC2.out W hSw; have fn := HCn.out W hSw; have fa := HVa.out W hSw; have fb := HVb.out W hSw; go_simp; try with_reducible rfl)
      try simp only [heldPut, List.set]
      refine heldTake (i := 31) (v := ?_) rfl (by kernel_rfl) (by kernel_rfl) (by kernel_rfl) (fun _ _ _ h => h) (Or.inl ⟨by rfl, ?_⟩) (by assumption) ?_
      rotate_left
      · (intro W hSw; (try dsimp only at hSw); have f0 := HC0.out W hSw; have f1 := HC1.out W hSw; have f2 := HC2.out W hSw; have fn := HCn.out W hSw; have fa := HVa.out W hSw; have fb := HVb.out W hSw; go_simp; try with_reducible rfl)
      try simp only [heldPut, List.set]
      refine heldOne (i := 25) rfl (by kernel_rfl) (fun K hK => ?_)
      go_simp
      refine (loose_some _ (D7.out.below hHeld) HSn.out HFd.out).mono ?_
      rintro e w8 ⟨rfl, b8⟩
      have hb8 := hHeld.trans (b8.mono hHeld.size)
      go_wp2_with fail
      refine hK.out _ _ ?_ (fun hHeld => ?_)
      · exact hb8
      clear hK K
      try simp only [heldPut, List.set]
      refine heldTake (i := 32) (v := ?_) rfl (by kernel_rfl) (by kernel_rfl) (by kernel_rfl) (fun _ _ _ h => h) (Or.inl ⟨by rfl, ?_⟩) (by assumption) ?_
      rotate_left
      · (intro W hSw; (try dsimp only at hSw); have f0 := HC0.out W hSw; have f1 := HC1.out W hSw; have f2 := HC2.out W hSw; have fn := HCn.out W hSw; have fa := HVa.out W hSw; have fb := HVb.out W hSw; go_simp; try with_reducible rfl)
      try simp only [heldPut, List.set]
      refine heldTake (i := 33) (v := ?_) rfl (by kernel_rfl) (by kernel_rfl) (by kernel_rfl) (fun _ _ _ h => h) (Or.inl ⟨by rfl, ?_⟩) (by assumption) ?_
      rotate_left
      · (intro W hSw; (try dsimp only at hSw); have f0 := HC0.out W hSw; have f1 := HC1.out W hSw; have f2 := HC2.out W hSw; have fn := HCn.out W hSw; have fa := HVa.out W hSw; have fb := HVb.out W hSw; go_simp; try with_reducible rfl)
      try simp only [heldPut, List.set]
      refine wpAnyH_done (by kernel_rfl) ?_ _
      refine NoPanic.normal ?_
      have HB8 := Lib.hid (Hb7.out.trans (hHeld.mono Hb7.out.size))
      clear HC0 HC1 HC2 HCn HVa HVb
      go_wp2
      go_roundw
      case rel => exact ⟨j + 1, by omega, by go_num, HB8.out⟩
      case measure => simp [intOf]; omega
    · obtain rfl : j = L.length := by omega
      have hd0 : decide (L.length < L.length) = false := decide_eq_false (Nat.lt_irrefl _)
      go_wp2
      go_ret
      exact ⟨rfl, HB2.out.trans (Hb5.out.mono HB2.out.size)⟩
end Go.Proofs.Ytheojokfgndheaa
