/- Several texts in one: StRnw. -/
import Derived.Test.YtholdcgkhicdmaaGreatDoorZq40
namespace Go.Proofs.YtholdcgkhicdmaaGreatDoor
open Go.RowKit
def nmN : ByteArray := ⟨#[110, 101, 119]⟩
theorem nmG_value : ∀ k, k < 100 → valueB (nmG k) = true := by decide +kernel
theorem nmG_ne_new : ∀ k, k < 100 → nmG k ≠ nmN := by decide +kernel
theorem nmN_value : valueB nmN = true := by decide +kernel
theorem nmG_max {k : Nat} (hk : k < 100) : (nmG k).size ≤ maxLen := by have := (nmG_len k hk).1; unfold maxLen; omega
theorem nmN_max : nmN.size ≤ maxLen := by unfold maxLen; decide
theorem scan_one {c : List Nat} (hc : OkB c) (hl : c.length ≤ 524288) : scanJ (laidR c) = ([c], (laidR c).length) := by
 have h1 : OkR [c] := fun x hx => by rw [List.mem_singleton] at hx; rw [hx]; exact ⟨hc, hl⟩
 have h2 := scanJ_join (r := []) h1
 have h3 : takeJ [] = none := by decide
 rw [scanJ_none h3] at h2
 simpa [joinR] using h2
theorem had_ne {a c : ByteArray} {f : Fl} (h : a ≠ c) : had [(a, f)] c = ⟨[], 0⟩ := by unfold had; rw [findP_ne h]; rfl
theorem own8_read {w : World} {base : Nat} {e : TypeId} {A : Option Addr} {n c : Nat} {l : List Nat} (h : w.ownsRow base e 1 (.slice A n c) n (cellsB l)) : RdB w w.heap.size A l := RdB.of_own h
set_option maxRecDepth 100000 in
set_option maxHeartbeats 4000000 in
theorem renew_any {P : Nat → Nat → Prop} {R : Rc} {n : Nat} {f : Fl} (w : World) (h : Sto w P R n) (hn : n ≤ 2000) (ho : SnOk R) (hok : OkB (4 :: snapB R.life R.X R.L (R.F.map (·.x)))) (hnm : R.nm = nmG R.gen) (hg : R.gen + 1 < 100) (hLL : R.LL = [(nmG R.gen, f)]) :
  Calls Tryz.prog 42 #[.pointer (some ⟨R.st, 0, none⟩)] w fun e w' => e = .returned (.int .i64 0) ∧ ∃ P' jb, Sto w' P' { R with LL := [(nmG (R.gen + 1), ⟨laidR (4 :: snapB R.life R.X R.L (R.F.map (·.x))), (snapB R.life R.X R.L (R.F.map (·.x))).length + 9⟩)], nm := nmG (R.gen + 1), gen := R.gen + 1, first := (snapB R.life R.X R.L (R.F.map (·.x))).length + 9, jb := jb } (n + 6) ∧ Mv6 w P w' P' := by
 obtain ⟨SB, hSB⟩ : ∃ z, z = snapB R.life R.X R.L (R.F.map fun e : Ett => e.x) := ⟨_, rfl⟩
 have hlen : SB.length ≤ 28000 := by rw [hSB]; exact ho.len
 have hSN : ∀ W, Below w.heap.size w W → Calls Tryz.prog 85 #[.pointer (some ⟨R.st, 0, none⟩)] W fun e w' => ∃ A c k, e = .returned (.slice A k c) ∧ k = SB.length + 1 ∧ w'.ownsRow W.heap.size 5 1 (.slice A k c) k (cellsB (4 :: SB)) ∧ Below W.heap.size W w' := fun W hW => by rw [hSB]; exact snapshot_any W (h.below hW) ho
 rw [← hSB] at hok ⊢
 obtain ⟨st, hst⟩ : ∃ z, z = R.st := ⟨_, rfl⟩
 have c3 : w.cell? ⟨R.st, 3, none⟩ = some (.int .u64 R.gen) := cell_of_row _ _ 3 _ _ _ h.blk
 have HC1 : Hid (∀ W, Below w.heap.size w W → W.cell? ⟨R.st, 1, none⟩ = some (.pointer (some ⟨R.g, 0, none⟩))) := fun W hW => cell_of_row _ _ 1 _ _ _ (h.below hW).blk
 have hfn := fileName_any (R.gen + 1) hg
 have hva := value_any (nmG (R.gen + 1))
 rw [nmG_value _ hg] at hva
 have hw64 : IntKind.u64.wrap ((R.gen : Int) + 1) = ((R.gen + 1 : Nat) : Int) := by rw [IntKind.wrap_u64]; omega
 rw [← hst] at c3 HC1 hSN ⊢
 have HS := Lib.hid h
 have HSN := Lib.hid hSN
 have HST := Lib.hid hst
 have HFN := Lib.hid hfn
 have HVA := Lib.hid hva
 have HOK := Lib.hid hok
 have HLL := Lib.hid hLL
 have HNM := Lib.hid hnm
 have HG := Lib.hid hg
 have HLEN := Lib.hid hlen
 obtain ⟨gn, hgn⟩ : ∃ z, z = R.gen + 1 := ⟨_, rfl⟩
 rw [← hgn] at HFN HVA hw64 ⊢
 have HGN := Lib.hid hgn
 clear h hSN hst hfn hva hok hLL hnm hg hgn hSB hlen ho
 go_enter Tryz.func42, Tryz.ntmps42
 go_wp2_with fail
 refine (HFN.out _).mono ?_
 rintro _ _ ⟨rfl, rfl⟩
 go_wp2_with fail
 refine (HVA.out _).mono ?_
 rintro _ w1 ⟨rfl, hb1⟩
 have HB1 := Lib.hid hb1
 clear hb1 c3
 go_upto_region 5 with fail
 have hbd1 : Below w.heap.size w w1.drew := HB1.out.trans (((Below.refl _ _).drew : Below w1.heap.size w1 w1.drew).mono HB1.out.size)
 have HS1 := Lib.hid (HSN.out _ hbd1)
 have HBD1 := Lib.hid hbd1
 clear hbd1
 refine wp_region_noPanic ?_
 refine wp_region_held_drew (S := fun W => W.cell? ⟨st, 1, none⟩ = some (.pointer (some ⟨R.g, 0, none⟩))) (by kernel_rfl) ?_ (fun hHeld => ?_)
 ·exact HC1.out _ HBD1.out
 try simp only [heldPut, List.set]
 refine hT 0 (v := ?_) rfl (Or.inl ⟨by rfl, ?_⟩) ?_
 rotate_left
 ·(intro W hSw; (try dsimp only at hSw); go_simp; try with_reducible rfl)
 try simp only [heldPut, List.set]
 refine hT 1 (v := ?_) rfl (Or.inl ⟨by rfl, ?_⟩) ?_
 rotate_left
 ·(intro W hSw; (try dsimp only at hSw); go_simp; try with_reducible rfl)
 try simp only [heldPut, List.set]
 refine hT 2 (v := ?_) rfl (Or.inl ⟨by rfl, ?_⟩) ?_
 rotate_left
 ·(intro W hSw; (try dsimp only at hSw); go_simp; try with_reducible rfl)
 try simp only [heldPut, List.set]
 refine hT 3 (v := ?_) rfl (Or.inl ⟨by rfl, ?_⟩) ?_
 rotate_left
 ·(intro W hSw; (try dsimp only at hSw); go_simp; try with_reducible rfl)
 try simp only [heldPut, List.set]
 refine hT 4 (v := ?_) rfl (Or.inl ⟨by rfl, ?_⟩) ?_
 rotate_left
 ·(intro W hSw; (try dsimp only at hSw); go_simp; try with_reducible rfl)
 try simp only [heldPut, List.set]
 refine heldOne (i := 5) rfl (by kernel_rfl) (fun K hK => ?_)
 go_simp
 refine HS1.out.mono ?_
 rintro _ w2 ⟨A2, c2, k2, rfl, hk2, ho2, hb2⟩
 have hbw2 := HBD1.out.trans (hb2.mono HBD1.out.size)
 have hs2 := HS.out.below hbw2
 obtain ⟨y1, y2, -⟩ := rdB_of_own ho2
 have hlay := sto_lay (A := A2) (m := k2) (c := c2) hs2 (by omega) (by rw [hk2]; rfl) (by have := HLEN.out; omega) y1 HOK.out (fun a ha i hi => by
  have h1 := (ho2.lt a.block (by rw [ha]; rfl)).1
  have h2 := HS.out.own.lt i _ hi
  have h3 := HBD1.out.size
  omega)
 have HLAY := Lib.hid hlay
 have HB2 := Lib.hid hbw2
 have HK2 := Lib.hid hk2
 clear hk2 ho2 hb2 hs2 y1 y2 hlay HS1 hbw2
 go_wp2_with fail
 refine hK.out _ _ ?_ (fun hHeld => ?_)
 ·exact HC1.out _ HB2.out
 clear hK K
 try simp only [heldPut, List.set]
 refine heldOne (i := 6) rfl (by kernel_rfl) (fun K hK => ?_)
 go_simp
 refine HLAY.out.mono ?_
 rintro _ w3 ⟨v3, rfl, ho3, P3, hs3, hm3, hP3⟩
 obtain ⟨A3, c3, rfl⟩ := ownB_slice ho3
 have HS3 := Lib.hid hs3
 have HM3 := Lib.hid ((Mv6.of_below HB2.out P).trans hm3)
 have HO3 := Lib.hid (ownB_mono ho3 HB2.out.size)
 have HC3 : Hid (w3.cell? ⟨st, 1, none⟩ = some (.pointer (some ⟨R.g, 0, none⟩))) := by show _ = _; rw [HST.out]; exact cell_of_row _ _ 1 _ _ _ hs3.blk
 clear hs3 hm3 ho3 hP3 HLAY
 go_wp2_with fail
 refine hK.out _ _ ?_ (fun hHeld => ?_)
 ·exact HC3.out
 clear hK K
 try simp only [heldPut, List.set]
 refine hT 7 (v := ?_) rfl (Or.inl ⟨by rfl, ?_⟩) ?_
 rotate_left
 ·(intro W hSw; (try dsimp only at hSw); go_simp; try with_reducible rfl)
 try simp only [heldPut, List.set]
 refine hT 8 (v := ?_) rfl (Or.inl ⟨by rfl, ?_⟩) ?_
 rotate_left
 ·(intro W hSw; (try dsimp only at hSw); go_simp; try with_reducible rfl)
 try simp only [heldPut, List.set]
 refine hT 9 (v := ?_) rfl (Or.inl ⟨by rfl, ?_⟩) ?_
 rotate_left
 ·(intro W hSw; (try dsimp only at hSw); go_simp; try with_reducible rfl)
 try simp only [heldPut, List.set]
 refine hT 10 (v := ?_) rfl (Or.inl ⟨by rfl, ?_⟩) ?_
 rotate_left
 ·(intro W hSw; (try dsimp only at hSw); go_simp; try with_reducible rfl)
 try simp only [heldPut, List.set]
 refine hT 11 (v := ?_) rfl (Or.inl ⟨by rfl, ?_⟩) ?_
 rotate_left
 ·(intro W hSw; (try dsimp only at hSw); go_simp; try with_reducible rfl)
 try simp only [heldPut, List.set]
 refine wpAnyH_done (by kernel_rfl) ?_ _
 refine NoPanic.normal ?_
 have d0 : w3.cell? ⟨st, 0, none⟩ = some (.pointer (some ⟨R.gd, 0, none⟩)) := by rw [HST.out]; exact cell_of_row _ _ 0 _ _ _ HS3.out.blk
 have HRM := Lib.hid (sto_remove_none HS3.out nmN_max (by rw [HLL.out]; exact findP_ne (nmG_ne_new R.gen (by have := HG.out; omega))))
 clear hHeld
 go_wp2_with fail
 refine HRM.out.mono ?_
 rintro _ w4 ⟨rfl, hb4⟩
 obtain ⟨BL, hBL⟩ : ∃ z, z = laidR (4 :: SB) := ⟨_, rfl⟩
 have hBLl : BL.length = SB.length + 9 := by rw [hBL, laidR_length]; rfl
 have hBLo : OkB BL := by rw [hBL]; exact laidR_ok HOK.out
 have hBLs : scanJ BL = ([4 :: SB], BL.length) := by rw [hBL]; exact scan_one HOK.out (by have := HLEN.out; simp only [List.length_cons]; omega)
 rw [← hBL] at HO3
 have HBE := Lib.hid hBL
 have HBLL := Lib.hid hBLl
 have HBLO := Lib.hid hBLo
 have HBLS := Lib.hid hBLs
 have hgl : R.gen < 100 := by have := HG.out; omega
 have hgn100 : gn < 100 := by rw [HGN.out]; exact HG.out
 have hne : nmG R.gen ≠ nmN := nmG_ne_new _ hgl
 have hnn : nmG R.gen ≠ nmG gn := fun e => by have := nmG_inj _ hgl _ hgn100 e; have := HGN.out; omega
 have HNE := Lib.hid hne
 have HNN := Lib.hid hnn
 have hs4 := HS3.out.below hb4
 have hr4 : RdB w4 w4.heap.size A3 BL := ((own8_read HO3.out).below hb4).more hb4.size
 have hap := sto_append (B := A3) (m := k2 + 8) (d := c3) (s := nmN) hs4 nmN_value nmN_max (fun _ => by rw [HLL.out]; simp) (by rw [hBLl, HK2.out]) hBLo (by rw [HLL.out, had_ne hne]; have := HLEN.out; have := HK2.out; simp only [List.length_nil]; omega) hr4 (by omega)
 rw [HLL.out, had_ne hne, List.nil_append] at hap
 have HAP := Lib.hid hap
 have HM4 := Lib.hid (HM3.out.trans (Mv6.of_below hb4 P3))
 have d0 : w4.cell? ⟨st, 0, none⟩ = some (.pointer (some ⟨R.gd, 0, none⟩)) := by rw [HST.out]; exact cell_of_row _ _ 0 _ _ _ hs4.blk
 clear hs4 hr4 hap hb4 HRM hBL hBLl hBLo hBLs hgl hgn100 hne hnn HO3 HM3 HS3 HC3
 go_wp2_with fail
 refine HAP.out.mono ?_
 rintro _ w5 ⟨rfl, P5, hs5, hm5, -⟩
 have HSY := Lib.hid (sto_sync (s := nmN) hs5 nmN_max (findP_set _ _ _) (by omega))
 have HM5 := Lib.hid (HM4.out.trans hm5)
 have d0 : w5.cell? ⟨st, 0, none⟩ = some (.pointer (some ⟨R.gd, 0, none⟩)) := by rw [HST.out]; exact cell_of_row _ _ 0 _ _ _ hs5.blk
 clear hs5 hm5 HAP HM4
 go_wp2_with fail
 refine HSY.out.mono ?_
 rintro _ w6 ⟨rfl, P6, hs6, hm6, -⟩
 rw [putP_twice] at hs6
 have HRN := Lib.hid (sto_rename (s := nmN) (t := nmG gn) hs6 nmN_max (nmG_max (by rw [HGN.out]; exact HG.out)) (findP_set _ _ _) (nmG_value _ (by rw [HGN.out]; exact HG.out)))
 have HM6 := Lib.hid (HM5.out.trans hm6)
 have d0 : w6.cell? ⟨st, 0, none⟩ = some (.pointer (some ⟨R.gd, 0, none⟩)) := by rw [HST.out]; exact cell_of_row _ _ 0 _ _ _ hs6.blk
 clear hs6 hm6 HSY HM5
 go_wp2_with fail
 refine HRN.out.mono ?_
 rintro _ w7 ⟨rfl, P7, hs7, hm7, -⟩
 rw [delP_put, delP_ne HNE.out] at hs7
 have HS7 := Lib.hid hs7
 have HM7 := Lib.hid (HM6.out.trans hm7)
 have HJN := Lib.hid (fun W (hW : Below w7.heap.size w7 W) => jname_any W (hs7.below hW).j)
 have HRV := Lib.hid (fun W (hW : Below w7.heap.size w7 W) => sto_remove (s := nmG R.gen) (hs7.below hW) (nmG_max (by have := HG.out; omega)) (find_two HNN.out))
 have HCC : Hid (∀ W, Below w7.heap.size w7 W → W.cell? ⟨st, 0, none⟩ = some (.pointer (some ⟨R.gd, 0, none⟩)) ∧ W.cell? ⟨st, 2, none⟩ = some (.pointer (some ⟨R.jb, 0, none⟩))) := fun W hW => by
  rw [HST.out]
  exact ⟨cell_of_row _ _ 0 _ _ _ (hs7.below hW).blk, cell_of_row _ _ 2 _ _ _ (hs7.below hW).blk⟩
 clear hs7 hm7 HRN HM6 d0
 go_upto_region 14 with fail
 refine wp_region_noPanic ?_
 refine wp_region_held_drew (S := fun W => W.cell? ⟨st, 0, none⟩ = some (.pointer (some ⟨R.gd, 0, none⟩)) ∧ W.cell? ⟨st, 2, none⟩ = some (.pointer (some ⟨R.jb, 0, none⟩))) (by kernel_rfl) ?_ (fun hHeld => ?_)
 ·exact HCC.out _ ((Below.refl _ _).drew)
 try simp only [heldPut, List.set]
 refine hT 0 (v := ?_) rfl (Or.inl ⟨by rfl, ?_⟩) ?_
 rotate_left
 ·(intro W hSw; (try dsimp only at hSw); obtain ⟨f1, f2⟩ := hSw; go_simp; try with_reducible rfl)
 try simp only [heldPut, List.set]
 refine hT 1 (v := ?_) rfl (Or.inl ⟨by rfl, ?_⟩) ?_
 rotate_left
 ·(intro W hSw; (try dsimp only at hSw); obtain ⟨f1, f2⟩ := hSw; go_simp; try with_reducible rfl)
 try simp only [heldPut, List.set]
 refine hT 2 (v := ?_) rfl (Or.inl ⟨by rfl, ?_⟩) ?_
 rotate_left
 ·(intro W hSw; (try dsimp only at hSw); obtain ⟨f1, f2⟩ := hSw; go_simp; try with_reducible rfl)
 try simp only [heldPut, List.set]
 refine hT 3 (v := ?_) rfl (Or.inl ⟨by rfl, ?_⟩) ?_
 rotate_left
 ·(intro W hSw; (try dsimp only at hSw); obtain ⟨f1, f2⟩ := hSw; go_simp; try with_reducible rfl)
 try simp only [heldPut, List.set]
 refine hT 4 (v := ?_) rfl (Or.inl ⟨by rfl, ?_⟩) ?_
 rotate_left
 ·(intro W hSw; (try dsimp only at hSw); obtain ⟨f1, f2⟩ := hSw; go_simp; try with_reducible rfl)
 try simp only [heldPut, List.set]
 refine hT 5 (v := ?_) rfl (Or.inl ⟨by rfl, ?_⟩) ?_
 rotate_left
 ·(intro W hSw; (try dsimp only at hSw); obtain ⟨f1, f2⟩ := hSw; go_simp; try with_reducible rfl)
 try simp only [heldPut, List.set]
 refine hT 6 (v := ?_) rfl (Or.inl ⟨by rfl, ?_⟩) ?_
 rotate_left
 ·(intro W hSw; (try dsimp only at hSw); obtain ⟨f1, f2⟩ := hSw; go_simp; try with_reducible rfl)
 try simp only [heldPut, List.set]
 refine hT 7 (v := ?_) rfl (Or.inl ⟨by rfl, ?_⟩) ?_
 rotate_left
 ·(intro W hSw; (try dsimp only at hSw); obtain ⟨f1, f2⟩ := hSw; go_simp; try with_reducible rfl)
 try simp only [heldPut, List.set]
 refine heldOne (i := 8) rfl (by kernel_rfl) (fun K hK => ?_)
 go_simp
 refine (HJN.out _ ((Below.refl _ _).drew)).mono ?_
 rintro _ _ ⟨rfl, rfl⟩
 go_wp2_with fail
 refine hK.out _ _ ?_ (fun hHeld => ?_)
 ·exact HCC.out _ ((Below.refl _ _).drew)
 clear hK K
 try simp only [heldPut, List.set]
 refine heldOne (i := 9) rfl (by kernel_rfl) (fun K hK => ?_)
 go_simp
 rw [HNM.out]
 refine (HRV.out _ ((Below.refl _ _).drew)).mono ?_
 rintro _ w8 ⟨rfl, P8, hs8, hm8, -⟩
 rw [del_two HNN.out] at hs8
 have HS8 := Lib.hid hs8
 have HJO := Lib.hid (sto_jopen (s := nmG gn) (hs8.below ((Below.refl _ _).drew)) (by omega) (nmG_max (by rw [HGN.out]; exact HG.out)) (findP_one _ _) (by show BL.length ≤ _; rw [HBLL.out]; have := HLEN.out; omega))
 have HM8 := Lib.hid (HM7.out.trans ((Mv6.of_below ((Below.refl _ _).drew : Below w7.heap.size w7 w7.drew) P7).trans hm8))
 have HCC8 : Hid (∀ W, Below w8.heap.size w8 W → (W.cell? ⟨st, 0, none⟩ = some (.pointer (some ⟨R.gd, 0, none⟩)) ∧ W.cell? ⟨st, 2, none⟩ = some (.pointer (some ⟨R.jb, 0, none⟩))) ∧ W.cell? ⟨st, 1, none⟩ = some (.pointer (some ⟨R.g, 0, none⟩))) := fun W hW => by
  rw [HST.out]
  exact ⟨⟨cell_of_row _ _ 0 _ _ _ (hs8.below hW).blk, cell_of_row _ _ 2 _ _ _ (hs8.below hW).blk⟩, cell_of_row _ _ 1 _ _ _ (hs8.below hW).blk⟩
 clear hs8 hm8 HRV HJN HCC HM7 HS7
 go_wp2_with fail
 refine hK.out _ _ ?_ (fun hHeld => ?_)
 ·exact (HCC8.out _ (Below.refl _ _)).1
 clear hK K
 try simp only [heldPut, List.set]
 refine wpAnyH_done (by kernel_rfl) ?_ _
 refine NoPanic.normal ?_
 clear hHeld
 go_upto_region 15 with fail
 refine wp_region_noPanic ?_
 refine wp_region_held_drew (S := fun W => W.cell? ⟨st, 0, none⟩ = some (.pointer (some ⟨R.gd, 0, none⟩)) ∧ W.cell? ⟨st, 1, none⟩ = some (.pointer (some ⟨R.g, 0, none⟩))) (by kernel_rfl) ?_ (fun hHeld => ?_)
 ·exact ⟨(HCC8.out _ ((Below.refl _ _).drew)).1.1, (HCC8.out _ ((Below.refl _ _).drew)).2⟩
 try simp only [heldPut, List.set]
 refine hT 0 (v := ?_) rfl (Or.inl ⟨by rfl, ?_⟩) ?_
 rotate_left
 ·(intro W hSw; (try dsimp only at hSw); obtain ⟨f1, f2⟩ := hSw; go_simp; try with_reducible rfl)
 try simp only [heldPut, List.set]
 refine hT 1 (v := ?_) rfl (Or.inl ⟨by rfl, ?_⟩) ?_
 rotate_left
 ·(intro W hSw; (try dsimp only at hSw); obtain ⟨f1, f2⟩ := hSw; go_simp; try with_reducible rfl)
 try simp only [heldPut, List.set]
 refine hT 2 (v := ?_) rfl (Or.inl ⟨by rfl, ?_⟩) ?_
 rotate_left
 ·(intro W hSw; (try dsimp only at hSw); obtain ⟨f1, f2⟩ := hSw; go_simp; try with_reducible rfl)
 try simp only [heldPut, List.set]
 refine hT 3 (v := ?_) rfl (Or.inl ⟨by rfl, ?_⟩) ?_
 rotate_left
 ·(intro W hSw; (try dsimp only at hSw); obtain ⟨f1, f2⟩ := hSw; go_simp; try with_reducible rfl)
 try simp only [heldPut, List.set]
 refine hT 4 (v := ?_) rfl (Or.inl ⟨by rfl, ?_⟩) ?_
 rotate_left
 ·(intro W hSw; (try dsimp only at hSw); obtain ⟨f1, f2⟩ := hSw; go_simp; try with_reducible rfl)
 try simp only [heldPut, List.set]
 refine hT 5 (v := ?_) rfl (Or.inl ⟨by rfl, ?_⟩) ?_
 rotate_left
 ·(intro W hSw; (try dsimp only at hSw); obtain ⟨f1, f2⟩ := hSw; go_simp; try with_reducible rfl)
 try simp only [heldPut, List.set]
 refine hT 6 (v := ?_) rfl (Or.inl ⟨by rfl, ?_⟩) ?_
 rotate_left
 ·(intro W hSw; (try dsimp only at hSw); obtain ⟨f1, f2⟩ := hSw; go_simp; try with_reducible rfl)
 try simp only [heldPut, List.set]
 refine hT 7 (v := ?_) rfl (Or.inl ⟨by rfl, ?_⟩) ?_
 rotate_left
 ·(intro W hSw; (try dsimp only at hSw); obtain ⟨f1, f2⟩ := hSw; go_simp; try with_reducible rfl)
 try simp only [heldPut, List.set]
 refine hT 8 (v := ?_) rfl (Or.inl ⟨by rfl, ?_⟩) ?_
 rotate_left
 ·(intro W hSw; (try dsimp only at hSw); obtain ⟨f1, f2⟩ := hSw; go_simp; try with_reducible rfl)
 try simp only [heldPut, List.set]
 refine hT 9 (v := ?_) rfl (Or.inl ⟨by rfl, ?_⟩) ?_
 rotate_left
 ·(intro W hSw; (try dsimp only at hSw); obtain ⟨f1, f2⟩ := hSw; go_simp; try with_reducible rfl)
 try simp only [heldPut, List.set]
 refine heldOne (i := 10) rfl (by kernel_rfl) (fun K hK => ?_)
 go_simp
 refine HJO.out.mono ?_
 rintro _ w9 ⟨v9, rfl, P9, hs9, hm9, hj9, hjP9⟩
 rw [put_one9] at hs9
 have hsz : w8.drew.heap.size = w8.heap.size := rfl
 rw [hsz] at hj9 hjP9 ⊢
 have hfl := HS8.out.file_low (Nat.le_refl w8.heap.size)
 have hm89 : Mv6 w8 P8 w9 P9 := (Mv6.of_below ((Below.refl _ _).drew : Below w8.heap.size w8 w8.drew) P8).trans hm9
 have hb89 : w.heap.size ≤ w8.heap.size := HM8.out.only.size
 obtain ⟨hs10, hm10⟩ := hs9.file (HM8.out.trans hm89) hj9 hj9.lt hb89 hjP9 hfl.2.1 hfl.2.2
 have hbl9 := hs9.blk
 have HS10 := Lib.hid hs10
 have HM10 := Lib.hid hm10
 obtain ⟨jb, hjb⟩ : ∃ z, z = w8.heap.size := ⟨_, rfl⟩
 rw [← hjb] at HS10 HM10 ⊢
 have HS9b := Lib.hid hbl9
 have q0 : w9.cell? ⟨st, 0, none⟩ = some (.pointer (some ⟨R.gd, 0, none⟩)) := by rw [HST.out]; exact cell_of_row _ _ 0 _ _ _ hbl9
 have q1 : w9.cell? ⟨st, 1, none⟩ = some (.pointer (some ⟨R.g, 0, none⟩)) := by rw [HST.out]; exact cell_of_row _ _ 1 _ _ _ hbl9
 have c2 : w9.cell? ⟨st, 2, none⟩ = some (.pointer (some ⟨R.jb, 0, none⟩)) := by rw [HST.out]; exact cell_of_row _ _ 2 _ _ _ hbl9
 have f2 : w9.frozen? ⟨st, 2, none⟩ = false := by rw [HST.out]; exact frozen_of_row _ _ 2 _ _ hbl9
 have HQ := Lib.hid (⟨⟨q0, q1⟩, c2, f2⟩ : (_ ∧ _) ∧ _ ∧ _)
 clear hs9 hm9 hj9 hjP9 hfl hm89 hs10 hm10 hbl9 hjb HJO HCC8 hsz hb89 q0 q1 c2 f2
 go_wp2_with fail
 refine hK.out _ _ ?_ (fun hHeld => ?_)
 ·exact HQ.out.1
 clear hK K
 try simp only [heldPut, List.set]
 refine hT 11 (v := ?_) rfl (Or.inl ⟨by rfl, ?_⟩) ?_
 rotate_left
 ·(intro W hSw; (try dsimp only at hSw); go_simp; try with_reducible rfl)
 try simp only [heldPut, List.set]
 refine hT 12 (v := ?_) rfl (Or.inl ⟨by rfl, ?_⟩) ?_
 rotate_left
 ·(intro W hSw; (try dsimp only at hSw); go_simp; try with_reducible rfl)
 try simp only [heldPut, List.set]
 refine hT 13 (v := ?_) rfl (Or.inl ⟨by rfl, ?_⟩) ?_
 rotate_left
 ·(intro W hSw; (try dsimp only at hSw); go_simp; try with_reducible rfl)
 try simp only [heldPut, List.set]
 refine hT 14 (v := ?_) rfl (Or.inl ⟨by rfl, ?_⟩) ?_
 rotate_left
 ·(intro W hSw; (try dsimp only at hSw); go_simp; try with_reducible rfl)
 try simp only [heldPut, List.set]
 refine hT 15 (v := ?_) rfl (Or.inl ⟨by rfl, ?_⟩) ?_
 rotate_left
 ·(intro W hSw; (try dsimp only at hSw); go_simp; try with_reducible rfl)
 try simp only [heldPut, List.set]
 refine hT 16 (v := ?_) rfl (Or.inl ⟨by rfl, ?_⟩) ?_
 rotate_left
 ·(intro W hSw; (try dsimp only at hSw); go_simp; try with_reducible rfl)
 try simp only [heldPut, List.set]
 have c2 := HQ.out.2.1
 have f2 := HQ.out.2.2
 refine heldOne (i := 17) rfl (by kernel_rfl) (fun K hK => ?_)
 go_simp
 have hblk10 := HS10.out.blk
 rw [← HST.out] at hblk10
 obtain ⟨w10, hw10⟩ : ∃ V, V = w9.setCell ⟨st, 2, none⟩ (.pointer (some ⟨jb, 0, none⟩)) := ⟨_, rfl⟩
 have hw10' : w10 = w9.setCell ⟨R.st, 2, none⟩ (.pointer (some ⟨jb, 0, none⟩)) := by rw [hw10, HST.out]
 rw [← hw10'] at HS10 HM10
 rw [← hw10] at hblk10 ⊢
 have HBK := Lib.hid hblk10
 clear hw10 hw10' hblk10 c2 f2 HQ HS9b
 refine hK.out _ _ ?_ (fun hHeld => ?_)
 ·exact ⟨cell_of_row _ _ 0 _ _ _ HBK.out, cell_of_row _ _ 1 _ _ _ HBK.out⟩
 clear hK K
 try simp only [heldPut, List.set]
 refine wpAnyH_done (by kernel_rfl) ?_ _
 refine NoPanic.normal ?_
 clear hHeld
 have c3 : w10.cell? ⟨st, 3, none⟩ = some (.int .u64 R.gen) := cell_of_row _ _ 3 _ _ _ HBK.out
 have c4 : w10.cell? ⟨st, 4, none⟩ = some (.int .i64 R.first) := cell_of_row _ _ 4 _ _ _ HBK.out
 have f3 : w10.frozen? ⟨st, 3, none⟩ = false := frozen_of_row _ _ 3 _ _ HBK.out
 have f4 : w10.frozen? ⟨st, 4, none⟩ = false := frozen_of_row _ _ 4 _ _ HBK.out
 obtain ⟨hs11, hm11⟩ := HS10.out.set { R with LL := [(nmG gn, ⟨BL, BL.length⟩)], nm := nmG gn, jb := jb, gen := gn } 3 (.int .u64 gn) (by rfl) rfl rfl rfl rfl rfl (by rw [HBLS.out]; simp) rfl rfl rfl rfl rfl
 obtain ⟨hs12, hm12⟩ := hs11.set { R with LL := [(nmG gn, ⟨BL, BL.length⟩)], nm := nmG gn, jb := jb, gen := gn, first := k2 + 8 } 4 (.int .i64 ((k2 + 8 : Nat) : Int)) (by rfl) rfl rfl rfl rfl rfl rfl rfl rfl rfl rfl rfl
 have HS12 := Lib.hid hs12
 have HM12 := Lib.hid (HM10.out.trans (hm11.trans hm12))
 rw [show ({ R with LL := [(nmG gn, ⟨BL, BL.length⟩)], nm := nmG gn, jb := jb, gen := gn } : Rc).st = st from HST.out.symm] at HS12 HM12
 clear hs11 hm11 hs12 hm12
 go_wp2
 go_ret
 have hst := HST.out
 subst hst
 have hbe := HBE.out
 have hkB : k2 + 8 = BL.length := by have := HK2.out; have := HBLL.out; omega
 have hci : (k2 : Int) + 8 = ((BL.length : Nat) : Int) := by omega
 have h12 := HS12.out
 have m12 := HM12.out
 rw [hkB] at h12 m12
 rw [← hbe, ← HBLL.out]
 refine ⟨rfl, upd P9 3 (fun k => k = jb), jb, ?_, ?_⟩
 ·rw [hci]; exact h12
 ·rw [hci]; exact m12
end Go.Proofs.YtholdcgkhicdmaaGreatDoor