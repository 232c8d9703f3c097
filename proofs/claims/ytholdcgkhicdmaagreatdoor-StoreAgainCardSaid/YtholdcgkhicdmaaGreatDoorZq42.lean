/- Several texts in one: StSyn, DkNames, StNew. -/
import Derived.Sort.KeysCollected
import Derived.Sort.OwnSorted
import Derived.Lib.OwnBridge
import Derived.Test.YtholdcgkhicdmaaGreatDoorZq41
namespace Go.Proofs.YtholdcgkhicdmaaGreatDoor
open Go.RowKit
section
variable {w : World} {P : Nat → Nat → Prop} {R : Rc} {n : Nat} {f : Fl}
theorem sto_jsync (h : Sto w P R n) (hn : n ≤ 1000000) (hs : R.nm.size ≤ maxLen) (hf : findP R.LL R.nm = some f) :
  Calls Tryz.prog 43 #[.pointer (some ⟨R.jb, 0, none⟩)] w fun e w' => e = .returned (.int .i64 0) ∧ ∃ P' LL', Sto w' P' { R with LL := LL' } (n + 1) ∧ Mv6 w P w' P' ∧ (LL' = putP R.LL R.nm ⟨f.by_, f.by_.length⟩ ∨ (LL' = R.LL ∧ f.syn = f.by_.length)) := by
 obtain ⟨wr, sy, a1, a2, a3⟩ := h.dt.dk
 obtain ⟨ok, max, syn⟩ := a3.fileOk hf
 by_cases hk : f.by_.length - f.syn = 0
 ·refine (jsync_idle w h.j (fun w1 hb => by have := loose_some w1 (a3.below hb) hs hf; rw [hk] at this; exact this)).mono ?_
  rintro _ w' ⟨rfl, hb⟩
  exact ⟨rfl, P, R.LL, (h.below hb).more (by omega), Mv6.of_below hb P, .inr ⟨rfl, by omega⟩⟩
 ·refine (jsync_busy w h.j (k := f.by_.length - f.syn) (by omega) (fun w1 hb => loose_some w1 (a3.below hb) hs hf)
   (fun w1 w' => Leaves w1 w' (P 0) R.gd (putP R.LL R.nm ⟨f.by_, f.by_.length⟩) wr (sy + 1)) (fun w1 hb => (sync_some w1 (a3.below hb) hs hf (by omega)).mono ?_)).mono ?_
  ·rintro _ w' ⟨rfl, hl⟩
   refine ⟨rfl, ?_, hl⟩
   obtain ⟨S', hd, hst⟩ := hl
   exact ((h.below hb).j).only hst.only (fun h' => by have := h.own.sep 0 3 _ h' h.p3; omega)
  ·rintro _ w' ⟨rfl, w1, hb, -, hl⟩
   obtain ⟨P', x1, x2, -⟩ := (h.below hb).leaves hl (by omega) (by omega)
   exact ⟨rfl, P', _, x1, (Mv6.of_below hb P).trans x2, .inl rfl⟩
theorem sto_jsize (h : Sto w P R n) (hs : R.nm.size ≤ maxLen) (hf : findP R.LL R.nm = some f) :
  Calls Tryz.prog 41 #[.pointer (some ⟨R.jb, 0, none⟩)] w fun e w' => e = .returned (.int .i64 f.by_.length) ∧ Below w.heap.size w w' := by
 obtain ⟨wr, sy, a1, a2, a3⟩ := h.dt.dk
 refine jsize_any (z := 0) w h.j (fun w1 hb => (read_some w1 (a3.below hb) hs hf).mono ?_)
 rintro _ w' ⟨v, rfl, ho, hb'⟩
 obtain ⟨A, c, rfl⟩ := ownB_slice ho
 exact ⟨A, c, rfl, hb'⟩
end
set_option maxRecDepth 100000 in
set_option maxHeartbeats 1000000 in
theorem sto_room {w : World} {P : Nat → Nat → Prop} {R : Rc} {n : Nat} (h : Sto w P R n) (h1 : R.first ≤ 1000000) (h2 : R.X.q ≤ 65536) :
  Calls Tryz.prog 15 #[.pointer (some ⟨R.st, 0, none⟩)] w fun e w' => e = .returned (.int .i64 ((R.first + 4 * R.X.q + 1024 : Nat) : Int)) ∧ Below w.heap.size w w' := by
 have HC : Hid (∀ W, Below w.heap.size w W → W.cell? ⟨R.st, 4, none⟩ = some (.int .i64 R.first) ∧ W.cell? ⟨R.st, 7, none⟩ = some (.pointer (some ⟨R.sq, 0, none⟩))) := fun W hW => ⟨cell_of_row _ _ 4 _ _ _ (h.below hW).blk, cell_of_row _ _ 7 _ _ _ (h.below hW).blk⟩
 have HQ := Lib.hid (quota_any w.drew (h.sp.below ((Below.refl _ _).drew)))
 obtain ⟨st, hst⟩ : ∃ z, z = R.st := ⟨_, rfl⟩
 obtain ⟨fi, hfi⟩ : ∃ z, z = R.first := ⟨_, rfl⟩
 obtain ⟨q, hq⟩ : ∃ z, z = R.X.q := ⟨_, rfl⟩
 rw [← hst, ← hfi] at HC
 rw [← hq] at HQ
 rw [← hst, ← hfi, ← hq]
 rw [← hfi] at h1
 rw [← hq] at h2
 have e1 : IntKind.i64.wrap (4 * (q : Int)) = 4 * (q : Int) := by rw [IntKind.wrap_i64]; omega
 have e2 : IntKind.i64.wrap ((fi : Int) + 4 * (q : Int)) = (fi : Int) + 4 * (q : Int) := by rw [IntKind.wrap_i64]; omega
 have e3 : IntKind.i64.wrap ((fi : Int) + 4 * (q : Int) + 1024) = ((fi + 4 * q + 1024 : Nat) : Int) := by rw [IntKind.wrap_i64]; omega
 clear h hst hfi hq h1 h2
 go_enter Tryz.func15, Tryz.ntmps15
 go_upto_region 3 with fail
 refine wp_region_noPanic ?_
 refine wp_region_held_drew (S := fun W => W.cell? ⟨st, 4, none⟩ = some (.int .i64 fi) ∧ W.cell? ⟨st, 7, none⟩ = some (.pointer (some ⟨R.sq, 0, none⟩))) (by kernel_rfl) ?_ (fun hHeld => ?_)
 ·exact HC.out _ ((Below.refl _ _).drew)
 try simp only [heldPut, List.set]
 refine hT 0 (v := ?_) rfl (Or.inl ⟨by rfl, ?_⟩) ?_
 rotate_left
 ·(intro W hSw; (try dsimp only at hSw); obtain ⟨f1, f2⟩ := hSw; go_simp; try with_reducible rfl)
 try simp only [heldPut, List.set]
 refine hT 1 (v := ?_) rfl (Or.inl ⟨by rfl, ?_⟩) ?_
 rotate_left
 ·(intro W hSw; (try dsimp only at hSw); obtain ⟨f1, f2⟩ := hSw; go_simp; try with_reducible rfl)
 try simp only [heldPut, List.set]
 refine hT 2 (v := ?_) rfl (Or.inl ⟨by rfl, ?_⟩) ?_
 rotate_left
 ·(intro W hSw; (try dsimp only at hSw); obtain ⟨f1, f2⟩ := hSw; go_simp; try with_reducible rfl)
 try simp only [heldPut, List.set]
 refine hT 3 (v := ?_) rfl (Or.inl ⟨by rfl, ?_⟩) ?_
 rotate_left
 ·(intro W hSw; (try dsimp only at hSw); obtain ⟨f1, f2⟩ := hSw; go_simp; try with_reducible rfl)
 try simp only [heldPut, List.set]
 refine hT 4 (v := ?_) rfl (Or.inl ⟨by rfl, ?_⟩) ?_
 rotate_left
 ·(intro W hSw; (try dsimp only at hSw); obtain ⟨f1, f2⟩ := hSw; go_simp; try with_reducible rfl)
 try simp only [heldPut, List.set]
 refine hT 5 (v := ?_) rfl (Or.inl ⟨by rfl, ?_⟩) ?_
 rotate_left
 ·(intro W hSw; (try dsimp only at hSw); obtain ⟨f1, f2⟩ := hSw; go_simp; try with_reducible rfl)
 try simp only [heldPut, List.set]
 refine hT 6 (v := ?_) rfl (Or.inl ⟨by rfl, ?_⟩) ?_
 rotate_left
 ·(intro W hSw; (try dsimp only at hSw); obtain ⟨f1, f2⟩ := hSw; go_simp; try with_reducible rfl)
 try simp only [heldPut, List.set]
 refine hT 7 (v := ?_) rfl (Or.inl ⟨by rfl, ?_⟩) ?_
 rotate_left
 ·(intro W hSw; (try dsimp only at hSw); obtain ⟨f1, f2⟩ := hSw; go_simp; try with_reducible rfl)
 try simp only [heldPut, List.set]
 refine heldOne (i := 8) rfl (by kernel_rfl) (fun K hK => ?_)
 go_simp
 refine HQ.out.mono ?_
 rintro _ _ ⟨rfl, rfl⟩
 go_wp2_with fail
 refine hK.out _ _ ?_ (fun hHeld => ?_)
 ·exact HC.out _ ((Below.refl _ _).drew)
 clear hK K
 try simp only [heldPut, List.set]
 refine hT 9 (v := ?_) rfl (Or.inl ⟨by rfl, ?_⟩) ?_
 rotate_left
 ·(intro W hSw; (try dsimp only at hSw); go_simp; try with_reducible rfl)
 try simp only [heldPut, List.set]
 refine hT 10 (v := ?_) rfl (Or.inl ⟨by rfl, ?_⟩) ?_
 rotate_left
 ·(intro W hSw; (try dsimp only at hSw); go_simp; try with_reducible rfl)
 try simp only [heldPut, List.set]
 refine hT 11 (v := ?_) rfl (Or.inl ⟨by rfl, ?_⟩) ?_
 rotate_left
 ·(intro W hSw; (try dsimp only at hSw); go_simp; try with_reducible rfl)
 try simp only [heldPut, List.set]
 refine hT 12 (v := ?_) rfl (Or.inl ⟨by rfl, ?_⟩) ?_
 rotate_left
 ·(intro W hSw; (try dsimp only at hSw); go_simp; try with_reducible rfl)
 try simp only [heldPut, List.set]
 refine wpAnyH_done (by kernel_rfl) ?_ _
 refine NoPanic.normal ?_
 go_wp2
 go_ret
 exact ⟨rfl, (Below.refl _ _).drew⟩
set_option maxRecDepth 100000 in
set_option maxHeartbeats 1000000 in
theorem sto_sync_short {w : World} {P : Nat → Nat → Prop} {R : Rc} {n : Nat} {f : Fl} (h : Sto w P R n) (hn : n ≤ 1000000) (h1 : R.first ≤ 1000000) (h2 : R.X.q ≤ 65536) (hs : R.nm.size ≤ maxLen) (hf : findP R.LL R.nm = some f) (hlen : f.by_.length ≤ R.first + 4 * R.X.q + 1024) :
  Calls Tryz.prog 13 #[.pointer (some ⟨R.st, 0, none⟩)] w fun e w' => e = .returned (.int .i64 0) ∧ ∃ P' LL', Sto w' P' { R with LL := LL' } (n + 1) ∧ Mv6 w P w' P' ∧ (LL' = putP R.LL R.nm ⟨f.by_, f.by_.length⟩ ∨ (LL' = R.LL ∧ f.syn = f.by_.length)) := by
 have HC : Hid (∀ W, Below w.heap.size w W → W.cell? ⟨R.st, 2, none⟩ = some (.pointer (some ⟨R.jb, 0, none⟩))) := fun W hW => cell_of_row _ _ 2 _ _ _ (h.below hW).blk
 have HZ := Lib.hid (fun W (hW : Below w.heap.size w W) => sto_jsize (h.below hW) hs hf)
 have HRM := Lib.hid (fun W (hW : Below w.heap.size w W) => sto_room (h.below hW) h1 h2)
 have HJ := Lib.hid (fun W (hW : Below w.heap.size w W) => sto_jsync (h.below hW) hn hs hf)
 obtain ⟨st, hst⟩ : ∃ z, z = R.st := ⟨_, rfl⟩
 obtain ⟨rm, hrm⟩ : ∃ z, z = R.first + 4 * R.X.q + 1024 := ⟨_, rfl⟩
 obtain ⟨fz, hfz⟩ : ∃ z, z = f.by_.length := ⟨_, rfl⟩
 have HST := Lib.hid hst
 rw [← hst] at HC HRM ⊢
 rw [← hrm] at HRM hlen
 rw [← hfz] at HZ hlen
 have c2 := HC.out w (Below.refl _ _)
 have d1 : decide ((rm : Int) < (fz : Int)) = false := decide_eq_false (by omega)
 have d2 : ¬ rm < fz := by omega
 clear hst hrm hfz hlen h h1 h2 hs hf
 go_enter Tryz.func13, Tryz.ntmps13
 go_wp2_with fail
 refine (HZ.out _ (Below.refl _ _)).mono ?_
 rintro _ w1 ⟨rfl, hb1⟩
 have HB1 := Lib.hid hb1
 clear hb1
 go_wp2_with fail
 refine (HRM.out _ HB1.out).mono ?_
 rintro _ w2 ⟨rfl, hb2⟩
 have HB2 := Lib.hid (HB1.out.trans (hb2.mono HB1.out.size))
 have c2 := HC.out w2 HB2.out
 clear hb2
 go_wp2_with fail
 refine (HJ.out _ HB2.out).mono ?_
 rintro _ w3 ⟨rfl, P3, LL3, hs3, hm3, hl3⟩
 have HS3 := Lib.hid (⟨hs3, hm3, hl3⟩ : _ ∧ _ ∧ _)
 clear hs3 hm3 hl3
 go_wp2
 go_ret
 have hst := HST.out
 subst hst
 exact ⟨rfl, P3, LL3, HS3.out.1, (Mv6.of_below HB2.out P).trans HS3.out.2.1, HS3.out.2.2⟩
set_option maxRecDepth 100000 in
set_option maxHeartbeats 1000000 in
theorem sto_sync_long {w : World} {P : Nat → Nat → Prop} {R : Rc} {n : Nat} {f : Fl} (h : Sto w P R n) (hn : n ≤ 2000) (h1 : R.first ≤ 1000000) (h2 : R.X.q ≤ 65536) (ho : SnOk R) (hok : OkB (4 :: snapB R.life R.X R.L (R.F.map (·.x)))) (hnm : R.nm = nmG R.gen) (hg : R.gen + 1 < 100) (hLL : R.LL = [(nmG R.gen, f)]) (hlen : R.first + 4 * R.X.q + 1024 < f.by_.length) :
  Calls Tryz.prog 13 #[.pointer (some ⟨R.st, 0, none⟩)] w fun e w' => e = .returned (.int .i64 0) ∧ ∃ P' jb, Sto w' P' { R with LL := [(nmG (R.gen + 1), ⟨laidR (4 :: snapB R.life R.X R.L (R.F.map (·.x))), (snapB R.life R.X R.L (R.F.map (·.x))).length + 9⟩)], nm := nmG (R.gen + 1), gen := R.gen + 1, first := (snapB R.life R.X R.L (R.F.map (·.x))).length + 9, jb := jb } (n + 7) ∧ Mv6 w P w' P' := by
 have hs : R.nm.size ≤ maxLen := by rw [hnm]; exact nmG_max (by omega)
 have hf : findP R.LL R.nm = some f := by rw [hLL, hnm]; exact findP_one _ _
 have HC : Hid (∀ W, Below w.heap.size w W → W.cell? ⟨R.st, 2, none⟩ = some (.pointer (some ⟨R.jb, 0, none⟩))) := fun W hW => cell_of_row _ _ 2 _ _ _ (h.below hW).blk
 have HZ := Lib.hid (fun W (hW : Below w.heap.size w W) => sto_jsize (h.below hW) hs hf)
 have HRM := Lib.hid (fun W (hW : Below w.heap.size w W) => sto_room (h.below hW) h1 h2)
 have HRN := Lib.hid (fun W (hW : Below w.heap.size w W) => renew_any W (h.below hW) hn ho hok hnm hg hLL)
 have HG := Lib.hid hg
 obtain ⟨SB, hSB⟩ : ∃ z, z = snapB R.life R.X R.L (R.F.map fun e : Ett => e.x) := ⟨_, rfl⟩
 rw [← hSB] at HRN ⊢
 obtain ⟨st, hst⟩ : ∃ z, z = R.st := ⟨_, rfl⟩
 obtain ⟨rm, hrm⟩ : ∃ z, z = R.first + 4 * R.X.q + 1024 := ⟨_, rfl⟩
 obtain ⟨fz, hfz⟩ : ∃ z, z = f.by_.length := ⟨_, rfl⟩
 have HST := Lib.hid hst
 rw [← hst] at HC HRM
 rw [← hrm] at HRM hlen
 rw [← hfz] at HZ hlen
 have c2 := HC.out w (Below.refl _ _)
 have d1 : decide ((rm : Int) < (fz : Int)) = true := decide_eq_true (by omega)
 have d2 : rm < fz := hlen
 rw [← hst]
 clear hst hrm hfz hlen h h1 h2 hs hf ho hok hnm hg hLL hSB
 go_enter Tryz.func13, Tryz.ntmps13
 go_wp2_with fail
 refine (HZ.out _ (Below.refl _ _)).mono ?_
 rintro _ w1 ⟨rfl, hb1⟩
 have HB1 := Lib.hid hb1
 clear hb1
 go_wp2_with fail
 refine (HRM.out _ HB1.out).mono ?_
 rintro _ w2 ⟨rfl, hb2⟩
 have HB2 := Lib.hid (HB1.out.trans (hb2.mono HB1.out.size))
 clear hb2
 go_wp2_with fail
 rw [HST.out]
 refine (HRN.out _ HB2.out).mono ?_
 rintro _ w3 ⟨rfl, P3, jb, hs3, hm3⟩
 have HJ := Lib.hid (sto_jsync hs3 (by omega) (nmG_max HG.out) (findP_one _ _))
 have HM3 := Lib.hid ((Mv6.of_below HB2.out P).trans hm3)
 have c2 : w3.cell? ⟨R.st, 2, none⟩ = some (.pointer (some ⟨jb, 0, none⟩)) := cell_of_row _ _ 2 _ _ _ hs3.blk
 rw [← HST.out] at c2
 clear hs3 hm3
 rw [← HST.out]
 go_wp2_with fail
 refine HJ.out.mono ?_
 rintro _ w4 ⟨rfl, P4, LL4, hs4, hm4, hl4⟩
 have HS4 := Lib.hid (⟨hs4, hm4, hl4⟩ : _ ∧ _ ∧ _)
 clear hs4 hm4 hl4 HJ
 go_wp2
 go_ret
 have hst := HST.out
 subst hst
 refine ⟨rfl, P4, jb, ?_, HM3.out.trans HS4.out.2.1⟩
 have hBl : (laidR (4 :: SB)).length = SB.length + 9 := by rw [laidR_length]; rfl
 have h5 : LL4 = [(nmG (R.gen + 1), ⟨laidR (4 :: SB), SB.length + 9⟩)] := by
  rcases HS4.out.2.2 with e | ⟨e, -⟩
  ·rw [e]
   refine put_one9.trans ?_
   rw [hBl]
  ·exact e
 have h6 := HS4.out.1
 rw [h5] at h6
 exact h6
end Go.Proofs.YtholdcgkhicdmaaGreatDoor
namespace Go.Proofs.YtholdcgkhicdmaaGreatDoor
open Go.RowKit Go.Maps Go.Sort
structure Shp where
 a : Option Addr
 n : Nat
 c : Nat
 k : Int
def shapeF (c : Shp) : Value := fileV (.slice c.a c.n c.c) c.k
theorem shapeF_inv (v : Value) (y : DataW Value × List MemPlace) (h : rawR v = some y) : ∃ c, v = shapeF c := by
 obtain ⟨⟨a, n, c, k, rfl⟩, _⟩ := rawR_inv h
 exact ⟨⟨a, n, c, k⟩, rfl⟩
def nmB (E : Ents) : List (List UInt8) := E.map fun p => p.1.data.toList
theorem strKeys_datum (E : Ents) : strKeys (datum E) = nmB E := by
 simp [strKeys, datum, datE, nmB, strOf, Function.comp_def]
theorem nmB_sorted {E : Ents} (h : Rising E) : (nmB E).mergeSort leB = nmB E := by
 have tr : ∀ a b c : List UInt8, leB a b = true → leB b c = true → leB a c = true := fun a b c h1 h2 => by simp only [leB, decide_eq_true_eq] at *; exact List.le_trans h1 h2
 have tot : ∀ a b : List UInt8, (leB a b || leB b a) = true := fun a b => by simp only [leB, Bool.or_eq_true, decide_eq_true_eq]; exact List.le_total a b
 refine List.mergeSort_of_pairwise ?_
 unfold nmB
 refine List.pairwise_map.2 (List.Pairwise.imp (fun {p q} hpq => ?_) h)
 rw [ltS_eq, decide_eq_true_eq] at hpq
 simp only [leB, decide_eq_true_eq]
 exact List.le_of_lt hpq
theorem Tryz.infoS : (Tryz.prog.info? 9).map (fun i => (i.zero, i.size, i.bytes)) = some (some (.string ⟨#[]⟩), 1, 16) := by kernel_rfl
set_option maxRecDepth 100000 in
set_option maxHeartbeats 1000000 in
theorem names_map {S : Nat → Prop} {g b : Nat} {E : Ents} {wr sy : Nat} (w : World) (h : DkM w S g (some b) E wr sy) :
  Calls Tryz.prog 16 #[.pointer (some ⟨g, 0, none⟩)] w fun e w' => ∃ v, e = .returned v ∧ w'.ownsRow w.heap.size 9 1 v E.length ((nmB E).map encStr) ∧ Below w.heap.size w w' := by
 obtain ⟨i0, hi, hz0, hz1, hz2⟩ := info_parts Tryz.infoS
 have hmp := h.mp
 rcases hmp with ⟨hmp, _⟩ | ⟨b', hmp, hb, hbg, hown⟩
 ·cases hmp
 injection hmp with hmp
 subst hmp
 have c0 := h.c0
 have hgl := h.lt g h.gS
 have hbl := hown.lt
 have hfew := h.few
 have HR := Lib.hid h.rise
 clear h hb hbg
 go_enter Tryz.func16, Tryz.ntmps16
 go_wp2_with (at_range; refine wpList_range_own _ rfl _ 86 rfl 9 126 keyS Tryz.underlying86 _ b E.length _ rfl hown ?_; intro w0 hrg0 hg0 hs0)
 go_frame
 clear hs0
 go_loopw [3] (fun v wr => ∃ (left : Lit → Bool) (cnt : Nat) (ss : List (List UInt8)), Hid (wr.ranges Tryz.prog 9 rawR b w.heap.size E.length (datum E) left cnt) ∧ ss.length + cnt ≤ E.length ∧
   Hid (wr.ownsRow w.heap.size 9 1 v ss.length (ss.map encStr)) ∧ Hid (Collected (datum E) left ss) ∧ Hid (Below w.heap.size w wr) ∧ w.heap.size < wr.heap.size)
  (fun _ wr => wr.rangeLeft b w.heap.size)
 case atStart =>
  refine ⟨_, _, [], hrg0, by rw [datum_size]; simp, World.ownsRow_nil _ _ _ _, Collected.start _, (Below.refl _ _).grown hg0 (Nat.le_refl _) (fun j hj => by cases hj), hrg0.lt⟩
 case round =>
  obtain ⟨left, cnt, ss, hrg, hcs, hrow, hC, hnx, hsz⟩ := hrel
  go_wp2_with (first
   | (at_next; refine wpList_next_ranges _ rfl _ rfl 9 keyS rawR encStr shapeF (fun key kl hk => by obtain ⟨x, hx, _⟩ := Maps.keyOf_str Tryz.underlying9 hk; exact ⟨x, hx⟩) shapeF_inv b w.heap.size E.length _ _ _ rfl hrg.out ?_ ?_))
  ·intro hc0 hl0
   have hp : ss.Perm (nmB E) := strKeys_datum E ▸ hC.out.perm hown keyS Tryz.underlying9 hl0
   have hlen : ss.length = E.length := by rw [hp.length_eq]; simp [nmB]
   have hsort : ss.mergeSort leB = nmB E := (mergeSort_of_perm hp).trans (nmB_sorted HR.out)
   have HSo := Lib.hid hsort
   have HLe := Lib.hid hlen
   have hrow' := hrow.out
   clear hp hlen hsort
   rcases hrow'.2 with ⟨rfl, hn⟩ | ⟨r, cap, cur, rfl, hbase, hb, h1, h2, h3, h4⟩
   ·have hss : ss = [] := List.eq_nil_of_length_eq_zero hn
    have hc := AnyM.slices_Sort_string_none Tryz.sortS none 0 wr
    change Calls Tryz.prog 45 _ _ _ at hc
    have Hc := Lib.hid hc
    clear hc
    go_wp2_with fail
    refine Hc.out.mono ?_
    rintro e w' ⟨rfl, rfl⟩
    go_wp2
    go_ret
    have hE : E.length = 0 := by rw [← HLe.out, hss]; rfl
    have hE2 : E = [] := List.eq_nil_of_length_eq_zero hE
    subst hE2
    exact ⟨_, rfl, World.ownsRow_nil _ _ _ _, hnx.out⟩
   ·have hH : Holds encStr wr r 0 ss.toArray := holds_of_block hb (by simpa using h4)
    have hgl2 : r < wr.heap.size := (Array.getElem?_eq_some_iff.1 hb).1
    have hc := AnyM.slices_Sort_string Tryz.sortS r 0 cap ss wr hH hgl2 (by omega)
    change Calls Tryz.prog 45 _ _ _ at hc
    have Hc := Lib.hid hc
    have Hb := Lib.hid hb
    clear hc hH hb h4 hrow'
    go_wp2_with fail
    refine Hc.out.mono ?_
    rintro e w' ⟨rfl, nn, os, rfl⟩
    go_wp2
    go_ret
    refine ⟨_, rfl, ?_, hnx.out.grown (grownBy_sorted _) hnx.out.size (fun j hj => by cases hj; exact hbase)⟩
    have ho := ownsRow_sorted (os := os) (n := nn) (ss := ss) (ts := ss.mergeSort leB) (by simp) hbase Hb.out h1 h2 h3
    rw [HSo.out, HLe.out] at ho
    have hso := HSo.out
    unfold leB at hso
    rw [hso, HLe.out]
    exact ho
  ·intro x c kl yd yp w2 cnt2 hkey hlk hv hat hrg2 hlt hg2 hs2 hen
   obtain ⟨x', ex, rfl, _⟩ := Maps.keyOf_str Tryz.underlying9 hkey
   obtain rfl : x = x' := encStr_inj ex
   have hrow2 := hrow.out.kept hg2 (Or.inr (row_ne_iter hrow.out hrg.out).symm)
   have Hs2 := Lib.hid hs2
   have Hg2 := Lib.hid hg2
   have Hrg2 := Lib.hid hrg2
   have Hrow2 := Lib.hid hrow2
   have Hat := Lib.hid hat
   have Hlk := Lib.hid hlk
   have hsz2 : w.heap.size < w2.heap.size := by omega
   unfold shapeF fileV at hen
   clear hs2 hg2 hrg2 hrow2 hat hlk hv hkey ex
   go_wp2_with (at_builtin; refine wpList_append_own _ rfl _ _ 53 rfl w.heap.size 9 i0 (.string ⟨#[]⟩) 1 16 Tryz.underlying53 hi hz0 hz1 hz2 rfl (by decide) _ _ _ rfl (Hrow2.out.alloc _) ⟨w2.heap.size, 0, none⟩ 1 1 [encStr x] rfl rfl (cell_one_new _ _ _) (by simp [Value.oneCell', encStr]) (by unfold maxLen at *; omega) (by omega) (by simp; omega) ?_; intro v' w3 hown' hg3 hnil3; go_frame)
   have hg4 : (w2.alloc (.cells #[encStr x] 9)).grownBy w3 u3.ownBlock := hg3
   have hrg3 := (Hrg2.out.alloc (.cells #[encStr x] 9)).kept hg4 (row_ne_low Hrow2.out hbl) (row_ne_iter Hrow2.out Hrg2.out)
   refine ⟨⟨_, cnt2, ss ++ [x], hrg3, by simp; omega, ?_, hC.out.step Hlk.out Hat.out, ?_, ?_⟩, ?_⟩
   ·show World.ownsRow _ _ _ _ _ _ _
    rw [List.map_append, List.length_append]
    exact hown'
   ·exact ((hnx.out.grown Hg2.out hnx.out.size (fun j hj => by cases hj; exact Nat.le_refl _)).alloc (by omega) _).grown hg4 (by simp; omega) (fun j hj => (Hrow2.out.lt j hj).1)
   ·have := hg4.size; simp at this; omega
   ·rw [hrg3.left_eq, hrg.out.left_eq]; exact hlt
theorem names_nilmap {S : Nat → Prop} {g : Nat} {E : Ents} {wr sy : Nat} (w : World) (h : DkM w S g none E wr sy) :
  Calls Tryz.prog 16 #[.pointer (some ⟨g, 0, none⟩)] w fun e w' => ∃ v, e = .returned v ∧ w'.ownsRow w.heap.size 9 1 v E.length ((nmB E).map encStr) ∧ Below w.heap.size w w' := by
 have hmp := h.mp
 rcases hmp with ⟨_, rfl⟩ | ⟨b', hmp, _⟩
 ·have c0 := h.c0
  have hgl := h.lt g h.gS
  clear h
  have hrg := run_range_nilMap (P := Tryz.prog) w 86 9 126 Tryz.underlying86
  have hnx : ∀ ty, (Instr.next (.pointer (some ⟨w.heap.size, 0, none⟩)) false ty).run Tryz.prog (w.alloc (.mapIter none 0 #[] 0)) = _ := fun ty => run_next_nilMap _ ty 0 0 #[]
  have hc := AnyM.slices_Sort_string_none Tryz.sortS none 0 (w.alloc (.mapIter none 0 #[] 0))
  change Calls Tryz.prog 45 _ _ _ at hc
  have Hc := Lib.hid hc
  clear hc
  go_enter Tryz.func16, Tryz.ntmps16
  go_wp2
  refine wp_loop_rounds 1 ?_
  rw [rounds_succ]
  go_wp2_with fail
  refine Hc.out.mono ?_
  rintro e w' ⟨rfl, rfl⟩
  go_wp2
  go_ret
  exact ⟨_, rfl, World.ownsRow_nil _ _ _ _, (Below.refl _ _).alloc (Nat.le_refl _) _⟩
 ·cases hmp
def nmCells {α : Type} (L : List (ByteArray × α)) : List Value := L.map fun p => .string p.1
theorem names_any {S : Nat → Prop} {g : Nat} {L : List (ByteArray × Fl)} {wr sy : Nat} (w : World) (h : Disk w S g L wr sy) :
  Calls Tryz.prog 16 #[.pointer (some ⟨g, 0, none⟩)] w fun e w' => ∃ v, e = .returned v ∧ w'.ownsRow w.heap.size 9 1 v L.length (nmCells L) ∧ Below w.heap.size w w' := by
 obtain ⟨E, mo, rfl, h1, _⟩ := h
 have hn : (nmB E).map encStr = nmCells (mapS Ent.fl E) := by
  simp [nmB, nmCells, mapS, encStr, Function.comp_def]
 rw [mapS_length, ← hn]
 cases mo with
 | none => exact names_nilmap w h1
 | some b => exact names_map w h1
end Go.Proofs.YtholdcgkhicdmaaGreatDoor
namespace Go.Proofs.YtholdcgkhicdmaaGreatDoor
open Go.RowKit
def GNs (LL : List (ByteArray × Fl)) (os : List (Option Nat)) : Prop := LL.length = os.length ∧ ∀ (i : Nat) p o, LL[i]? = some p → os[i]? = some o → GN p.1 o
def topG (os : List (Option Nat)) : Nat := os.foldl (fun m o => max m (o.getD 0)) 0
theorem topG_step {os : List (Option Nat)} {j : Nat} {o : Option Nat} (h : os[j]? = some o) : topG (os.take (j + 1)) = max (topG (os.take j)) (o.getD 0) := by
 unfold topG
 rw [List.take_add_one, h, List.foldl_append]
 rfl
theorem GN.lt {s : ByteArray} {o : Option Nat} (h : GN s o) : o.getD 0 < 100 := by
 rcases h with ⟨k, hk, _, rfl⟩ | ⟨_, rfl⟩
 ·exact hk
 ·decide
theorem topG_lt {LL : List (ByteArray × Fl)} {os : List (Option Nat)} (h : GNs LL os) : ∀ j, topG (os.take j) < 100
 | 0 => by simp [topG]
 | j + 1 => by
   have ih := topG_lt h j
   by_cases hj : j < os.length
   ·obtain ⟨o, ho⟩ : ∃ o, os[j]? = some o := ⟨_, List.getElem?_eq_getElem hj⟩
    have h2 := (h.2 j _ o (List.getElem?_eq_getElem (by rw [h.1]; exact hj)) ho).lt
    rw [topG_step ho]
    omega
   ·rw [List.take_of_length_le (by omega)]
    rw [List.take_of_length_le (by omega)] at ih
    exact ih
theorem nmN_list : nmN.toList = [110, 101, 119] := by decide +kernel
theorem nameAt_cell {α : Type} {w : World} {base : Nat} {v : Value} {L : List (ByteArray × α)} (h : w.ownsRow base 9 1 v L.length (nmCells L)) {j : Nat} {p : ByteArray × α} (hp : L[j]? = some p) : ∃ b c, v = .slice (some ⟨b, 0, none⟩) L.length c ∧ b < w.heap.size ∧ w.cell? ⟨b, j, none⟩ = some (.string p.1) := by
 have hj := (List.getElem?_eq_some_iff.1 hp).1
 obtain ⟨b, c, hv, _, hl⟩ := h.form (by omega)
 refine ⟨b, c, hv, hl, ?_⟩
 have := h.cells (g := b) (by rw [hv]; rfl) j (.string p.1) (by unfold nmCells; rw [List.getElem?_map, hp]; rfl)
 rw [Addr.add_lit, Nat.zero_add] at this
 exact this
set_option maxRecDepth 100000 in
set_option maxHeartbeats 2000000 in
theorem newest_any {ev : Value} {S : Nat → Prop} {gd wr sy : Nat} {LL : List (ByteArray × Fl)} {os : List (Option Nat)} (w : World) (h : Disk w S gd LL wr sy) (hG : GNs LL os) (hfew : LL.length ≤ 64) (hv : w.cell? ⟨1, 0, none⟩ = some ev) (hvl : 1 < w.heap.size) (hev : ev = .nilIface ∨ ∃ te pe, ev = .iface te pe) :
  Calls Tryz.prog 58 #[.pointer (some ⟨gd, 0, none⟩)] w fun e w' => e = .returned (.int .u64 (topG os)) ∧ Below w.heap.size w w' := by
 have HN := Lib.hid (names_any w h)
 have HG := Lib.hid hG
 have HV : Hid (∀ W, Below w.heap.size w W → W.cell? ⟨1, 0, none⟩ = some ev) := fun W hW => (hW.cell (p := ⟨1, 0, none⟩) hvl).trans hv
 have HEV := Lib.hid hev
 clear h hG hv hev
 go_enter Tryz.func58, Tryz.ntmps58
 go_wp2_with fail
 refine HN.out.mono ?_
 rintro _ w1 ⟨v, rfl, hown, hb1⟩
 obtain ⟨A, c, rfl⟩ := ownB_slice hown
 obtain ⟨n, hn⟩ : ∃ z, z = LL.length := ⟨_, rfl⟩
 have HB1 := Lib.hid hb1
 have HO := Lib.hid hown
 have HNL := Lib.hid hn
 have hnx : n ≤ 64 := by rw [hn]; exact hfew
 rw [← hn]
 clear hown hb1 hn HN
 go_upto_region 3 with fail
 go_loopw [3, 11] (fun lv jv wx => ∃ j : Nat, j ≤ n ∧ jv = .int .i64 j ∧ lv = .int .u64 (topG (os.take j)) ∧ Hid (Below w1.heap.size w1 wx)) (fun _ jv _ => n - (intOf jv).toNat)
 case atStart => exact ⟨0, Nat.zero_le _, rfl, rfl, Below.refl _ _⟩
 case round =>
  obtain ⟨j, hj, rfl, rfl, HB⟩ := hrel
  by_cases hjn : j < n
  ·obtain ⟨p, hp⟩ : ∃ p, LL[j]? = some p := ⟨_, List.getElem?_eq_getElem (by rw [← HNL.out]; exact hjn)⟩
   obtain ⟨o, ho⟩ : ∃ o, os[j]? = some o := ⟨_, List.getElem?_eq_getElem (by rw [← HG.out.1, ← HNL.out]; exact hjn)⟩
   have hgn := HG.out.2 j p o hp ho
   obtain ⟨b, c', hvv, hbl, hcell⟩ := nameAt_cell HO.out hp
   injection hvv with hA _ hc
   subst hA
   subst hc
   have cj : wr.cell? ⟨b, j, none⟩ = some (.string p.1) := (HB.out.cell (p := ⟨b, j, none⟩) hbl).trans hcell
   have hbw := HB1.out.trans (HB.out.mono HB1.out.size)
   have HGE := Lib.hid (generation_any wr hgn (HV.out wr hbw) HEV.out)
   have hlt := hgn.lt
   have HST := Lib.hid (topG_step ho)
   have htl : topG (os.take j) < 100 := topG_lt HG.out j
   obtain ⟨T, hT⟩ : ∃ z, z = topG (os.take j) := ⟨_, rfl⟩
   rw [← hT] at HST htl ⊢
   clear hgn hcell hbw hp ho hT
   go_wp2_with fail
   refine HGE.out.mono ?_
   rintro _ w3 ⟨rfl, hb3⟩
   have HB3 := Lib.hid (HB.out.trans (hb3.mono HB.out.size))
   clear hb3 HGE HB cj
   cases o with
   | none =>
     unfold genV
     have hT2 : (T : Int) = ((topG (os.take (j + 1)) : Nat) : Int) := by rw [HST.out]; simp only [Option.getD_none]; omega
     go_wp2_with fail
     go_roundw
     case rel => exact ⟨j + 1, by omega, by go_num, rfl, HB3.out⟩
     case measure => simp [intOf]; omega
   | some k =>
     unfold genV
     have hT2 : max (T : Int) (k : Int) = ((topG (os.take (j + 1)) : Nat) : Int) := by rw [HST.out]; simp only [Option.getD_some]; omega
     go_wp2_with fail
     go_roundw
     case rel => exact ⟨j + 1, by omega, by go_num, rfl, HB3.out⟩
     case measure => simp [intOf]; omega
  ·obtain rfl : j = n := by omega
   have hT : topG (os.take j) = topG os := by rw [HNL.out, HG.out.1, List.take_length]
   rw [hT]
   clear hT
   go_wp2
   go_ret
   exact ⟨rfl, HB1.out.trans (HB.out.mono HB1.out.size)⟩
set_option maxRecDepth 100000 in
set_option maxHeartbeats 2000000 in
theorem tidy_any {ev : Value} {S : Nat → Prop} {gd wr sy : Nat} {LL : List (ByteArray × Fl)} {os : List (Option Nat)} {keep : ByteArray} (w : World) (h : Disk w S gd LL wr sy) (hG : GNs LL os) (hfew : LL.length ≤ 64) (hv : w.cell? ⟨1, 0, none⟩ = some ev) (hvl : 1 < w.heap.size) (hev : ev = .nilIface ∨ ∃ te pe, ev = .iface te pe)
  (hk : ∀ (i : Nat) p k, LL[i]? = some p → os[i]? = some (some k) → p.1 = keep) (hn : ∀ p ∈ LL, p.1 ≠ nmN) :
  Calls Tryz.prog 62 #[.pointer (some ⟨gd, 0, none⟩), .string keep] w fun e w' => e = .returned (.tuple #[]) ∧ Below w.heap.size w w' := by
 have HN := Lib.hid (names_any w h)
 have HG := Lib.hid hG
 have HV : Hid (∀ W, Below w.heap.size w W → W.cell? ⟨1, 0, none⟩ = some ev) := fun W hW => (hW.cell (p := ⟨1, 0, none⟩) hvl).trans hv
 have HEV := Lib.hid hev
 have HK := Lib.hid hk
 have HNN := Lib.hid hn
 clear h hG hv hev hk hn
 go_enter Tryz.func62, Tryz.ntmps62
 go_wp2_with fail
 refine HN.out.mono ?_
 rintro _ w1 ⟨v, rfl, hown, hb1⟩
 obtain ⟨A, c, rfl⟩ := ownB_slice hown
 obtain ⟨n, hn⟩ : ∃ z, z = LL.length := ⟨_, rfl⟩
 have HB1 := Lib.hid hb1
 have HO := Lib.hid hown
 have HNL := Lib.hid hn
 have hnx : n ≤ 64 := by rw [hn]; exact hfew
 rw [← hn]
 clear hown hb1 hn HN
 go_upto_region 1 with fail
 go_loopw [11] (fun jv wx => ∃ j : Nat, j ≤ n ∧ jv = .int .i64 j ∧ Hid (Below w1.heap.size w1 wx)) (fun jv _ => n - (intOf jv).toNat)
 case atStart => exact ⟨0, Nat.zero_le _, rfl, Below.refl _ _⟩
 case round =>
  obtain ⟨j, hj, rfl, HB⟩ := hrel
  by_cases hjn : j < n
  ·obtain ⟨p, hp⟩ : ∃ p, LL[j]? = some p := ⟨_, List.getElem?_eq_getElem (by rw [← HNL.out]; exact hjn)⟩
   obtain ⟨o, ho⟩ : ∃ o, os[j]? = some o := ⟨_, List.getElem?_eq_getElem (by rw [← HG.out.1, ← HNL.out]; exact hjn)⟩
   have hgn := HG.out.2 j p o hp ho
   obtain ⟨b, c', hvv, hbl, hcell⟩ := nameAt_cell HO.out hp
   injection hvv with hA _ hc
   subst hA
   subst hc
   have cj : wr.cell? ⟨b, j, none⟩ = some (.string p.1) := (HB.out.cell (p := ⟨b, j, none⟩) hbl).trans hcell
   have hbw := HB1.out.trans (HB.out.mono HB1.out.size)
   have HGE := Lib.hid (generation_any wr hgn (HV.out wr hbw) HEV.out)
   have hne : p.1 ≠ nmN := HNN.out p (List.mem_of_getElem? hp)
   have hkp : ∀ k, o = some k → p.1 = keep := fun k hk => HK.out j p k hp (by rw [ho, hk])
   obtain ⟨s, hs⟩ : ∃ s, s = p.1 := ⟨_, rfl⟩
   rw [← hs] at cj hne hkp HGE
   have e1 : (s.toList == ([110, 101, 119] : List UInt8)) = false := by
    have h8 := eqS_no hne
    unfold eqS at h8
    rwa [nmN_list] at h8
   have HKP := Lib.hid hkp
   clear hgn hcell hbw hp ho hs hkp hne
   go_wp2_with fail
   refine HGE.out.mono ?_
   rintro _ w3 ⟨rfl, hb3⟩
   have HB3 := Lib.hid (HB.out.trans (hb3.mono HB.out.size))
   clear hb3 HGE HB cj
   cases o with
   | none =>
     unfold genV
     go_wp2_with fail
     go_roundw
     case rel => exact ⟨j + 1, by omega, by go_num, HB3.out⟩
     case measure => simp [intOf]; omega
   | some k =>
     unfold genV
     have hsk := HKP.out k rfl
     subst hsk
     go_wp2_with fail
     go_roundw
     case rel => exact ⟨j + 1, by omega, by go_num, HB3.out⟩
     case measure => simp [intOf]; omega
  ·obtain rfl : j = n := by omega
   go_wp2
   go_end0
   exact ⟨rfl, HB1.out.trans (HB.out.mono HB1.out.size)⟩
end Go.Proofs.YtholdcgkhicdmaaGreatDoor