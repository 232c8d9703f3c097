/- Several texts in one: JlLay, JlTake. -/
import Derived.Laws.MakeOwn
import Derived.Laws.Cover3
import Derived.Test.YtholdcgkhicdmaaGreatDoorZq22
namespace Go.Proofs.YtholdcgkhicdmaaGreatDoor
open Go.RowKit
theorem rdB_block {w : World} {r : Nat} {cs : Array Value} {t : TypeId} {l : List Nat} (h : w.heap[r]? = some (.cells cs t (0, 0))) (hc : cs.toList = cellsB l) (B : Nat) (hB : r < B) : RdB w B (some ⟨r, 0, none⟩) l := fun _ =>
 ⟨r, 0, rfl, hB, fun i x hx => by
  have h1 : cs[i]? = some (.int .u8 x) := by rw [← Array.getElem?_toList, hc]; exact cellsB_get hx
  rw [Nat.zero_add]
  exact cell_of_row _ _ i _ _ _ h |>.trans (by rw [← h1]) ⟩
theorem TurnsIn.low {w w5 w9 : World} {g r : Nat} {P : Nat → Prop} (h : TurnsIn w w5 g P) (hb : Below r w5 w9) (hr : w.heap.size ≤ r) (hg : g < r) : TurnsIn w w9 g P :=
 ⟨⟨hb.os.trans h.grown.os, hb.tape.trans h.grown.tape, hb.output.trans h.grown.output, Nat.le_trans h.grown.size hb.size, fun k hk hne => (hb.block k (by omega)).trans (h.grown.block k hk hne)⟩,
   fun o ho => (hb.cell (p := ⟨g, o, none⟩) hg).trans (h.cell o ho), fun o => (hb.frozen (p := ⟨g, o, none⟩) hg).trans (h.fz o)⟩
theorem Tab.low {w5 w9 : World} {g r d s b : Nat} (h : Tab w5 g d s b) (hb : Below r w5 w9) (hg : g < r) : Tab w9 g d s b :=
 { lt := Nat.lt_of_lt_of_le h.lt hb.size
   c0 := (hb.cell (p := ⟨g, 0, none⟩) hg).trans h.c0
   c1 := (hb.cell (p := ⟨g, 1, none⟩) hg).trans h.c1
   tab := fun j hj => by
    obtain ⟨x, hx, hx2⟩ := h.tab j hj
    exact ⟨x, (hb.cell (p := ⟨g, 3 + j, none⟩) hg).trans hx, hx2⟩
   sums := (hb.cell (p := ⟨g, 259, none⟩) hg).trans h.sums
   bytes := (hb.cell (p := ⟨g, 260, none⟩) hg).trans h.bytes
   fz := fun o => (hb.frozen (p := ⟨g, o, none⟩) hg).trans (h.fz o) }
theorem own_block {w : World} {base r n : Nat} {e : TypeId} {cs : Array Value} {xs : List Value} (h : w.heap[r]? = some (.cells cs e (0, 0))) (hc : cs.toList = xs) (hn : xs.length = n) (hb : base ≤ r) (hm : n ≤ maxLen) : w.ownsRow base e 1 (.slice (some ⟨r, 0, none⟩) n n) n xs := by
 have hs : cs.size = n := by rw [← hn, ← hc]; simp
 exact ⟨by omega, .inr ⟨r, n, cs, rfl, hb, h, Nat.le_refl _, hm, by omega, by rw [hc, Nat.mul_one, ← hn, List.take_length]⟩⟩
theorem splice_laid (l : List Nat) (Z : List Value) (hZ : Z.length = l.length + 8) :
  splice (splice (splice Z 0 (cellsB (four l.length))) 4 (cellsB (four (sumN (four l.length ++ l))))) 8 (cellsB l) = cellsB (laidR l) := by
 have h4 : (cellsB (four l.length)).length = 4 := rfl
 have h44 : (cellsB (four (sumN (four l.length ++ l)))).length = 4 := rfl
 have hl := cellsB_length l
 unfold laidR
 rw [cellsB_append, cellsB_append]
 generalize cellsB (four l.length) = X at *
 generalize cellsB (four (sumN (four l.length ++ l))) = Y at *
 generalize cellsB l = W at *
 have a1 : splice Z 0 X = X ++ Z.drop 4 := by unfold splice; rw [List.take_zero, List.nil_append, Nat.zero_add, h4]
 have d4 : (X ++ Z.drop 4).drop 4 = Z.drop 4 := List.drop_left' h4
 have d8 : (X ++ Z.drop 4).drop (4 + 4) = Z.drop 8 := by
  have : (X ++ Z.drop 4).drop (4 + 4) = ((X ++ Z.drop 4).drop 4).drop 4 := by rw [List.drop_drop]
  rw [this, d4, List.drop_drop]
 have a2 : splice (X ++ Z.drop 4) 4 Y = X ++ (Y ++ Z.drop 8) := by unfold splice; rw [List.take_left' h4, h44, d8]
 have t8 : (X ++ (Y ++ Z.drop 8)).take 8 = X ++ Y := by rw [← List.append_assoc]; exact List.take_left' (by rw [List.length_append]; omega)
 have e8 : (X ++ (Y ++ Z.drop 8)).drop (8 + W.length) = [] := by
  apply List.drop_eq_nil_of_le
  simp only [List.length_append, List.length_drop]
  omega
 rw [a1, a2]
 unfold splice
 rw [t8, e8, List.append_nil, List.append_assoc]
set_option maxRecDepth 100000 in
set_option maxHeartbeats 2000000 in
theorem jlay_any (g d s b : Nat) (hd : d ≤ 1) (A : Option Addr) (n c : Nat) (l : List Nat) (B : Nat) (w : World) (h : Tab w g d s b) (hn : n = l.length) (hm : n ≤ 524288) (hs : s < 1000000000) (hbn : b < 1000000000000) (hr : RdB w B A l) (hB : B ≤ w.heap.size) (hok : OkB l) (hoff : Off A g l) :
  Calls Tryz.prog 84 #[.pointer (some ⟨g, 0, none⟩), .slice A n c] w fun e w' => ∃ v, e = .returned (.tuple #[v, .int .i64 0]) ∧ w'.ownsRow w.heap.size 5 1 v (n + 8) (cellsB (laidR l)) ∧ TurnsIn w w' g (fun _ => True) ∧ Tab w' g 1 (s + 1) (b + 4 + n) := by
 obtain ⟨i0, hi0, hz0, hz1, hz2⟩ := info_parts Tryz.infoB
 obtain ⟨MC, hMC⟩ : ∃ MC, MC = madeCells (Value.int .u8 0).cells ((8 + (n : Int)).toNat * i0.size) := ⟨_, rfl⟩
 have hMs : MC.size = n + 8 := by rw [hMC, size_madeCells, hz1]; omega
 have hmk : ∀ W : World, (Instr.makeSlice 77 (.int .i64 (8 + (n : Int))) (.int .i64 (8 + (n : Int)))).run Tryz.prog W = .ok (.slice (some ⟨W.heap.size, 0, none⟩) (n + 8) (n + 8)) (W.alloc (.cells MC 5)) := fun W => by
  have := run_make W 77 5 i0 _ Tryz.underlying77 hi0 hz0 .i64 .i64 (8 + (n : Int)) (8 + (n : Int)) (by omega) (Int.le_refl _) (by rw [hz2]; omega) (by omega)
  rw [this, hMC, show (8 + (n : Int)).toNat = n + 8 by omega]
 have HMs : Hid (MC.toList.length = n + 8) := by show _ = _; rw [Array.length_toList]; exact hMs
 clear hi0 hz0 hz1 hz2 hMC hMs
 have HT := Lib.hid h
 have Hn := Lib.hid hn
 have Hr := Lib.hid hr
 have Hok := Lib.hid hok
 have Hoff := Lib.hid hoff
 have hlt := h.lt
 have hw1 : IntKind.u32.wrap (n : Int) = n := by rw [IntKind.wrap_u32]; omega
 have hw2 : (n : Int) % 4294967296 = n := by omega
 have hw3 : IntKind.i64.wrap (8 + (n : Int)) = 8 + (n : Int) := by rw [IntKind.wrap_i64]; omega
 have hn1 : decide ((n : Int) > 524288) = false := decide_eq_false (by omega)
 have hn2 : decide ((524288 : Int) < n) = false := decide_eq_false (by omega)
 have hx := sumN_lt (l := four n ++ l) ((okB_four _).append hok)
 have hlaid : Hid (laidR l = four n ++ (four (sumN (four n ++ l)) ++ l)) := by show _ = _; rw [hn]; rfl
 have Hsp : Hid (∀ Z : List Value, Z.length = n + 8 → splice (splice (splice Z 0 (cellsB (four n))) 4 (cellsB (four (sumN (four n ++ l))))) 8 (cellsB l) = cellsB (laidR l)) := fun Z hZ => by
  have := splice_laid l Z (by rw [← hn]; exact hZ)
  rw [← hn] at this
  exact this
 obtain ⟨z0, z1, z2, z3, hz⟩ : ∃ z0 z1 z2 z3, four n = [z0, z1, z2, z3] := ⟨_, _, _, _, rfl⟩
 obtain ⟨y0, y1, y2, y3, hy⟩ : ∃ y0 y1 y2 y3, four (sumN (four n ++ l)) = [y0, y1, y2, y3] := ⟨_, _, _, _, rfl⟩
 have hokz : OkB [z0, z1, z2, z3] := by rw [← hz]; exact okB_four _
 have hp1 := fun w => cput_any n w (by omega)
 have hp2 := fun w => cput_any (sumN (four n ++ l)) w hx
 rw [hy] at hp2
 rw [hy] at Hsp
 rw [hz] at hp1 Hsp hp2
 have Hp1 : Hid (∀ w, Calls Tryz.prog 122 #[.int .u32 (n : Nat)] w fun e w' => e = .returned (.agg #[.int .u8 z0, .int .u8 z1, .int .u8 z2, .int .u8 z3]) ∧ Below w.heap.size w w') := hp1
 have Hp2 : Hid (∀ w, Calls Tryz.prog 122 #[.int .u32 (sumN ([z0, z1, z2, z3] ++ l) : Nat)] w fun e w' => e = .returned (.agg #[.int .u8 y0, .int .u8 y1, .int .u8 y2, .int .u8 y3]) ∧ Below w.heap.size w w') := hp2
 have Hokz := Lib.hid hokz
 clear h hn hr hok hoff hp1 hp2 hx hz hy hokz hlaid
 go_enter Tryz.func84, Tryz.ntmps84
 go_wp2_with fail
 refine (Hp1.out _).mono ?_
 rintro e w1 ⟨rfl, hb1⟩
 have hsz1 := hb1.size
 go_wp2_with fail
 have hb2 : Below w1.heap.size w1 ((w1.alloc (.cells #[.int .u8 z0, .int .u8 z1, .int .u8 z2, .int .u8 z3] 201)).alloc (.cells #[.slice (some ⟨w1.heap.size, 0, none⟩) 4 4, .slice A n c] 77)) := ((Below.refl _ _).alloc (Nat.le_refl _) _).alloc (by simp) _
 have hq0 : ((w1.alloc (.cells #[.int .u8 z0, .int .u8 z1, .int .u8 z2, .int .u8 z3] 201)).alloc (.cells #[.slice (some ⟨w1.heap.size, 0, none⟩) 4 4, .slice A n c] 77)).cell? ⟨w1.heap.size + 1, 0, none⟩ = some (.slice (some ⟨w1.heap.size, 0, none⟩) 4 4) := by rw [World.cell?_alloc_at _ _ _ _ (by simp)]; rfl
 have hq1 : ((w1.alloc (.cells #[.int .u8 z0, .int .u8 z1, .int .u8 z2, .int .u8 z3] 201)).alloc (.cells #[.slice (some ⟨w1.heap.size, 0, none⟩) 4 4, .slice A n c] 77)).cell? ⟨w1.heap.size + 1, 1, none⟩ = some (.slice A n c) := by rw [World.cell?_alloc_at _ _ _ _ (by simp)]; rfl
 have hr6 : ((w1.alloc (.cells #[.int .u8 z0, .int .u8 z1, .int .u8 z2, .int .u8 z3] 201)).alloc (.cells #[.slice (some ⟨w1.heap.size, 0, none⟩) 4 4, .slice A n c] 77)).heap[w1.heap.size]? = some (.cells #[.int .u8 z0, .int .u8 z1, .int .u8 z2, .int .u8 z3] 201 (0, 0)) := by
  rw [Below.heap_alloc _ _ _ (by simp)]; exact heap_alloc_new _ _
 have hz4 : ((w1.alloc (.cells #[.int .u8 z0, .int .u8 z1, .int .u8 z2, .int .u8 z3] 201)).alloc (.cells #[.slice (some ⟨w1.heap.size, 0, none⟩) 4 4, .slice A n c] 77)).heap.size = w1.heap.size + 2 := by simp
 generalize ((w1.alloc (.cells #[.int .u8 z0, .int .u8 z1, .int .u8 z2, .int .u8 z3] 201)).alloc (.cells #[.slice (some ⟨w1.heap.size, 0, none⟩) 4 4, .slice A n c] 77)) = w2 at *
 have hb02 := hb1.trans (hb2.mono hb1.size)
 have HT2 := Lib.hid (HT.out.below hb02)
 have Ht2 := Lib.hid (TurnsIn.of_below (P := fun _ => True) hlt hb02)
 have Hz4 := Lib.hid hz4
 have Hr6 := Lib.hid hr6
 have hg1 : w1.heap.size ≠ g := by omega
 refine (tsum_two g d s b (w1.heap.size + 1) hd (some ⟨w1.heap.size, 0, none⟩) 4 4 [z0, z1, z2, z3] A n c l w2.heap.size w2 HT2.out rfl Hn.out (by decide) (by unfold maxLen; omega) (by omega) (by omega) (rdB_block Hr6.out rfl _ (by omega)) Hokz.out (fun _ a ha => by cases ha; exact hg1) ((Hr.out.below (hb02.mono hB)).more (Nat.le_trans hB hb02.size)) Hok.out Hoff.out (by omega) hq0 hq1 (by omega)).mono ?_
 rintro e w3 ⟨rfl, ht3, hT3⟩
 have HT3 := Lib.hid hT3
 have Ht3 := Lib.hid (Ht2.out.trans ht3)
 have hr63 : w3.heap[w1.heap.size]? = _ := (ht3.grown.block w1.heap.size (by omega) (fun e => hg1 (by injection e))).trans hr6
 have hsz3 := ht3.grown.size
 have hlen3 : w1.heap.size + 2 ≤ w3.heap.size := by omega
 clear hq0 hq1 hr6 hz4 hT3 ht3 hb2 Hr6
 go_wp2_with fail
 refine (Hp2.out _).mono ?_
 rintro e w4 ⟨rfl, hb4⟩
 have HT4 := Lib.hid (HT3.out.below hb4)
 have Ht4 := Lib.hid (Ht3.out.trans (TurnsIn.of_below (P := fun _ => True) HT3.out.lt hb4))
 have hr64 := (hb4.block w1.heap.size (by omega)).trans hr63
 have hlen4 : w1.heap.size + 2 ≤ w4.heap.size := Nat.le_trans hlen3 hb4.size
 clear hr63 hb4 hsz3 hlen3
 go_upto_region 8 with fail
 have hb5 : Below w4.heap.size w4 ((w4.alloc (.cells #[.int .u8 y0, .int .u8 y1, .int .u8 y2, .int .u8 y3] 201)).alloc (.cells MC 5)) := ((Below.refl _ _).alloc (Nat.le_refl _) _).alloc (by simp) _
 have hr75 : ((w4.alloc (.cells #[.int .u8 y0, .int .u8 y1, .int .u8 y2, .int .u8 y3] 201)).alloc (.cells MC 5)).heap[w4.heap.size]? = some (.cells #[.int .u8 y0, .int .u8 y1, .int .u8 y2, .int .u8 y3] 201 (0, 0)) := by
  rw [Below.heap_alloc _ _ _ (by simp)]; exact heap_alloc_new _ _
 have hr85 : ((w4.alloc (.cells #[.int .u8 y0, .int .u8 y1, .int .u8 y2, .int .u8 y3] 201)).alloc (.cells MC 5)).heap[w4.heap.size + 1]? = some (.cells MC.toList.toArray 5 (0, 0)) := by
  have := heap_alloc_new (w4.alloc (.cells #[.int .u8 y0, .int .u8 y1, .int .u8 y2, .int .u8 y3] 201)) (.cells MC 5)
  rw [show (w4.alloc (.cells #[.int .u8 y0, .int .u8 y1, .int .u8 y2, .int .u8 y3] 201)).heap.size = w4.heap.size + 1 by simp] at this
  exact this.trans (by simp)
 have hz5 : ((w4.alloc (.cells #[.int .u8 y0, .int .u8 y1, .int .u8 y2, .int .u8 y3] 201)).alloc (.cells MC 5)).heap.size = w4.heap.size + 2 := by simp
 generalize ((w4.alloc (.cells #[.int .u8 y0, .int .u8 y1, .int .u8 y2, .int .u8 y3] 201)).alloc (.cells MC 5)) = w5 at *
 obtain ⟨r, hr⟩ : ∃ r, r = w4.heap.size + 1 := ⟨_, rfl⟩
 rw [← hr] at hr85
 rw [← hr]
 have hr65 := (hb5.block w1.heap.size (by omega)).trans hr64
 have HT5 := Lib.hid (HT4.out.below hb5)
 have Ht5 := Lib.hid (Ht4.out.trans (TurnsIn.of_below (P := fun _ => True) HT4.out.lt hb5))
 have hgr : g < r := by have := HT4.out.lt; omega
 have hwr : w.heap.size ≤ r := by have := Ht4.out.grown.size; omega
 have Hr5 : Hid (r < w5.heap.size) := by show _ < _; omega
 have Hlt1 : Hid (w1.heap.size < r) := by show _ < _; omega
 have Hlt4 : Hid (w4.heap.size < r) := by show _ < _; omega
 have Hr65 := Lib.hid hr65
 have Hr75 := Lib.hid hr75
 have Hr85 := Lib.hid hr85
 have Hrd5 := Lib.hid ((Hr.out.turned Hoff.out Ht5.out))
 have hBr : B ≤ r := Nat.le_trans hB hwr
 have s4 : ∀ W : World, (Instr.sliceAt 77 (.slice (some ⟨r, 0, none⟩) (n + 8) (n + 8)) (some (.int .i64 4)) none none).run Tryz.prog W = .ok (.slice (some ⟨r, 4, none⟩) (n + 4) (n + 4)) W := fun W => by
  have := slB_l (some ⟨r, 0, none⟩) (n + 8) (n + 8) 4 4 rfl (by omega) W
  rw [subA_some (by omega) rfl] at this
  rw [this, show n + 8 - 4 = n + 4 by omega, show 0 + 4 = 4 from rfl]
 obtain ⟨D8, hD8⟩ : ∃ D8, D8 = subA (some ⟨r, 0, none⟩) (n + 8) 8 := ⟨_, rfl⟩
 have s8 : ∀ W : World, (Instr.sliceAt 77 (.slice (some ⟨r, 0, none⟩) (n + 8) (n + 8)) (some (.int .i64 8)) none none).run Tryz.prog W = .ok (.slice D8 n n) W := fun W => by
  have := slB_l (some ⟨r, 0, none⟩) (n + 8) (n + 8) 8 8 rfl (by omega) W
  rw [← hD8] at this
  rw [this, show n + 8 - 8 = n by omega]
 have HD8 : Hid (0 < n → D8 = some ⟨r, 8, none⟩) := fun h0 => by rw [hD8, subA_some (by omega) rfl]
 obtain ⟨X1, hX1⟩ : ∃ X1, X1 = cellsB [z0, z1, z2, z3] := ⟨_, rfl⟩
 obtain ⟨X2, hX2⟩ : ∃ X2, X2 = cellsB [y0, y1, y2, y3] := ⟨_, rfl⟩
 obtain ⟨X3, hX3⟩ : ∃ X3, X3 = cellsB l := ⟨_, rfl⟩
 obtain ⟨Z, hZ⟩ : ∃ Z, Z = MC.toList := ⟨_, rfl⟩
 rw [← hZ] at Hr85 HMs
 have hl1 : X1.length = 4 := by rw [hX1]; rfl
 have hl2 : X2.length = 4 := by rw [hX2]; rfl
 have hl3 : X3.length = n := by rw [hX3, cellsB_length]; exact Hn.out.symm
 have Hl1 := Lib.hid hl1
 have Hl2 := Lib.hid hl2
 have Hl3 := Lib.hid hl3
 have Ho1 : Hid (∀ u ∈ X1, u.oneCell' = true) := by rw [hX1]; exact cellsB_one _
 have Ho2 : Hid (∀ u ∈ X2, u.oneCell' = true) := by rw [hX2]; exact cellsB_one _
 have Ho3 : Hid (∀ u ∈ X3, u.oneCell' = true) := by rw [hX3]; exact cellsB_one _
 have Hc1 : Hid (∀ W, Below r w5 W → ∀ j v, X1[j]? = some v → W.cell? ((⟨w1.heap.size, 0, none⟩ : Addr).add j) = some v) := fun W hW j v hj => by
  rw [Addr.add_lit, hW.cell (p := ⟨w1.heap.size, 0 + j, none⟩) Hlt1.out]
  rw [hX1, ← List.getElem?_toArray] at hj
  rw [Nat.zero_add]
  exact (cell_of_row _ _ j _ _ _ Hr65.out).trans hj
 have Hc2 : Hid (∀ W, Below r w5 W → ∀ j v, X2[j]? = some v → W.cell? ((⟨w4.heap.size, 0, none⟩ : Addr).add j) = some v) := fun W hW j v hj => by
  rw [Addr.add_lit, hW.cell (p := ⟨w4.heap.size, 0 + j, none⟩) Hlt4.out]
  rw [hX2, ← List.getElem?_toArray] at hj
  rw [Nat.zero_add]
  exact (cell_of_row _ _ j _ _ _ Hr75.out).trans hj
 have Hc3 : Hid (∀ W, Below r w5 W → 0 < n → ∃ ad, A = some ad ∧ ∀ j v, X3[j]? = some v → W.cell? (ad.add j) = some v) := fun W hW h0 => by
  obtain ⟨bb, oo, e, hbb, hcc⟩ := Hrd5.out (by rw [← Hn.out]; exact h0)
  refine ⟨_, e, fun j v hj => ?_⟩
  rw [hX3] at hj
  have hj2 := (List.getElem?_eq_some_iff.1 hj).1
  rw [cellsB_length] at hj2
  rw [cellsB_get (List.getElem?_eq_getElem hj2)] at hj
  injection hj with hj
  rw [Addr.add_lit, hW.cell (p := ⟨bb, oo + j, none⟩) (show bb < r by omega), hcc j _ (List.getElem?_eq_getElem hj2), hj]
 have Hfit2 : Hid (4 + X2.length ≤ (splice Z 0 X1).length) := by show _ ≤ _; rw [length_splice _ _ _ (by rw [hl1, HMs.out]; omega), HMs.out, hl2]; omega
 have Hfit3 : Hid (8 + X3.length ≤ (splice (splice Z 0 X1) 4 X2).length) := by show _ ≤ _; rw [length_splice _ _ _ Hfit2.out, length_splice _ _ _ (by rw [hl1, HMs.out]; omega), HMs.out, hl3]; omega
 have Hfin : Hid (splice (splice (splice Z 0 X1) 4 X2) 8 X3 = cellsB (laidR l)) := by show _ = _; rw [hX1, hX2, hX3]; exact Hsp.out Z HMs.out
 clear hr65 hr75 hr85 hD8 hX1 hX2 hX3 hZ hl1 hl2 hl3 hb5 hr64 hz5 hr Hr65 Hr75 Hrd5 Hsp
 go_wp2_with (with_reducible refine wpList_copy_splice (o := ⟨some 30, _, _, _, _, _⟩) rfl (.tmp 28) (.tmp 29) 77 77 rfl 5 Tryz.underlying77 (by kernel_rfl) (some ⟨r, 0, none⟩) (some ⟨w1.heap.size, 0, none⟩) (n + 8) (n + 8) 4 4 rfl rfl r 0 Z 5 Hr85.out X1 (by rw [Hl1.out]; exact (Nat.min_eq_left (by omega)).symm) (fun _ => ⟨rfl, _, rfl, Hc1.out _ (Below.refl _ _)⟩) (by rw [Hl1.out, HMs.out]; omega) Ho1.out r w5 (Below.refl _ _) (Nat.le_refl _) ?_; intro w6 HG6 hB6)
 go_upto_region 9 with fail
 go_region_law (first | (refine step_copy_splice rfl (.tmp 32) (.tmp 33) 77 77 rfl 5 Tryz.underlying77 (by kernel_rfl) (some ⟨r, 4, none⟩) (some ⟨w4.heap.size, 0, none⟩) (n + 4) (n + 4) 4 4 rfl rfl r 4 (splice Z 0 X1) 5 HG6.out X2 (Hl2.out.trans (Nat.min_eq_left (Nat.le_add_left 4 n)).symm) (fun _ => ⟨rfl, _, rfl, Hc2.out _ hB6.drew⟩) Hfit2.out Ho2.out r w5 hB6.drew (Nat.le_refl _) ?_; intro w7 HG7 hB7))
 go_wp2_with (with_reducible refine wpList_copy_splice (o := ⟨some 38, _, _, _, _, _⟩) rfl (.tmp 36) (.tmp 37) 77 77 rfl 5 Tryz.underlying77 (by kernel_rfl) D8 A n n n c rfl rfl r 8 (splice (splice Z 0 X1) 4 X2) 5 HG7.out X3 (Hl3.out.trans (Nat.min_self n).symm) (fun h0 => ⟨HD8.out (by have := Hl3.out; omega), Hc3.out _ hB7 (by have := Hl3.out; omega)⟩) Hfit3.out Ho3.out r w5 hB7 (Nat.le_refl _) ?_; intro w8 HG8 hB8)
 go_ret2
 have hrow := HG8.out
 rw [Hfin.out] at hrow
 refine ⟨_, rfl, own_block hrow (by simp) (by rw [cellsB_length, laidR_length, ← Hn.out]) hwr (by unfold maxLen; omega), Ht5.out.low hB8 hwr hgr, HT5.out.low hB8 hgr⟩
set_option maxRecDepth 100000 in
set_option maxHeartbeats 400000 in
theorem jtake_short (g : Nat) (A : Option Addr) (n c : Nat) (hn : n < 8) (w : World) :
  Calls Tryz.prog 144 #[.pointer (some ⟨g, 0, none⟩), .slice A n c] w fun e w' => e = .returned (.tuple #[.slice none 0 0, .int .i64 0, .bool false]) ∧ w = w' := by
 have h8 : decide ((n : Int) < 8) = true := decide_eq_true (by omega)
 go_enter Tryz.func144, Tryz.ntmps144
 go_wp2
 go_ret3
 exact ⟨rfl, rfl⟩
def NoTake (l : List Nat) (g s t n : Nat) (w : World) (e : Ending) (w' : World) : Prop :=
 takeJ l = none ∧ e = .returned (.tuple #[.slice none 0 0, .int .i64 0, .bool false]) ∧ (∃ d' s' t', d' ≤ 1 ∧ s' ≤ s + 1 ∧ t' ≤ t + n ∧ Tab w' g d' s' t') ∧ TurnsIn w w' g (fun _ => True)
def YesTake (l : List Nat) (g s t : Nat) (w : World) (e : Ending) (w' : World) : Prop :=
 ∃ x v, takeJ l = some x ∧ e = .returned (.tuple #[v, .int .i64 ((x.length + 8 : Nat) : Int), .bool true]) ∧ w'.ownsRow w.heap.size 5 1 v x.length (cellsB x) ∧ Tab w' g 1 (s + 1) (t + 4 + x.length) ∧ TurnsIn w w' g (fun _ => True)
set_option maxRecDepth 100000 in
set_option maxHeartbeats 4000000 in
theorem jtake_any (g d s t : Nat) (hd : d ≤ 1) (A : Option Addr) (n c : Nat) (l : List Nat) (B : Nat) (w : World) (h : Tab w g d s t) (hn : n = l.length) (hc : n ≤ c) (hm : n ≤ 100000000) (hs : s < 1000000000) (htb : t < 1000000000000) (hr : RdB w B A l) (hB : B ≤ w.heap.size) (hok : OkB l) (hoff : Off A g l) :
  Calls Tryz.prog 144 #[.pointer (some ⟨g, 0, none⟩), .slice A n c] w fun e w' => NoTake l g s t n w e w' ∨ YesTake l g s t w e w' := by
 by_cases h8 : n < 8
 ·refine (jtake_short g A n c h8 w).mono ?_
  rintro e w' ⟨rfl, rfl⟩
  refine .inl ⟨?_, rfl, ⟨d, s, t, hd, by omega, by omega, h⟩, TurnsIn.refl _ _ _⟩
  unfold takeJ
  rw [if_pos (by omega)]
 ·have h8d : decide ((n : Int) < 8) = false := decide_eq_false (by omega)
  obtain ⟨b, o, rfl, hb, hcl⟩ := hr (by omega)
  have hbg : b ≠ g := hoff (by omega) _ rfl
  obtain ⟨x0, x1, x2, x3, x4, x5, x6, x7, r, hl⟩ : ∃ x0 x1 x2 x3 x4 x5 x6 x7 r, l = x0 :: x1 :: x2 :: x3 :: x4 :: x5 :: x6 :: x7 :: r := by
   match l, hn with
   | [], hn => simp at hn; omega
   | [_], hn => simp at hn; omega
   | [_, _], hn => simp at hn; omega
   | [_, _, _], hn => simp at hn; omega
   | [_, _, _, _], hn => simp at hn; omega
   | [_, _, _, _, _], hn => simp at hn; omega
   | [_, _, _, _, _, _], hn => simp at hn; omega
   | [_, _, _, _, _, _, _], hn => simp at hn; omega
   | x0 :: x1 :: x2 :: x3 :: x4 :: x5 :: x6 :: x7 :: r, _ => exact ⟨_, _, _, _, _, _, _, _, _, rfl⟩
  have e4 : l.take 4 = [x0, x1, x2, x3] := by rw [hl]; rfl
  have e44 : (l.drop 4).take 4 = [x4, x5, x6, x7] := by rw [hl]; rfl
  have q0 : w.cell? ⟨b, o, none⟩ = some (.int .u8 x0) := hcl 0 x0 (by rw [hl]; rfl)
  have q1 : w.cell? ⟨b, o + 1, none⟩ = some (.int .u8 x1) := hcl 1 x1 (by rw [hl]; rfl)
  have q2 : w.cell? ⟨b, o + 2, none⟩ = some (.int .u8 x2) := hcl 2 x2 (by rw [hl]; rfl)
  have q3 : w.cell? ⟨b, o + 3, none⟩ = some (.int .u8 x3) := hcl 3 x3 (by rw [hl]; rfl)
  have q4 : w.cell? ⟨b, o + 4, none⟩ = some (.int .u8 x4) := hcl 4 x4 (by rw [hl]; rfl)
  have q5 : w.cell? ⟨b, o + 4 + 1, none⟩ = some (.int .u8 x5) := hcl 5 x5 (by rw [hl]; rfl)
  have q6 : w.cell? ⟨b, o + 4 + 2, none⟩ = some (.int .u8 x6) := hcl 6 x6 (by rw [hl]; rfl)
  have q7 : w.cell? ⟨b, o + 4 + 3, none⟩ = some (.int .u8 x7) := hcl 7 x7 (by rw [hl]; rfl)
  have hok4 : OkB [x0, x1, x2, x3] := e4 ▸ hok.take 4
  have hok44 : OkB [x4, x5, x6, x7] := e44 ▸ (hok.drop 4).take 4
  obtain ⟨N, hN⟩ : ∃ N : Nat, N = takeN [x0, x1, x2, x3] := ⟨_, rfl⟩
  obtain ⟨M, hM⟩ : ∃ M : Nat, M = takeN [x4, x5, x6, x7] := ⟨_, rfl⟩
  have hNl : N < 4294967296 := by rw [hN]; exact takeN_lt rfl hok4
  have hMl : M < 4294967296 := by rw [hM]; exact takeN_lt rfl hok44
  have htk1 : ∀ w : World, Calls Tryz.prog 171 #[.agg #[.int .u8 x0, .int .u8 x1, .int .u8 x2, .int .u8 x3]] w fun e w' => e = .returned (.int .u32 (N : Int)) ∧ Below w.heap.size w w' := fun w => by rw [hN]; exact ctake_any [x0, x1, x2, x3] rfl hok4 w
  have htk2 : ∀ w : World, Calls Tryz.prog 171 #[.agg #[.int .u8 x4, .int .u8 x5, .int .u8 x6, .int .u8 x7]] w fun e w' => e = .returned (.int .u32 (M : Int)) ∧ Below w.heap.size w w' := fun w => by rw [hM]; exact ctake_any [x4, x5, x6, x7] rfl hok44 w
  have Htk1 := Lib.hid htk1
  have Hta := Lib.hid htk2
  have hTJ : takeJ l = if 524288 < N ∨ n - 8 < N then none else if sumN ([x0, x1, x2, x3] ++ (l.drop 8).take N) = M then some ((l.drop 8).take N) else none := by
   unfold takeJ
   rw [if_neg (by omega), e4, e44, ← hN, ← hM, hn]
  have HTJ := Lib.hid hTJ
  have HT := Lib.hid h
  have Hn := Lib.hid hn
  have Hr := Lib.hid hr
  have Hok := Lib.hid hok
  have Hoff := Lib.hid hoff
  have Hok4 := Lib.hid hok4
  have Hr4 := Lib.hid (e4 ▸ hr.take 4 : RdB w B (some ⟨b, o, none⟩) [x0, x1, x2, x3])
  have Hoff4 := Lib.hid (show Off (some ⟨b, o, none⟩) g [x0, x1, x2, x3] from fun _ a ha => by cases ha; exact hbg)
  have s4 := fun w => slB_h (some ⟨b, o, none⟩) n c 4 4 rfl (by omega) w
  have s48 : ∀ w : World, (Instr.sliceAt 77 (.slice (some ⟨b, o, none⟩) n c) (some (.int .i64 4)) (some (.int .i64 8)) none).run Tryz.prog w = .ok (.slice (some ⟨b, o + 4, none⟩) 4 (c - 4)) w := fun w => by
   have := slB_lh (some ⟨b, o, none⟩) n c 4 8 4 8 rfl rfl (by omega) (by omega) w
   rwa [subA_some (by omega) rfl] at this
  have hat : ∀ (w : World) (a : Option Addr) (c : Nat), (Instr.arrayAt 201 (.slice a 4 c)).run Tryz.prog w = .ok (.pointer a) w := fun w a c => run_arrayAt w 201 _ 4 a 4 c Tryz.underlying201 (Nat.le_refl _)
  have hw8 : IntKind.i64.wrap ((n : Int) - 8) = (n : Int) - 8 := by rw [IntKind.wrap_i64]; omega
  have hwN : IntKind.i64.wrap (N : Int) = N := by rw [IntKind.wrap_i64]; omega
  clear h hn hr hok hoff hl e4 e44 hok4 hok44 hN hM htk1 htk2 hTJ hcl
  go_enter Tryz.func144, Tryz.ntmps144
  go_wp2_with fail
  refine (Htk1.out _).mono ?_
  rintro e w1 ⟨rfl, hb1⟩
  have HT1 := Lib.hid (HT.out.below hb1)
  have hb1w := hb1
  have Ht1 := Lib.hid (TurnsIn.of_below (P := fun _ => True) HT.out.lt hb1)
  by_cases hbig : 524288 < N ∨ n - 8 < N
  ·have hno : Hid (takeJ l = none) := by show _ = _; rw [HTJ.out, if_pos hbig]
   rcases (by omega : 524288 < N ∨ (¬ 524288 < N ∧ n - 8 < N)) with hb2 | ⟨hb2, hb3⟩
   ·have d1 : decide ((N : Int) > 524288) = true := decide_eq_true (by omega)
    have d2 : decide ((524288 : Int) < N) = true := decide_eq_true (by omega)
    clear hbig
    go_wp2
    go_ret3
    exact .inl ⟨hno.out, rfl, ⟨d, s, t, hd, by omega, by omega, HT1.out⟩, Ht1.out⟩
   ·have d1 : decide ((N : Int) > 524288) = false := decide_eq_false (by omega)
    have d2 : decide ((524288 : Int) < N) = false := decide_eq_false (by omega)
    have d3 : decide ((N : Int) > (n : Int) - 8) = true := decide_eq_true (by omega)
    have d4 : decide ((n : Int) - 8 < (N : Int)) = true := decide_eq_true (by omega)
    clear hbig
    go_wp2
    go_ret3
    exact .inl ⟨hno.out, rfl, ⟨d, s, t, hd, by omega, by omega, HT1.out⟩, Ht1.out⟩
  ·have d1 : decide ((N : Int) > 524288) = false := decide_eq_false (by omega)
   have d2 : decide ((524288 : Int) < N) = false := decide_eq_false (by omega)
   have d3 : decide ((N : Int) > (n : Int) - 8) = false := decide_eq_false (by omega)
   have d4 : decide ((n : Int) - 8 < (N : Int)) = false := decide_eq_false (by omega)
   have hNn : 8 + N ≤ n := by omega
   have hN5 : N ≤ 524288 := by omega
   have HTJ2 : Hid (takeJ l = if sumN ([x0, x1, x2, x3] ++ (l.drop 8).take N) = M then some ((l.drop 8).take N) else none) := by show _ = _; rw [HTJ.out, if_neg hbig]
   obtain ⟨C, hC⟩ : ∃ C, C = (l.drop 8).take N := ⟨_, rfl⟩
   rw [← hC] at HTJ2
   have hCl : N = C.length := by rw [hC, List.length_take, List.length_drop, ← Hn.out]; omega
   have HCl := Lib.hid hCl
   obtain ⟨A8, hA8⟩ : ∃ A8, A8 = subA (some ⟨b, o, none⟩) c 8 := ⟨_, rfl⟩
   have s8N : ∀ w : World, (Instr.sliceAt 77 (.slice (some ⟨b, o, none⟩) n c) (some (.int .i64 8)) (some (.int .i64 (8 + (N : Int)))) none).run Tryz.prog w = .ok (.slice A8 N (c - 8)) w := fun w => by
    have := slB_lh (some ⟨b, o, none⟩) n c 8 (8 + N) 8 (8 + (N : Int)) rfl (by omega) (by omega) (by omega) w
    rwa [← hA8, Nat.add_sub_cancel_left] at this
   have Hr8 : Hid (RdB w B A8 C) := by show RdB _ _ _ _; rw [hA8, hC]; exact (Hr.out.sub (by have := Hn.out; omega)).take N
   have Hok8 : Hid (OkB C) := by show OkB _; rw [hC]; exact (Hok.out.drop 8).take N
   have Hoff8 : Hid (Off A8 g C) := by show Off _ _ _; rw [hA8, hC]; exact Hoff.out.sub.take N
   have HA8 : Hid (∃ a, A8 = some a) := by
    show ∃ a, A8 = some a
    cases e : A8 with
    | none => have := subA_nil (hA8 ▸ e : subA (some ⟨b, o, none⟩) c 8 = none); cases this
    | some a => exact ⟨a, rfl⟩
   have hw8N : IntKind.i64.wrap (8 + (N : Int)) = 8 + (N : Int) := by rw [IntKind.wrap_i64]; omega
   have hg1 : w1.heap.size ≠ g := by have := HT1.out.lt; omega
   have hBw : B ≤ w1.heap.size := Nat.le_trans hB hb1.size
   have hbl1 : b < w1.heap.size := by omega
   have k4 := (hb1.cell (p := ⟨b, o + 4, none⟩) (by show b < _; omega)).trans q4
   have k5 := (hb1.cell (p := ⟨b, o + 4 + 1, none⟩) (by show b < _; omega)).trans q5
   have k6 := (hb1.cell (p := ⟨b, o + 4 + 2, none⟩) (by show b < _; omega)).trans q6
   have k7 := (hb1.cell (p := ⟨b, o + 4 + 3, none⟩) (by show b < _; omega)).trans q7
   clear hbig hC hCl hA8 q0 q1 q2 q3 q4 q5 q6 q7 hb1 Htk1
   go_upto_region 7 with fail
   refine wp_region_noPanic ?_
   refine wp_region_held_drew (S := fun W => W.cell? ⟨b, o + 4, none⟩ = some (.int .u8 x4) ∧ W.cell? ⟨b, o + 4 + 1, none⟩ = some (.int .u8 x5) ∧ W.cell? ⟨b, o + 4 + 2, none⟩ = some (.int .u8 x6) ∧ W.cell? ⟨b, o + 4 + 3, none⟩ = some (.int .u8 x7)) (by kernel_rfl) ?_ (fun hHeld => ?_)
   ·exact ⟨k4, k5, k6, k7⟩
   try simp only [heldPut, List.set]
   refine hT 0 (v := ?_) rfl (Or.inl ⟨by rfl, ?_⟩) ?_
   rotate_left
   ·(intro W hSw; (try dsimp only at hSw); obtain ⟨k4, k5, k6, k7⟩ := hSw; go_simp; try with_reducible rfl)
   try simp only [heldPut, List.set]
   refine hT 1 (v := ?_) rfl (Or.inl ⟨by rfl, ?_⟩) ?_
   rotate_left
   ·(intro W hSw; (try dsimp only at hSw); obtain ⟨k4, k5, k6, k7⟩ := hSw; go_simp; try with_reducible rfl)
   try simp only [heldPut, List.set]
   refine hT 2 (v := ?_) rfl (Or.inl ⟨by rfl, ?_⟩) ?_
   rotate_left
   ·(intro W hSw; (try dsimp only at hSw); obtain ⟨k4, k5, k6, k7⟩ := hSw; go_simp; try with_reducible rfl)
   try simp only [heldPut, List.set]
   refine hT 3 (v := ?_) rfl (Or.inl ⟨by rfl, ?_⟩) ?_
   rotate_left
   ·(intro W hSw; (try dsimp only at hSw); obtain ⟨k4, k5, k6, k7⟩ := hSw; go_simp; try with_reducible rfl)
   try simp only [heldPut, List.set]
   refine hT 6 (v := ?_) rfl (Or.inl ⟨by rfl, ?_⟩) ?_
   rotate_left
   ·(intro W hSw; (try dsimp only at hSw); obtain ⟨k4, k5, k6, k7⟩ := hSw; go_simp; try with_reducible rfl)
   try simp only [heldPut, List.set]
   refine hT 7 (v := ?_) rfl (Or.inl ⟨by rfl, ?_⟩) ?_
   rotate_left
   ·(intro W hSw; (try dsimp only at hSw); obtain ⟨k4, k5, k6, k7⟩ := hSw; go_simp; try with_reducible rfl)
   try simp only [heldPut, List.set]
   refine hT 8 (v := ?_) rfl (Or.inl ⟨by rfl, ?_⟩) ?_
   rotate_left
   ·(intro W hSw; (try dsimp only at hSw); obtain ⟨k4, k5, k6, k7⟩ := hSw; go_simp; try with_reducible rfl)
   try simp only [heldPut, List.set]
   refine hT 9 (v := ?_) rfl (Or.inl ⟨by rfl, ?_⟩) ?_
   rotate_left
   ·(intro W hSw; (try dsimp only at hSw); obtain ⟨k4, k5, k6, k7⟩ := hSw; go_simp; try with_reducible rfl)
   try simp only [heldPut, List.set]
   refine heldOne (i := 4) rfl (by kernel_rfl) (fun K hK => ?_)
   go_simp
   have hbW : Below w1.heap.size w1 (w1.alloc (.cells #[.slice (some ⟨b, o, none⟩) 4 c, .slice A8 N (c - 8)] 77)).drew := ((Below.refl _ _).alloc (Nat.le_refl _) _).drew
   refine hK.out _ _ ?_ (fun hHeld => ?_)
   ·exact ⟨(hbW.cell (p := ⟨b, o + 4, none⟩) hbl1).trans k4, (hbW.cell (p := ⟨b, o + 4 + 1, none⟩) hbl1).trans k5, (hbW.cell (p := ⟨b, o + 4 + 2, none⟩) hbl1).trans k6, (hbW.cell (p := ⟨b, o + 4 + 3, none⟩) hbl1).trans k7⟩
   clear hK K
   try simp only [heldPut, List.set]
   refine heldOne (i := 5) rfl (by kernel_rfl) (fun K hK => ?_)
   go_simp
   refine (tsum_two g d s t w1.heap.size hd (some ⟨b, o, none⟩) 4 c [x0, x1, x2, x3] A8 N (c - 8) C B _ (HT1.out.below hbW) rfl HCl.out (by decide) (by unfold maxLen; omega) (by omega) (by omega) ((Hr4.out.below (hb1w.mono hB)).below (hbW.mono hBw)) Hok4.out Hoff4.out ((Hr8.out.below (hb1w.mono hB)).below (hbW.mono hBw)) Hok8.out Hoff8.out hg1 (by rw [World.cell?_drew, World.cell?_alloc_at _ _ _ _ rfl]; rfl) (by rw [World.cell?_drew, World.cell?_alloc_at _ _ _ _ rfl]; rfl) (by simp)).mono ?_
   rintro e w2 ⟨rfl, ht2, hT2⟩
   have Ht2 := Lib.hid ((TurnsIn.of_below (P := fun _ => True) HT1.out.lt hbW).trans ht2)
   have HT2 := Lib.hid hT2
   have hk2 : ∀ i, w2.cell? ⟨b, i, none⟩ = w1.cell? ⟨b, i, none⟩ := fun i => World.cell?_of_block (w := w1) (w' := w2) (a := ⟨b, i, none⟩) (Ht2.out.grown.block b hbl1 (fun e => hbg (by injection e)))
   clear ht2 hT2
   go_wp2_with fail
   refine hK.out _ _ ?_ (fun hHeld => ?_)
   ·exact ⟨(hk2 _).trans k4, (hk2 _).trans k5, (hk2 _).trans k6, (hk2 _).trans k7⟩
   clear hK K
   try simp only [heldPut, List.set]
   refine heldOne (i := 10) rfl (by kernel_rfl) (fun K hK => ?_)
   go_simp
   refine (Hta.out _).mono ?_
   rintro e w3 ⟨rfl, hb3⟩
   have HT3 := Lib.hid (HT2.out.below hb3)
   have Ht3 := Lib.hid (Ht2.out.trans (TurnsIn.of_below (P := fun _ => True) HT2.out.lt hb3))
   have hk3 : ∀ i, w3.cell? ⟨b, i, none⟩ = w1.cell? ⟨b, i, none⟩ := fun i => World.cell?_of_block (w := w1) (w' := w3) (a := ⟨b, i, none⟩) (Ht3.out.grown.block b hbl1 (fun e => hbg (by injection e)))
   clear hk2 hb3
   go_wp2_with fail
   refine hK.out _ _ ?_ (fun hHeld => ?_)
   ·exact ⟨(hk3 _).trans k4, (hk3 _).trans k5, (hk3 _).trans k6, (hk3 _).trans k7⟩
   clear hK K
   try simp only [heldPut, List.set]
   refine hT 11 (v := ?_) rfl (Or.inl ⟨by rfl, ?_⟩) ?_
   rotate_left
   ·(intro W hSw; (try dsimp only at hSw);  go_simp; try with_reducible rfl)
   try simp only [heldPut, List.set]
   refine wpAnyH_done (by kernel_rfl) ?_ _
   refine NoPanic.normal ?_
   clear hk3 k4 k5 k6 k7
   by_cases hsum : sumN ([x0, x1, x2, x3] ++ C) = M
   ·have hyes : Hid (takeJ l = some C) := by show _ = _; rw [HTJ2.out, if_pos hsum]
    have hne : (((sumN (x0 :: x1 :: x2 :: x3 :: C) : Nat) : Int) != (M : Int)) = false := by rw [bne_eq_false_iff_eq]; exact congrArg Int.ofNat hsum
    have hr3 := ((Hr8.out.below (hb1w.mono hB)).turned Hoff8.out Ht3.out).more (show B ≤ w3.heap.size from Nat.le_trans hBw Ht3.out.grown.size)
    have Hr3 := Lib.hid hr3
    clear hr3 hsum
    go_wp2_with fail
    refine (bclone_any A8 N (c - 8) C _ w3.heap.size HCl.out (fun h => by obtain ⟨a, ha⟩ := HA8.out; rw [ha] at h; cases h) (by omega) Hr3.out (Nat.le_refl _)).mono ?_
    rintro e w5 ⟨v5, rfl, hown5, hb5⟩
    have Hown5 := Lib.hid hown5
    have HT5 := Lib.hid (HT3.out.below hb5)
    have Ht5 := Lib.hid (Ht1.out.trans (Ht3.out.trans (TurnsIn.of_below (P := fun _ => True) HT3.out.lt hb5)))
    clear hown5 hb5
    go_wp2
    go_ret3
    refine .inr ⟨C, v5, hyes.out, ?_, ?_, ?_, Ht5.out⟩
    ·rw [← HCl.out, show (8 : Int) + (N : Int) = ((N + 8 : Nat) : Int) by omega]; rfl
    ·rw [← HCl.out]
     exact ownB_mono Hown5.out (Nat.le_trans hb1w.size Ht3.out.grown.size)
    ·rw [← HCl.out]; exact HT5.out
   ·have hno : Hid (takeJ l = none) := by show _ = _; rw [HTJ2.out, if_neg hsum]
    have hne : (((sumN (x0 :: x1 :: x2 :: x3 :: C) : Nat) : Int) != (M : Int)) = true := by rw [bne_iff_ne]; exact fun e => hsum (Int.ofNat.inj e)
    clear hsum
    go_wp2
    go_ret3
    exact .inl ⟨hno.out, rfl, ⟨1, s + 1, t + 4 + N, Nat.le_refl _, Nat.le_refl _, by omega, HT3.out⟩, Ht1.out.trans Ht3.out⟩
end Go.Proofs.YtholdcgkhicdmaaGreatDoor