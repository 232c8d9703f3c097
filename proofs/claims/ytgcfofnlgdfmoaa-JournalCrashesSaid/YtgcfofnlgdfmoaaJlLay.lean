/- Layer 7: journal.Lay. -/
import Derived.Test.YtgcfofnlgdfmoaaJlSum
import Derived.Test.YtgcfofnlgdfmoaaJlCutB
import Derived.Laws.CopyOwn
import Derived.Deep.CutRange
import Derived.Laws.MakeOwn
namespace Go.Proofs.Ytgcfofnlgdfmoaa
open Go.RowKit

theorem rdB_block {w : World} {r : Nat} {cs : Array Value} {t : TypeId} {l : List Nat} (h : w.heap[r]? = some (.cells cs t (0, 0))) (hc : cs.toList = cellsB l) (B : Nat) (hB : r < B) : RdB w B (some ⟨r, 0, none⟩) l := fun _ =>
  ⟨r, 0, rfl, hB, fun i x hx => by
    have h1 : cs[i]? = some (.int .u8 x) := by rw [← Array.getElem?_toList, hc]; exact cellsB_get hx
    rw [Nat.zero_add]
    exact cell_of_row _ _ i _ _ _ h |>.trans (by rw [← h1]) ⟩
theorem TurnsIn.low {w w5 w9 : World} {g r : Nat} {P : Nat → Prop} (h : TurnsIn w w5 g P) (hb : Below r w5 w9) (hr : w.heap.size ≤ r) (hg : g < r) : TurnsIn w w9 g P :=
  ⟨⟨hb.os.trans h.grown.os, hb.tape.trans h.grown.tape, hb.output.trans h.grown.output, Nat.le_trans h.grown.size hb.size, fun k hk hne => (hb.block k (by omega)).trans (h.grown.block k hk hne)⟩,
    fun o ho => (hb.cell (p := ⟨g, o, none⟩) hg).trans (h.cell o ho), fun o => (hb.frozen (p := ⟨g, o, none⟩) hg).trans (h.fz o)⟩
theorem Tab.low {w5 w9 : World} {g r d s b : Nat} (h : Tab w5 g d s b) (hb : Below r w5 w9) (hg : g < r) : Tab w9 g d s b :=
  { lt := Nat.lt_of_lt_of_le h.lt hb.size
    c0 := (hb.cell (p := ⟨g, 0, none⟩) hg).trans h.c0
    c1 := (hb.cell (p := ⟨g, 1, none⟩) hg).trans h.c1
    tab := fun j hj => by
      obtain ⟨x, hx, hx2⟩ := h.tab j hj
      exact ⟨x, (hb.cell (p := ⟨g, 3 + j, none⟩) hg).trans hx, hx2⟩
    sums := (hb.cell (p := ⟨g, 259, none⟩) hg).trans h.sums
    bytes := (hb.cell (p := ⟨g, 260, none⟩) hg).trans h.bytes
    fz := fun o => (hb.frozen (p := ⟨g, o, none⟩) hg).trans (h.fz o) }
theorem own_block {w : World} {base r n : Nat} {e : TypeId} {cs : Array Value} {xs : List Value} (h : w.heap[r]? = some (.cells cs e (0, 0))) (hc : cs.toList = xs) (hn : xs.length = n) (hb : base ≤ r) (hm : n ≤ maxLen) : w.ownsRow base e 1 (.slice (some ⟨r, 0, none⟩) n n) n xs := by
  have hs : cs.size = n := by rw [← hn, ← hc]; simp
  exact ⟨by omega, .inr ⟨r, n, cs, rfl, hb, h, Nat.le_refl _, hm, by omega, by rw [hc, Nat.mul_one, ← hn, List.take_length]⟩⟩
theorem splice_nil {α : Type} (L : List α) (n : Nat) : splice L n [] = L := by simp [splice]
/-- a record's three parts, laid into a row -/
theorem splice_laid (l : List Nat) (Z : List Value) (hZ : Z.length = l.length + 8) :
    splice (splice (splice Z 0 (cellsB (four l.length))) 4 (cellsB (four (sumN (four l.length ++ l))))) 8 (cellsB l) = cellsB (laidR l) := by
  have h4 : (cellsB (four l.length)).length = 4 := rfl
  have h44 : (cellsB (four (sumN (four l.length ++ l)))).length = 4 := rfl
  have hl := cellsB_length l
  unfold laidR
  rw [cellsB_append, cellsB_append]
  generalize cellsB (four l.length) = X at *
  generalize cellsB (four (sumN (four l.length ++ l))) = Y at *
  generalize cellsB l = W at *
  have a1 : splice Z 0 X = X ++ Z.drop 4 := by unfold splice; rw [List.take_zero, List.nil_append, Nat.zero_add, h4]
  have d4 : (X ++ Z.drop 4).drop 4 = Z.drop 4 := List.drop_left' h4
  have d8 : (X ++ Z.drop 4).drop (4 + 4) = Z.drop 8 := by
    have : (X ++ Z.drop 4).drop (4 + 4) = ((X ++ Z.drop 4).drop 4).drop 4 := by rw [List.drop_drop]
    rw [this, d4, List.drop_drop]
  have a2 : splice (X ++ Z.drop 4) 4 Y = X ++ (Y ++ Z.drop 8) := by unfold splice; rw [List.take_left' h4, h44, d8]
  have t8 : (X ++ (Y ++ Z.drop 8)).take 8 = X ++ Y := by rw [← List.append_assoc]; exact List.take_left' (by rw [List.length_append]; omega)
  have e8 : (X ++ (Y ++ Z.drop 8)).drop (8 + W.length) = [] := by
    apply List.drop_eq_nil_of_le
    simp only [List.length_append, List.length_drop]
    omega
  rw [a1, a2]
  unfold splice
  rw [t8, e8, List.append_nil, List.append_assoc]

set_option maxRecDepth 100000 in
set_option maxHeartbeats 400000 in
theorem jlay_nil (v : Value) (w : World) :
    Calls Try.prog 36 #[.pointer none, v] w fun e w' => e = .returned (.tuple #[.slice none 0 0, .int .i64 1]) ∧ w = w' := by
  go_enter Try.func36, Try.ntmps36
  go_wp2
  go_ret2
  exact ⟨rfl, rfl⟩
set_option maxRecDepth 100000 in
set_option maxHeartbeats 400000 in
theorem jlay_long (a : Addr) (A : Option Addr) (n c : Nat) (hn : 524288 < n) (w : World) :
    Calls Try.prog 36 #[.pointer (some a), .slice A n c] w fun e w' => e = .returned (.tuple #[.slice none 0 0, .int .i64 4]) ∧ w = w' := by
  have hn1 : decide ((n : Int) > 524288) = true := decide_eq_true (by omega)
  have hn2 : decide ((524288 : Int) < n) = true := decide_eq_true (by omega)
  go_enter Try.func36, Try.ntmps36
  go_wp2
  go_ret2
  exact ⟨rfl, rfl⟩

set_option maxRecDepth 100000 in
set_option maxHeartbeats 2000000 in
theorem jlay_any (g d s b : Nat) (hd : d ≤ 1) (A : Option Addr) (n c : Nat) (l : List Nat) (B : Nat) (w : World) (h : Tab w g d s b) (hn : n = l.length) (hm : n ≤ 524288) (hs : s < 1000000000) (hbn : b < 1000000000000) (hr : RdB w B A l) (hB : B ≤ w.heap.size) (hok : OkB l) (hoff : Off A g l) :
    Calls Try.prog 36 #[.pointer (some ⟨g, 0, none⟩), .slice A n c] w fun e w' => ∃ v, e = .returned (.tuple #[v, .int .i64 0]) ∧ w'.ownsRow w.heap.size 5 1 v (n + 8) (cellsB (laidR l)) ∧ TurnsIn w w' g (fun _ => True) ∧ Tab w' g 1 (s + 1) (b + 4 + n) := by
  obtain ⟨i0, hi0, hz0, hz1, hz2⟩ := info_parts Try.infoB
  obtain ⟨MC, hMC⟩ : ∃ MC, MC = madeCells (Value.int .u8 0).cells ((8 + (n : Int)).toNat * i0.size) := ⟨_, rfl⟩
  have hMs : MC.size = n + 8 := by rw [hMC, size_madeCells, hz1]; omega
  have hmk : ∀ W : World, (Instr.makeSlice 37 (.int .i64 (8 + (n : Int))) (.int .i64 (8 + (n : Int)))).run Try.prog W = .ok (.slice (some ⟨W.heap.size, 0, none⟩) (n + 8) (n + 8)) (W.alloc (.cells MC 5)) := fun W => by
    have := run_make W 37 5 i0 _ Try.underlying37 hi0 hz0 .i64 .i64 (8 + (n : Int)) (8 + (n : Int)) (by omega) (Int.le_refl _) (by rw [hz2]; omega) (by omega)
    rw [this, hMC, show (8 + (n : Int)).toNat = n + 8 by omega]
  have HMs : Hid (MC.toList.length = n + 8) := by show _ = _; rw [Array.length_toList]; exact hMs
  clear hi0 hz0 hz1 hz2 hMC hMs
  have HT := Lib.hid h
  have Hn := Lib.hid hn
  have Hr := Lib.hid hr
  have Hok := Lib.hid hok
  have Hoff := Lib.hid hoff
  have hlt := h.lt
  have hw1 : IntKind.u32.wrap (n : Int) = n := by rw [IntKind.wrap_u32]; omega
  have hw2 : (n : Int) % 4294967296 = n := by omega
  have hw3 : IntKind.i64.wrap (8 + (n : Int)) = 8 + (n : Int) := by rw [IntKind.wrap_i64]; omega
  have hn1 : decide ((n : Int) > 524288) = false := decide_eq_false (by omega)
  have hn2 : decide ((524288 : Int) < n) = false := decide_eq_false (by omega)
  have hx := sumN_lt (l := four n ++ l) ((okB_four _).append hok)
  have hlaid : Hid (laidR l = four n ++ (four (sumN (four n ++ l)) ++ l)) := by show _ = _; rw [hn]; rfl
  have Hsp : Hid (∀ Z : List Value, Z.length = n + 8 → splice (splice (splice Z 0 (cellsB (four n))) 4 (cellsB (four (sumN (four n ++ l))))) 8 (cellsB l) = cellsB (laidR l)) := fun Z hZ => by
    have := splice_laid l Z (by rw [← hn]; exact hZ)
    rw [← hn] at this
    exact this
  obtain ⟨z0, z1, z2, z3, hz⟩ : ∃ z0 z1 z2 z3, four n = [z0, z1, z2, z3] := ⟨_, _, _, _, rfl⟩
  obtain ⟨y0, y1, y2, y3, hy⟩ : ∃ y0 y1 y2 y3, four (sumN (four n ++ l)) = [y0, y1, y2, y3] := ⟨_, _, _, _, rfl⟩
  have hokz : OkB [z0, z1, z2, z3] := by rw [← hz]; exact okB_four _
  have hp1 := fun w => cput_any n w (by omega)
  have hp2 := fun w => cput_any (sumN (four n ++ l)) w hx
  rw [hy] at hp2
  rw [hy] at Hsp
  rw [hz] at hp1 Hsp hp2
  have Hp1 : Hid (∀ w, Calls Try.prog 64 #[.int .u32 (n : Nat)] w fun e w' => e = .returned (.agg #[.int .u8 z0, .int .u8 z1, .int .u8 z2, .int .u8 z3]) ∧ Below w.heap.size w w') := hp1
  have Hp2 : Hid (∀ w, Calls Try.prog 64 #[.int .u32 (sumN ([z0, z1, z2, z3] ++ l) : Nat)] w fun e w' => e = .returned (.agg #[.int .u8 y0, .int .u8 y1, .int .u8 y2, .int .u8 y3]) ∧ Below w.heap.size w w') := hp2
  have Hokz := Lib.hid hokz
  clear h hn hr hok hoff hp1 hp2 hx hz hy hokz hlaid
  go_enter Try.func36, Try.ntmps36
  go_wp2_with fail
  refine (Hp1.out _).mono ?_
  rintro e w1 ⟨rfl, hb1⟩
  have hsz1 := hb1.size
  go_wp2_with fail
  have hb2 : Below w1.heap.size w1 ((w1.alloc (.cells #[.int .u8 z0, .int .u8 z1, .int .u8 z2, .int .u8 z3] 152)).alloc (.cells #[.slice (some ⟨w1.heap.size, 0, none⟩) 4 4, .slice A n c] 37)) := ((Below.refl _ _).alloc (Nat.le_refl _) _).alloc (by simp) _
  have hq0 : ((w1.alloc (.cells #[.int .u8 z0, .int .u8 z1, .int .u8 z2, .int .u8 z3] 152)).alloc (.cells #[.slice (some ⟨w1.heap.size, 0, none⟩) 4 4, .slice A n c] 37)).cell? ⟨w1.heap.size + 1, 0, none⟩ = some (.slice (some ⟨w1.heap.size, 0, none⟩) 4 4) := by rw [World.cell?_alloc_at _ _ _ _ (by simp)]; rfl
  have hq1 : ((w1.alloc (.cells #[.int .u8 z0, .int .u8 z1, .int .u8 z2, .int .u8 z3] 152)).alloc (.cells #[.slice (some ⟨w1.heap.size, 0, none⟩) 4 4, .slice A n c] 37)).cell? ⟨w1.heap.size + 1, 1, none⟩ = some (.slice A n c) := by rw [World.cell?_alloc_at _ _ _ _ (by simp)]; rfl
  have hr6 : ((w1.alloc (.cells #[.int .u8 z0, .int .u8 z1, .int .u8 z2, .int .u8 z3] 152)).alloc (.cells #[.slice (some ⟨w1.heap.size, 0, none⟩) 4 4, .slice A n c] 37)).heap[w1.heap.size]? = some (.cells #[.int .u8 z0, .int .u8 z1, .int .u8 z2, .int .u8 z3] 152 (0, 0)) := by
    rw [Below.heap_alloc _ _ _ (by simp)]; exact heap_alloc_new _ _
  have hz4 : ((w1.alloc (.cells #[.int .u8 z0, .int .u8 z1, .int .u8 z2, .int .u8 z3] 152)).alloc (.cells #[.slice (some ⟨w1.heap.size, 0, none⟩) 4 4, .slice A n c] 37)).heap.size = w1.heap.size + 2 := by simp
  generalize ((w1.alloc (.cells #[.int .u8 z0, .int .u8 z1, .int .u8 z2, .int .u8 z3] 152)).alloc (.cells #[.slice (some ⟨w1.heap.size, 0, none⟩) 4 4, .slice A n c] 37)) = w2 at *
  have hb02 := hb1.trans (hb2.mono hb1.size)
  have HT2 := Lib.hid (HT.out.below hb02)
  have Ht2 := Lib.hid (TurnsIn.of_below (P := fun _ => True) hlt hb02)
  have Hz4 := Lib.hid hz4
  have Hr6 := Lib.hid hr6
  have hg1 : w1.heap.size ≠ g := by omega
  refine (tsum_two g d s b (w1.heap.size + 1) hd (some ⟨w1.heap.size, 0, none⟩) 4 4 [z0, z1, z2, z3] A n c l w2.heap.size w2 HT2.out rfl Hn.out (by decide) (by unfold maxLen; omega) (by omega) (by omega) (rdB_block Hr6.out rfl _ (by omega)) Hokz.out (fun _ a ha => by cases ha; exact hg1) ((Hr.out.below (hb02.mono hB)).more (Nat.le_trans hB hb02.size)) Hok.out Hoff.out (by omega) hq0 hq1 (by omega)).mono ?_
  rintro e w3 ⟨rfl, ht3, hT3⟩
  have HT3 := Lib.hid hT3
  have Ht3 := Lib.hid (Ht2.out.trans ht3)
  have hr63 : w3.heap[w1.heap.size]? = _ := (ht3.grown.block w1.heap.size (by omega) (fun e => hg1 (by injection e))).trans hr6
  have hsz3 := ht3.grown.size
  have hlen3 : w1.heap.size + 2 ≤ w3.heap.size := by omega
  clear hq0 hq1 hr6 hz4 hT3 ht3 hb2 Hr6
  go_wp2_with fail
  refine (Hp2.out _).mono ?_
  rintro e w4 ⟨rfl, hb4⟩
  have HT4 := Lib.hid (HT3.out.below hb4)
  have Ht4 := Lib.hid (Ht3.out.trans (TurnsIn.of_below (P := fun _ => True) HT3.out.lt hb4))
  have hr64 := (hb4.block w1.heap.size (by omega)).trans hr63
  have hlen4 : w1.heap.size + 2 ≤ w4.heap.size := Nat.le_trans hlen3 hb4.size
  clear hr63 hb4 hsz3 hlen3
  go_upto_region 8 with fail
  have hb5 : Below w4.heap.size w4 ((w4.alloc (.cells #[.int .u8 y0, .int .u8 y1, .int .u8 y2, .int .u8 y3] 152)).alloc (.cells MC 5)) := ((Below.refl _ _).alloc (Nat.le_refl _) _).alloc (by simp) _
  have hr75 : ((w4.alloc (.cells #[.int .u8 y0, .int .u8 y1, .int .u8 y2, .int .u8 y3] 152)).alloc (.cells MC 5)).heap[w4.heap.size]? = some (.cells #[.int .u8 y0, .int .u8 y1, .int .u8 y2, .int .u8 y3] 152 (0, 0)) := by
    rw [Below.heap_alloc _ _ _ (by simp)]; exact heap_alloc_new _ _
  have hr85 : ((w4.alloc (.cells #[.int .u8 y0, .int .u8 y1, .int .u8 y2, .int .u8 y3] 152)).alloc (.cells MC 5)).heap[w4.heap.size + 1]? = some (.cells MC.toList.toArray 5 (0, 0)) := by
    have := heap_alloc_new (w4.alloc (.cells #[.int .u8 y0, .int .u8 y1, .int .u8 y2, .int .u8 y3] 152)) (.cells MC 5)
    rw [show (w4.alloc (.cells #[.int .u8 y0, .int .u8 y1, .int .u8 y2, .int .u8 y3] 152)).heap.size = w4.heap.size + 1 by simp] at this
    exact this.trans (by simp)
  have hz5 : ((w4.alloc (.cells #[.int .u8 y0, .int .u8 y1, .int .u8 y2, .int .u8 y3] 152)).alloc (.cells MC 5)).heap.size = w4.heap.size + 2 := by simp
  generalize ((w4.alloc (.cells #[.int .u8 y0, .int .u8 y1, .int .u8 y2, .int .u8 y3] 152)).alloc (.cells MC 5)) = w5 at *
  obtain ⟨r, hr⟩ : ∃ r, r = w4.heap.size + 1 := ⟨_, rfl⟩
  rw [← hr] at hr85
  rw [← hr]
  have hr65 := (hb5.block w1.heap.size (by omega)).trans hr64
  have HT5 := Lib.hid (HT4.out.below hb5)
  have Ht5 := Lib.hid (Ht4.out.trans (TurnsIn.of_below (P := fun _ => True) HT4.out.lt hb5))
  have hgr : g < r := by have := HT4.out.lt; omega
  have hwr : w.heap.size ≤ r := by have := Ht4.out.grown.size; omega
  have Hr5 : Hid (r < w5.heap.size) := by show _ < _; omega
  have Hlt1 : Hid (w1.heap.size < r) := by show _ < _; omega
  have Hlt4 : Hid (w4.heap.size < r) := by show _ < _; omega
  have Hr65 := Lib.hid hr65
  have Hr75 := Lib.hid hr75
  have Hr85 := Lib.hid hr85
  have Hrd5 := Lib.hid ((Hr.out.turned Hoff.out Ht5.out))
  have hBr : B ≤ r := Nat.le_trans hB hwr
  have s4 : ∀ W : World, (Instr.sliceAt 37 (.slice (some ⟨r, 0, none⟩) (n + 8) (n + 8)) (some (.int .i64 4)) none none).run Try.prog W = .ok (.slice (some ⟨r, 4, none⟩) (n + 4) (n + 4)) W := fun W => by
    have := slB_l (some ⟨r, 0, none⟩) (n + 8) (n + 8) 4 4 rfl (by omega) W
    rw [subA_some (by omega) rfl] at this
    rw [this, show n + 8 - 4 = n + 4 by omega, show 0 + 4 = 4 from rfl]
  obtain ⟨D8, hD8⟩ : ∃ D8, D8 = subA (some ⟨r, 0, none⟩) (n + 8) 8 := ⟨_, rfl⟩
  have s8 : ∀ W : World, (Instr.sliceAt 37 (.slice (some ⟨r, 0, none⟩) (n + 8) (n + 8)) (some (.int .i64 8)) none none).run Try.prog W = .ok (.slice D8 n n) W := fun W => by
    have := slB_l (some ⟨r, 0, none⟩) (n + 8) (n + 8) 8 8 rfl (by omega) W
    rw [← hD8] at this
    rw [this, show n + 8 - 8 = n by omega]
  have HD8 : Hid (0 < n → D8 = some ⟨r, 8, none⟩) := fun h0 => by rw [hD8, subA_some (by omega) rfl]
  obtain ⟨X1, hX1⟩ : ∃ X1, X1 = cellsB [z0, z1, z2, z3] := ⟨_, rfl⟩
  obtain ⟨X2, hX2⟩ : ∃ X2, X2 = cellsB [y0, y1, y2, y3] := ⟨_, rfl⟩
  obtain ⟨X3, hX3⟩ : ∃ X3, X3 = cellsB l := ⟨_, rfl⟩
  obtain ⟨Z, hZ⟩ : ∃ Z, Z = MC.toList := ⟨_, rfl⟩
  rw [← hZ] at Hr85 HMs
  have hl1 : X1.length = 4 := by rw [hX1]; rfl
  have hl2 : X2.length = 4 := by rw [hX2]; rfl
  have hl3 : X3.length = n := by rw [hX3, cellsB_length]; exact Hn.out.symm
  have Hl1 := Lib.hid hl1
  have Hl2 := Lib.hid hl2
  have Hl3 := Lib.hid hl3
  have Ho1 : Hid (∀ u ∈ X1, u.oneCell' = true) := by rw [hX1]; exact cellsB_one _
  have Ho2 : Hid (∀ u ∈ X2, u.oneCell' = true) := by rw [hX2]; exact cellsB_one _
  have Ho3 : Hid (∀ u ∈ X3, u.oneCell' = true) := by rw [hX3]; exact cellsB_one _
  have Hc1 : Hid (∀ W, Below r w5 W → ∀ j v, X1[j]? = some v → W.cell? ((⟨w1.heap.size, 0, none⟩ : Addr).add j) = some v) := fun W hW j v hj => by
    rw [Addr.add_lit, hW.cell (p := ⟨w1.heap.size, 0 + j, none⟩) Hlt1.out]
    rw [hX1, ← List.getElem?_toArray] at hj
    rw [Nat.zero_add]
    exact (cell_of_row _ _ j _ _ _ Hr65.out).trans hj
  have Hc2 : Hid (∀ W, Below r w5 W → ∀ j v, X2[j]? = some v → W.cell? ((⟨w4.heap.size, 0, none⟩ : Addr).add j) = some v) := fun W hW j v hj => by
    rw [Addr.add_lit, hW.cell (p := ⟨w4.heap.size, 0 + j, none⟩) Hlt4.out]
    rw [hX2, ← List.getElem?_toArray] at hj
    rw [Nat.zero_add]
    exact (cell_of_row _ _ j _ _ _ Hr75.out).trans hj
  have Hc3 : Hid (∀ W, Below r w5 W → 0 < n → ∃ ad, A = some ad ∧ ∀ j v, X3[j]? = some v → W.cell? (ad.add j) = some v) := fun W hW h0 => by
    obtain ⟨bb, oo, e, hbb, hcc⟩ := Hrd5.out (by rw [← Hn.out]; exact h0)
    refine ⟨_, e, fun j v hj => ?_⟩
    rw [hX3] at hj
    have hj2 := (List.getElem?_eq_some_iff.1 hj).1
    rw [cellsB_length] at hj2
    rw [cellsB_get (List.getElem?_eq_getElem hj2)] at hj
    injection hj with hj
    rw [Addr.add_lit, hW.cell (p := ⟨bb, oo + j, none⟩) (show bb < r by omega), hcc j _ (List.getElem?_eq_getElem hj2), hj]
  have Hfit2 : Hid (4 + X2.length ≤ (splice Z 0 X1).length) := by show _ ≤ _; rw [length_splice _ _ _ (by rw [hl1, HMs.out]; omega), HMs.out, hl2]; omega
  have Hfit3 : Hid (8 + X3.length ≤ (splice (splice Z 0 X1) 4 X2).length) := by show _ ≤ _; rw [length_splice _ _ _ Hfit2.out, length_splice _ _ _ (by rw [hl1, HMs.out]; omega), HMs.out, hl3]; omega
  have Hfin : Hid (splice (splice (splice Z 0 X1) 4 X2) 8 X3 = cellsB (laidR l)) := by show _ = _; rw [hX1, hX2, hX3]; exact Hsp.out Z HMs.out
  clear hr65 hr75 hr85 hD8 hX1 hX2 hX3 hZ hl1 hl2 hl3 hb5 hr64 hz5 hr Hr65 Hr75 Hrd5 Hsp
  go_wp2_with (with_reducible refine wpList_copy_splice (o := ⟨some 30, _, _, _, _, _⟩) rfl (.tmp 28) (.tmp 29) 37 37 rfl 5 Try.underlying37 (by kernel_rfl) (some ⟨r, 0, none⟩) (some ⟨w1.heap.size, 0, none⟩) (n + 8) (n + 8) 4 4 rfl rfl r 0 Z 5 Hr85.out X1 (by rw [Hl1.out]; exact (Nat.min_eq_left (by omega)).symm) (fun _ => ⟨rfl, _, rfl, Hc1.out _ (Below.refl _ _)⟩) (by rw [Hl1.out, HMs.out]; omega) Ho1.out r w5 (Below.refl _ _) (Nat.le_refl _) ?_; intro w6 HG6 hB6)
  go_upto_region 9 with fail
  go_region_law (first | (refine step_copy_splice rfl (.tmp 32) (.tmp 33) 37 37 rfl 5 Try.underlying37 (by kernel_rfl) (some ⟨r, 4, none⟩) (some ⟨w4.heap.size, 0, none⟩) (n + 4) (n + 4) 4 4 rfl rfl r 4 (splice Z 0 X1) 5 HG6.out X2 (Hl2.out.trans (Nat.min_eq_left (Nat.le_add_left 4 n)).symm) (fun _ => ⟨rfl, _, rfl, Hc2.out _ hB6.drew⟩) Hfit2.out Ho2.out r w5 hB6.drew (Nat.le_refl _) ?_; intro w7 HG7 hB7))
  go_wp2_with (with_reducible refine wpList_copy_splice (o := ⟨some 38, _, _, _, _, _⟩) rfl (.tmp 36) (.tmp 37) 37 37 rfl 5 Try.underlying37 (by kernel_rfl) D8 A n n n c rfl rfl r 8 (splice (splice Z 0 X1) 4 X2) 5 HG7.out X3 (Hl3.out.trans (Nat.min_self n).symm) (fun h0 => ⟨HD8.out (by have := Hl3.out; omega), Hc3.out _ hB7 (by have := Hl3.out; omega)⟩) Hfit3.out Ho3.out r w5 hB7 (Nat.le_refl _) ?_; intro w8 HG8 hB8)
  go_ret2
  have hrow := HG8.out
  rw [Hfin.out] at hrow
  refine ⟨_, rfl, own_block hrow (by simp) (by rw [cellsB_length, laidR_length, ← Hn.out]) hwr (by unfold maxLen; omega), Ht5.out.low hB8 hwr hgr, HT5.out.low hB8 hgr⟩
end Go.Proofs.Ytgcfofnlgdfmoaa
