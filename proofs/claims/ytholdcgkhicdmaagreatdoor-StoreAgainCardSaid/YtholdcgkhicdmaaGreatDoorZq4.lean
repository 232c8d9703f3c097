/- Several texts in one: ItEnc, ItSpan, Clone, ItOf, ItSmall, Held. -/
import Derived.Laws.Rows
import Derived.Laws.Tables
import Derived.Laws.CopyOwn
import Derived.Deep.DeepCutAuto
import Derived.Deep.RegionHeld3
import Derived.Test.YtholdcgkhicdmaaGreatDoorZq3
namespace Go.Proofs.YtholdcgkhicdmaaGreatDoor
open Go.RowKit
set_option maxRecDepth 100000 in
set_option maxHeartbeats 1000000 in
theorem iput_any (g : Nat) (v : Value) (l : List Nat) (x : It) (A : Option Addr) (n c : Nat) (hx : OkI x) (hs : ShortI x) (hn : n = x.l.length) (hm : n ≤ 1048576) (w : World) (h : Wtr w g v l) (hl : l.length + (itemB x).length ≤ 1999000) (hr : LabAt w g v.ownBlock A x.l) :
  Calls Tryz.prog 38 #[.pointer (some ⟨g, 0, none⟩), .agg #[.bool x.g, .int .u8 x.o, .int .u64 x.q, .int .u64 x.t, .string x.r, .slice A n c, .int .u8 x.s, .int .u8 x.p, .int .i64 x.v, .int .u8 x.w, .int .u8 x.ga, .int .u64 x.gf, .int .u64 x.gt]] w fun e w' => e = .returned (.tuple #[]) ∧ Puts w w' g v (l ++ itemB x) := by
 have hgl := h.lt
 have H := Lib.hid h
 have Hr := Lib.hid hr
 have Hn := Lib.hid hn
 have Hx := Lib.hid hx
 have Hs := Lib.hid hs
 have hbr : Hid (some w.heap.size ≠ v.ownBlock) := fun e => by have := h.row_lt e.symm; omega
 clear h hr hn hx hs
 obtain ⟨b, hb⟩ : ∃ b, x.g = b := ⟨_, rfl⟩
 have hB : itemB x = if b then 1 :: gapB x else 0 :: evB x := by unfold itemB; rw [hb]
 rw [hB] at hl ⊢
 rw [hb]
 clear hb hB
 cases b with
 | true =>
   have hll : l.length ≤ 1999000 := by omega
   clear hl
   have hba : Below w.heap.size w (w.alloc (.cells #[.bool true, .int .u8 x.o, .int .u64 x.q, .int .u64 x.t, .string x.r, .slice A n c, .int .u8 x.s, .int .u8 x.p, .int .i64 x.v, .int .u8 x.w, .int .u8 x.ga, .int .u64 x.gf, .int .u64 x.gt] 47)) := (Below.refl _ _).alloc (Nat.le_refl _) _
   have H0 := Lib.hid (H.out.below hba)
   have R0 := Lib.hid (Wrote.of_below hba g v.ownBlock)
   have F : Hid (∀ W v2, Wrote (w.alloc (.cells #[.bool true, .int .u8 x.o, .int .u64 x.q, .int .u64 x.t, .string x.r, .slice A n c, .int .u8 x.s, .int .u8 x.p, .int .i64 x.v, .int .u8 x.w, .int .u8 x.ga, .int .u64 x.gf, .int .u64 x.gt] 47)) W g v.ownBlock v2 → W.cell? ⟨w.heap.size, 0, none⟩ = some (.bool true) ∧ W.cell? ⟨w.heap.size, 10, none⟩ = some (.int .u8 x.ga) ∧ W.cell? ⟨w.heap.size, 11, none⟩ = some (.int .u64 x.gf) ∧ W.cell? ⟨w.heap.size, 12, none⟩ = some (.int .u64 x.gt)) := fun W v2 hW =>
    ⟨(hW.cell (p := ⟨w.heap.size, 0, none⟩) (by simp) (by simp; omega) hbr.out).trans (by rw [World.cell?_alloc_at _ _ _ _ rfl]; rfl), (hW.cell (p := ⟨w.heap.size, 10, none⟩) (by simp) (by simp; omega) hbr.out).trans (by rw [World.cell?_alloc_at _ _ _ _ rfl]; rfl), (hW.cell (p := ⟨w.heap.size, 11, none⟩) (by simp) (by simp; omega) hbr.out).trans (by rw [World.cell?_alloc_at _ _ _ _ rfl]; rfl), (hW.cell (p := ⟨w.heap.size, 12, none⟩) (by simp) (by simp; omega) hbr.out).trans (by rw [World.cell?_alloc_at _ _ _ _ rfl]; rfl)⟩
   clear hba
   go_enter Tryz.func38, Tryz.ntmps38
   go_wp2_with fail
   refine (wbool_any g v l true _ H0.out (by omega)).mono ?_
   rintro e w1 ⟨rfl, v1, h1, r1⟩
   obtain ⟨c0, c1, c2, c3⟩ := F.out _ _ r1
   have H1 := Lib.hid h1
   have R1 := Lib.hid (R0.out.trans r1)
   clear h1 r1
   go_wp2_with fail
   refine (putGap_any g v1 _ x Hx.out _ H1.out (by simp; omega)).mono ?_
   rintro e w2 ⟨rfl, v2, h1, r1⟩
   have H2 := Lib.hid h1
   have R2 := Lib.hid (R1.out.trans r1)
   clear h1 r1 c0 c1 c2 c3
   go_wp2
   refine bodyPost_ret (results_none rfl _ _ _) rfl ?_
   refine ⟨rfl, v2, ?_, R2.out⟩
   have h1 := H2.out
   simpa using h1
 | false =>
   have hll : l.length + (evB x).length ≤ 1998999 := by simp at hl; omega
   clear hl
   have hba : Below w.heap.size w (w.alloc (.cells #[.bool false, .int .u8 x.o, .int .u64 x.q, .int .u64 x.t, .string x.r, .slice A n c, .int .u8 x.s, .int .u8 x.p, .int .i64 x.v, .int .u8 x.w, .int .u8 x.ga, .int .u64 x.gf, .int .u64 x.gt] 47)) := (Below.refl _ _).alloc (Nat.le_refl _) _
   have H0 := Lib.hid (H.out.below hba)
   have R0 := Lib.hid (Wrote.of_below hba g v.ownBlock)
   have HL := Lib.hid (Hr.out.below hba)
   have F : Hid (∀ W v2, Wrote (w.alloc (.cells #[.bool false, .int .u8 x.o, .int .u64 x.q, .int .u64 x.t, .string x.r, .slice A n c, .int .u8 x.s, .int .u8 x.p, .int .i64 x.v, .int .u8 x.w, .int .u8 x.ga, .int .u64 x.gf, .int .u64 x.gt] 47)) W g v.ownBlock v2 → W.cell? ⟨w.heap.size, 0, none⟩ = some (.bool false) ∧ W.cell? ⟨w.heap.size, 1, none⟩ = some (.int .u8 x.o) ∧ W.cell? ⟨w.heap.size, 2, none⟩ = some (.int .u64 x.q) ∧ W.cell? ⟨w.heap.size, 3, none⟩ = some (.int .u64 x.t) ∧ W.cell? ⟨w.heap.size, 4, none⟩ = some (.string x.r) ∧ W.cell? ⟨w.heap.size, 5, none⟩ = some (.slice A n c) ∧ W.cell? ⟨w.heap.size, 6, none⟩ = some (.int .u8 x.s) ∧ W.cell? ⟨w.heap.size, 7, none⟩ = some (.int .u8 x.p) ∧ W.cell? ⟨w.heap.size, 8, none⟩ = some (.int .i64 x.v) ∧ W.cell? ⟨w.heap.size, 9, none⟩ = some (.int .u8 x.w)) := fun W v2 hW => by
    have k : ∀ j u, (w.alloc (.cells #[.bool false, .int .u8 x.o, .int .u64 x.q, .int .u64 x.t, .string x.r, .slice A n c, .int .u8 x.s, .int .u8 x.p, .int .i64 x.v, .int .u8 x.w, .int .u8 x.ga, .int .u64 x.gf, .int .u64 x.gt] 47)).cell? ⟨w.heap.size, j, none⟩ = some u → W.cell? ⟨w.heap.size, j, none⟩ = some u := fun j u hu => (hW.cell (p := ⟨w.heap.size, j, none⟩) (by simp) (by simp; omega) hbr.out).trans hu
    refine ⟨k _ _ ?_, k _ _ ?_, k _ _ ?_, k _ _ ?_, k _ _ ?_, k _ _ ?_, k _ _ ?_, k _ _ ?_, k _ _ ?_, k _ _ ?_⟩ <;> (rw [World.cell?_alloc_at _ _ _ _ rfl]; rfl)
   clear hba
   go_enter Tryz.func38, Tryz.ntmps38
   go_wp2_with fail
   refine (wbool_any g v l false _ H0.out (by omega)).mono ?_
   rintro e w1 ⟨rfl, v1, h1, r1⟩
   obtain ⟨c0, c1, c2, c3, c4, c5, c6, c7, c8, c9⟩ := F.out _ _ r1
   have H1 := Lib.hid h1
   have R1 := Lib.hid (R0.out.trans r1)
   have HL1 := Lib.hid (HL.out.wrote r1)
   clear h1 r1
   go_wp2_with fail
   refine (putEvent_any g v1 _ x A n c Hx.out Hs.out Hn.out hm _ H1.out (by simp; omega) HL1.out).mono ?_
   rintro e w2 ⟨rfl, v2, h1, r1⟩
   have H2 := Lib.hid h1
   have R2 := Lib.hid (R1.out.trans r1)
   clear h1 r1 c0 c1 c2 c3 c4 c5 c6 c7 c8 c9
   go_wp2
   go_end0
   refine ⟨rfl, v2, ?_, R2.out⟩
   have h1 := H2.out
   simpa using h1
set_option maxRecDepth 100000 in
set_option maxHeartbeats 1000000 in
theorem encode_any (x : It) (A : Option Addr) (n c : Nat) (hx : OkI x) (hs : ShortI x) (hn : n = x.l.length) (hm : n ≤ 1048576) (w : World) (hl : (itemB x).length ≤ 1999000) (hr : RdP w w.heap.size A x.l) :
  Calls Tryz.prog 111 #[.agg #[.bool x.g, .int .u8 x.o, .int .u64 x.q, .int .u64 x.t, .string x.r, .slice A n c, .int .u8 x.s, .int .u8 x.p, .int .i64 x.v, .int .u8 x.w, .int .u8 x.ga, .int .u64 x.gf, .int .u64 x.gt]] w fun e w' => ∃ v', e = .returned v' ∧ w'.ownsRow w.heap.size 5 1 v' (itemB x).length (cellsB (itemB x)) ∧ Below w.heap.size w w' := by
 have hba : Below w.heap.size w (w.alloc (.cells #[.bool x.g, .int .u8 x.o, .int .u64 x.q, .int .u64 x.t, .string x.r, .slice A n c, .int .u8 x.s, .int .u8 x.p, .int .i64 x.v, .int .u8 x.w, .int .u8 x.ga, .int .u64 x.gf, .int .u64 x.gt] 47)) := (Below.refl _ _).alloc (Nat.le_refl _) _
 have hb2 : Below w.heap.size w ((w.alloc (.cells #[.bool x.g, .int .u8 x.o, .int .u64 x.q, .int .u64 x.t, .string x.r, .slice A n c, .int .u8 x.s, .int .u8 x.p, .int .i64 x.v, .int .u8 x.w, .int .u8 x.ga, .int .u64 x.gf, .int .u64 x.gt] 47)).alloc (.cells #[.slice none 0 0] 195)) := hba.alloc (by simp) _
 have H0 := Lib.hid (Wtr.new (w.alloc (.cells #[.bool x.g, .int .u8 x.o, .int .u64 x.q, .int .u64 x.t, .string x.r, .slice A n c, .int .u8 x.s, .int .u8 x.p, .int .i64 x.v, .int .u8 x.w, .int .u8 x.ga, .int .u64 x.gf, .int .u64 x.gt] 47)) 195)
 rw [World.size_alloc] at H0
 have HL : Hid (LabAt ((w.alloc (.cells #[.bool x.g, .int .u8 x.o, .int .u64 x.q, .int .u64 x.t, .string x.r, .slice A n c, .int .u8 x.s, .int .u8 x.p, .int .i64 x.v, .int .u8 x.w, .int .u8 x.ga, .int .u64 x.gf, .int .u64 x.gt] 47)).alloc (.cells #[.slice none 0 0] 195)) (w.heap.size + 1) none A x.l) := Lib.hid (LabAt.of_rd (B := w.heap.size) (hr.below hb2) (by simp; omega) (by omega) (fun k h => by cases h))
 have Hb2 := Lib.hid hb2
 clear hba hr hb2
 go_enter Tryz.func111, Tryz.ntmps111
 have Hx := Lib.hid hx
 have Hs := Lib.hid hs
 have Hn := Lib.hid hn
 clear hx hs hn
 go_wp2_with fail
 refine (iput_any (w.heap.size + 1) (.slice none 0 0) [] x A n c Hx.out Hs.out Hn.out hm _ H0.out (by simp; omega) HL.out).mono ?_
 rintro e w1 ⟨rfl, v1, h1, r1⟩
 have Hb3 := Lib.hid (Hb2.out.trans (r1.below (B := w.heap.size) (by simp; omega) (by omega) (fun k h => by cases h)))
 have H1 := Lib.hid h1
 clear h1 r1
 go_wp2_with fail
 refine (wbytes_any (w.heap.size + 1) v1 _ w1 H1.out (by simp; omega)).mono ?_
 rintro e w2 ⟨v2, rfl, ho, hb⟩
 have Ho := Lib.hid (ownB_mono ho Hb3.out.size)
 have Hb4 := Lib.hid (Hb3.out.trans (hb.mono Hb3.out.size))
 clear ho hb
 go_wp2
 go_ret
 exact ⟨_, rfl, Ho.out, Hb4.out⟩
set_option maxRecDepth 100000 in
set_option maxHeartbeats 1000000 in
theorem size_any (x : It) (A : Option Addr) (n c : Nat) (hx : OkI x) (hs : ShortI x) (hn : n = x.l.length) (hm : n ≤ 1048576) (w : World) (hl : (itemB x).length ≤ 1999000) (hr : RdP w w.heap.size A x.l) :
  Calls Tryz.prog 68 #[.agg #[.bool x.g, .int .u8 x.o, .int .u64 x.q, .int .u64 x.t, .string x.r, .slice A n c, .int .u8 x.s, .int .u8 x.p, .int .i64 x.v, .int .u8 x.w, .int .u8 x.ga, .int .u64 x.gf, .int .u64 x.gt]] w fun e w' => e = .returned (.int .i64 ((itemB x).length : Nat)) ∧ Below w.heap.size w w' := by
 have hba : Below w.heap.size w (w.alloc (.cells #[.bool x.g, .int .u8 x.o, .int .u64 x.q, .int .u64 x.t, .string x.r, .slice A n c, .int .u8 x.s, .int .u8 x.p, .int .i64 x.v, .int .u8 x.w, .int .u8 x.ga, .int .u64 x.gf, .int .u64 x.gt] 47)) := (Below.refl _ _).alloc (Nat.le_refl _) _
 have Hba := Lib.hid hba
 have Hr := Lib.hid ((hr.below hba).more (B' := (w.alloc (.cells #[.bool x.g, .int .u8 x.o, .int .u64 x.q, .int .u64 x.t, .string x.r, .slice A n c, .int .u8 x.s, .int .u8 x.p, .int .i64 x.v, .int .u8 x.w, .int .u8 x.ga, .int .u64 x.gf, .int .u64 x.gt] 47)).heap.size) (by simp))
 have Hx := Lib.hid hx
 have Hs := Lib.hid hs
 have Hn := Lib.hid hn
 clear hba hr hx hs hn
 go_enter Tryz.func68, Tryz.ntmps68
 go_wp2_with fail
 refine (encode_any x A n c Hx.out Hs.out Hn.out hm _ hl Hr.out).mono ?_
 rintro e w1 ⟨v1, rfl, ho, hb⟩
 obtain ⟨A1, c1, rfl⟩ := ownB_slice ho
 have Hb := Lib.hid (Hba.out.trans (hb.mono (by simp)))
 clear ho hb
 go_wp2
 go_ret
 exact ⟨rfl, Hb.out⟩
def spO (x : It) : Nat := if x.g then x.ga else x.o
def spF (x : It) : Nat := if x.g then x.gf else x.q
def spT (x : It) : Nat := if x.g then x.gt else x.q
set_option maxRecDepth 100000 in
set_option maxHeartbeats 1000000 in
theorem span_any (x : It) (A : Option Addr) (n c : Nat) (w : World) :
  Calls Tryz.prog 109 #[.agg #[.bool x.g, .int .u8 x.o, .int .u64 x.q, .int .u64 x.t, .string x.r, .slice A n c, .int .u8 x.s, .int .u8 x.p, .int .i64 x.v, .int .u8 x.w, .int .u8 x.ga, .int .u64 x.gf, .int .u64 x.gt]] w fun e w' => e = .returned (.tuple #[.int .u8 (spO x), .int .u64 (spF x), .int .u64 (spT x)]) ∧ Below w.heap.size w w' := by
 have hba : Below w.heap.size w (w.alloc (.cells #[.bool x.g, .int .u8 x.o, .int .u64 x.q, .int .u64 x.t, .string x.r, .slice A n c, .int .u8 x.s, .int .u8 x.p, .int .i64 x.v, .int .u8 x.w, .int .u8 x.ga, .int .u64 x.gf, .int .u64 x.gt] 47)) := (Below.refl _ _).alloc (Nat.le_refl _) _
 obtain ⟨g, hg⟩ : ∃ g, x.g = g := ⟨_, rfl⟩
 have h1 : spO x = if g then x.ga else x.o := by unfold spO; rw [hg]
 have h2 : spF x = if g then x.gf else x.q := by unfold spF; rw [hg]
 have h3 : spT x = if g then x.gt else x.q := by unfold spT; rw [hg]
 rw [hg] at hba ⊢
 have H1 := Lib.hid h1
 have H2 := Lib.hid h2
 have H3 := Lib.hid h3
 clear h1 h2 h3 hg
 cases g
 ·go_enter Tryz.func109, Tryz.ntmps109
  go_wp2
  go_quiet (fail)
  go_wp2
  refine bodyPost_ret (v := .tuple #[.int .u8 x.o, .int .u64 x.q, .int .u64 x.q]) (by simp [results, Tryz.results109, go_sem]) rfl ⟨by rw [H1.out, H2.out, H3.out]; rfl, cbelow_drewN hba _⟩
 ·go_enter Tryz.func109, Tryz.ntmps109
  go_wp2
  go_quiet (fail)
  go_wp2
  refine bodyPost_ret (v := .tuple #[.int .u8 x.ga, .int .u64 x.gf, .int .u64 x.gt]) (by simp [results, Tryz.results109, go_sem]) rfl ⟨by rw [H1.out, H2.out, H3.out]; rfl, cbelow_drewN hba _⟩
def lastB (x : It) : Bool := x.g || decide (0 < x.w)
set_option maxRecDepth 100000 in
set_option maxHeartbeats 1000000 in
theorem lasts_any (x : It) (A : Option Addr) (n c : Nat) (w : World) :
  Calls Tryz.prog 157 #[.agg #[.bool x.g, .int .u8 x.o, .int .u64 x.q, .int .u64 x.t, .string x.r, .slice A n c, .int .u8 x.s, .int .u8 x.p, .int .i64 x.v, .int .u8 x.w, .int .u8 x.ga, .int .u64 x.gf, .int .u64 x.gt]] w fun e w' => e = .returned (.bool (lastB x)) ∧ Below w.heap.size w w' := by
 have hba : Below w.heap.size w (w.alloc (.cells #[.bool x.g, .int .u8 x.o, .int .u64 x.q, .int .u64 x.t, .string x.r, .slice A n c, .int .u8 x.s, .int .u8 x.p, .int .i64 x.v, .int .u8 x.w, .int .u8 x.ga, .int .u64 x.gf, .int .u64 x.gt] 47)) := (Below.refl _ _).alloc (Nat.le_refl _) _
 obtain ⟨g, hg⟩ : ∃ g, x.g = g := ⟨_, rfl⟩
 unfold lastB
 rw [hg] at hba ⊢
 cases g
 ·obtain ⟨b, hb⟩ : ∃ b, ((x.w : Int) != 0) = b := ⟨_, rfl⟩
  have hb2 : (!((x.w : Int) == 0)) = b := hb
  have h2 : Hid (b = decide (0 < x.w)) := by
   show b = _
   rw [← hb, Bool.eq_iff_iff, bne_iff_ne, decide_eq_true_iff]
   omega
  have Hb := Lib.hid hb
  clear hb
  go_enter Tryz.func157, Tryz.ntmps157
  go_wp2
  go_ret
  exact ⟨by rw [← h2.out, ← Hb.out]; rfl, hba⟩
 ·go_enter Tryz.func157, Tryz.ntmps157
  go_wp2
  go_ret
  exact ⟨by simp, hba⟩
theorem own_below {w w' : World} {base : Nat} {e : TypeId} {size n : Nat} {v : Value} {xs : List Value} (h : w.ownsRow base e size v n xs) (hb : Below w.heap.size w w') : w'.ownsRow base e size v n xs :=
 h.kept (row := none) ⟨hb.os, hb.tape, hb.output, hb.size, fun k hk _ => hb.block k hk⟩ (by
  rcases h.2 with ⟨rfl, _⟩ | ⟨g, cap, cur, rfl, _⟩
  ·exact Or.inl rfl
  ·exact Or.inr (by simp [Value.ownBlock]))
theorem own_slice {W : World} {base : Nat} {e : TypeId} {size n : Nat} {v : Value} {xs : List Value} (h : W.ownsRow base e size v n xs) : ∃ A c, v = .slice A n c := by
 rcases h.2 with ⟨rfl, rfl⟩ | ⟨g, cap, cur, rfl, _⟩
 ·exact ⟨none, 0, rfl⟩
 ·exact ⟨_, _, rfl⟩
theorem src_of_rd {w : World} {B : Nat} {A : Option Addr} {l : List Pr} {n : Nat} (h : RdP w B A l) (hn : n = l.length) : Src w A n 2 (cellsP l) := by
 subst hn
 refine ⟨cellsP_length l, fun h0 => ?_⟩
 obtain ⟨b, o, e, _, hc⟩ := h h0
 refine ⟨_, e, fun j u hj => ?_⟩
 have hjl : j < l.length * 2 := by
  have := (List.getElem?_eq_some_iff.1 hj).1
  rwa [cellsP_length] at this
 have hp : l[j / 2]? = some (l[j / 2]'(by omega)) := List.getElem?_eq_getElem (by omega)
 obtain ⟨c0, c1⟩ := cellsP_get l (j / 2) _ hp
 obtain ⟨d0, d1⟩ := hc _ _ hp
 rw [Addr.add_lit]
 rcases Nat.mod_two_eq_zero_or_one j with hm2 | hm2
 ·rw [show j / 2 * 2 = j from by omega] at c0 d0
  rw [d0, ← c0, hj]
 ·rw [show j / 2 * 2 + 1 = j from by omega] at c1
  rw [show o + j / 2 * 2 + 1 = o + j from by omega] at d1
  rw [d1, ← c1, hj]
theorem Tryz.infoP : (Tryz.prog.info? 37).map (fun i => (i.zero, i.size, i.bytes)) = some (some (.agg #[.string ⟨#[]⟩, .string ⟨#[]⟩]), 2, 32) := by kernel_rfl
set_option maxRecDepth 100000 in
set_option maxHeartbeats 400000 in
theorem clone_any (A : Option Addr) (n c : Nat) (l : List Pr) (w : World) (hn : n = l.length) (hA : A = none → n = 0) (hm : n * 32 ≤ 140737488351232) (hr : RdP w w.heap.size A l) :
  Calls Tryz.prog 40 #[.slice A n c] w fun e w' => ∃ v, e = .returned v ∧ w'.ownsRow w.heap.size 37 2 v n (cellsP l) ∧ Below w.heap.size w w' := by
 obtain ⟨i0, hi, hz0, hz1, hz2⟩ := info_parts Tryz.infoP
 have q22 : ∀ (w : World) (a : Option Addr) (n c n' c' : Nat), (binOp .eql 38 (.slice a n c) (.slice none n' c')).run Tryz.prog w = .ok (.bool a.isNone) w := fun w a n c n' c' => Lib.run_eql_slice_nil w _ _ a n c n' c' Tryz.underlying38
 cases A with
 | none =>
   obtain rfl := hA rfl
   obtain rfl : l = [] := List.eq_nil_of_length_eq_zero hn.symm
   clear hm hn hA hr
   go_enter Tryz.func40, Tryz.ntmps40
   go_wp2
   go_ret
   exact ⟨_, rfl, World.ownsRow_nil _ _ _ _, Below.refl _ _⟩
 | some a =>
   have hs1 : Src (w.alloc (.cells #[] 37)) (some a) n 2 (cellsP l) := src_of_rd (hr.below ((Below.refl _ w).alloc (Nat.le_refl _) _)) hn
   have HS := Lib.hid hs1
   have Hm := Lib.hid hm
   clear hs1 hr hA hn hm
   go_enter Tryz.func40, Tryz.ntmps40
   go_wp2_with (at_builtin; refine wpList_append_src (base := w.heap.size) rfl _ _ rfl Tryz.underlying38 hi hz0 hz1 hz2 rfl (by decide) rfl (World.ownsRow_made _ #[] 0 (Nat.le_refl _) (Nat.zero_le _) rfl) rfl HS.out (cellsP_one _) (by have := Hm.out; unfold maxLen; omega) (by have := Hm.out; omega) (by simp) ?_; intro v1 w1 hr1 hg1 hb1; replace hb1 : Below w.heap.size w w1 := ((Below.refl _ w).alloc (Nat.le_refl _) _).grown hg1 (by simp) (fun q hq => by cases hq; exact Nat.le_refl _); replace hr1 := Lib.hid hr1; clear hg1)
   go_ret
   have h := hr1.out
   rw [Nat.zero_add, List.nil_append] at h
   exact ⟨_, rfl, h, hb1⟩
theorem own_setRow {W : World} {base : Nat} {e : TypeId} {size n g : Nat} {v : Value} {xs : List Value} (h : W.ownsRow base e size v n xs) (hg : g < base) (cs : Array Value) : (W.setRow g cs).ownsRow base e size v n xs := by
 refine ⟨h.1, ?_⟩
 rcases h.2 with hn | ⟨k, cap, cur, rfl, hb, hgg, rest⟩
 ·exact .inl hn
 ·exact .inr ⟨k, cap, cur, rfl, hb, (setRow_other W g k cs (by omega)).trans hgg, rest⟩
theorem Tryz.infoI : (Tryz.prog.info? 47).map (·.size) = some 13 := by kernel_rfl
set_option maxRecDepth 100000 in
set_option maxHeartbeats 1000000 in
theorem of_any (o q t : Int) (r : ByteArray) (A : Option Addr) (n c : Nat) (l : List Pr) (st p v ow : Int) (w : World) (hn : n = l.length) (hA : A = none → n = 0) (hm : n * 32 ≤ 140737488351232) (hr : RdP w w.heap.size A l) :
  Calls Tryz.prog 12 #[.agg #[.int .u8 o, .int .u64 q, .int .u64 t, .string r, .slice A n c, .int .u8 st, .int .u8 p, .int .i64 v, .int .u8 ow]] w fun e w' => ∃ L, e = .returned (.agg #[.bool false, .int .u8 o, .int .u64 q, .int .u64 t, .string r, L, .int .u8 st, .int .u8 p, .int .i64 v, .int .u8 ow, .int .u8 0, .int .u64 0, .int .u64 0]) ∧ w'.ownsRow w.heap.size 37 2 L n (cellsP l) ∧ Below w.heap.size w w' := by
 obtain ⟨W, hW⟩ : ∃ W, W = ((w.alloc (.cells #[.int .u8 o, .int .u64 q, .int .u64 t, .string r, .slice A n c, .int .u8 st, .int .u8 p, .int .i64 v, .int .u8 ow] 41)).alloc (.cells #[.bool false, .int .u8 0, .int .u64 0, .int .u64 0, .string ⟨#[]⟩, .slice none 0 0, .int .u8 0, .int .u8 0, .int .i64 0, .int .u8 0, .int .u8 0, .int .u64 0, .int .u64 0] 47)) := ⟨_, rfl⟩
 have hb : Below w.heap.size w W := by rw [hW]; exact ((Below.refl _ _).alloc (Nat.le_refl _) _).alloc (by simp) _
 have hz : W.heap.size = w.heap.size + 2 := by rw [hW]; simp
 have h0 : W.heap[w.heap.size]? = some (.cells #[.int .u8 o, .int .u64 q, .int .u64 t, .string r, .slice A n c, .int .u8 st, .int .u8 p, .int .i64 v, .int .u8 ow] 41 (0, 0)) := by rw [hW]; exact heap_alloc2_old _ _ _
 have h1 : W.heap[w.heap.size + 1]? = some (.cells #[.bool false, .int .u8 0, .int .u64 0, .int .u64 0, .string ⟨#[]⟩, .slice none 0 0, .int .u8 0, .int .u8 0, .int .i64 0, .int .u8 0, .int .u8 0, .int .u64 0, .int .u64 0] 47 (0, 0)) := by rw [hW]; exact heap_alloc2_new _ _ _
 have hc := clone_any A n c l W hn hA hm ((hr.below hb).more (by omega))
 have c4 : W.cell? ⟨w.heap.size, 4, none⟩ = some (.slice A n c) := cell_of_row _ _ 4 _ _ _ h0
 have HC := Lib.hid hc
 have HB := Lib.hid hb
 have HZ := Lib.hid hz
 have H0 := Lib.hid h0
 have H1 := Lib.hid h1
 have HW := Lib.hid hW
 clear hn hA hr hb hz h0 h1 hc hW
 go_enter Tryz.func12, Tryz.ntmps12
 go_upto_region 1 with fail
 rw [← HW.out]
 go_wp2_with fail
 refine HC.out.mono ?_
 rintro e w1 ⟨L, rfl, ho, hb⟩
 obtain ⟨A2, c2, rfl⟩ := own_slice ho
 have hz := HZ.out
 have g0 := (hb.block w.heap.size (by omega)).trans H0.out
 have g1 := (hb.block (w.heap.size + 1) (by omega)).trans H1.out
 have hs := hb.size
 have G1 := Lib.hid ((heap_setCell_other w1 ⟨w.heap.size, 4, none⟩ (w.heap.size + 1) (.slice A2 n c2) (by simp)).trans g1)
 have G0 := Lib.hid (heap_setCell_same w1 w.heap.size 4 _ _ (.slice A2 n c2) g0)
 have d4 := cell_of_row _ _ 4 _ _ _ g0
 have f4 := frozen_of_row _ _ 4 _ _ g0
 simp at d4
 have HO := Lib.hid ho
 have HB1 := Lib.hid (HB.out.trans (hb.mono (by omega)))
 clear g0 g1 ho hb c4 hz hs
 go_wp2_with (first
  | (refine wpList_load_row rfl _ _ rfl w.heap.size rfl _ _ _ _ G0.out Tryz.underlying41 rfl (by kernel_rfl) ?_)
  | (refine wpList_store_row rfl _ _ _ rfl (w.heap.size + 1) _ rfl rfl _ _ G1.out Tryz.infoI rfl (by simp [Value.oneCell']) ?_))
 refine bodyPost_ret (v := .agg #[.bool false, .int .u8 o, .int .u64 q, .int .u64 t, .string r, .slice A2 n c2, .int .u8 st, .int .u8 p, .int .i64 v, .int .u8 ow, .int .u8 0, .int .u64 0, .int .u64 0]) ?_ rfl ⟨_, rfl, ?_, ?_⟩
 ·exact results_cell_row rfl _ _ (w.heap.size + 1) _ _ _ _ rfl (setRow_heap _ _ _ _ _ _ G1.out) Tryz.underlying47 rfl (by kernel_rfl)
 ·exact ownB_mono (own_setRow (ownsRow_setCell_below HO.out (by have := HZ.out; simp; omega) _) (by have := HZ.out; omega) _) (by have := HZ.out; omega)
 ·exact below_setRow (HB1.out.setCell (p := ⟨w.heap.size, 4, none⟩) (Nat.le_refl _) _) (by omega) _
structure Sm where
 g : Bool
 o : Nat
 p : Nat
 w : Nat
 q : Nat
 m : Nat
 t : Nat
 r : Nat
 l : Nat
 v : Nat
 s : Bool
structure OkS (s : Sm) : Prop where
 o : s.o < 256
 p : s.p < 256
 w : s.w < 256
 q : s.q < 65536
 m : s.m < 65536
 t : s.t < 65536
 r : s.r < 256
 l : s.l < 256
 v : s.v < 256
def ruleS (r : Nat) : ByteArray := match r % 4 with
 | 0 => ⟨#[104, 111, 116]⟩
 | 1 => ⟨#[99, 111, 108, 100]⟩
 | 2 => ⟨#[100, 105, 115, 107, 46, 102, 117, 108, 108]⟩
 | _ => ⟨#[120]⟩
def ownX : ByteArray := ⟨#[111, 119, 110, 46, 120]⟩
def labS (s : Sm) (i : Nat) : Pr := (⟨#[UInt8.ofNat (97 + i)]⟩, ⟨#[UInt8.ofNat (48 + s.l / 4 % 10)]⟩)
def labsS (s : Sm) (k : Nat) : List Pr := (List.range k).map (labS s)
theorem labsS_succ (s : Sm) (k : Nat) : labsS s (k + 1) = labsS s k ++ [labS s k] := by
 simp [labsS, List.range_succ]
theorem labsS_length (s : Sm) (k : Nat) : (labsS s k).length = k := by simp [labsS]
def smallI (s : Sm) : It :=
 if s.g then ⟨true, 0, 0, 0, ⟨#[]⟩, [], 0, 0, 0, 0, s.o % 32, 1 + s.q, 1 + s.q + s.m⟩
 else ⟨false, s.o % 32, 1 + s.q, s.t, if s.w % 8 = 7 then ownX else ruleS s.r, labsS s (s.l % 4), if s.s then 2 else 0, s.p % 8, (s.v : Int) - 100, if s.w % 8 = 7 then 1 + s.w / 8 % 2 else 0, 0, 0, 0⟩
structure SmAt (w : World) (g : Nat) (s : Sm) : Prop where
 lt : g < w.heap.size
 c1 : w.cell? ⟨g, 1, none⟩ = some (.int .u8 s.o)
 c2 : w.cell? ⟨g, 2, none⟩ = some (.int .u8 s.p)
 c3 : w.cell? ⟨g, 3, none⟩ = some (.int .u8 s.w)
 c4 : w.cell? ⟨g, 4, none⟩ = some (.int .u16 s.q)
 c5 : w.cell? ⟨g, 5, none⟩ = some (.int .u16 s.m)
 c6 : w.cell? ⟨g, 6, none⟩ = some (.int .u16 s.t)
 c7 : w.cell? ⟨g, 7, none⟩ = some (.int .u8 s.r)
 c8 : w.cell? ⟨g, 8, none⟩ = some (.int .u8 s.l)
 c9 : w.cell? ⟨g, 9, none⟩ = some (.int .u8 s.v)
 c10 : w.cell? ⟨g, 10, none⟩ = some (.bool s.s)
theorem SmAt.keep {w w1 : World} {g : Nat} {s : Sm} (h : SmAt w g s) (hs : w.heap.size ≤ w1.heap.size) (hk : w1.heap[g]? = w.heap[g]?) : SmAt w1 g s := by
 have k : ∀ o, w1.cell? ⟨g, o, none⟩ = w.cell? ⟨g, o, none⟩ := fun o => World.cell?_of_block hk
 exact ⟨Nat.lt_of_lt_of_le h.lt hs, (k 1).trans h.c1, (k 2).trans h.c2, (k 3).trans h.c3, (k 4).trans h.c4, (k 5).trans h.c5, (k 6).trans h.c6, (k 7).trans h.c7, (k 8).trans h.c8, (k 9).trans h.c9, (k 10).trans h.c10⟩
def zeroV : Array Value := #[.bool false, .int .u8 0, .int .u64 0, .int .u64 0, .string ⟨#[]⟩, .slice none 0 0, .int .u8 0, .int .u8 0, .int .i64 0, .int .u8 0, .int .u8 0, .int .u64 0, .int .u64 0]
structure SmSt (w0 w : World) (s : Sm) (E : Nat) (cs : Array Value) (tE tR : TypeId) : Prop where
 bl : Below w0.heap.size w0 w
 sm : SmAt w w0.heap.size s
 re : w.heap[w0.heap.size + 1]? = some (.cells zeroV tR (0, 0))
 ev : w.heap[E]? = some (.cells cs tE (0, 0))
 lo : w0.heap.size + 2 ≤ E
theorem SmSt.lt {w0 w : World} {s : Sm} {E : Nat} {cs : Array Value} {tE tR : TypeId} (h : SmSt w0 w s E cs tE tR) : E < w.heap.size := (Array.getElem?_eq_some_iff.1 h.ev).1
theorem SmSt.set {w0 w : World} {s : Sm} {E : Nat} {cs : Array Value} {tE tR : TypeId} (h : SmSt w0 w s E cs tE tR) (j : Nat) (v : Value) : SmSt w0 (w.setCell ⟨E, j, none⟩ v) s E (cs.setIfInBounds j v) tE tR := by
 have hl := h.lo
 exact ⟨h.bl.setCell (p := ⟨E, j, none⟩) (by simp; omega) v, h.sm.keep (by simp) (heap_setCell_other _ _ _ _ (by simp; omega)), (heap_setCell_other _ _ _ _ (by simp; omega)).trans h.re, heap_setCell_same _ _ _ _ _ _ h.ev, h.lo⟩
theorem SmSt.grown {w0 w w1 : World} {s : Sm} {E : Nat} {cs : Array Value} {tE tR : TypeId} {r : Option Nat} (h : SmSt w0 w s E cs tE tR) (hg : w.grownBy w1 r) (hr : ∀ k, r = some k → E < k) : SmSt w0 w1 s E cs tE tR := by
 have hl := h.lo
 have hlt := h.lt
 have hne : ∀ j, j ≤ E → some j ≠ r := fun j hj e => by have := hr j e.symm; omega
 exact ⟨h.bl.grown hg (by omega) (fun k hk => by have := hr k hk; omega), h.sm.keep hg.size (hg.block _ (by omega) (hne _ (by omega))), (hg.block _ (by omega) (hne _ (by omega))).trans h.re, (hg.block _ (by omega) (hne _ (by omega))).trans h.ev, h.lo⟩
theorem SmSt.below {w0 w w1 : World} {s : Sm} {E : Nat} {cs : Array Value} {tE tR : TypeId} (h : SmSt w0 w s E cs tE tR) (hb : Below w.heap.size w w1) : SmSt w0 w1 s E cs tE tR :=
 h.grown (r := none) ⟨hb.os, hb.tape, hb.output, hb.size, fun k hk _ => hb.block k hk⟩ (fun k e => by cases e)
def namesV : Array Value := #[.string ⟨#[104, 111, 116]⟩, .string ⟨#[99, 111, 108, 100]⟩, .string ⟨#[100, 105, 115, 107, 46, 102, 117, 108, 108]⟩, .string ⟨#[120]⟩]
theorem names_at (r : Nat) : namesV[r % 4]? = some (.string (ruleS r)) := by
 have h : ∀ k, k < 4 → namesV[k]? = some (.string (match k with | 0 => (⟨#[104, 111, 116]⟩ : ByteArray) | 1 => ⟨#[99, 111, 108, 100]⟩ | 2 => ⟨#[100, 105, 115, 107, 46, 102, 117, 108, 108]⟩ | _ => ⟨#[120]⟩)) := fun k hk => by
  match k, hk with
  | 0, _ => rfl
  | 1, _ => rfl
  | 2, _ => rfl
  | 3, _ => rfl
 have h2 := h (r % 4) (by omega)
 rw [h2]
 unfold ruleS
 match r % 4 with
 | 0 => rfl
 | 1 => rfl
 | 2 => rfl
 | _ + 3 => rfl
theorem names_cell {w : World} {b : Nat} {t : TypeId} (h : w.heap[b]? = some (.cells namesV t (0, 0))) (r : Nat) : w.cell? ⟨b, r % 4, none⟩ = some (.string (ruleS r)) := (cell_of_row _ _ _ _ _ _ h).trans (names_at r)
theorem old_two (W : World) (A B : Obj) {i : Nat} (h : i < W.heap.size) : ((W.alloc A).alloc B).heap[i]? = W.heap[i]? := by
 have h2 : i < (W.alloc A).heap.size := by simp; omega
 exact (heap_alloc_old (W.alloc A) B h2).trans (heap_alloc_old W A h)
theorem SmSt.start {w0 W : World} {R : Obj} {E : Nat} {W2 : World} {s : Sm} {cs : Array Value} {tE tR : TypeId} (h1 : Below w0.heap.size w0 W) (h2 : SmAt W w0.heap.size s) (h3 : W.heap[w0.heap.size + 1]? = some (.cells zeroV tR (0, 0))) (h4 : W.heap.size = w0.heap.size + 2)
  (h : (W2 = (W.alloc R).alloc (.cells cs tE) ∧ E = W.heap.size + 1) ∨ (W2 = (W.alloc (.cells cs tE)).alloc R ∧ E = W.heap.size)) : SmSt w0 W2 s E cs tE tR := by
 rcases h with ⟨rfl, rfl⟩ | ⟨rfl, rfl⟩
 ·exact ⟨(h1.alloc h1.size _).alloc (by simp; omega) _, h2.keep (by simp; omega) (old_two _ _ _ (by omega)), (old_two _ _ _ (by omega)).trans h3, heap_alloc2_new _ _ _, by omega⟩
 ·exact ⟨(h1.alloc h1.size _).alloc (by simp; omega) _, h2.keep (by simp; omega) (old_two _ _ _ (by omega)), (old_two _ _ _ (by omega)).trans h3, heap_alloc2_old _ _ _, by omega⟩
theorem ruleS_size (r : Nat) : (ruleS r).size ≤ 100 := by
 unfold ruleS
 split <;> decide
theorem rdB_one (w : World) (t : TypeId) (x : Int) (k : Nat) (h : x = k) : RdB (w.alloc (.cells #[.int .u8 x] t)) (w.heap.size + 1) (some ⟨w.heap.size, 0, none⟩) [k] := fun _ => by
 subst h
 refine ⟨w.heap.size, 0, rfl, Nat.lt_succ_self _, fun i y hi => ?_⟩
 match i, hi with
 | 0, hi =>
   obtain rfl : k = y := by simpa using hi
   rw [World.cell?_alloc_at _ _ _ _ rfl]; rfl
theorem src_pair {w : World} {g : Nat} {p : Pr} {t : TypeId} (h : w.heap[g]? = some (.cells #[.string p.1, .string p.2] t (0, 0))) : Src w (some ⟨g, 0, none⟩) 1 2 (cellsP [p]) :=
 ⟨rfl, fun _ => ⟨_, rfl, fun j u hj => by
  rw [Addr.add_lit, Nat.zero_add, cell_of_row _ _ j _ _ _ h]
  match j, hj with
  | 0, hj => exact hj
  | 1, hj => exact hj
  | i + 2, hj => simp [cellsP, encP] at hj⟩⟩
end Go.Proofs.YtholdcgkhicdmaaGreatDoor
namespace Go.Proofs.YtholdcgkhicdmaaGreatDoor
section
variable {P : Program} {md : Region.Mode} {ops : Array Oper} {Q : Exit → Act → World → Prop} {S : World → Prop}
theorem heldTake {i : Nat} {oi : Oper} {v : Value} {fuel : Nat} {listed : Array Bool} {a : Act} {w : World} (hi : ops.toList[i]? = some oi)
  (hs : Region.noSelect ops = true) (hf : Region.free md ops listed i = true) (hr : (Region.ready md ops listed).contains i = true)
  (hQ : ∀ c a w, Q (.panic c) (a.put oi.dst v) w → Q (.panic c) a w) (hy : YieldsIf P ops S oi v a) (hS : S w)
  (h : wpAnyH P md ops Q S fuel (listed.setIfInBounds i true) (a.put oi.dst v) w) : wpAnyH P md ops Q S (fuel + 1) listed a w :=
 wpAnyH_take (by rw [← Array.getElem?_toList]; exact hi) hs hf hr hQ hy hS h
theorem hT (i : Nat) {oi : Oper} {v : Value} {fuel : Nat} {listed : Array Bool} {a : Act} {w : World} (hi : ops.toList[i]? = some oi) (hy : YieldsIf P ops S oi v a)
  (h : wpAnyH P md ops Q S fuel (listed.setIfInBounds i true) (a.put oi.dst v) w) (hs : Region.noSelect ops = true := by kernel_rfl) (hf : Region.free md ops listed i = true := by kernel_rfl) (hr : (Region.ready md ops listed).contains i = true := by kernel_rfl)
  (hQ : ∀ c a w, Q (.panic c) (a.put oi.dst v) w → Q (.panic c) a w := by exact fun _ _ _ h => h) (hS : S w := by assumption) : wpAnyH P md ops Q S (fuel + 1) listed a w :=
  heldTake hi hs hf hr hQ hy hS h
theorem heldOne {i : Nat} {o : Oper} {fuel : Nat} {listed : Array Bool} {a : Act} {w : World} (ho : ops.toList[i]? = some o) (hr : Region.ready md ops listed = [i])
  (h : ∀ K' : Act → World → Prop, Shut (∀ a w, S w → (S w → wpAnyH P md ops Q S fuel (listed.setIfInBounds i true) a w) → K' a w) → if Region.wanted o (yielded ops a.tmps) = true then Oper.wp P o a w K' Q else K' (a.put o.dst undef) w) :
  wpAnyH P md ops Q S (fuel + 1) listed a w :=
 wpAnyH_ready hr (by simp) (AllReadyH.cons (by rw [← Array.getElem?_toList]; exact ho) h AllReadyH.nil)
theorem heldTwo {i j : Nat} {o o' : Oper} {fuel : Nat} {listed : Array Bool} {a : Act} {w : World} (ho : ops.toList[i]? = some o) (ho' : ops.toList[j]? = some o') (hr : Region.ready md ops listed = [i, j])
  (h : ∀ K' : Act → World → Prop, Shut (∀ a w, S w → (S w → wpAnyH P md ops Q S fuel (listed.setIfInBounds i true) a w) → K' a w) → if Region.wanted o (yielded ops a.tmps) = true then Oper.wp P o a w K' Q else K' (a.put o.dst undef) w)
  (h' : ∀ K' : Act → World → Prop, Shut (∀ a w, S w → (S w → wpAnyH P md ops Q S fuel (listed.setIfInBounds j true) a w) → K' a w) → if Region.wanted o' (yielded ops a.tmps) = true then Oper.wp P o' a w K' Q else K' (a.put o'.dst undef) w) :
  wpAnyH P md ops Q S (fuel + 1) listed a w :=
 wpAnyH_ready hr (by simp) (AllReadyH.cons (by rw [← Array.getElem?_toList]; exact ho) h (AllReadyH.cons (by rw [← Array.getElem?_toList]; exact ho') h' AllReadyH.nil))
theorem heldMore {S2 : World → Prop} (himp : ∀ w, S2 w → S w) : ∀ {fuel : Nat} {listed : Array Bool} {a : Act} {w : World}, wpAnyH P md ops Q S2 fuel listed a w → wpAnyH P md ops Q S fuel listed a w
 | 0, _, _, _, h => h
 | _ + 1, _, _, _, h => ⟨h.1, fun i hi => wpOp_mono (fun _ _ h' => ⟨himp _ h'.1, heldMore himp h'.2⟩) (h.2 i hi)⟩
theorem heldPut (l : List Value) (ds : List Deferred) (d : Nat) (v : Value) : Act.put { tmps := l.toArray, defers := ds } (some d) v = { tmps := (l.set d v).toArray, defers := ds } := by
 simp [Act.put]
end
end Go.Proofs.YtholdcgkhicdmaaGreatDoor