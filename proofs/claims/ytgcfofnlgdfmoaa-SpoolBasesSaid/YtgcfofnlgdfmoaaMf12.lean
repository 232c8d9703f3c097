/- Several texts in one: ItEnc, ItSpan, ItClone. -/
import Derived.BigQuiet
import Derived.Test.YtgcfofnlgdfmoaaMf4
import Derived.Test.YtgcfofnlgdfmoaaMf5
import Derived.Test.YtgcfofnlgdfmoaaMf9
import Derived.Test.YtgcfofnlgdfmoaaMf11
/- Layer 4: item.Put, item.Encode, item.Size; the fixed fact that each statement begins with. -/
namespace Go.Proofs.Ytgcfofnlgdfmoaa
open Go.RowKit

set_option maxRecDepth 100000 in
set_option maxHeartbeats 1000000 in
theorem iput_any (g : Nat) (v : Value) (l : List Nat) (x : It) (A : Option Addr) (n c : Nat) (hx : OkI x) (hs : ShortI x) (hn : n = x.l.length) (hm : n ≤ 1048576) (w : World) (h : Wtr w g v l) (hl : l.length + (itemB x).length ≤ 1999000) (hr : LabAt w g v.ownBlock A x.l) :
    Calls Try.prog 103 #[.pointer (some ⟨g, 0, none⟩), .agg #[.bool x.g, .int .u8 x.o, .int .u64 x.q, .int .u64 x.t, .string x.r, .slice A n c, .int .u8 x.s, .int .u8 x.p, .int .i64 x.v, .int .u8 x.w, .int .u8 x.ga, .int .u64 x.gf, .int .u64 x.gt]] w fun e w' => e = .returned (.tuple #[]) ∧ Puts w w' g v (l ++ itemB x) := by
  have hgl := h.lt
  have H := Lib.hid h
  have Hr := Lib.hid hr
  have Hn := Lib.hid hn
  have Hx := Lib.hid hx
  have Hs := Lib.hid hs
  have hbr : Hid (some w.heap.size ≠ v.ownBlock) := fun e => by have := h.row_lt e.symm; omega
  clear h hr hn hx hs
  obtain ⟨b, hb⟩ : ∃ b, x.g = b := ⟨_, rfl⟩
  have hB : itemB x = if b then 1 :: gapB x else 0 :: evB x := by unfold itemB; rw [hb]
  rw [hB] at hl ⊢
  rw [hb]
  clear hb hB
  cases b with
  | true =>
    have hll : l.length ≤ 1999000 := by omega
    clear hl
    have hba : Below w.heap.size w (w.alloc (.cells #[.bool true, .int .u8 x.o, .int .u64 x.q, .int .u64 x.t, .string x.r, .slice A n c, .int .u8 x.s, .int .u8 x.p, .int .i64 x.v, .int .u8 x.w, .int .u8 x.ga, .int .u64 x.gf, .int .u64 x.gt] 60)) := (Below.refl _ _).alloc (Nat.le_refl _) _
    have H0 := Lib.hid (H.out.below hba)
    have R0 := Lib.hid (Wrote.of_below hba g v.ownBlock)
    have F : Hid (∀ W v2, Wrote (w.alloc (.cells #[.bool true, .int .u8 x.o, .int .u64 x.q, .int .u64 x.t, .string x.r, .slice A n c, .int .u8 x.s, .int .u8 x.p, .int .i64 x.v, .int .u8 x.w, .int .u8 x.ga, .int .u64 x.gf, .int .u64 x.gt] 60)) W g v.ownBlock v2 → W.cell? ⟨w.heap.size, 0, none⟩ = some (.bool true) ∧ W.cell? ⟨w.heap.size, 10, none⟩ = some (.int .u8 x.ga) ∧ W.cell? ⟨w.heap.size, 11, none⟩ = some (.int .u64 x.gf) ∧ W.cell? ⟨w.heap.size, 12, none⟩ = some (.int .u64 x.gt)) := fun W v2 hW =>
      ⟨(hW.cell (p := ⟨w.heap.size, 0, none⟩) (by simp) (by simp; omega) hbr.out).trans (by rw [World.cell?_alloc_at _ _ _ _ rfl]; rfl), (hW.cell (p := ⟨w.heap.size, 10, none⟩) (by simp) (by simp; omega) hbr.out).trans (by rw [World.cell?_alloc_at _ _ _ _ rfl]; rfl), (hW.cell (p := ⟨w.heap.size, 11, none⟩) (by simp) (by simp; omega) hbr.out).trans (by rw [World.cell?_alloc_at _ _ _ _ rfl]; rfl), (hW.cell (p := ⟨w.heap.size, 12, none⟩) (by simp) (by simp; omega) hbr.out).trans (by rw [World.cell?_alloc_at _ _ _ _ rfl]; rfl)⟩
    clear hba
    go_enter Try.func103, Try.ntmps103
    go_wp2_with fail
    refine (wbool_any g v l true _ H0.out (by omega)).mono ?_
    rintro e w1 ⟨rfl, v1, h1, r1⟩
    obtain ⟨c0, c1, c2, c3⟩ := F.out _ _ r1
    have H1 := Lib.hid h1
    have R1 := Lib.hid (R0.out.trans r1)
    clear h1 r1
    go_wp2_with fail
    refine (putGap_any g v1 _ x Hx.out _ H1.out (by simp; omega)).mono ?_
    rintro e w2 ⟨rfl, v2, h1, r1⟩
    have H2 := Lib.hid h1
    have R2 := Lib.hid (R1.out.trans r1)
    clear h1 r1 c0 c1 c2 c3
    go_wp2
    refine bodyPost_ret (results_none rfl _ _ _) rfl ?_
    refine ⟨rfl, v2, ?_, R2.out⟩
    have h1 := H2.out
    simpa using h1
  | false =>
    have hll : l.length + (evB x).length ≤ 1998999 := by simp at hl; omega
    clear hl
    have hba : Below w.heap.size w (w.alloc (.cells #[.bool false, .int .u8 x.o, .int .u64 x.q, .int .u64 x.t, .string x.r, .slice A n c, .int .u8 x.s, .int .u8 x.p, .int .i64 x.v, .int .u8 x.w, .int .u8 x.ga, .int .u64 x.gf, .int .u64 x.gt] 60)) := (Below.refl _ _).alloc (Nat.le_refl _) _
    have H0 := Lib.hid (H.out.below hba)
    have R0 := Lib.hid (Wrote.of_below hba g v.ownBlock)
    have HL := Lib.hid (Hr.out.below hba)
    have F : Hid (∀ W v2, Wrote (w.alloc (.cells #[.bool false, .int .u8 x.o, .int .u64 x.q, .int .u64 x.t, .string x.r, .slice A n c, .int .u8 x.s, .int .u8 x.p, .int .i64 x.v, .int .u8 x.w, .int .u8 x.ga, .int .u64 x.gf, .int .u64 x.gt] 60)) W g v.ownBlock v2 → W.cell? ⟨w.heap.size, 0, none⟩ = some (.bool false) ∧ W.cell? ⟨w.heap.size, 1, none⟩ = some (.int .u8 x.o) ∧ W.cell? ⟨w.heap.size, 2, none⟩ = some (.int .u64 x.q) ∧ W.cell? ⟨w.heap.size, 3, none⟩ = some (.int .u64 x.t) ∧ W.cell? ⟨w.heap.size, 4, none⟩ = some (.string x.r) ∧ W.cell? ⟨w.heap.size, 5, none⟩ = some (.slice A n c) ∧ W.cell? ⟨w.heap.size, 6, none⟩ = some (.int .u8 x.s) ∧ W.cell? ⟨w.heap.size, 7, none⟩ = some (.int .u8 x.p) ∧ W.cell? ⟨w.heap.size, 8, none⟩ = some (.int .i64 x.v) ∧ W.cell? ⟨w.heap.size, 9, none⟩ = some (.int .u8 x.w)) := fun W v2 hW => by
      have k : ∀ j u, (w.alloc (.cells #[.bool false, .int .u8 x.o, .int .u64 x.q, .int .u64 x.t, .string x.r, .slice A n c, .int .u8 x.s, .int .u8 x.p, .int .i64 x.v, .int .u8 x.w, .int .u8 x.ga, .int .u64 x.gf, .int .u64 x.gt] 60)).cell? ⟨w.heap.size, j, none⟩ = some u → W.cell? ⟨w.heap.size, j, none⟩ = some u := fun j u hu => (hW.cell (p := ⟨w.heap.size, j, none⟩) (by simp) (by simp; omega) hbr.out).trans hu
      refine ⟨k _ _ ?_, k _ _ ?_, k _ _ ?_, k _ _ ?_, k _ _ ?_, k _ _ ?_, k _ _ ?_, k _ _ ?_, k _ _ ?_, k _ _ ?_⟩ <;> (rw [World.cell?_alloc_at _ _ _ _ rfl]; rfl)
    clear hba
    go_enter Try.func103, Try.ntmps103
    go_wp2_with fail
    refine (wbool_any g v l false _ H0.out (by omega)).mono ?_
    rintro e w1 ⟨rfl, v1, h1, r1⟩
    obtain ⟨c0, c1, c2, c3, c4, c5, c6, c7, c8, c9⟩ := F.out _ _ r1
    have H1 := Lib.hid h1
    have R1 := Lib.hid (R0.out.trans r1)
    have HL1 := Lib.hid (HL.out.wrote r1)
    clear h1 r1
    go_wp2_with fail
    refine (putEvent_any g v1 _ x A n c Hx.out Hs.out Hn.out hm _ H1.out (by simp; omega) HL1.out).mono ?_
    rintro e w2 ⟨rfl, v2, h1, r1⟩
    have H2 := Lib.hid h1
    have R2 := Lib.hid (R1.out.trans r1)
    clear h1 r1 c0 c1 c2 c3 c4 c5 c6 c7 c8 c9
    go_wp2
    go_end0
    refine ⟨rfl, v2, ?_, R2.out⟩
    have h1 := H2.out
    simpa using h1

set_option maxRecDepth 100000 in
set_option maxHeartbeats 1000000 in
theorem encode_any (x : It) (A : Option Addr) (n c : Nat) (hx : OkI x) (hs : ShortI x) (hn : n = x.l.length) (hm : n ≤ 1048576) (w : World) (hl : (itemB x).length ≤ 1999000) (hr : RdP w w.heap.size A x.l) :
    Calls Try.prog 78 #[.agg #[.bool x.g, .int .u8 x.o, .int .u64 x.q, .int .u64 x.t, .string x.r, .slice A n c, .int .u8 x.s, .int .u8 x.p, .int .i64 x.v, .int .u8 x.w, .int .u8 x.ga, .int .u64 x.gf, .int .u64 x.gt]] w fun e w' => ∃ v', e = .returned v' ∧ w'.ownsRow w.heap.size 5 1 v' (itemB x).length (cellsB (itemB x)) ∧ Below w.heap.size w w' := by
  have hba : Below w.heap.size w (w.alloc (.cells #[.bool x.g, .int .u8 x.o, .int .u64 x.q, .int .u64 x.t, .string x.r, .slice A n c, .int .u8 x.s, .int .u8 x.p, .int .i64 x.v, .int .u8 x.w, .int .u8 x.ga, .int .u64 x.gf, .int .u64 x.gt] 60)) := (Below.refl _ _).alloc (Nat.le_refl _) _
  have hb2 : Below w.heap.size w ((w.alloc (.cells #[.bool x.g, .int .u8 x.o, .int .u64 x.q, .int .u64 x.t, .string x.r, .slice A n c, .int .u8 x.s, .int .u8 x.p, .int .i64 x.v, .int .u8 x.w, .int .u8 x.ga, .int .u64 x.gf, .int .u64 x.gt] 60)).alloc (.cells #[.slice none 0 0] 194)) := hba.alloc (by simp) _
  have H0 := Lib.hid (Wtr.new (w.alloc (.cells #[.bool x.g, .int .u8 x.o, .int .u64 x.q, .int .u64 x.t, .string x.r, .slice A n c, .int .u8 x.s, .int .u8 x.p, .int .i64 x.v, .int .u8 x.w, .int .u8 x.ga, .int .u64 x.gf, .int .u64 x.gt] 60)) 194)
  rw [World.size_alloc] at H0
  have HL : Hid (LabAt ((w.alloc (.cells #[.bool x.g, .int .u8 x.o, .int .u64 x.q, .int .u64 x.t, .string x.r, .slice A n c, .int .u8 x.s, .int .u8 x.p, .int .i64 x.v, .int .u8 x.w, .int .u8 x.ga, .int .u64 x.gf, .int .u64 x.gt] 60)).alloc (.cells #[.slice none 0 0] 194)) (w.heap.size + 1) none A x.l) := Lib.hid (LabAt.of_rd (B := w.heap.size) (hr.below hb2) (by simp; omega) (by omega) (fun k h => by cases h))
  have Hb2 := Lib.hid hb2
  clear hba hr hb2
  go_enter Try.func78, Try.ntmps78
  have Hx := Lib.hid hx
  have Hs := Lib.hid hs
  have Hn := Lib.hid hn
  clear hx hs hn
  go_wp2_with fail
  refine (iput_any (w.heap.size + 1) (.slice none 0 0) [] x A n c Hx.out Hs.out Hn.out hm _ H0.out (by simp; omega) HL.out).mono ?_
  rintro e w1 ⟨rfl, v1, h1, r1⟩
  have Hb3 := Lib.hid (Hb2.out.trans (r1.below (B := w.heap.size) (by simp; omega) (by omega) (fun k h => by cases h)))
  have H1 := Lib.hid h1
  clear h1 r1
  go_wp2_with fail
  refine (wbytes_any (w.heap.size + 1) v1 _ w1 H1.out (by simp; omega)).mono ?_
  rintro e w2 ⟨v2, rfl, ho, hb⟩
  have Ho := Lib.hid (ownB_mono ho Hb3.out.size)
  have Hb4 := Lib.hid (Hb3.out.trans (hb.mono Hb3.out.size))
  clear ho hb
  go_wp2
  go_ret
  exact ⟨_, rfl, Ho.out, Hb4.out⟩
theorem encode_at {v0 : Value} (x : It) (A : Option Addr) (n c : Nat) (hv : v0 = .agg #[.bool x.g, .int .u8 x.o, .int .u64 x.q, .int .u64 x.t, .string x.r, .slice A n c, .int .u8 x.s, .int .u8 x.p, .int .i64 x.v, .int .u8 x.w, .int .u8 x.ga, .int .u64 x.gf, .int .u64 x.gt]) (hx : OkI x) (hs : ShortI x) (hn : n = x.l.length) (hm : n ≤ 1048576) (w : World) (hl : (itemB x).length ≤ 1999000) (hr : RdP w w.heap.size A x.l) :
    Calls Try.prog 78 #[v0] w fun e w' => ∃ v', e = .returned v' ∧ w'.ownsRow w.heap.size 5 1 v' (itemB x).length (cellsB (itemB x)) ∧ Below w.heap.size w w' := by
  subst hv; exact encode_any x A n c hx hs hn hm w hl hr

set_option maxRecDepth 100000 in
set_option maxHeartbeats 1000000 in
theorem size_any (x : It) (A : Option Addr) (n c : Nat) (hx : OkI x) (hs : ShortI x) (hn : n = x.l.length) (hm : n ≤ 1048576) (w : World) (hl : (itemB x).length ≤ 1999000) (hr : RdP w w.heap.size A x.l) :
    Calls Try.prog 50 #[.agg #[.bool x.g, .int .u8 x.o, .int .u64 x.q, .int .u64 x.t, .string x.r, .slice A n c, .int .u8 x.s, .int .u8 x.p, .int .i64 x.v, .int .u8 x.w, .int .u8 x.ga, .int .u64 x.gf, .int .u64 x.gt]] w fun e w' => e = .returned (.int .i64 ((itemB x).length : Nat)) ∧ Below w.heap.size w w' := by
  have hba : Below w.heap.size w (w.alloc (.cells #[.bool x.g, .int .u8 x.o, .int .u64 x.q, .int .u64 x.t, .string x.r, .slice A n c, .int .u8 x.s, .int .u8 x.p, .int .i64 x.v, .int .u8 x.w, .int .u8 x.ga, .int .u64 x.gf, .int .u64 x.gt] 60)) := (Below.refl _ _).alloc (Nat.le_refl _) _
  have Hba := Lib.hid hba
  have Hr := Lib.hid ((hr.below hba).more (B' := (w.alloc (.cells #[.bool x.g, .int .u8 x.o, .int .u64 x.q, .int .u64 x.t, .string x.r, .slice A n c, .int .u8 x.s, .int .u8 x.p, .int .i64 x.v, .int .u8 x.w, .int .u8 x.ga, .int .u64 x.gf, .int .u64 x.gt] 60)).heap.size) (by simp))
  have Hx := Lib.hid hx
  have Hs := Lib.hid hs
  have Hn := Lib.hid hn
  clear hba hr hx hs hn
  go_enter Try.func50, Try.ntmps50
  go_wp2_with fail
  refine (encode_any x A n c Hx.out Hs.out Hn.out hm _ hl Hr.out).mono ?_
  rintro e w1 ⟨v1, rfl, ho, hb⟩
  obtain ⟨A1, c1, rfl⟩ := ownB_slice ho
  have Hb := Lib.hid (Hba.out.trans (hb.mono (by simp)))
  clear ho hb
  go_wp2
  go_ret
  exact ⟨rfl, Hb.out⟩

def awakeI : It := ⟨true, 0, 0, 0, ⟨#[]⟩, [], 0, 0, 0, 0, 3, 1, 200⟩
theorem awakeB : itemB awakeI = [1, 3, 1, 200, 1] := by
  have h1 : leb 200 = [200, 1] := by rw [leb_ge (by decide), leb_lt (by decide)]
  have h2 : leb 1 = [1] := leb_lt (by decide)
  show 1 :: ([3] ++ leb 1 ++ leb 200) = _
  rw [h1, h2]; rfl
end Go.Proofs.Ytgcfofnlgdfmoaa
/- Layer 4: item.Span, item.Lasts; the document's Span. -/
namespace Go.Proofs.Ytgcfofnlgdfmoaa
open Go.RowKit

def spO (x : It) : Nat := if x.g then x.ga else x.o
def spF (x : It) : Nat := if x.g then x.gf else x.q
def spT (x : It) : Nat := if x.g then x.gt else x.q

set_option maxRecDepth 100000 in
set_option maxHeartbeats 1000000 in
theorem span_any (x : It) (A : Option Addr) (n c : Nat) (w : World) :
    Calls Try.prog 25 #[.agg #[.bool x.g, .int .u8 x.o, .int .u64 x.q, .int .u64 x.t, .string x.r, .slice A n c, .int .u8 x.s, .int .u8 x.p, .int .i64 x.v, .int .u8 x.w, .int .u8 x.ga, .int .u64 x.gf, .int .u64 x.gt]] w fun e w' => e = .returned (.tuple #[.int .u8 (spO x), .int .u64 (spF x), .int .u64 (spT x)]) ∧ Below w.heap.size w w' := by
  have hba : Below w.heap.size w (w.alloc (.cells #[.bool x.g, .int .u8 x.o, .int .u64 x.q, .int .u64 x.t, .string x.r, .slice A n c, .int .u8 x.s, .int .u8 x.p, .int .i64 x.v, .int .u8 x.w, .int .u8 x.ga, .int .u64 x.gf, .int .u64 x.gt] 60)) := (Below.refl _ _).alloc (Nat.le_refl _) _
  obtain ⟨g, hg⟩ : ∃ g, x.g = g := ⟨_, rfl⟩
  have h1 : spO x = if g then x.ga else x.o := by unfold spO; rw [hg]
  have h2 : spF x = if g then x.gf else x.q := by unfold spF; rw [hg]
  have h3 : spT x = if g then x.gt else x.q := by unfold spT; rw [hg]
  rw [hg] at hba ⊢
  have H1 := Lib.hid h1
  have H2 := Lib.hid h2
  have H3 := Lib.hid h3
  clear h1 h2 h3 hg
  cases g
  · go_enter Try.func25, Try.ntmps25
    go_wp2
    go_quiet (fail)
    go_wp2
    refine bodyPost_ret (v := .tuple #[.int .u8 x.o, .int .u64 x.q, .int .u64 x.q]) (by simp [results, Try.results25, go_sem]) rfl ⟨by rw [H1.out, H2.out, H3.out]; rfl, cbelow_drewN hba _⟩
  · go_enter Try.func25, Try.ntmps25
    go_wp2
    go_quiet (fail)
    go_wp2
    refine bodyPost_ret (v := .tuple #[.int .u8 x.ga, .int .u64 x.gf, .int .u64 x.gt]) (by simp [results, Try.results25, go_sem]) rfl ⟨by rw [H1.out, H2.out, H3.out]; rfl, cbelow_drewN hba _⟩

def lastB (x : It) : Bool := x.g || decide (0 < x.w)
set_option maxRecDepth 100000 in
set_option maxHeartbeats 1000000 in
theorem lasts_any (x : It) (A : Option Addr) (n c : Nat) (w : World) :
    Calls Try.prog 57 #[.agg #[.bool x.g, .int .u8 x.o, .int .u64 x.q, .int .u64 x.t, .string x.r, .slice A n c, .int .u8 x.s, .int .u8 x.p, .int .i64 x.v, .int .u8 x.w, .int .u8 x.ga, .int .u64 x.gf, .int .u64 x.gt]] w fun e w' => e = .returned (.bool (lastB x)) ∧ Below w.heap.size w w' := by
  have hba : Below w.heap.size w (w.alloc (.cells #[.bool x.g, .int .u8 x.o, .int .u64 x.q, .int .u64 x.t, .string x.r, .slice A n c, .int .u8 x.s, .int .u8 x.p, .int .i64 x.v, .int .u8 x.w, .int .u8 x.ga, .int .u64 x.gf, .int .u64 x.gt] 60)) := (Below.refl _ _).alloc (Nat.le_refl _) _
  obtain ⟨g, hg⟩ : ∃ g, x.g = g := ⟨_, rfl⟩
  unfold lastB
  rw [hg] at hba ⊢
  cases g
  · obtain ⟨b, hb⟩ : ∃ b, ((x.w : Int) != 0) = b := ⟨_, rfl⟩
    have hb2 : (!((x.w : Int) == 0)) = b := hb
    have h2 : Hid (b = decide (0 < x.w)) := by
      show b = _
      rw [← hb, Bool.eq_iff_iff, bne_iff_ne, decide_eq_true_iff]
      omega
    have Hb := Lib.hid hb
    clear hb
    go_enter Try.func57, Try.ntmps57
    go_wp2
    go_ret
    exact ⟨by rw [← h2.out, ← Hb.out]; rfl, hba⟩
  · go_enter Try.func57, Try.ntmps57
    go_wp2
    go_ret
    exact ⟨by simp, hba⟩
end Go.Proofs.Ytgcfofnlgdfmoaa
/- Layer 4: item.Clone. -/
namespace Go.Proofs.Ytgcfofnlgdfmoaa
open Go.RowKit

set_option maxRecDepth 100000 in
set_option maxHeartbeats 1000000 in
theorem iclone_any (x : It) (A : Option Addr) (n c : Nat) (w : World) (hn : n = x.l.length) (hA : A = none → n = 0) (hm : n * 32 ≤ 140737488351232) (hr : RdP w w.heap.size A x.l) :
    Calls Try.prog 75 #[.agg #[.bool x.g, .int .u8 x.o, .int .u64 x.q, .int .u64 x.t, .string x.r, .slice A n c, .int .u8 x.s, .int .u8 x.p, .int .i64 x.v, .int .u8 x.w, .int .u8 x.ga, .int .u64 x.gf, .int .u64 x.gt]] w (ItRet x w) := by
  obtain ⟨W, hW⟩ : ∃ W, W = ((w.alloc (.cells #[.bool x.g, .int .u8 x.o, .int .u64 x.q, .int .u64 x.t, .string x.r, .slice A n c, .int .u8 x.s, .int .u8 x.p, .int .i64 x.v, .int .u8 x.w, .int .u8 x.ga, .int .u64 x.gf, .int .u64 x.gt] 60)).alloc (.cells #[.bool false, .int .u8 0, .int .u64 0, .int .u64 0, .string ⟨#[]⟩, .slice none 0 0, .int .u8 0, .int .u8 0, .int .i64 0, .int .u8 0, .int .u8 0, .int .u64 0, .int .u64 0] 60)) := ⟨_, rfl⟩
  have hb : Below w.heap.size w W := by rw [hW]; exact ((Below.refl _ _).alloc (Nat.le_refl _) _).alloc (by simp) _
  have hz : W.heap.size = w.heap.size + 2 := by rw [hW]; simp
  have h0 : W.heap[w.heap.size]? = some (.cells #[.bool x.g, .int .u8 x.o, .int .u64 x.q, .int .u64 x.t, .string x.r, .slice A n c, .int .u8 x.s, .int .u8 x.p, .int .i64 x.v, .int .u8 x.w, .int .u8 x.ga, .int .u64 x.gf, .int .u64 x.gt] 60 (0, 0)) := by rw [hW]; exact heap_alloc2_old _ _ _
  have h1 : W.heap[w.heap.size + 1]? = some (.cells #[.bool false, .int .u8 0, .int .u64 0, .int .u64 0, .string ⟨#[]⟩, .slice none 0 0, .int .u8 0, .int .u8 0, .int .i64 0, .int .u8 0, .int .u8 0, .int .u64 0, .int .u64 0] 60 (0, 0)) := by rw [hW]; exact heap_alloc2_new _ _ _
  have hc := clone_any A n c x.l W hn hA hm ((hr.below hb).more (by omega))
  have c5 : W.cell? ⟨w.heap.size, 5, none⟩ = some (.slice A n c) := cell_of_row _ _ 5 _ _ _ h0
  have HC := Lib.hid hc
  have HB := Lib.hid hb
  have HZ := Lib.hid hz
  have H0 := Lib.hid h0
  have H1 := Lib.hid h1
  have HW := Lib.hid hW
  have HN := Lib.hid hn
  clear hn hA hr hb hz h0 h1 hc hW
  go_enter Try.func75, Try.ntmps75
  go_upto_region 1 with fail
  rw [← HW.out]
  go_wp2_with fail
  refine HC.out.mono ?_
  rintro e w1 ⟨L, rfl, ho, hb⟩
  obtain ⟨A2, c2, rfl⟩ := own_slice ho
  have hz := HZ.out
  have g0 := (hb.block w.heap.size (by omega)).trans H0.out
  have g1 := (hb.block (w.heap.size + 1) (by omega)).trans H1.out
  have hs := hb.size
  have G1 := Lib.hid ((heap_setCell_other w1 ⟨w.heap.size, 5, none⟩ (w.heap.size + 1) (.slice A2 n c2) (by simp)).trans g1)
  have G0 : Hid ((w1.setCell ⟨w.heap.size, 5, none⟩ (.slice A2 n c2)).heap[w.heap.size]? = some (.cells #[.bool x.g, .int .u8 x.o, .int .u64 x.q, .int .u64 x.t, .string x.r, .slice A2 n c2, .int .u8 x.s, .int .u8 x.p, .int .i64 x.v, .int .u8 x.w, .int .u8 x.ga, .int .u64 x.gf, .int .u64 x.gt] 60 (0, 0))) := heap_setCell_same w1 w.heap.size 5 _ _ (.slice A2 n c2) g0
  have d5 := cell_of_row _ _ 5 _ _ _ g0
  have f5 := frozen_of_row _ _ 5 _ _ g0
  simp at d5
  have HO := Lib.hid ho
  have HB1 := Lib.hid (HB.out.trans (hb.mono (by omega)))
  clear g0 g1 ho hb c5 hz hs
  go_wp2_with (first
    | (refine wpList_load_row rfl _ _ rfl w.heap.size rfl _ _ _ _ G0.out Try.underlying60 rfl (by kernel_rfl) ?_)
    | (refine wpList_store_row rfl _ _ _ rfl (w.heap.size + 1) _ rfl rfl _ _ G1.out Try.infoI rfl (by simp [Value.oneCell']) ?_))
  refine bodyPost_ret (v := .agg #[.bool x.g, .int .u8 x.o, .int .u64 x.q, .int .u64 x.t, .string x.r, .slice A2 n c2, .int .u8 x.s, .int .u8 x.p, .int .i64 x.v, .int .u8 x.w, .int .u8 x.ga, .int .u64 x.gf, .int .u64 x.gt]) ?_ rfl ⟨A2, n, c2, rfl, HN.out, ?_, ?_⟩
  · exact results_cell_row rfl _ _ (w.heap.size + 1) _ _ _ _ rfl (setRow_heap _ _ _ _ _ _ G1.out) Try.underlying60 rfl (by kernel_rfl)
  · exact ownB_mono (own_setRow (ownsRow_setCell_below HO.out (by have := HZ.out; simp; omega) _) (by have := HZ.out; omega) _) (by have := HZ.out; omega)
  · exact below_setRow (HB1.out.setCell (p := ⟨w.heap.size, 5, none⟩) (Nat.le_refl _) _) (by omega) _
end Go.Proofs.Ytgcfofnlgdfmoaa
