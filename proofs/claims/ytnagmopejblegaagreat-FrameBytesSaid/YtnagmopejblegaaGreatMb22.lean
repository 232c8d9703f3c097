/- Several texts in one: ItEnc. -/
import Derived.Test.YtnagmopejblegaaGreatMb21
/- Layer 4: item.Put, item.Encode, item.Size; the fixed fact that each statement begins with. -/
namespace Go.Proofs.YtnagmopejblegaaGreat
open Go.RowKit

set_option maxRecDepth 100000 in
set_option maxHeartbeats 1000000 in
theorem iput_any (g : Nat) (v : Value) (l : List Nat) (x : It) (A : Option Addr) (n c : Nat) (hx : OkI x) (hs : ShortI x) (hn : n = x.l.length) (hm : n ≤ 1048576) (w : World) (h : Wtr w g v l) (hl : l.length + (itemB x).length ≤ 1999000) (hr : LabAt w g v.ownBlock A x.l) :
    Calls Tryz.prog 57 #[.pointer (some ⟨g, 0, none⟩), .agg #[.bool x.g, .int .u8 x.o, .int .u64 x.q, .int .u64 x.t, .string x.r, .slice A n c, .int .u8 x.s, .int .u8 x.p, .int .i64 x.v, .int .u8 x.w, .int .u8 x.ga, .int .u64 x.gf, .int .u64 x.gt]] w fun e w' => e = .returned (.tuple #[]) ∧ Puts w w' g v (l ++ itemB x) := by
  have hgl := h.lt
  have H := Lib.hid h
  have Hr := Lib.hid hr
  have Hn := Lib.hid hn
  have Hx := Lib.hid hx
  have Hs := Lib.hid hs
  have hbr : Hid (some w.heap.size ≠ v.ownBlock) := fun e => by have := h.row_lt e.symm; omega
  clear h hr hn hx hs
  obtain ⟨b, hb⟩ : ∃ b, x.g = b := ⟨_, rfl⟩
  have hB : itemB x = if b then 1 :: gapB x else 0 :: evB x := by unfold itemB; rw [hb]
  rw [hB] at hl ⊢
  rw [hb]
  clear hb hB
  cases b with
  | true =>
    have hll : l.length ≤ 1999000 := by omega
    clear hl
    have hba : Below w.heap.size w (w.alloc (.cells #[.bool true, .int .u8 x.o, .int .u64 x.q, .int .u64 x.t, .string x.r, .slice A n c, .int .u8 x.s, .int .u8 x.p, .int .i64 x.v, .int .u8 x.w, .int .u8 x.ga, .int .u64 x.gf, .int .u64 x.gt] 40)) := (Below.refl _ _).alloc (Nat.le_refl _) _
    have H0 := Lib.hid (H.out.below hba)
    have R0 := Lib.hid (Wrote.of_below hba g v.ownBlock)
    have F : Hid (∀ W v2, Wrote (w.alloc (.cells #[.bool true, .int .u8 x.o, .int .u64 x.q, .int .u64 x.t, .string x.r, .slice A n c, .int .u8 x.s, .int .u8 x.p, .int .i64 x.v, .int .u8 x.w, .int .u8 x.ga, .int .u64 x.gf, .int .u64 x.gt] 40)) W g v.ownBlock v2 → W.cell? ⟨w.heap.size, 0, none⟩ = some (.bool true) ∧ W.cell? ⟨w.heap.size, 10, none⟩ = some (.int .u8 x.ga) ∧ W.cell? ⟨w.heap.size, 11, none⟩ = some (.int .u64 x.gf) ∧ W.cell? ⟨w.heap.size, 12, none⟩ = some (.int .u64 x.gt)) := fun W v2 hW =>
      ⟨(hW.cell (p := ⟨w.heap.size, 0, none⟩) (by simp) (by simp; omega) hbr.out).trans (by rw [World.cell?_alloc_at _ _ _ _ rfl]; rfl), (hW.cell (p := ⟨w.heap.size, 10, none⟩) (by simp) (by simp; omega) hbr.out).trans (by rw [World.cell?_alloc_at _ _ _ _ rfl]; rfl), (hW.cell (p := ⟨w.heap.size, 11, none⟩) (by simp) (by simp; omega) hbr.out).trans (by rw [World.cell?_alloc_at _ _ _ _ rfl]; rfl), (hW.cell (p := ⟨w.heap.size, 12, none⟩) (by simp) (by simp; omega) hbr.out).trans (by rw [World.cell?_alloc_at _ _ _ _ rfl]; rfl)⟩
    clear hba
    go_enter Tryz.func57, Tryz.ntmps57
    go_wp2_with fail
    refine (wbool_any g v l true _ H0.out (by omega)).mono ?_
    rintro e w1 ⟨rfl, v1, h1, r1⟩
    obtain ⟨c0, c1, c2, c3⟩ := F.out _ _ r1
    have H1 := Lib.hid h1
    have R1 := Lib.hid (R0.out.trans r1)
    clear h1 r1
    go_wp2_with fail
    refine (putGap_any g v1 _ x Hx.out _ H1.out (by simp; omega)).mono ?_
    rintro e w2 ⟨rfl, v2, h1, r1⟩
    have H2 := Lib.hid h1
    have R2 := Lib.hid (R1.out.trans r1)
    clear h1 r1 c0 c1 c2 c3
    go_wp2
    refine bodyPost_ret (results_none rfl _ _ _) rfl ?_
    refine ⟨rfl, v2, ?_, R2.out⟩
    have h1 := H2.out
    simpa using h1
  | false =>
    have hll : l.length + (evB x).length ≤ 1998999 := by simp at hl; omega
    clear hl
    have hba : Below w.heap.size w (w.alloc (.cells #[.bool false, .int .u8 x.o, .int .u64 x.q, .int .u64 x.t, .string x.r, .slice A n c, .int .u8 x.s, .int .u8 x.p, .int .i64 x.v, .int .u8 x.w, .int .u8 x.ga, .int .u64 x.gf, .int .u64 x.gt] 40)) := (Below.refl _ _).alloc (Nat.le_refl _) _
    have H0 := Lib.hid (H.out.below hba)
    have R0 := Lib.hid (Wrote.of_below hba g v.ownBlock)
    have HL := Lib.hid (Hr.out.below hba)
    have F : Hid (∀ W v2, Wrote (w.alloc (.cells #[.bool false, .int .u8 x.o, .int .u64 x.q, .int .u64 x.t, .string x.r, .slice A n c, .int .u8 x.s, .int .u8 x.p, .int .i64 x.v, .int .u8 x.w, .int .u8 x.ga, .int .u64 x.gf, .int .u64 x.gt] 40)) W g v.ownBlock v2 → W.cell? ⟨w.heap.size, 0, none⟩ = some (.bool false) ∧ W.cell? ⟨w.heap.size, 1, none⟩ = some (.int .u8 x.o) ∧ W.cell? ⟨w.heap.size, 2, none⟩ = some (.int .u64 x.q) ∧ W.cell? ⟨w.heap.size, 3, none⟩ = some (.int .u64 x.t) ∧ W.cell? ⟨w.heap.size, 4, none⟩ = some (.string x.r) ∧ W.cell? ⟨w.heap.size, 5, none⟩ = some (.slice A n c) ∧ W.cell? ⟨w.heap.size, 6, none⟩ = some (.int .u8 x.s) ∧ W.cell? ⟨w.heap.size, 7, none⟩ = some (.int .u8 x.p) ∧ W.cell? ⟨w.heap.size, 8, none⟩ = some (.int .i64 x.v) ∧ W.cell? ⟨w.heap.size, 9, none⟩ = some (.int .u8 x.w)) := fun W v2 hW => by
      have k : ∀ j u, (w.alloc (.cells #[.bool false, .int .u8 x.o, .int .u64 x.q, .int .u64 x.t, .string x.r, .slice A n c, .int .u8 x.s, .int .u8 x.p, .int .i64 x.v, .int .u8 x.w, .int .u8 x.ga, .int .u64 x.gf, .int .u64 x.gt] 40)).cell? ⟨w.heap.size, j, none⟩ = some u → W.cell? ⟨w.heap.size, j, none⟩ = some u := fun j u hu => (hW.cell (p := ⟨w.heap.size, j, none⟩) (by simp) (by simp; omega) hbr.out).trans hu
      refine ⟨k _ _ ?_, k _ _ ?_, k _ _ ?_, k _ _ ?_, k _ _ ?_, k _ _ ?_, k _ _ ?_, k _ _ ?_, k _ _ ?_, k _ _ ?_⟩ <;> (rw [World.cell?_alloc_at _ _ _ _ rfl]; rfl)
    clear hba
    go_enter Tryz.func57, Tryz.ntmps57
    go_wp2_with fail
    refine (wbool_any g v l false _ H0.out (by omega)).mono ?_
    rintro e w1 ⟨rfl, v1, h1, r1⟩
    obtain ⟨c0, c1, c2, c3, c4, c5, c6, c7, c8, c9⟩ := F.out _ _ r1
    have H1 := Lib.hid h1
    have R1 := Lib.hid (R0.out.trans r1)
    have HL1 := Lib.hid (HL.out.wrote r1)
    clear h1 r1
    go_wp2_with fail
    refine (putEvent_any g v1 _ x A n c Hx.out Hs.out Hn.out hm _ H1.out (by simp; omega) HL1.out).mono ?_
    rintro e w2 ⟨rfl, v2, h1, r1⟩
    have H2 := Lib.hid h1
    have R2 := Lib.hid (R1.out.trans r1)
    clear h1 r1 c0 c1 c2 c3 c4 c5 c6 c7 c8 c9
    go_wp2
    go_end0
    refine ⟨rfl, v2, ?_, R2.out⟩
    have h1 := H2.out
    simpa using h1

def awakeI : It := ⟨true, 0, 0, 0, ⟨#[]⟩, [], 0, 0, 0, 0, 3, 1, 200⟩
theorem awakeB : itemB awakeI = [1, 3, 1, 200, 1] := by
  have h1 : leb 200 = [200, 1] := by rw [leb_ge (by decide), leb_lt (by decide)]
  have h2 : leb 1 = [1] := leb_lt (by decide)
  show 1 :: ([3] ++ leb 1 ++ leb 200) = _
  rw [h1, h2]; rfl
end Go.Proofs.YtnagmopejblegaaGreat
