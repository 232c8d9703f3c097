/- Layer 4: item.Decode. -/
import Derived.Test.YtkkilfoncdbciaaItTake
import Derived.Test.YtkkilfoncdbciaaPkRead
import Derived.Test.YtkkilfoncdbciaaItTrim
namespace Go.Proofs.Ytkkilfoncdbciaa
open Go.RowKit

/-- the error of bytes as an item, and the item -/
def endE (s : St) : Nat := if s.2 = 0 then (if s.1 = [] then 0 else 25) else s.2
def decE (l : List Nat) : Nat := endE (takeR (l, 0)).2
def decI (l : List Nat) : It := if decE l = 0 then (takeR (l, 0)).1 else zeroI
theorem tk_done (g : Nat) (s : St) (w : World) (h : RdT w g s) :
    Calls Try.prog 32 #[.pointer (some ⟨g, 0, none⟩)] w fun e w' => e = .returned (.int .i64 (endE s : Nat)) ∧ w.grownBy w' (some g) := by
  obtain ⟨l, er⟩ := s
  unfold endE
  by_cases he : er = 0
  · subst he
    cases l with
    | nil =>
      refine (rdone_empty g 0 w h).mono ?_
      rintro e w' ⟨rfl, rfl⟩
      exact ⟨rfl, World.grownBy.refl w _⟩
    | cons x l =>
      refine (rdone_rest g (x :: l) (by simp) w h).mono ?_
      rintro e w' ⟨rfl, _, h3⟩
      exact ⟨by simp, h3⟩
  · obtain rfl : l = [] := h.bare he
    refine (rdone_empty g (er : Nat) w h).mono ?_
    rintro e w' ⟨rfl, rfl⟩
    exact ⟨by simp [he], World.grownBy.refl w _⟩
def DecRet (y : It) (er : Nat) (w : World) (e : Ending) (w' : World) : Prop :=
  ∃ A n c, e = .returned (.tuple #[.agg #[.bool y.g, .int .u8 y.o, .int .u64 y.q, .int .u64 y.t, .string y.r, .slice A n c, .int .u8 y.s, .int .u8 y.p, .int .i64 y.v, .int .u8 y.w, .int .u8 y.ga, .int .u64 y.gf, .int .u64 y.gt], .int .i64 (er : Nat)]) ∧ n = y.l.length ∧ w'.ownsRow w.heap.size 61 2 (.slice A n c) n (cellsP y.l) ∧ Below w.heap.size w w'

set_option maxRecDepth 100000 in
set_option maxHeartbeats 4000000 in
theorem decode_any (A : Option Addr) (n c : Nat) (l : List Nat) (B : Nat) (w : World) (hn : n = l.length) (hA : A = none → n = 0) (hm : n ≤ 2097152) (hr : RdB w B A l) (hB : B ≤ w.heap.size) (hok : OkB l) :
    Calls Try.prog 17 #[.slice A n c] w (DecRet (decI l) (decE l) w) := by
  obtain ⟨W, hW⟩ : ∃ W, W = w.alloc (.cells #[.bool false, .int .u8 0, .int .u64 0, .int .u64 0, .string ⟨#[]⟩, .slice none 0 0, .int .u8 0, .int .u8 0, .int .i64 0, .int .u8 0, .int .u8 0, .int .u64 0, .int .u64 0] 30) := ⟨_, rfl⟩
  have hb : Below w.heap.size w W := by rw [hW]; exact (Below.refl _ _).alloc (Nat.le_refl _) _
  have hc : W.heap[w.heap.size]? = some (.cells #[.bool false, .int .u8 0, .int .u64 0, .int .u64 0, .string ⟨#[]⟩, .slice none 0 0, .int .u8 0, .int .u8 0, .int .i64 0, .int .u8 0, .int .u8 0, .int .u64 0, .int .u64 0] 30 (0, 0)) := by rw [hW]; exact heap_alloc_new _ _
  have hl : w.heap.size < W.heap.size := by rw [hW]; simp
  have hrd := rread_any A n c l B W hn hA hm (hr.keep fun p hp => World.cell?_of_block (hb.block _ (by omega))) (by omega) hok
  have HW := Lib.hid hW
  have HC := Lib.hid hc
  have HB := Lib.hid hb
  have HL := Lib.hid hl
  have HRd := Lib.hid hrd
  clear hW hb hc hl hrd hn hA hm hr hB hok
  go_enter Try.func17, Try.ntmps17
  go_upto_region 1 with fail
  rw [← HW.out]
  go_wp2_with fail
  refine HRd.out.mono ?_
  rintro e w1 ⟨g, rfl, hr1, hg1, hb1⟩
  obtain ⟨y, hy⟩ : ∃ y, (takeR (l, 0)).1 = y := ⟨_, rfl⟩
  obtain ⟨s, hs⟩ : ∃ y, (takeR (l, 0)).2 = y := ⟨_, rfl⟩
  have t2 := take_any g (l, 0) w1 hr1
  rw [hy, hs] at t2
  have HT2 := Lib.hid t2
  have HY := Lib.hid hy
  have HS := Lib.hid hs
  have HG := Lib.hid hg1
  have HB1 := Lib.hid (HB.out.trans (hb1.mono HB.out.size))
  have HC1 := Lib.hid ((hb1.block _ HL.out).trans HC.out)
  have HL1 : Hid (g < w1.heap.size ∧ w.heap.size < w1.heap.size ∧ w.heap.size < g) := ⟨hr1.lt, by have := hb1.size; have := HL.out; omega, by have := HL.out; omega⟩
  clear hr1 hg1 hb1 hy hs t2 HC HB HL HRd HW
  go_wp2_with fail
  refine HT2.out.mono ?_
  rintro e w2 ⟨A1, n1, c1, rfl, hn, ho, hr, hg⟩
  have HN := Lib.hid hn
  have HO := Lib.hid ho
  have HR := Lib.hid hr
  have HB2 := Lib.hid (HB1.out.grown hg (by have := HL1.out; omega) (fun k e => by cases e; have := HL1.out; omega))
  have HC2 := Lib.hid ((hg.block w.heap.size HL1.out.2.1 (by have := HL1.out; simp; omega)).trans HC1.out)
  have HS2 := Lib.hid hg.size
  clear hn ho hr hg HC1 HB1 HT2
  go_upto_region 3 with (first | (refine wpList_store_row rfl _ _ _ rfl w2.heap.size _ rfl rfl _ _ (heap_alloc_new _ _) Try.infoI rfl (by simp [Value.oneCell']) ?_) | fail)
  obtain ⟨w3, hw3⟩ : ∃ V, V = (w2.alloc (.cells #[.bool false, .int .u8 0, .int .u64 0, .int .u64 0, .string ⟨#[]⟩, .slice none 0 0, .int .u8 0, .int .u8 0, .int .i64 0, .int .u8 0, .int .u8 0, .int .u64 0, .int .u64 0] 30)).setRow w2.heap.size (#[.bool y.g, .int .u8 y.o, .int .u64 y.q, .int .u64 y.t, .string y.r, .slice A1 n1 c1, .int .u8 y.s, .int .u8 y.p, .int .i64 y.v, .int .u8 y.w, .int .u8 y.ga, .int .u64 y.gf, .int .u64 y.gt]) := ⟨_, rfl⟩
  rw [← hw3, act_put_none]
  have hX : w3.heap[w2.heap.size]? = some (.cells #[.bool y.g, .int .u8 y.o, .int .u64 y.q, .int .u64 y.t, .string y.r, .slice A1 n1 c1, .int .u8 y.s, .int .u8 y.p, .int .i64 y.v, .int .u8 y.w, .int .u8 y.ga, .int .u64 y.gf, .int .u64 y.gt] 30 (0, 0)) := by rw [hw3]; exact setRow_heap _ _ _ _ _ _ (heap_alloc_new _ _)
  have hb2 : Below w2.heap.size w2 w3 := by rw [hw3]; exact below_setRow ((Below.refl _ _).alloc (Nat.le_refl _) _) (Nat.le_refl _) _
  have hX2 : w2.heap.size < w3.heap.size := (Array.getElem?_eq_some_iff.1 hX).1
  have HX := Lib.hid hX
  have HX2 := Lib.hid hX2
  have HO3 := Lib.hid (own_below HO.out hb2)
  have HB3 := Lib.hid (HB2.out.trans (hb2.mono HB2.out.size))
  have HC3 := Lib.hid ((hb2.block w.heap.size (Array.getElem?_eq_some_iff.1 HC2.out).1).trans HC2.out)
  have t3 := tk_done g s w3 (HR.out.below hb2)
  obtain ⟨er, her⟩ : ∃ k, endE s = k := ⟨_, rfl⟩
  rw [her] at t3
  have HT3 := Lib.hid t3
  have HEr := Lib.hid her
  clear hw3 hX hb2 hX2 t3 her HO HB2 HC2 HR
  go_wp2_with fail
  refine HT3.out.mono ?_
  rintro e w4 ⟨rfl, hg⟩
  have hsl := HS2.out
  have hll := HL1.out
  have HX4 := Lib.hid ((hg.block w2.heap.size HX2.out (by simp; omega)).trans HX.out)
  have HO4 := Lib.hid (own_far HO3.out hg HL1.out.1)
  have HB4 := Lib.hid (HB3.out.grown hg HB3.out.size (fun k e => by cases e; have := HL1.out; omega))
  have HC4 := Lib.hid ((hg.block w.heap.size (Array.getElem?_eq_some_iff.1 HC3.out).1 (by simp; omega)).trans HC3.out)
  have HE : Hid (decE l = er) := by show _ = _; unfold decE; rw [HS.out, HEr.out]
  clear hg HX HO3 HB3 HC3 HT3 HX2 HS2 hsl HS HEr
  by_cases he : er = 0
  · subst he
    have HI : Hid (decI l = y) := by show _ = _; unfold decI; rw [HE.out, if_pos rfl, HY.out]
    clear hll
    go_wp2_with (first
      | (refine wpList_load_row rfl _ _ rfl w2.heap.size rfl _ _ _ _ HX4.out Try.underlying30 rfl (by kernel_rfl) ?_)
      | (refine wpList_store_row rfl _ _ _ rfl w.heap.size _ rfl rfl _ _ HC4.out Try.infoI rfl (by simp [Value.oneCell']) ?_)
      | fail)
    refine bodyPost_ret (v := .tuple #[.agg #[.bool y.g, .int .u8 y.o, .int .u64 y.q, .int .u64 y.t, .string y.r, .slice A1 n1 c1, .int .u8 y.s, .int .u8 y.p, .int .i64 y.v, .int .u8 y.w, .int .u8 y.ga, .int .u64 y.gf, .int .u64 y.gt], .int .i64 0]) ?_ rfl ⟨A1, n1, c1, ?_, ?_, ?_, ?_⟩
    · exact results_cell_two rfl _ _ w.heap.size _ _ _ _ rfl rfl (setRow_heap _ _ _ _ _ _ HC4.out) Try.underlying30 rfl (by kernel_rfl)
    · rw [HI.out, HE.out]; rfl
    · rw [HI.out]; exact HN.out
    · rw [HI.out]; exact ownB_mono (own_setRow HO4.out (by have := HL1.out; omega) _) (by have := HL1.out; omega)
    · exact below_setRow HB4.out (Nat.le_refl _) _
  · have HI : Hid (decI l = zeroI) := by show _ = _; unfold decI; rw [HE.out, if_neg he]
    have hq : ((er : Int) != 0) = true := by rw [bne_iff_ne]; omega
    clear he hll
    go_wp2_with (first
      | (refine wpList_store_row rfl _ _ _ rfl w.heap.size _ rfl rfl _ _ HC4.out Try.infoI rfl (by simp [Value.oneCell']) ?_)
      | fail)
    refine bodyPost_ret (v := .tuple #[.agg #[.bool false, .int .u8 0, .int .u64 0, .int .u64 0, .string ⟨#[]⟩, .slice none 0 0, .int .u8 0, .int .u8 0, .int .i64 0, .int .u8 0, .int .u8 0, .int .u64 0, .int .u64 0], .int .i64 (er : Nat)]) ?_ rfl ⟨none, 0, 0, ?_, ?_, ?_, ?_⟩
    · exact results_cell_two rfl _ _ w.heap.size _ _ _ _ rfl rfl (setRow_heap _ _ _ _ _ _ HC4.out) Try.underlying30 rfl (by kernel_rfl)
    · rw [HI.out, HE.out]; rfl
    · rw [HI.out]; rfl
    · rw [HI.out]; exact World.ownsRow_nil _ _ _ _
    · exact below_setRow HB4.out (Nat.le_refl _) _
end Go.Proofs.Ytkkilfoncdbciaa
