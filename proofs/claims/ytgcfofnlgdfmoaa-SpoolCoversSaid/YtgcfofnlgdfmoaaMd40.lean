/- Several texts in one: SpNextN, SpAck. -/
import Derived.Test.YtgcfofnlgdfmoaaMd25
import Derived.Test.YtgcfofnlgdfmoaaMd32
import Derived.Test.YtgcfofnlgdfmoaaMd39
/- Layer 8: the statements' own items (Next), with what next_any leaves out: their labels are new. -/
namespace Go.Proofs.Ytgcfofnlgdfmoaa
open Go.RowKit

set_option maxRecDepth 100000 in
set_option maxHeartbeats 2000000 in
theorem next_new {S : Nat → Prop} {b : Nat} {X : Sp} {L : List Ett} (s : Sm) (hs : OkS s) (w : World) (h : SpAt w S b X L) (hh : X.h (s.o % 4) ≤ 1099511627776) :
    Calls Try.prog 21 #[.agg #[.bool s.g, .int .u8 s.o, .int .u8 s.p, .int .u8 s.w, .int .u16 s.q, .int .u16 s.m, .int .u16 s.t, .int .u8 s.r, .int .u8 s.l, .int .u8 s.v, .bool s.s], .func (.func 22) #[.pointer (some ⟨b, 0, none⟩)] #[]] w fun e w' => ∃ A c, e = .returned (.agg (itC (nextI s (X.h (s.o % 4))) A c).toArray) ∧ (A = none → (smallI (nextS s)).l.length = 0) ∧ RdP w' w'.heap.size A (smallI (nextS s)).l ∧ Below w.heap.size w w' ∧ (∀ a, A = some a → w.heap.size ≤ a.block) := by
  obtain ⟨h1, h2, h3, h4, h5, h6, h7, h8, h9⟩ := id hs
  have hwo : (s.o : Int).tmod 4 = ((s.o % 4 : Nat) : Int) := by rw [Int.tmod_eq_emod_of_nonneg (by omega)]; rfl
  have hwm : (s.m : Int).tmod 3 = ((s.m % 3 : Nat) : Int) := by rw [Int.tmod_eq_emod_of_nonneg (by omega)]; rfl
  obtain ⟨W, hW⟩ : ∃ W, W = (w.alloc (.cells #[.bool s.g, .int .u8 ((s.o : Int) % 4), .int .u8 s.p, .int .u8 s.w, .int .u16 s.q, .int .u16 ((s.m : Int) % 3), .int .u16 s.t, .int .u8 s.r, .int .u8 s.l, .int .u8 s.v, .bool s.s] 51)).alloc (.cells #[.bool false, .int .u8 0, .int .u64 0, .int .u64 0, .string ⟨#[]⟩, .slice none 0 0, .int .u8 0, .int .u8 0, .int .i64 0, .int .u8 0, .int .u8 0, .int .u64 0, .int .u64 0] 60) := ⟨_, rfl⟩
  have hb : Below w.heap.size w W := by rw [hW]; exact ((Below.refl _ _).alloc (Nat.le_refl _) _).alloc (by simp) _
  have hz : W.heap.size = w.heap.size + 2 := by rw [hW]; simp
  have hg0 : W.heap[w.heap.size]? = some (.cells (smL (nextS s)).toArray 51 (0, 0)) := by rw [hW]; exact heap_alloc2_old _ _ _
  have hg1 : W.heap[w.heap.size + 1]? = some (.cells #[.bool false, .int .u8 0, .int .u64 0, .int .u64 0, .string ⟨#[]⟩, .slice none 0 0, .int .u8 0, .int .u8 0, .int .i64 0, .int .u8 0, .int .u8 0, .int .u64 0, .int .u64 0] 60 (0, 0)) := by rw [hW]; exact heap_alloc2_new _ _ _
  have HW := Lib.hid hW
  have HB := Lib.hid hb
  have HZ := Lib.hid hz
  have HG0 := Lib.hid hg0
  have HG1 := Lib.hid hg1
  have HS := Lib.hid (h.below hb)
  have HOS := Lib.hid (nextS_ok hs)
  have HHH := Lib.hid hh
  clear hW hb hz hg0 hg1 h hs hh
  go_enter Try.func21, Try.ntmps21
  go_upto_region 3 with fail
  rw [← HW.out]
  have G0 := HG0.out
  go_wp2_with (first | (refine wpList_load_row rfl _ _ rfl w.heap.size rfl _ _ _ _ G0 Try.underlying51 rfl Try.infoSm ?_) | fail)
  clear G0
  refine (smallItem_any (nextS s) HOS.out W).mono ?_
  rintro _ w1 ⟨A, n, c, rfl, hn, ho1, hb1⟩
  subst hn
  obtain ⟨x, hx⟩ : ∃ x, x = smallI (nextS s) := ⟨_, rfl⟩
  rw [← hx] at ho1 ⊢
  have HX := Lib.hid hx
  have HO1 := Lib.hid ho1
  have hz := HZ.out
  have hz1 := hb1.size
  have HB1 := Lib.hid (HB.out.trans (hb1.mono HB.out.size))
  have HG01 := Lib.hid ((hb1.block w.heap.size (by omega)).trans HG0.out)
  have HG11 := Lib.hid ((hb1.block (w.heap.size + 1) (by omega)).trans HG1.out)
  have HS1 := Lib.hid (HS.out.below hb1)
  clear hx ho1 hb1 HW HG0 HG1
  go_upto_region 4 with (first | (refine wpList_store_row rfl _ _ _ rfl w1.heap.size (itC x A c).toArray rfl rfl _ _ (heap_alloc_new _ _) Try.infoIt rfl (by simp [Value.oneCell', itC]) ?_) | fail)
  obtain ⟨w2, hw2, hc2, hb2, hl2⟩ := boxI w1 _ (itC x A c).toArray
  rw [← hw2]
  have HB2 := Lib.hid (HB1.out.trans (hb2.mono HB1.out.size))
  have HS2 := Lib.hid (HS1.out.below hb2)
  have HC2 := Lib.hid hc2
  have HG02 := Lib.hid ((hb2.block w.heap.size (by omega)).trans HG01.out)
  have HG12 := Lib.hid ((hb2.block (w.heap.size + 1) (by omega)).trans HG11.out)
  have hz2 := hb2.size
  have x1 : w2.cell? ⟨w.heap.size, 1, none⟩ = some (.int .u8 ((s.o % 4 : Nat) : Int)) := cell_of_row _ _ 1 _ _ _ HG02.out
  have HO2 := Lib.hid (ownB_below HO1.out hb2)
  clear hw2 hc2 hb2 HS1 HG01 HG11
  go_wp2_with fail
  refine (high_any (s.o % 4) (by omega) w2 HS2.out).mono ?_
  rintro _ w3 ⟨rfl, rfl⟩
  obtain ⟨H, hH⟩ : ∃ H, H = X.h (s.o % 4) := ⟨_, rfl⟩
  have hHm : H ≤ 1099511627776 := by rw [hH]; exact HHH.out
  rw [← hH] at ⊢
  have HHE := Lib.hid hH
  have y0 : w2.cell? ⟨w1.heap.size, 0, none⟩ = some (.bool x.g) := cell_of_row _ _ 0 _ _ _ HC2.out
  have hxg : x.g = s.g := by
    rw [HX.out]
    cases hg : s.g with
    | true => rw [smallI_gap _ (by show (nextS s).g = true; exact hg)]
    | false => rw [smallI_ev _ (by show (nextS s).g = false; exact hg)]
  rw [hxg] at y0
  have hw1 : IntKind.u64.wrap ((H : Int) + 1) = ((H + 1 : Nat) : Int) := by rw [IntKind.wrap_u64]; omega
  have HXG := Lib.hid hxg
  clear hH hxg x1
  cases hg : s.g with
  | true =>
    rw [hg] at y0
    have f11 : w2.frozen? ⟨w1.heap.size, 11, none⟩ = false := by simp [World.frozen?, HC2.out]
    have f12 : w2.frozen? ⟨w1.heap.size, 12, none⟩ = false := by simp [World.frozen?, HC2.out]
    have y11 : w2.cell? ⟨w1.heap.size, 11, none⟩ = some (.int .u64 x.gf) := cell_of_row _ _ 11 _ _ _ HC2.out
    have y12 : w2.cell? ⟨w1.heap.size, 12, none⟩ = some (.int .u64 x.gt) := cell_of_row _ _ 12 _ _ _ HC2.out
    have y5 : w2.cell? ⟨w.heap.size, 5, none⟩ = some (.int .u16 ((s.m % 3 : Nat) : Int)) := cell_of_row _ _ 5 _ _ _ HG02.out
    have hm3 : s.m % 3 < 3 := Nat.mod_lt _ (by decide)
    obtain ⟨m3, hm3e⟩ : ∃ m3, m3 = s.m % 3 := ⟨_, rfl⟩
    rw [← hm3e] at y5 hm3
    have hw2' : IntKind.u64.wrap ((m3 : Nat) : Int) = (m3 : Int) := by rw [IntKind.wrap_u64]; omega
    have hw3 : IntKind.u64.wrap (((H + 1 : Nat) : Int) + (m3 : Int)) = ((H + 1 + m3 : Nat) : Int) := by rw [IntKind.wrap_u64]; omega
    have hw4 : IntKind.u64.wrap ((H : Int) + 1 + (m3 : Int)) = ((H + 1 + m3 : Nat) : Int) := by rw [IntKind.wrap_u64]; omega
    have HM3 := Lib.hid hm3e
    have hne : w.heap.size ≠ w1.heap.size := by omega
    clear hm3e
    go_upto_region 6 with fail
    go_region
    have h3 : Only (fun k => k = w1.heap.size) w2 ((w2.setCell ⟨w1.heap.size, 11, none⟩ (.int .u64 ((H : Int) + 1))).setCell ⟨w1.heap.size, 12, none⟩ (.int .u64 ((H : Int) + 1 + (m3 : Int)))).drew := ((Only.setCell (T := fun k => k = w1.heap.size) _ _ _ rfl).trans (Only.setCell (T := fun k => k = w1.heap.size) _ _ _ rfl) (fun _ h => .inl h)).trans (Only.of_below (RowKit.Below.refl _ _).drew _) (fun _ h => .inl h)
    have hcF : ((w2.setCell ⟨w1.heap.size, 11, none⟩ (.int .u64 ((H : Int) + 1))).setCell ⟨w1.heap.size, 12, none⟩ (.int .u64 ((H : Int) + 1 + (m3 : Int)))).drew.heap[w1.heap.size]? = some (.cells (itC { x with gf := H + 1, gt := H + 1 + m3 } A c).toArray 60 (0, 0)) := heap_setAt (heap_setAt HC2.out 11 _) 12 _
    have hg1F := (h3.block (w.heap.size + 1) (by omega) (by omega)).trans HG12.out
    have hI : nextI s H = { x with gf := H + 1, gt := H + 1 + m3 } := by unfold nextI; rw [if_pos hg, HX.out, HM3.out]
    have hE := next_end (x' := { x with gf := H + 1, gt := H + 1 + m3 }) HB2.out HO2.out (show w.heap.size ≤ w.heap.size + 1 by omega) (by omega) (fun k hk => (HO1.out.lt k hk).2) (show w.heap.size ≤ w1.heap.size by omega) h3 rfl (itC { x with gf := H + 1, gt := H + 1 + m3 } A c).toArray
    have HCF := Lib.hid hcF
    have HGF := Lib.hid hg1F
    have HI := Lib.hid hI
    have HE := Lib.hid hE
    clear h3 hcF hg1F hI hE
    go_wp2_with (first
      | (refine wpList_load_row rfl _ _ rfl w1.heap.size rfl _ _ _ _ HCF.out Try.underlying60 rfl Try.infoIt ?_)
      | (refine wpList_store_row rfl _ _ _ rfl (w.heap.size + 1) (itC { x with gf := H + 1, gt := H + 1 + m3 } A c).toArray rfl rfl _ _ HGF.out Try.infoIt rfl (by simp [Value.oneCell', itC]) ?_)
      | fail)
    refine bodyPost_ret (v := .agg (itC { x with gf := H + 1, gt := H + 1 + m3 } A c).toArray) (results_cell_row rfl _ _ (w.heap.size + 1) _ _ _ _ rfl (setRow_heap _ _ _ _ _ _ HGF.out) Try.underlying60 rfl Try.infoIt) rfl ?_
    rw [← HHE.out, HI.out, ← HX.out]
    exact ⟨A, ⟨c, rfl⟩, fun h => List.eq_nil_of_length_eq_zero (HE.out.1 h), HE.out.2.1, HE.out.2.2, fun a ha => Nat.le_trans HB.out.size ((HO1.out.lt a.block (by rw [ha]; rfl)).1)⟩
  | false =>
    rw [hg] at y0
    have f2 : w2.frozen? ⟨w1.heap.size, 2, none⟩ = false := by simp [World.frozen?, HC2.out]
    have y2 : w2.cell? ⟨w1.heap.size, 2, none⟩ = some (.int .u64 x.q) := cell_of_row _ _ 2 _ _ _ HC2.out
    go_upto_region 8 with fail
    have h3 : Only (fun k => k = w1.heap.size) w2 (w2.setCell ⟨w1.heap.size, 2, none⟩ (.int .u64 ((H : Int) + 1))) := Only.setCell _ _ _ rfl
    have hcF : (w2.setCell ⟨w1.heap.size, 2, none⟩ (.int .u64 ((H : Int) + 1))).heap[w1.heap.size]? = some (.cells (itC { x with q := H + 1 } A c).toArray 60 (0, 0)) := heap_setAt HC2.out 2 _
    have hg1F := (h3.block (w.heap.size + 1) (by omega) (by omega)).trans HG12.out
    have hI : nextI s H = { x with q := H + 1 } := by unfold nextI; rw [if_neg (by rw [hg]; decide), HX.out]
    have hE := next_end (x' := { x with q := H + 1 }) HB2.out HO2.out (show w.heap.size ≤ w.heap.size + 1 by omega) (by omega) (fun k hk => (HO1.out.lt k hk).2) (show w.heap.size ≤ w1.heap.size by omega) h3 rfl (itC { x with q := H + 1 } A c).toArray
    have HCF := Lib.hid hcF
    have HGF := Lib.hid hg1F
    have HI := Lib.hid hI
    have HE := Lib.hid hE
    clear h3 hcF hg1F hI hE
    go_wp2_with (first
      | (refine wpList_load_row rfl _ _ rfl w1.heap.size rfl _ _ _ _ HCF.out Try.underlying60 rfl Try.infoIt ?_)
      | (refine wpList_store_row rfl _ _ _ rfl (w.heap.size + 1) (itC { x with q := H + 1 } A c).toArray rfl rfl _ _ HGF.out Try.infoIt rfl (by simp [Value.oneCell', itC]) ?_)
      | fail)
    refine bodyPost_ret (v := .agg (itC { x with q := H + 1 } A c).toArray) (results_cell_row rfl _ _ (w.heap.size + 1) _ _ _ _ rfl (setRow_heap _ _ _ _ _ _ HGF.out) Try.underlying60 rfl Try.infoIt) rfl ?_
    rw [← HHE.out, HI.out, ← HX.out]
    exact ⟨A, ⟨c, rfl⟩, fun h => List.eq_nil_of_length_eq_zero (HE.out.1 h), HE.out.2.1, HE.out.2.2, fun a ha => Nat.le_trans HB.out.size ((HO1.out.lt a.block (by rw [ha]; rfl)).1)⟩
end Go.Proofs.Ytgcfofnlgdfmoaa
/- Layer 8: Ack of what waits. -/
namespace Go.Proofs.Ytgcfofnlgdfmoaa
open Go.RowKit

set_option maxRecDepth 100000 in
set_option maxHeartbeats 1000000 in
theorem ack_any {S : Nat → Prop} {s N m0 : Nat} {X : Sp} {L : List Ett} (w : World) (h : SpAt w S s X L) (hrise : RiseE L) (h1 : N < X.n) (h2 : X.a < N) (hc : CutAt L N m0) (hm : 0 < m0) :
    Calls Try.prog 26 #[.pointer (some ⟨s, 0, none⟩), .int .u64 N] w fun e w' => e = .returned (.int .i64 0) ∧ SpAt w' S s { X with a := N } (cutE L 0 m0) ∧ Step w S w' S := by
  have HU := Lib.hid (upTo_any (N := N) w h hrise)
  obtain ⟨v, k1, -⟩ := h.sp
  have c2 := k1.c2
  have c3 := k1.c3
  have HH := Lib.hid h
  have HC := Lib.hid hc
  have d1 : decide ((X.n : Int) ≤ (N : Int)) = false := decide_eq_false (by omega)
  have d2 : decide (X.n ≤ N) = false := decide_eq_false (by omega)
  have d3 : decide ((N : Int) ≤ (X.a : Int)) = false := decide_eq_false (by omega)
  have d4 : decide (N ≤ X.a) = false := decide_eq_false (by omega)
  clear k1 h hrise hc
  go_enter Try.func26, Try.ntmps26
  go_wp2_with fail
  refine HU.out.mono ?_
  rintro _ w1 ⟨m, rfl, hm1, hlo, hhi, hb1⟩
  obtain rfl : m0 = m := HC.out.eq ⟨hm1, hlo, hhi⟩
  have hs1 := HH.out.below hb1
  have HR := Lib.hid (remove_any (i := 0) (j := m0) w1 hs1 hm hm1)
  have HB1 := Lib.hid hb1
  clear hlo hhi hs1 HU c2 c3 hb1 d1 d2 d3 d4
  go_wp2_with fail
  refine HR.out.mono ?_
  rintro _ w2 ⟨rfl, hs2, hst2⟩
  obtain ⟨v2, k2, r2⟩ := hs2.sp
  have c3 := k2.c3
  have fz := k2.fz 3
  have HK2 := Lib.hid k2
  have HR2 := Lib.hid r2
  have HS2 := Lib.hid hs2
  have HT2 := Lib.hid hst2
  clear hs2 hst2 k2 r2 HR
  go_wp2_with fail
  go_ret
  obtain ⟨h5, t5⟩ := HS2.out.of_set (X' := { X with a := N }) 3 (.int .u64 (N : Int)) (fun v hv => hv.setA N) rfl
  exact ⟨rfl, h5, ((⟨Only.of_below HB1.out S, fun _ h => .inl h⟩ : Step w S w1 S).trans HT2.out).trans t5⟩
end Go.Proofs.Ytgcfofnlgdfmoaa
