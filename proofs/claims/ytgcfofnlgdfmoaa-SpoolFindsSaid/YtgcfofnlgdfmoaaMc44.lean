/- Several texts in one: SpFills, SpNil. -/
import Derived.Test.YtgcfofnlgdfmoaaMc14
import Derived.Test.YtgcfofnlgdfmoaaMc38
import Derived.Test.YtgcfofnlgdfmoaaMc42
import Derived.Test.YtgcfofnlgdfmoaaMc43
/- Layer 8: what the statements that fill a spool share: a quota from a small number, a whole list, rows of entries that are read. -/
namespace Go.Proofs.Ytgcfofnlgdfmoaa
open Go.RowKit

theorem new64 (r : Nat) (h : r < 400) (w0 w : World) (hb : Below w0.heap.size w0 w) : Calls Try.prog 20 #[.int .i64 (64 + (r : Int))] w fun e w' => e = .returned (.tuple #[.pointer (some ⟨w.heap.size, 0, none⟩), .int .i64 0]) ∧ SpW w0 w' (fun k => k = w.heap.size) w.heap.size (64 + r) 0 ⟨64 + r, 1, 0, 0, fun _ => 0⟩ [] := by
  have h1 := snew_any (64 + r) (by omega) (by omega) w
  rw [show ((64 + r : Nat) : Int) = 64 + (r : Int) by omega] at h1
  refine h1.mono ?_
  rintro e w' ⟨he, hs, hb'⟩
  exact ⟨he, hs, SpOk.new _, rfl, fun j hj => by have := hb.size; have hj : j = w.heap.size := hj; omega, hb.trans (hb'.mono hb.size)⟩
/-- entries at A are read as they are, below no world -/
structure RdM8 (w : World) (A : Option Addr) (M : List Ett) : Prop where
  rd : RdE w A M
  ok : OkE w M
theorem RdM8.below {w w' : World} {A : Option Addr} {M : List Ett} (h : RdM8 w A M) (hb : Below w.heap.size w w') : RdM8 w' A M := ⟨h.rd.below hb, h.ok.below hb⟩
theorem RowE.rd {w : World} {base : Nat} {A : Option Addr} {c : Nat} {M : List Ett} (h : RowE w base (.slice A M.length c) M) : RdM8 w A M := by
  refine ⟨fun h0 => ?_, fun e he => (h.ok e he).free⟩
  obtain ⟨b, c', hv, _, hlt⟩ := h.own.form h0
  injection hv with hv1 _ hv3
  subst hv1
  refine ⟨b, 0, rfl, hlt, fun k e he => ?_⟩
  have hc : ∀ (j : Nat) u, (entC e)[j]? = some u → w.cell? ⟨b, k * 14 + j, none⟩ = some u := fun j u hj => by
    have := h.own.cells (g := b) rfl _ _ (cellsE_get he hj)
    rw [Addr.add_lit, Nat.zero_add] at this
    exact this
  refine ⟨fun j u hj => ?_, fun j u hj => ?_⟩
  · rw [Nat.zero_add]; exact hc j u hj
  · have := hc (j + 1) u hj
    rw [show 0 + k * 14 + 1 + j = k * 14 + (j + 1) by omega]
    exact this
theorem RdM8.at_ {w : World} {A : Option Addr} {M : List Ett} (h : RdM8 w A M) {k : Nat} {e : Ett} (he : M[k]? = some e) : ∃ b o, A = some ⟨b, o, none⟩ ∧ b < w.heap.size ∧ w.rangeAt b (o + k * 14) (entC e) ∧ w.rangeAt b (o + k * 14 + 1) (itC e.x e.A e.c) ∧ EntOk w (fun _ => False) e := by
  have hk := (List.getElem?_eq_some_iff.1 he).1
  obtain ⟨b, o, h1, h2, h3⟩ := h.rd (by omega)
  exact ⟨b, o, h1, h2, (h3 k e he).1, (h3 k e he).2, h.ok e (List.mem_of_getElem? he)⟩
/-- all that waits -/
theorem listAll_any {w0 w : World} {S : Nat → Prop} {s q k : Nat} {X : Sp} {L : List Ett} (hs : SpW w0 w S s q k X L) (hk : k ≤ 1000) :
    Calls Try.prog 23 #[.pointer (some ⟨s, 0, none⟩), .int .u64 0, .int .i64 1000] w fun e w' => ∃ A' c' M, e = .returned (.slice A' M.length c') ∧ SameE L M ∧ RdM8 w' A' M ∧ Below w.heap.size w w' := by
  refine (list_any (N := 0) 1000 (by decide) (by decide) w hs.at_ hs.ok.riseE).mono ?_
  rintro e w' ⟨A', c', M, m, he, hsm, hrow, hm, hlo, hhi, hb⟩
  have hm0 : m = 0 := by
    rcases Nat.eq_zero_or_pos m with h | h
    · exact h
    · have h1 := hlo 0 h
      have hl : 0 < L.length := by omega
      have h2 := (hs.ok.ix L[0].i (List.mem_map_of_mem (List.getElem_mem hl))).1
      have : idxE L 0 = L[0].i := by unfold idxE; rw [List.getElem?_eq_getElem hl]; rfl
      omega
  subst hm0
  have hlen := hs.ok.len
  have hL : listE L 0 (min (1000 : Int).toNat (L.length - 0)) = L := by
    unfold listE
    rw [List.drop_zero, List.take_of_length_le (by have : (1000 : Int).toNat = 1000 := rfl; omega)]
  rw [hL] at hsm
  exact ⟨A', c', M, he, hsm, hrow.rd, hb⟩
theorem min_succ_lt {k m : Nat} (h : k < m) : min (k + 1) m = min k m + 1 := by omega
end Go.Proofs.Ytgcfofnlgdfmoaa
/- Layer 8: nil spools; Counts. -/
namespace Go.Proofs.Ytgcfofnlgdfmoaa
open Go.RowKit

theorem results_tmp5 {fn : Func} {t u v x y : Tmp} (h : fn.results = #[.tmp t, .tmp u, .tmp v, .tmp x, .tmp y]) (tmps : Array Value) (P : Program) (w : World) :
    (results fn tmps).run P w = .ok (.tuple #[tmps.getD t undef, tmps.getD u undef, tmps.getD v undef, tmps.getD x undef, tmps.getD y undef]) w := by
  simp [results, h]
set_option maxRecDepth 100000 in
set_option maxHeartbeats 400000 in
theorem list_nil (a b : Value) (w : World) : Calls Try.prog 23 #[.pointer none, a, b] w fun e w' => e = .returned (.slice none 0 0) ∧ Below w.heap.size w w' := by
  go_enter Try.func23, Try.ntmps23
  go_wp2
  go_ret
  exact ⟨rfl, Below.refl _ _⟩
set_option maxRecDepth 100000 in
set_option maxHeartbeats 400000 in
theorem ack_nil (a : Value) (w : World) : Calls Try.prog 26 #[.pointer none, a] w fun e w' => e = .returned (.int .i64 1) ∧ Below w.heap.size w w' := by
  go_enter Try.func26, Try.ntmps26
  go_wp2
  go_ret
  exact ⟨rfl, Below.refl _ _⟩
set_option maxRecDepth 100000 in
set_option maxHeartbeats 400000 in
theorem quota_nil (w : World) : Calls Try.prog 35 #[.pointer none] w fun e w' => e = .returned (.int .i64 0) ∧ Below w.heap.size w w' := by
  go_enter Try.func35, Try.ntmps35
  go_wp2
  go_ret
  exact ⟨rfl, Below.refl _ _⟩
set_option maxRecDepth 100000 in
set_option maxHeartbeats 400000 in
theorem high_nil (a : Value) (w : World) : Calls Try.prog 22 #[.pointer none, a] w fun e w' => e = .returned (.int .u64 0) ∧ Below w.heap.size w w' := by
  go_enter Try.func22, Try.ntmps22
  go_wp2
  go_ret
  exact ⟨rfl, Below.refl _ _⟩
set_option maxRecDepth 100000 in
set_option maxHeartbeats 400000 in
theorem scopy_nil (w : World) : Calls Try.prog 34 #[.pointer none] w fun e w' => e = .returned (.pointer none) ∧ Below w.heap.size w w' := by
  go_enter Try.func34, Try.ntmps34
  go_wp2
  go_ret
  exact ⟨rfl, Below.refl _ _⟩
set_option maxRecDepth 100000 in
set_option maxHeartbeats 400000 in
theorem scounts_nil (w : World) : Calls Try.prog 32 #[.pointer none] w fun e w' => e = .returned (.tuple #[.int .i64 0, .int .i64 0, .int .u64 0, .int .u64 0, .int .u64 0]) ∧ Below w.heap.size w w' := by
  go_enter Try.func32, Try.ntmps32
  go_wp2
  refine bodyPost_ret (results_tmp5 rfl _ _ _) rfl ?_
  exact ⟨rfl, Below.refl _ _⟩
set_option maxRecDepth 100000 in
set_option maxHeartbeats 400000 in
theorem scounts_any {S : Nat → Prop} {s : Nat} {X : Sp} {L : List Ett} (w : World) (h : SpAt w S s X L) : Calls Try.prog 32 #[.pointer (some ⟨s, 0, none⟩)] w fun e w' => e = .returned (.tuple #[.int .i64 L.length, .int .i64 (sumE L), .int .u64 X.n, .int .u64 X.a, .int .u64 X.v]) ∧ Below w.heap.size w w' := by
  obtain ⟨v, k1, r1⟩ := h.sp
  obtain ⟨A, c, rfl⟩ := own_slice r1.own
  have c1 := k1.c1
  have c2 := k1.c2
  have c3 := k1.c3
  have c4 := k1.c4
  have c37 := k1.c37
  go_enter Try.func32, Try.ntmps32
  go_wp2
  go_quiet (fail)
  go_wp2
  refine bodyPost_ret (results_tmp5 rfl _ _ _) rfl ?_
  exact ⟨rfl, cbelow_drewN (Below.refl _ _) _⟩
set_option maxRecDepth 100000 in
set_option maxHeartbeats 400000 in
theorem find_nil (a : Value) (w : World) : Calls Try.prog 28 #[.pointer none, a] w fun e w' => e = .returned (.tuple #[zeroE, .bool false]) ∧ Below w.heap.size w w' := by
  go_enter Try.func28, Try.ntmps28
  go_upto_region 2 with fail
  go_wp2_with (first | (refine wpList_store_row rfl _ _ _ rfl w.heap.size zeroE.cells rfl rfl _ _ (heap_alloc_new _ _) Try.infoEn rfl (by decide) ?_) | fail)
  refine bodyPost_ret (v := .tuple #[zeroE, .bool false]) ?_ rfl ⟨rfl, ?_⟩
  · exact results_cell_two rfl _ _ w.heap.size _ _ _ _ rfl rfl (heap_alloc_new _ _) Try.underlying68 rfl Try.infoEn
  · exact (Below.refl _ _).alloc (Nat.le_refl _) _
def zeroBase : Array Value := #[.int .u64 0, .int .u64 0, .int .u64 0, .int .u64 0, .int .u64 0, .int .u64 0, .int .u64 0, .int .u64 0, .int .u64 0, .int .u64 0, .int .u64 0, .int .u64 0, .int .u64 0, .int .u64 0, .int .u64 0, .int .u64 0, .int .u64 0, .int .u64 0, .int .u64 0, .int .u64 0, .int .u64 0, .int .u64 0, .int .u64 0, .int .u64 0, .int .u64 0, .int .u64 0, .int .u64 0, .int .u64 0, .int .u64 0, .int .u64 0, .int .u64 0, .int .u64 0, .int .u64 0, .int .u64 0, .int .u64 0, .slice none 0 0]
theorem zeroBase_one : zeroBase.all (·.oneCell') = true := by kernel_rfl
theorem Try.infoBs : (Try.prog.info? 81).map (·.size) = some 36 := by kernel_rfl
theorem Try.builtBs : Try.prog.built 81 [] = some zeroBase := by kernel_rfl
set_option maxRecDepth 100000 in
set_option maxHeartbeats 400000 in
theorem base_nil (w : World) : Calls Try.prog 30 #[.pointer none] w fun e w' => e = .returned (.agg zeroBase) ∧ Below w.heap.size w w' := by
  go_enter Try.func30, Try.ntmps30
  go_upto_region 2 with fail
  go_wp2_with (first | (refine wpList_store_row rfl _ _ _ rfl w.heap.size zeroBase rfl rfl _ _ (heap_alloc_new _ _) (by rw [Try.infoBs]; rfl) rfl zeroBase_one ?_) | fail)
  refine bodyPost_ret (v := .agg zeroBase) (results_cell_row rfl _ _ w.heap.size _ _ _ _ rfl (setRow_heap _ _ _ _ _ _ (heap_alloc_new _ _)) Try.underlying81 rfl (by rw [Try.infoBs]; rfl)) rfl ⟨rfl, below_setRow ((Below.refl _ _).alloc (Nat.le_refl _) _) (Nat.le_refl _) _⟩
set_option maxRecDepth 100000 in
set_option maxHeartbeats 400000 in
theorem part_nil (x : It) (A : Option Addr) (c : Nat) (w : World) : Calls Try.prog 49 #[.pointer none, .agg (itC x A c).toArray] w fun e w' => e = .returned (.tuple #[.agg #[.bool false, .int .u8 0, .int .u64 0, .int .u64 0, .string ⟨#[]⟩, .slice none 0 0, .int .u8 0, .int .u8 0, .int .i64 0, .int .u8 0, .int .u8 0, .int .u64 0, .int .u64 0], .int .i64 1]) ∧ Below w.heap.size w w' := by
  obtain ⟨W, hW⟩ : ∃ W, W = ((w.alloc (.cells (itC x A c).toArray 60)).alloc (.cells #[.bool false, .int .u8 0, .int .u64 0, .int .u64 0, .string ⟨#[]⟩, .slice none 0 0, .int .u8 0, .int .u8 0, .int .i64 0, .int .u8 0, .int .u8 0, .int .u64 0, .int .u64 0] 60)) := ⟨_, rfl⟩
  have hb : Below w.heap.size w W := by rw [hW]; exact ((Below.refl _ _).alloc (Nat.le_refl _) _).alloc (by simp) _
  have h1 : W.heap[w.heap.size + 1]? = some (.cells #[.bool false, .int .u8 0, .int .u64 0, .int .u64 0, .string ⟨#[]⟩, .slice none 0 0, .int .u8 0, .int .u8 0, .int .i64 0, .int .u8 0, .int .u8 0, .int .u64 0, .int .u64 0] 60 (0, 0)) := by rw [hW]; exact heap_alloc2_new _ _ _
  have HB := Lib.hid hb
  have H1 := Lib.hid h1
  have HW := Lib.hid hW
  clear hb h1 hW
  go_enter Try.func49, Try.ntmps49
  go_upto_region 1 with fail
  rw [← HW.out]
  go_wp2_with (first | (refine wpList_store_row rfl _ _ _ rfl (w.heap.size + 1) _ rfl rfl _ _ H1.out Try.infoIt rfl (by simp [Value.oneCell']) ?_) | fail)
  refine bodyPost_ret (v := .tuple #[.agg #[.bool false, .int .u8 0, .int .u64 0, .int .u64 0, .string ⟨#[]⟩, .slice none 0 0, .int .u8 0, .int .u8 0, .int .i64 0, .int .u8 0, .int .u8 0, .int .u64 0, .int .u64 0], .int .i64 1]) ?_ rfl ⟨rfl, below_setRow HB.out (by omega) _⟩
  exact results_cell_two rfl _ _ (w.heap.size + 1) _ _ _ _ rfl rfl (setRow_heap _ _ _ _ _ _ H1.out) Try.underlying60 rfl Try.infoIt

set_option maxRecDepth 100000 in
set_option maxHeartbeats 1000000 in
theorem put_nil (x : It) (A : Option Addr) (c : Nat) (w : World) : Calls Try.prog 24 #[.pointer none, .agg (itC x A c).toArray] w fun e w' => e = .returned (.tuple #[.int .u64 0, .int .u64 0, .int .i64 1]) ∧ Below w.heap.size w w' := by
  obtain ⟨w0, hw0⟩ : ∃ w0, w0 = w.alloc (.cells (itC x A c).toArray 60) := ⟨_, rfl⟩
  have hb0 : Below w.heap.size w w0 := by rw [hw0]; exact (Below.refl _ _).alloc (Nat.le_refl _) _
  have hbox : w0.heap[w.heap.size]? = some (.cells (itC x A c).toArray 60 (0, 0)) := by rw [hw0]; exact heap_alloc_new _ _
  have HW0 := Lib.hid hw0
  have HBOX := Lib.hid hbox
  have HB0 := Lib.hid hb0
  clear hw0 hb0 hbox
  go_enter Try.func24, Try.ntmps24
  go_upto_region 1 with fail
  rw [← HW0.out]
  go_wp2_with (first | (refine wpList_load_row rfl _ _ rfl w.heap.size rfl _ _ _ _ HBOX.out Try.underlying60 rfl Try.infoIt ?_) | fail)
  refine (part_nil x A c w0).mono ?_
  rintro _ w1 ⟨rfl, hb1⟩
  have HB1 := Lib.hid (HB0.out.trans (hb1.mono HB0.out.size))
  clear hb1
  go_upto_region 2 with (first | (refine wpList_store_row rfl _ _ _ rfl w1.heap.size _ rfl rfl _ _ (heap_alloc_new _ _) Try.infoIt rfl (by simp [Value.oneCell']) ?_) | fail)
  obtain ⟨w2, hw2, hc2, hb2, hl2⟩ := boxI w1 #[.bool false, .int .u8 0, .int .u64 0, .int .u64 0, .string ⟨#[]⟩, .slice none 0 0, .int .u8 0, .int .u8 0, .int .i64 0, .int .u8 0, .int .u8 0, .int .u64 0, .int .u64 0] #[.bool false, .int .u8 0, .int .u64 0, .int .u64 0, .string ⟨#[]⟩, .slice none 0 0, .int .u8 0, .int .u8 0, .int .i64 0, .int .u8 0, .int .u8 0, .int .u64 0, .int .u64 0]
  rw [← hw2]
  have HB2 := Lib.hid (HB1.out.trans (hb2.mono HB1.out.size))
  clear hw2 hc2 hb2 hl2
  go_wp2
  go_ret3
  exact ⟨rfl, HB2.out⟩
end Go.Proofs.Ytgcfofnlgdfmoaa
