/- Several texts in one: SpNil, SpFind. -/
import Derived.Test.YtgcfofnlgdfmoaaMd31
import Derived.Test.YtgcfofnlgdfmoaaMd34
/- Layer 8: nil spools; Counts. -/
namespace Go.Proofs.Ytgcfofnlgdfmoaa
open Go.RowKit

theorem results_tmp5 {fn : Func} {t u v x y : Tmp} (h : fn.results = #[.tmp t, .tmp u, .tmp v, .tmp x, .tmp y]) (tmps : Array Value) (P : Program) (w : World) :
    (results fn tmps).run P w = .ok (.tuple #[tmps.getD t undef, tmps.getD u undef, tmps.getD v undef, tmps.getD x undef, tmps.getD y undef]) w := by
  simp [results, h]
set_option maxRecDepth 100000 in
set_option maxHeartbeats 400000 in
theorem list_nil (a b : Value) (w : World) : Calls Try.prog 23 #[.pointer none, a, b] w fun e w' => e = .returned (.slice none 0 0) ∧ Below w.heap.size w w' := by
  go_enter Try.func23, Try.ntmps23
  go_wp2
  go_ret
  exact ⟨rfl, Below.refl _ _⟩
set_option maxRecDepth 100000 in
set_option maxHeartbeats 400000 in
theorem ack_nil (a : Value) (w : World) : Calls Try.prog 26 #[.pointer none, a] w fun e w' => e = .returned (.int .i64 1) ∧ Below w.heap.size w w' := by
  go_enter Try.func26, Try.ntmps26
  go_wp2
  go_ret
  exact ⟨rfl, Below.refl _ _⟩
set_option maxRecDepth 100000 in
set_option maxHeartbeats 400000 in
theorem quota_nil (w : World) : Calls Try.prog 35 #[.pointer none] w fun e w' => e = .returned (.int .i64 0) ∧ Below w.heap.size w w' := by
  go_enter Try.func35, Try.ntmps35
  go_wp2
  go_ret
  exact ⟨rfl, Below.refl _ _⟩
set_option maxRecDepth 100000 in
set_option maxHeartbeats 400000 in
theorem high_nil (a : Value) (w : World) : Calls Try.prog 22 #[.pointer none, a] w fun e w' => e = .returned (.int .u64 0) ∧ Below w.heap.size w w' := by
  go_enter Try.func22, Try.ntmps22
  go_wp2
  go_ret
  exact ⟨rfl, Below.refl _ _⟩
set_option maxRecDepth 100000 in
set_option maxHeartbeats 400000 in
theorem scopy_nil (w : World) : Calls Try.prog 34 #[.pointer none] w fun e w' => e = .returned (.pointer none) ∧ Below w.heap.size w w' := by
  go_enter Try.func34, Try.ntmps34
  go_wp2
  go_ret
  exact ⟨rfl, Below.refl _ _⟩
set_option maxRecDepth 100000 in
set_option maxHeartbeats 400000 in
theorem scounts_nil (w : World) : Calls Try.prog 32 #[.pointer none] w fun e w' => e = .returned (.tuple #[.int .i64 0, .int .i64 0, .int .u64 0, .int .u64 0, .int .u64 0]) ∧ Below w.heap.size w w' := by
  go_enter Try.func32, Try.ntmps32
  go_wp2
  refine bodyPost_ret (results_tmp5 rfl _ _ _) rfl ?_
  exact ⟨rfl, Below.refl _ _⟩
set_option maxRecDepth 100000 in
set_option maxHeartbeats 400000 in
theorem scounts_any {S : Nat → Prop} {s : Nat} {X : Sp} {L : List Ett} (w : World) (h : SpAt w S s X L) : Calls Try.prog 32 #[.pointer (some ⟨s, 0, none⟩)] w fun e w' => e = .returned (.tuple #[.int .i64 L.length, .int .i64 (sumE L), .int .u64 X.n, .int .u64 X.a, .int .u64 X.v]) ∧ Below w.heap.size w w' := by
  obtain ⟨v, k1, r1⟩ := h.sp
  obtain ⟨A, c, rfl⟩ := own_slice r1.own
  have c1 := k1.c1
  have c2 := k1.c2
  have c3 := k1.c3
  have c4 := k1.c4
  have c37 := k1.c37
  go_enter Try.func32, Try.ntmps32
  go_wp2
  go_quiet (fail)
  go_wp2
  refine bodyPost_ret (results_tmp5 rfl _ _ _) rfl ?_
  exact ⟨rfl, cbelow_drewN (Below.refl _ _) _⟩
set_option maxRecDepth 100000 in
set_option maxHeartbeats 400000 in
theorem find_nil (a : Value) (w : World) : Calls Try.prog 28 #[.pointer none, a] w fun e w' => e = .returned (.tuple #[zeroE, .bool false]) ∧ Below w.heap.size w w' := by
  go_enter Try.func28, Try.ntmps28
  go_upto_region 2 with fail
  go_wp2_with (first | (refine wpList_store_row rfl _ _ _ rfl w.heap.size zeroE.cells rfl rfl _ _ (heap_alloc_new _ _) Try.infoEn rfl (by decide) ?_) | fail)
  refine bodyPost_ret (v := .tuple #[zeroE, .bool false]) ?_ rfl ⟨rfl, ?_⟩
  · exact results_cell_two rfl _ _ w.heap.size _ _ _ _ rfl rfl (heap_alloc_new _ _) Try.underlying68 rfl Try.infoEn
  · exact (Below.refl _ _).alloc (Nat.le_refl _) _
def zeroBase : Array Value := #[.int .u64 0, .int .u64 0, .int .u64 0, .int .u64 0, .int .u64 0, .int .u64 0, .int .u64 0, .int .u64 0, .int .u64 0, .int .u64 0, .int .u64 0, .int .u64 0, .int .u64 0, .int .u64 0, .int .u64 0, .int .u64 0, .int .u64 0, .int .u64 0, .int .u64 0, .int .u64 0, .int .u64 0, .int .u64 0, .int .u64 0, .int .u64 0, .int .u64 0, .int .u64 0, .int .u64 0, .int .u64 0, .int .u64 0, .int .u64 0, .int .u64 0, .int .u64 0, .int .u64 0, .int .u64 0, .int .u64 0, .slice none 0 0]
theorem zeroBase_one : zeroBase.all (·.oneCell') = true := by kernel_rfl
theorem Try.infoBs : (Try.prog.info? 81).map (·.size) = some 36 := by kernel_rfl
theorem Try.builtBs : Try.prog.built 81 [] = some zeroBase := by kernel_rfl
set_option maxRecDepth 100000 in
set_option maxHeartbeats 400000 in
theorem base_nil (w : World) : Calls Try.prog 30 #[.pointer none] w fun e w' => e = .returned (.agg zeroBase) ∧ Below w.heap.size w w' := by
  go_enter Try.func30, Try.ntmps30
  go_upto_region 2 with fail
  go_wp2_with (first | (refine wpList_store_row rfl _ _ _ rfl w.heap.size zeroBase rfl rfl _ _ (heap_alloc_new _ _) (by rw [Try.infoBs]; rfl) rfl zeroBase_one ?_) | fail)
  refine bodyPost_ret (v := .agg zeroBase) (results_cell_row rfl _ _ w.heap.size _ _ _ _ rfl (setRow_heap _ _ _ _ _ _ (heap_alloc_new _ _)) Try.underlying81 rfl (by rw [Try.infoBs]; rfl)) rfl ⟨rfl, below_setRow ((Below.refl _ _).alloc (Nat.le_refl _) _) (Nat.le_refl _) _⟩
set_option maxRecDepth 100000 in
set_option maxHeartbeats 400000 in
theorem part_nil (x : It) (A : Option Addr) (c : Nat) (w : World) : Calls Try.prog 49 #[.pointer none, .agg (itC x A c).toArray] w fun e w' => e = .returned (.tuple #[.agg #[.bool false, .int .u8 0, .int .u64 0, .int .u64 0, .string ⟨#[]⟩, .slice none 0 0, .int .u8 0, .int .u8 0, .int .i64 0, .int .u8 0, .int .u8 0, .int .u64 0, .int .u64 0], .int .i64 1]) ∧ Below w.heap.size w w' := by
  obtain ⟨W, hW⟩ : ∃ W, W = ((w.alloc (.cells (itC x A c).toArray 60)).alloc (.cells #[.bool false, .int .u8 0, .int .u64 0, .int .u64 0, .string ⟨#[]⟩, .slice none 0 0, .int .u8 0, .int .u8 0, .int .i64 0, .int .u8 0, .int .u8 0, .int .u64 0, .int .u64 0] 60)) := ⟨_, rfl⟩
  have hb : Below w.heap.size w W := by rw [hW]; exact ((Below.refl _ _).alloc (Nat.le_refl _) _).alloc (by simp) _
  have h1 : W.heap[w.heap.size + 1]? = some (.cells #[.bool false, .int .u8 0, .int .u64 0, .int .u64 0, .string ⟨#[]⟩, .slice none 0 0, .int .u8 0, .int .u8 0, .int .i64 0, .int .u8 0, .int .u8 0, .int .u64 0, .int .u64 0] 60 (0, 0)) := by rw [hW]; exact heap_alloc2_new _ _ _
  have HB := Lib.hid hb
  have H1 := Lib.hid h1
  have HW := Lib.hid hW
  clear hb h1 hW
  go_enter Try.func49, Try.ntmps49
  go_upto_region 1 with fail
  rw [← HW.out]
  go_wp2_with (first | (refine wpList_store_row rfl _ _ _ rfl (w.heap.size + 1) _ rfl rfl _ _ H1.out Try.infoIt rfl (by simp [Value.oneCell']) ?_) | fail)
  refine bodyPost_ret (v := .tuple #[.agg #[.bool false, .int .u8 0, .int .u64 0, .int .u64 0, .string ⟨#[]⟩, .slice none 0 0, .int .u8 0, .int .u8 0, .int .i64 0, .int .u8 0, .int .u8 0, .int .u64 0, .int .u64 0], .int .i64 1]) ?_ rfl ⟨rfl, below_setRow HB.out (by omega) _⟩
  exact results_cell_two rfl _ _ (w.heap.size + 1) _ _ _ _ rfl rfl (setRow_heap _ _ _ _ _ _ H1.out) Try.underlying60 rfl Try.infoIt

set_option maxRecDepth 100000 in
set_option maxHeartbeats 1000000 in
theorem put_nil (x : It) (A : Option Addr) (c : Nat) (w : World) : Calls Try.prog 24 #[.pointer none, .agg (itC x A c).toArray] w fun e w' => e = .returned (.tuple #[.int .u64 0, .int .u64 0, .int .i64 1]) ∧ Below w.heap.size w w' := by
  obtain ⟨w0, hw0⟩ : ∃ w0, w0 = w.alloc (.cells (itC x A c).toArray 60) := ⟨_, rfl⟩
  have hb0 : Below w.heap.size w w0 := by rw [hw0]; exact (Below.refl _ _).alloc (Nat.le_refl _) _
  have hbox : w0.heap[w.heap.size]? = some (.cells (itC x A c).toArray 60 (0, 0)) := by rw [hw0]; exact heap_alloc_new _ _
  have HW0 := Lib.hid hw0
  have HBOX := Lib.hid hbox
  have HB0 := Lib.hid hb0
  clear hw0 hb0 hbox
  go_enter Try.func24, Try.ntmps24
  go_upto_region 1 with fail
  rw [← HW0.out]
  go_wp2_with (first | (refine wpList_load_row rfl _ _ rfl w.heap.size rfl _ _ _ _ HBOX.out Try.underlying60 rfl Try.infoIt ?_) | fail)
  refine (part_nil x A c w0).mono ?_
  rintro _ w1 ⟨rfl, hb1⟩
  have HB1 := Lib.hid (HB0.out.trans (hb1.mono HB0.out.size))
  clear hb1
  go_upto_region 2 with (first | (refine wpList_store_row rfl _ _ _ rfl w1.heap.size _ rfl rfl _ _ (heap_alloc_new _ _) Try.infoIt rfl (by simp [Value.oneCell']) ?_) | fail)
  obtain ⟨w2, hw2, hc2, hb2, hl2⟩ := boxI w1 #[.bool false, .int .u8 0, .int .u64 0, .int .u64 0, .string ⟨#[]⟩, .slice none 0 0, .int .u8 0, .int .u8 0, .int .i64 0, .int .u8 0, .int .u8 0, .int .u64 0, .int .u64 0] #[.bool false, .int .u8 0, .int .u64 0, .int .u64 0, .string ⟨#[]⟩, .slice none 0 0, .int .u8 0, .int .u8 0, .int .i64 0, .int .u8 0, .int .u8 0, .int .u64 0, .int .u64 0]
  rw [← hw2]
  have HB2 := Lib.hid (HB1.out.trans (hb2.mono HB1.out.size))
  clear hw2 hc2 hb2 hl2
  go_wp2
  go_ret3
  exact ⟨rfl, HB2.out⟩
end Go.Proofs.Ytgcfofnlgdfmoaa
/- Layer 8: Find. -/
namespace Go.Proofs.Ytgcfofnlgdfmoaa
open Go.RowKit

structure FoundE (w : World) (L : List Ett) (m : Nat) (y : Ett) : Prop where
  ok : 0 < m → EntOk w (fun _ => False) y
  eq : 0 < m → ∃ e, L[m - 1]? = some e ∧ y.i = e.i ∧ y.x = e.x
theorem entD_cells : (entC entD).toArray = zeroE.cells := by kernel_rfl
theorem boxF (W : World) (Z cs : Array Value) : ∃ V, V = (W.alloc (.cells Z 68)).setRow W.heap.size cs ∧ V.heap[W.heap.size]? = some (.cells cs 68 (0, 0)) ∧ Below W.heap.size W V := ⟨_, rfl, setRow_heap _ _ _ _ _ _ (heap_alloc_new _ _), below_setRow ((Below.refl _ _).alloc (Nat.le_refl _) _) (Nat.le_refl _) _⟩

def isStr : Option Value → Bool
  | some (.string _) => true
  | _ => false
theorem noTwo : ∀ o, o < 14 → ¬ (isStr zeroE.cells[o]? = true ∧ isStr zeroE.cells[o + 1]? = true) := by decide
/-- labels lie in no entry's block: two texts side by side are in none -/
theorem lab_not_box {w : World} {g : Nat} {A : Option Addr} {l : List Pr} {t : TypeId} {Z : Array Value} (h : RdP w w.heap.size A l) (hg : w.heap[g]? = some (.cells Z t (0, 0))) (hZ : Z = zeroE.cells) : ∀ a, A = some a → 0 < l.length → a.block ≠ g := fun a ha h0 e => by
  subst hZ
  obtain ⟨b, o, e1, _, hc⟩ := h h0
  rw [ha] at e1
  injection e1 with e1
  subst e1
  subst e
  obtain ⟨c0, c1⟩ := hc 0 _ (List.getElem?_eq_getElem h0)
  rw [Nat.zero_mul, Nat.add_zero] at c0 c1
  simp only [World.cell?, hg] at c0 c1
  have h14 : o < 14 := by
    have := (Array.getElem?_eq_some_iff.1 c0).1
    exact this
  have d0 : zeroE.cells[o]? = some (.string (l[0]).1) := c0
  have d1 : zeroE.cells[o + 1]? = some (.string (l[0]).2) := c1
  exact noTwo o h14 ⟨by rw [d0]; rfl, by rw [d1]; rfl⟩
theorem entC_one (e : Ett) : (entC e).toArray.all (·.oneCell') = true := by simp [entC, itC, Value.oneCell']
set_option maxRecDepth 100000 in
set_option maxHeartbeats 2000000 in
theorem find_any {S : Nat → Prop} {s N : Nat} {X : Sp} {L : List Ett} (w : World) (h : SpAt w S s X L) (hrise : RiseE L) :
    Calls Try.prog 28 #[.pointer (some ⟨s, 0, none⟩), .int .u64 N] w fun e w' => ∃ (m : Nat) (y : Ett), e = .returned (.tuple #[.agg (entC y).toArray, .bool (decide (0 < m))]) ∧ m ≤ L.length ∧ (∀ k, k < m → idxE L k ≤ N) ∧ (∀ k, m ≤ k → k < L.length → N < idxE L k) ∧ FoundE w' L m y ∧ Below w.heap.size w w' := by
  obtain ⟨Z, hZ⟩ : ∃ Z, Z = zeroE.cells := ⟨_, rfl⟩
  obtain ⟨W, hW⟩ : ∃ W, W = w.alloc (.cells Z 68) := ⟨_, rfl⟩
  have hb : Below w.heap.size w W := by rw [hW]; exact (Below.refl _ _).alloc (Nat.le_refl _) _
  have hbox : W.heap[w.heap.size]? = some (.cells Z 68 (0, 0)) := by rw [hW]; exact heap_alloc_new _ _
  have hl := (Array.getElem?_eq_some_iff.1 hbox).1
  have hU := upTo_any (N := N) W (h.below hb) hrise
  obtain ⟨v, k1, r1⟩ := h.sp
  obtain ⟨A, c, rfl⟩ := own_slice r1.own
  have HC37 : Hid (∀ V, Below w.heap.size w V → V.cell? ⟨s, 37, none⟩ = some (.slice A L.length c)) := fun V hV => (hV.cell (p := ⟨s, 37, none⟩) k1.slt).trans k1.c37
  have HOWN := Lib.hid r1.own
  have HH := Lib.hid h
  have HU := Lib.hid hU
  have HW := Lib.hid hW
  have HB := Lib.hid hb
  have HX := Lib.hid hbox
  have hfew := h.few
  obtain ⟨n, hn⟩ : ∃ n, n = L.length := ⟨_, rfl⟩
  rw [← hn] at HC37 HOWN HU hfew ⊢
  have HN := Lib.hid hn
  have HZ := Lib.hid hZ
  have HZS : Hid (Z.size = 14) := by rw [hZ]; rfl
  clear k1 r1 h hrise hU hW hb hbox hn hZ
  go_enter Try.func28, Try.ntmps28
  go_upto_region 3 with fail
  have hw := HW.out
  rw [HZ.out] at hw
  unfold zeroE Value.cells at hw
  simp only at hw
  rw [← hw]
  clear hw
  go_wp2_with fail
  refine HU.out.mono ?_
  rintro _ w1 ⟨m, rfl, hm, hlo, hhi, hb1⟩
  have hz1 := hb1.size
  have HB1 : Hid (Below w.heap.size w w1) := HB.out.trans (hb1.mono HB.out.size)
  have HX1 := Lib.hid ((hb1.block _ hl).trans HX.out)
  have HLO := Lib.hid hlo
  have HHI := Lib.hid hhi
  clear hb1 hlo hhi HU
  by_cases h0 : m = 0
  · subst h0
    go_wp2_with (refine wpList_store_row rfl _ _ _ rfl w.heap.size _ rfl rfl _ _ HX1.out Try.infoEn HZS.out (by simp [Value.oneCell']) ?_)
    refine bodyPost_ret (v := .tuple #[.agg zeroE.cells, .bool false]) ?_ rfl ⟨0, entD, ?_, Nat.zero_le _, HLO.out, HHI.out, ⟨fun h => absurd h (by omega), fun h => absurd h (by omega)⟩, below_setRow HB1.out (Nat.le_refl _) _⟩
    · exact results_cell_two rfl _ _ w.heap.size _ _ _ _ rfl rfl (setRow_heap _ _ _ _ _ _ HX1.out) Try.underlying68 rfl Try.infoEn
    · rw [entD_cells]; rfl
  · obtain ⟨p, hp⟩ : ∃ p, m = p + 1 := ⟨m - 1, by omega⟩
    have hpn : p < L.length := by have := HN.out; omega
    obtain ⟨e, he⟩ : ∃ e, L[p]? = some e := ⟨_, List.getElem?_eq_getElem hpn⟩
    obtain ⟨b, c', hv, _, hlt⟩ := HOWN.out.form (by have := HN.out; omega)
    injection hv with hv1 _ hv3
    subst hv1
    subst hv3
    have hcap := (own_capE HOWN.out).1
    have hm1 : (m : Int) - 1 = (p : Int) := by omega
    obtain ⟨n1, hn1⟩ : ∃ n1 : Nat, n1 = 1 := ⟨1, rfl⟩
    have f4 : ∀ W, (Instr.sliceAt 63 (.slice (some ⟨b, 0, none⟩) n c) (some (.int .i64 p)) (some (.int .i64 m)) none).run Try.prog W = .ok (.slice (some (subE b c p)) n1 (c - p)) W := fun W => by
      have := slE_lh b n c p m (by omega) (by omega) W
      rwa [show m - p = n1 by omega] at this
    have hlist : listE L p 1 = [e] := by
      unfold listE
      rw [List.drop_eq_getElem_cons hpn, (List.getElem?_eq_some_iff.1 he).2]
      rfl
    have HSRC : Hid (∀ W, Below w1.heap.size w1 W → Src W (some (subE b c p)) n1 14 (cellsE [e])) := fun W hW => by
      rw [hn1]
      have := srcE_cut (m := p) (k := 1) HN.out (ownB_below (ownB_below HOWN.out HB1.out) hW) (by omega) (by omega)
      rwa [hlist] at this
    have HOK : Hid (OkE w1 [e]) := fun x hx => by
      rw [List.mem_singleton] at hx
      subst hx
      exact ((HH.out.ent x (List.mem_of_getElem? he)).free).below HB1.out
    have HP := Lib.hid hp
    have HE := Lib.hid he
    have f2 := HC37.out w1 HB1.out
    have HN1 : Hid (n1 = [e].length) := hn1
    have h01 : 0 < n1 := by omega
    clear hlist hp he hn1
    go_wp2_with fail
    refine (clones_any (some (subE b c p)) n1 (c - p) [e] w1 HN1.out (by rw [HN1.out]; exact (by decide : 1 ≤ 100000)) (fun h => by cases h) HSRC.out HOK.out).mono ?_
    rintro _ w2 ⟨A2, c2, M, rfl, hsm, hrow, hb2⟩
    obtain ⟨y, rfl⟩ : ∃ y, M = [y] := by
      have := hsm.len
      match M, this with
      | [y], _ => exact ⟨y, rfl⟩
    obtain ⟨g, c3, hv, _, hlt2⟩ := hrow.own.form (by simp)
    injection hv with hv1 _ hv3
    subst hv1
    subst hv3
    have hrg : w2.rangeAt g 0 (entC y) := fun j u hj => by
      have := hrow.own.cells (g := g) rfl j u (by rw [cellsE_cons, List.getElem?_append_left (List.getElem?_eq_some_iff.1 hj).1]; exact hj)
      rw [Addr.add_lit, Nat.zero_add] at this
      rw [Nat.zero_add]
      exact this
    have hsame : y.i = e.i ∧ y.x = e.x := by
      have := hsm.get 0
      simp at this
      exact ⟨this.1.symm, this.2.symm⟩
    have HRG := Lib.hid hrg
    have HSAME := Lib.hid hsame
    have HOKY := Lib.hid ((hrow.ok y List.mem_cons_self).free)
    have HB2 := Lib.hid (HB1.out.trans (hb2.mono HB1.out.size))
    have HX2 := Lib.hid ((hb2.block _ (Nat.lt_of_lt_of_le hl hz1)).trans HX1.out)
    clear hsm hrow hb2 hrg hsame f2 f4 hm1
    go_wp2_with (first | (refine wpList_load_mid rfl _ _ rfl g 0 rfl _ _ HRG.out Try.underlying68 rfl Try.infoEn ?_) | (refine wpList_store_row rfl _ _ _ rfl w.heap.size (entC y).toArray rfl rfl _ _ HX2.out Try.infoEn HZS.out (entC_one y) ?_) | fail)
    have hne := lab_not_box HOKY.out.rd HX2.out HZ.out
    refine bodyPost_ret (v := .tuple #[.agg (entC y).toArray, .bool true]) (results_cell_two rfl _ _ w.heap.size _ _ _ _ rfl rfl (setRow_heap _ _ _ _ _ _ HX2.out) Try.underlying68 rfl Try.infoEn) rfl
      ⟨m, y, by rw [decide_eq_true (by omega : 0 < m)], hm, HLO.out, HHI.out, ⟨fun _ => HOKY.out.only (onlyRow _ _ _) (fun a ha h0 e => hne a ha h0 e) (fun _ h => .inl h), fun _ => ⟨e, by have := HP.out; rw [show m - 1 = p by omega]; exact HE.out, HSAME.out⟩⟩, below_setRow HB2.out (Nat.le_refl _) _⟩
end Go.Proofs.Ytgcfofnlgdfmoaa
