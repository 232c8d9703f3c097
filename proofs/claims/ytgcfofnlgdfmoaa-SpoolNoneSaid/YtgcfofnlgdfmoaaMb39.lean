/- Several texts in one: SpNil, ItSmallOk. -/
import Derived.Test.YtgcfofnlgdfmoaaMb6
import Derived.Test.YtgcfofnlgdfmoaaMb10
import Derived.Test.YtgcfofnlgdfmoaaMb35
/- Layer 8: nil spools; Counts. -/
namespace Go.Proofs.Ytgcfofnlgdfmoaa
open Go.RowKit

theorem results_tmp5 {fn : Func} {t u v x y : Tmp} (h : fn.results = #[.tmp t, .tmp u, .tmp v, .tmp x, .tmp y]) (tmps : Array Value) (P : Program) (w : World) :
    (results fn tmps).run P w = .ok (.tuple #[tmps.getD t undef, tmps.getD u undef, tmps.getD v undef, tmps.getD x undef, tmps.getD y undef]) w := by
  simp [results, h]
set_option maxRecDepth 100000 in
set_option maxHeartbeats 400000 in
theorem list_nil (a b : Value) (w : World) : Calls Try.prog 23 #[.pointer none, a, b] w fun e w' => e = .returned (.slice none 0 0) ∧ Below w.heap.size w w' := by
  go_enter Try.func23, Try.ntmps23
  go_wp2
  go_ret
  exact ⟨rfl, Below.refl _ _⟩
set_option maxRecDepth 100000 in
set_option maxHeartbeats 400000 in
theorem ack_nil (a : Value) (w : World) : Calls Try.prog 26 #[.pointer none, a] w fun e w' => e = .returned (.int .i64 1) ∧ Below w.heap.size w w' := by
  go_enter Try.func26, Try.ntmps26
  go_wp2
  go_ret
  exact ⟨rfl, Below.refl _ _⟩
set_option maxRecDepth 100000 in
set_option maxHeartbeats 400000 in
theorem quota_nil (w : World) : Calls Try.prog 35 #[.pointer none] w fun e w' => e = .returned (.int .i64 0) ∧ Below w.heap.size w w' := by
  go_enter Try.func35, Try.ntmps35
  go_wp2
  go_ret
  exact ⟨rfl, Below.refl _ _⟩
set_option maxRecDepth 100000 in
set_option maxHeartbeats 400000 in
theorem high_nil (a : Value) (w : World) : Calls Try.prog 22 #[.pointer none, a] w fun e w' => e = .returned (.int .u64 0) ∧ Below w.heap.size w w' := by
  go_enter Try.func22, Try.ntmps22
  go_wp2
  go_ret
  exact ⟨rfl, Below.refl _ _⟩
set_option maxRecDepth 100000 in
set_option maxHeartbeats 400000 in
theorem scopy_nil (w : World) : Calls Try.prog 34 #[.pointer none] w fun e w' => e = .returned (.pointer none) ∧ Below w.heap.size w w' := by
  go_enter Try.func34, Try.ntmps34
  go_wp2
  go_ret
  exact ⟨rfl, Below.refl _ _⟩
set_option maxRecDepth 100000 in
set_option maxHeartbeats 400000 in
theorem scounts_nil (w : World) : Calls Try.prog 32 #[.pointer none] w fun e w' => e = .returned (.tuple #[.int .i64 0, .int .i64 0, .int .u64 0, .int .u64 0, .int .u64 0]) ∧ Below w.heap.size w w' := by
  go_enter Try.func32, Try.ntmps32
  go_wp2
  refine bodyPost_ret (results_tmp5 rfl _ _ _) rfl ?_
  exact ⟨rfl, Below.refl _ _⟩
set_option maxRecDepth 100000 in
set_option maxHeartbeats 400000 in
theorem scounts_any {S : Nat → Prop} {s : Nat} {X : Sp} {L : List Ett} (w : World) (h : SpAt w S s X L) : Calls Try.prog 32 #[.pointer (some ⟨s, 0, none⟩)] w fun e w' => e = .returned (.tuple #[.int .i64 L.length, .int .i64 (sumE L), .int .u64 X.n, .int .u64 X.a, .int .u64 X.v]) ∧ Below w.heap.size w w' := by
  obtain ⟨v, k1, r1⟩ := h.sp
  obtain ⟨A, c, rfl⟩ := own_slice r1.own
  have c1 := k1.c1
  have c2 := k1.c2
  have c3 := k1.c3
  have c4 := k1.c4
  have c37 := k1.c37
  go_enter Try.func32, Try.ntmps32
  go_wp2
  go_quiet (fail)
  go_wp2
  refine bodyPost_ret (results_tmp5 rfl _ _ _) rfl ?_
  exact ⟨rfl, cbelow_drewN (Below.refl _ _) _⟩
set_option maxRecDepth 100000 in
set_option maxHeartbeats 400000 in
theorem find_nil (a : Value) (w : World) : Calls Try.prog 28 #[.pointer none, a] w fun e w' => e = .returned (.tuple #[zeroE, .bool false]) ∧ Below w.heap.size w w' := by
  go_enter Try.func28, Try.ntmps28
  go_upto_region 2 with fail
  go_wp2_with (first | (refine wpList_store_row rfl _ _ _ rfl w.heap.size zeroE.cells rfl rfl _ _ (heap_alloc_new _ _) Try.infoEn rfl (by decide) ?_) | fail)
  refine bodyPost_ret (v := .tuple #[zeroE, .bool false]) ?_ rfl ⟨rfl, ?_⟩
  · exact results_cell_two rfl _ _ w.heap.size _ _ _ _ rfl rfl (heap_alloc_new _ _) Try.underlying68 rfl Try.infoEn
  · exact (Below.refl _ _).alloc (Nat.le_refl _) _
def zeroBase : Array Value := #[.int .u64 0, .int .u64 0, .int .u64 0, .int .u64 0, .int .u64 0, .int .u64 0, .int .u64 0, .int .u64 0, .int .u64 0, .int .u64 0, .int .u64 0, .int .u64 0, .int .u64 0, .int .u64 0, .int .u64 0, .int .u64 0, .int .u64 0, .int .u64 0, .int .u64 0, .int .u64 0, .int .u64 0, .int .u64 0, .int .u64 0, .int .u64 0, .int .u64 0, .int .u64 0, .int .u64 0, .int .u64 0, .int .u64 0, .int .u64 0, .int .u64 0, .int .u64 0, .int .u64 0, .int .u64 0, .int .u64 0, .slice none 0 0]
theorem zeroBase_one : zeroBase.all (·.oneCell') = true := by kernel_rfl
theorem Try.infoBs : (Try.prog.info? 81).map (·.size) = some 36 := by kernel_rfl
theorem Try.builtBs : Try.prog.built 81 [] = some zeroBase := by kernel_rfl
set_option maxRecDepth 100000 in
set_option maxHeartbeats 400000 in
theorem base_nil (w : World) : Calls Try.prog 30 #[.pointer none] w fun e w' => e = .returned (.agg zeroBase) ∧ Below w.heap.size w w' := by
  go_enter Try.func30, Try.ntmps30
  go_upto_region 2 with fail
  go_wp2_with (first | (refine wpList_store_row rfl _ _ _ rfl w.heap.size zeroBase rfl rfl _ _ (heap_alloc_new _ _) (by rw [Try.infoBs]; rfl) rfl zeroBase_one ?_) | fail)
  refine bodyPost_ret (v := .agg zeroBase) (results_cell_row rfl _ _ w.heap.size _ _ _ _ rfl (setRow_heap _ _ _ _ _ _ (heap_alloc_new _ _)) Try.underlying81 rfl (by rw [Try.infoBs]; rfl)) rfl ⟨rfl, below_setRow ((Below.refl _ _).alloc (Nat.le_refl _) _) (Nat.le_refl _) _⟩
set_option maxRecDepth 100000 in
set_option maxHeartbeats 400000 in
theorem part_nil (x : It) (A : Option Addr) (c : Nat) (w : World) : Calls Try.prog 49 #[.pointer none, .agg (itC x A c).toArray] w fun e w' => e = .returned (.tuple #[.agg #[.bool false, .int .u8 0, .int .u64 0, .int .u64 0, .string ⟨#[]⟩, .slice none 0 0, .int .u8 0, .int .u8 0, .int .i64 0, .int .u8 0, .int .u8 0, .int .u64 0, .int .u64 0], .int .i64 1]) ∧ Below w.heap.size w w' := by
  obtain ⟨W, hW⟩ : ∃ W, W = ((w.alloc (.cells (itC x A c).toArray 60)).alloc (.cells #[.bool false, .int .u8 0, .int .u64 0, .int .u64 0, .string ⟨#[]⟩, .slice none 0 0, .int .u8 0, .int .u8 0, .int .i64 0, .int .u8 0, .int .u8 0, .int .u64 0, .int .u64 0] 60)) := ⟨_, rfl⟩
  have hb : Below w.heap.size w W := by rw [hW]; exact ((Below.refl _ _).alloc (Nat.le_refl _) _).alloc (by simp) _
  have h1 : W.heap[w.heap.size + 1]? = some (.cells #[.bool false, .int .u8 0, .int .u64 0, .int .u64 0, .string ⟨#[]⟩, .slice none 0 0, .int .u8 0, .int .u8 0, .int .i64 0, .int .u8 0, .int .u8 0, .int .u64 0, .int .u64 0] 60 (0, 0)) := by rw [hW]; exact heap_alloc2_new _ _ _
  have HB := Lib.hid hb
  have H1 := Lib.hid h1
  have HW := Lib.hid hW
  clear hb h1 hW
  go_enter Try.func49, Try.ntmps49
  go_upto_region 1 with fail
  rw [← HW.out]
  go_wp2_with (first | (refine wpList_store_row rfl _ _ _ rfl (w.heap.size + 1) _ rfl rfl _ _ H1.out Try.infoIt rfl (by simp [Value.oneCell']) ?_) | fail)
  refine bodyPost_ret (v := .tuple #[.agg #[.bool false, .int .u8 0, .int .u64 0, .int .u64 0, .string ⟨#[]⟩, .slice none 0 0, .int .u8 0, .int .u8 0, .int .i64 0, .int .u8 0, .int .u8 0, .int .u64 0, .int .u64 0], .int .i64 1]) ?_ rfl ⟨rfl, below_setRow HB.out (by omega) _⟩
  exact results_cell_two rfl _ _ (w.heap.size + 1) _ _ _ _ rfl rfl (setRow_heap _ _ _ _ _ _ H1.out) Try.underlying60 rfl Try.infoIt

set_option maxRecDepth 100000 in
set_option maxHeartbeats 1000000 in
theorem put_nil (x : It) (A : Option Addr) (c : Nat) (w : World) : Calls Try.prog 24 #[.pointer none, .agg (itC x A c).toArray] w fun e w' => e = .returned (.tuple #[.int .u64 0, .int .u64 0, .int .i64 1]) ∧ Below w.heap.size w w' := by
  obtain ⟨w0, hw0⟩ : ∃ w0, w0 = w.alloc (.cells (itC x A c).toArray 60) := ⟨_, rfl⟩
  have hb0 : Below w.heap.size w w0 := by rw [hw0]; exact (Below.refl _ _).alloc (Nat.le_refl _) _
  have hbox : w0.heap[w.heap.size]? = some (.cells (itC x A c).toArray 60 (0, 0)) := by rw [hw0]; exact heap_alloc_new _ _
  have HW0 := Lib.hid hw0
  have HBOX := Lib.hid hbox
  have HB0 := Lib.hid hb0
  clear hw0 hb0 hbox
  go_enter Try.func24, Try.ntmps24
  go_upto_region 1 with fail
  rw [← HW0.out]
  go_wp2_with (first | (refine wpList_load_row rfl _ _ rfl w.heap.size rfl _ _ _ _ HBOX.out Try.underlying60 rfl Try.infoIt ?_) | fail)
  refine (part_nil x A c w0).mono ?_
  rintro _ w1 ⟨rfl, hb1⟩
  have HB1 := Lib.hid (HB0.out.trans (hb1.mono HB0.out.size))
  clear hb1
  go_upto_region 2 with (first | (refine wpList_store_row rfl _ _ _ rfl w1.heap.size _ rfl rfl _ _ (heap_alloc_new _ _) Try.infoIt rfl (by simp [Value.oneCell']) ?_) | fail)
  obtain ⟨w2, hw2, hc2, hb2, hl2⟩ := boxI w1 #[.bool false, .int .u8 0, .int .u64 0, .int .u64 0, .string ⟨#[]⟩, .slice none 0 0, .int .u8 0, .int .u8 0, .int .i64 0, .int .u8 0, .int .u8 0, .int .u64 0, .int .u64 0] #[.bool false, .int .u8 0, .int .u64 0, .int .u64 0, .string ⟨#[]⟩, .slice none 0 0, .int .u8 0, .int .u8 0, .int .i64 0, .int .u8 0, .int .u8 0, .int .u64 0, .int .u64 0]
  rw [← hw2]
  have HB2 := Lib.hid (HB1.out.trans (hb2.mono HB1.out.size))
  clear hw2 hc2 hb2 hl2
  go_wp2
  go_ret3
  exact ⟨rfl, HB2.out⟩
end Go.Proofs.Ytgcfofnlgdfmoaa
/- Layer 4: a small item may be one. -/
namespace Go.Proofs.Ytgcfofnlgdfmoaa
open Go.RowKit

theorem u8_nat (n : Nat) (h : n < 256) : (UInt8.ofNat n).toNat = n := by
  rw [UInt8.toNat_ofNat']; omega
theorem fitsB_one (p : Nat → Bool) (m : Nat) (c : UInt8) (hm : 1 ≤ m) : fitsB p m ⟨#[c]⟩ = p c.toNat := by
  simp [fitsB, ByteArray.size, hm]
theorem labS_key (s : Sm) (i : Nat) (h : i < 3) : keyB (labS s i).1 = true := by
  show fitsB lowN 8 ⟨#[UInt8.ofNat (97 + i)]⟩ = true
  rw [fitsB_one _ _ _ (by decide), u8_nat _ (by omega)]
  exact lowN_yes (by omega) (by omega)
theorem labS_value (s : Sm) (i : Nat) : valueB (labS s i).2 = true := by
  show fitsB signN 16 ⟨#[UInt8.ofNat (48 + s.l / 4 % 10)]⟩ = true
  rw [fitsB_one _ _ _ (by decide), u8_nat _ (by omega)]
  unfold signN
  have h1 : 48 + s.l / 4 % 10 ≤ 57 := by omega
  simp [h1]
theorem labS_size (s : Sm) (i : Nat) : (labS s i).1.size = 1 ∧ (labS s i).2.size = 1 := ⟨rfl, rfl⟩
def keyC (i : Nat) : ByteArray := ⟨#[UInt8.ofNat (97 + i)]⟩
theorem keyC_next (i : Nat) (h : i < 2) : eqS (keyC i) (keyC (i + 1)) = false ∧ ltS (keyC (i + 1)) (keyC i) = false := by
  match i, h with
  | 0, _ => exact ⟨by rw [Bool.eq_false_iff]; intro e; rw [eqS_iff] at e; exact absurd e (by decide), by rw [ltS_eq]; decide⟩
  | 1, _ => exact ⟨by rw [Bool.eq_false_iff]; intro e; rw [eqS_iff] at e; exact absurd e (by decide), by rw [ltS_eq]; decide⟩
theorem labS_next (s : Sm) (i : Nat) (h : i < 2) : eqS (labS s i).1 (labS s (i + 1)).1 = false ∧ ltS (labS s (i + 1)).1 (labS s i).1 = false := keyC_next i h
theorem labsS_check (s : Sm) (k : Nat) (h : k < 4) : check (labsS s k) = 0 := by
  have k0 := labS_key s 0 (by decide)
  have k1 := labS_key s 1 (by decide)
  have k2 := labS_key s 2 (by decide)
  have v0 := labS_value s 0
  have v1 := labS_value s 1
  have v2 := labS_value s 2
  obtain ⟨e0, l0⟩ := labS_next s 0 (by decide)
  obtain ⟨e1, l1⟩ := labS_next s 1 (by decide)
  match k, h with
  | 0, _ => rfl
  | 1, _ =>
    show check [labS s 0] = 0
    simp [check, chk, k0, v0]
  | 2, _ =>
    show check [labS s 0, labS s 1] = 0
    simp only [Nat.zero_add] at e0 l0
    simp [check, chk, k0, v0, k1, v1, e0, l0]
  | 3, _ =>
    show check [labS s 0, labS s 1, labS s 2] = 0
    simp only [Nat.zero_add] at e0 l0 e1 l1
    have e1' : eqS (labS s 1).1 (labS s 2).1 = false := e1
    have l1' : ltS (labS s 2).1 (labS s 1).1 = false := l1
    simp [check, chk, k0, v0, k1, v1, k2, v2, e0, l0, e1', l1']
theorem fits_lit (p : Nat → Bool) (m : Nat) (a : Array UInt8) (h0 : 0 < a.size) (hm : a.size ≤ m) (h : a.toList.all (fun c => p c.toNat) = true) : fitsB p m ⟨a⟩ = true := by
  unfold fitsB
  rw [show (ByteArray.mk a).size = a.size from rfl, decide_eq_true h0, decide_eq_true hm, h]
  rfl
theorem ownX_ok : nameB ownX = true ∧ ownB ownX = true := by decide
theorem ruleS_ok (r : Nat) : nameB (ruleS r) = true ∧ ownB (ruleS r) = false := by
  unfold ruleS
  split <;> decide
theorem smallI_gap (s : Sm) (h : s.g = true) : smallI s = ⟨true, 0, 0, 0, ⟨#[]⟩, [], 0, 0, 0, 0, s.o % 32, 1 + s.q, 1 + s.q + s.m⟩ := if_pos h
theorem smallI_ev (s : Sm) (h : s.g = false) : smallI s = ⟨false, s.o % 32, 1 + s.q, s.t, if s.w % 8 = 7 then ownX else ruleS s.r, labsS s (s.l % 4), if s.s then 2 else 0, s.p % 8, (s.v : Int) - 100, if s.w % 8 = 7 then 1 + s.w / 8 % 2 else 0, 0, 0, 0⟩ := if_neg (by rw [h]; decide)
theorem smallI_right (s : Sm) (hs : OkS s) : itemN (smallI s) = 0 := by
  have a1 := hs.q
  have a2 := hs.m
  have a3 := hs.t
  cases hg : s.g with
  | true =>
    rw [smallI_gap s hg]
    show gapN _ = 0
    unfold gapN
    rw [if_neg (by simp only; omega)]
  | false =>
    rw [smallI_ev s hg]
    show evN _ = 0
    unfold evN
    rw [if_neg (by simp only; omega)]
    have h1 : nameB (if s.w % 8 = 7 then ownX else ruleS s.r) = true := by
      split
      · exact ownX_ok.1
      · exact (ruleS_ok s.r).1
    have h2 : ownB (if s.w % 8 = 7 then ownX else ruleS s.r) = decide (s.w % 8 = 7) := by
      split
      · rename_i h; rw [ownX_ok.2, decide_eq_true h]
      · rename_i h; rw [(ruleS_ok s.r).2, decide_eq_false h]
    simp only [h1, h2]
    rw [if_neg (by decide), if_neg (by split <;> split <;> omega), if_neg ?_]
    · exact labsS_check s _ (by omega)
    · by_cases h7 : s.w % 8 = 7
      · rw [if_pos h7, decide_eq_true h7, decide_eq_true (by omega)]; decide
      · rw [if_neg h7, decide_eq_false h7]; simp
theorem labsS_get (s : Sm) (k i : Nat) (p : Pr) (h : (labsS s k)[i]? = some p) : p.1.size = 1 ∧ p.2.size = 1 := by
  unfold labsS at h
  rw [List.getElem?_map] at h
  obtain ⟨j, _, rfl⟩ := Option.map_eq_some_iff.1 h
  exact labS_size s j
theorem ruleI_size (s : Sm) : (if s.w % 8 = 7 then ownX else ruleS s.r).size ≤ 100 := by
  split
  · decide
  · exact ruleS_size s.r
theorem smallI_ok (s : Sm) (hs : OkS s) : OkI (smallI s) := by
  have a1 := hs.q
  have a2 := hs.m
  have a3 := hs.t
  have a4 := hs.v
  have a5 := ruleI_size s
  cases hg : s.g with
  | true =>
    rw [smallI_gap s hg]
    exact ⟨by simp, by simp, by simp, (show (⟨#[]⟩ : ByteArray).size ≤ _ by decide), (fun i p h => by simp at h), by simp, by simp, by simp, by simp, by simp, by simp only; omega, by simp only; omega, by simp only; omega⟩
  | false =>
    rw [smallI_ev s hg]
    exact ⟨by simp only; omega, by simp only; omega, by simp only; omega, by simp only; unfold maxLen; omega, fun i p h => by
        obtain ⟨h1, h2⟩ := labsS_get s _ i p h
        rw [h1, h2]; decide, by simp only; split <;> decide, by simp only; omega, by simp only; omega, by simp only; omega, by simp only; split <;> omega, by simp, by simp, by simp⟩
theorem smallI_short (s : Sm) : ShortI (smallI s) := by
  have a5 := ruleI_size s
  cases hg : s.g with
  | true =>
    rw [smallI_gap s hg]
    exact ⟨(show (⟨#[]⟩ : ByteArray).size ≤ _ by decide), fun i p h => by simp at h⟩
  | false =>
    rw [smallI_ev s hg]
    exact ⟨by simp only; omega, fun i p h => by
      obtain ⟨h1, h2⟩ := labsS_get s _ i p h
      rw [h1, h2]; decide⟩
theorem smallI_labs (s : Sm) : (smallI s).l.length ≤ 3 := by
  cases hg : s.g with
  | true => rw [smallI_gap s hg]; simp
  | false =>
    rw [smallI_ev s hg]
    simp only [labsS_length]
    omega
theorem labsS_len (s : Sm) (k : Nat) : (labsB (labsS s k)).length = 4 * k := by
  induction k with
  | zero => rfl
  | succ k ih =>
    rw [labsS_succ, labsB_append, List.length_append, ih]
    have h1 : leb 1 = [1] := leb_lt (by decide)
    have h2 : (textB (labS s k).1).length = 2 := by rw [textB_length, (labS_size s k).1, h1]; rfl
    have h3 : (textB (labS s k).2).length = 2 := by rw [textB_length, (labS_size s k).2, h1]; rfl
    simp only [labsB, List.length_append, h2, h3, List.length_nil]
    omega
theorem smallI_len (s : Sm) (hs : OkS s) : (itemB (smallI s)).length ≤ 300 := by
  have ho := smallI_ok s hs
  have a5 := ruleI_size s
  have b1 := leb_le10 ho.q
  have b2 := leb_le10 ho.t
  have b3 := leb_le10 ho.gf
  have b4 := leb_le10 ho.gt
  have b5 := leb_le10 (zig_lt ho.v0 ho.v1)
  have b6 := leb_le10 (n := (smallI s).r.size) (by have := (smallI_short s).r; omega)
  have b7 := leb_le10 (n := (smallI s).l.length) (by have := smallI_labs s; omega)
  have b8 : (smallI s).r.size ≤ 100 := by
    cases hg : s.g with
    | true => rw [smallI_gap s hg]; exact (show (⟨#[]⟩ : ByteArray).size ≤ _ by decide)
    | false => rw [smallI_ev s hg]; exact a5
  have b9 : (labsB (smallI s).l).length ≤ 12 := by
    cases hg : s.g with
    | true => rw [smallI_gap s hg]; simp [labsB]
    | false =>
      rw [smallI_ev s hg]
      show (labsB (labsS s (s.l % 4))).length ≤ 12
      rw [labsS_len]; omega
  unfold itemB
  split
  · unfold gapB
    simp only [List.length_append, List.length_cons, List.length_nil]
    omega
  · unfold evB headB tailB
    simp only [List.length_append, List.length_cons, List.length_nil, textB_length]
    omega
end Go.Proofs.Ytgcfofnlgdfmoaa
