/- Several texts in one: ItSmallOk, SpNext. -/
import Derived.Test.YtgcfofnlgdfmoaaMf4
import Derived.Test.YtgcfofnlgdfmoaaMf8
import Derived.Test.YtgcfofnlgdfmoaaMf31
/- Layer 4: a small item may be one. -/
namespace Go.Proofs.Ytgcfofnlgdfmoaa
open Go.RowKit

theorem u8_nat (n : Nat) (h : n < 256) : (UInt8.ofNat n).toNat = n := by
  rw [UInt8.toNat_ofNat']; omega
theorem fitsB_one (p : Nat → Bool) (m : Nat) (c : UInt8) (hm : 1 ≤ m) : fitsB p m ⟨#[c]⟩ = p c.toNat := by
  simp [fitsB, ByteArray.size, hm]
theorem labS_key (s : Sm) (i : Nat) (h : i < 3) : keyB (labS s i).1 = true := by
  show fitsB lowN 8 ⟨#[UInt8.ofNat (97 + i)]⟩ = true
  rw [fitsB_one _ _ _ (by decide), u8_nat _ (by omega)]
  exact lowN_yes (by omega) (by omega)
theorem labS_value (s : Sm) (i : Nat) : valueB (labS s i).2 = true := by
  show fitsB signN 16 ⟨#[UInt8.ofNat (48 + s.l / 4 % 10)]⟩ = true
  rw [fitsB_one _ _ _ (by decide), u8_nat _ (by omega)]
  unfold signN
  have h1 : 48 + s.l / 4 % 10 ≤ 57 := by omega
  simp [h1]
theorem labS_size (s : Sm) (i : Nat) : (labS s i).1.size = 1 ∧ (labS s i).2.size = 1 := ⟨rfl, rfl⟩
def keyC (i : Nat) : ByteArray := ⟨#[UInt8.ofNat (97 + i)]⟩
theorem keyC_next (i : Nat) (h : i < 2) : eqS (keyC i) (keyC (i + 1)) = false ∧ ltS (keyC (i + 1)) (keyC i) = false := by
  match i, h with
  | 0, _ => exact ⟨by rw [Bool.eq_false_iff]; intro e; rw [eqS_iff] at e; exact absurd e (by decide), by rw [ltS_eq]; decide⟩
  | 1, _ => exact ⟨by rw [Bool.eq_false_iff]; intro e; rw [eqS_iff] at e; exact absurd e (by decide), by rw [ltS_eq]; decide⟩
theorem labS_next (s : Sm) (i : Nat) (h : i < 2) : eqS (labS s i).1 (labS s (i + 1)).1 = false ∧ ltS (labS s (i + 1)).1 (labS s i).1 = false := keyC_next i h
theorem labsS_check (s : Sm) (k : Nat) (h : k < 4) : check (labsS s k) = 0 := by
  have k0 := labS_key s 0 (by decide)
  have k1 := labS_key s 1 (by decide)
  have k2 := labS_key s 2 (by decide)
  have v0 := labS_value s 0
  have v1 := labS_value s 1
  have v2 := labS_value s 2
  obtain ⟨e0, l0⟩ := labS_next s 0 (by decide)
  obtain ⟨e1, l1⟩ := labS_next s 1 (by decide)
  match k, h with
  | 0, _ => rfl
  | 1, _ =>
    show check [labS s 0] = 0
    simp [check, chk, k0, v0]
  | 2, _ =>
    show check [labS s 0, labS s 1] = 0
    simp only [Nat.zero_add] at e0 l0
    simp [check, chk, k0, v0, k1, v1, e0, l0]
  | 3, _ =>
    show check [labS s 0, labS s 1, labS s 2] = 0
    simp only [Nat.zero_add] at e0 l0 e1 l1
    have e1' : eqS (labS s 1).1 (labS s 2).1 = false := e1
    have l1' : ltS (labS s 2).1 (labS s 1).1 = false := l1
    simp [check, chk, k0, v0, k1, v1, k2, v2, e0, l0, e1', l1']
theorem fits_lit (p : Nat → Bool) (m : Nat) (a : Array UInt8) (h0 : 0 < a.size) (hm : a.size ≤ m) (h : a.toList.all (fun c => p c.toNat) = true) : fitsB p m ⟨a⟩ = true := by
  unfold fitsB
  rw [show (ByteArray.mk a).size = a.size from rfl, decide_eq_true h0, decide_eq_true hm, h]
  rfl
theorem ownX_ok : nameB ownX = true ∧ ownB ownX = true := by decide
theorem ruleS_ok (r : Nat) : nameB (ruleS r) = true ∧ ownB (ruleS r) = false := by
  unfold ruleS
  split <;> decide
theorem smallI_gap (s : Sm) (h : s.g = true) : smallI s = ⟨true, 0, 0, 0, ⟨#[]⟩, [], 0, 0, 0, 0, s.o % 32, 1 + s.q, 1 + s.q + s.m⟩ := if_pos h
theorem smallI_ev (s : Sm) (h : s.g = false) : smallI s = ⟨false, s.o % 32, 1 + s.q, s.t, if s.w % 8 = 7 then ownX else ruleS s.r, labsS s (s.l % 4), if s.s then 2 else 0, s.p % 8, (s.v : Int) - 100, if s.w % 8 = 7 then 1 + s.w / 8 % 2 else 0, 0, 0, 0⟩ := if_neg (by rw [h]; decide)
theorem smallI_right (s : Sm) (hs : OkS s) : itemN (smallI s) = 0 := by
  have a1 := hs.q
  have a2 := hs.m
  have a3 := hs.t
  cases hg : s.g with
  | true =>
    rw [smallI_gap s hg]
    show gapN _ = 0
    unfold gapN
    rw [if_neg (by simp only; omega)]
  | false =>
    rw [smallI_ev s hg]
    show evN _ = 0
    unfold evN
    rw [if_neg (by simp only; omega)]
    have h1 : nameB (if s.w % 8 = 7 then ownX else ruleS s.r) = true := by
      split
      · exact ownX_ok.1
      · exact (ruleS_ok s.r).1
    have h2 : ownB (if s.w % 8 = 7 then ownX else ruleS s.r) = decide (s.w % 8 = 7) := by
      split
      · rename_i h; rw [ownX_ok.2, decide_eq_true h]
      · rename_i h; rw [(ruleS_ok s.r).2, decide_eq_false h]
    simp only [h1, h2]
    rw [if_neg (by decide), if_neg (by split <;> split <;> omega), if_neg ?_]
    · exact labsS_check s _ (by omega)
    · by_cases h7 : s.w % 8 = 7
      · rw [if_pos h7, decide_eq_true h7, decide_eq_true (by omega)]; decide
      · rw [if_neg h7, decide_eq_false h7]; simp
theorem labsS_get (s : Sm) (k i : Nat) (p : Pr) (h : (labsS s k)[i]? = some p) : p.1.size = 1 ∧ p.2.size = 1 := by
  unfold labsS at h
  rw [List.getElem?_map] at h
  obtain ⟨j, _, rfl⟩ := Option.map_eq_some_iff.1 h
  exact labS_size s j
theorem ruleI_size (s : Sm) : (if s.w % 8 = 7 then ownX else ruleS s.r).size ≤ 100 := by
  split
  · decide
  · exact ruleS_size s.r
theorem smallI_ok (s : Sm) (hs : OkS s) : OkI (smallI s) := by
  have a1 := hs.q
  have a2 := hs.m
  have a3 := hs.t
  have a4 := hs.v
  have a5 := ruleI_size s
  cases hg : s.g with
  | true =>
    rw [smallI_gap s hg]
    exact ⟨by simp, by simp, by simp, (show (⟨#[]⟩ : ByteArray).size ≤ _ by decide), (fun i p h => by simp at h), by simp, by simp, by simp, by simp, by simp, by simp only; omega, by simp only; omega, by simp only; omega⟩
  | false =>
    rw [smallI_ev s hg]
    exact ⟨by simp only; omega, by simp only; omega, by simp only; omega, by simp only; unfold maxLen; omega, fun i p h => by
        obtain ⟨h1, h2⟩ := labsS_get s _ i p h
        rw [h1, h2]; decide, by simp only; split <;> decide, by simp only; omega, by simp only; omega, by simp only; omega, by simp only; split <;> omega, by simp, by simp, by simp⟩
theorem smallI_short (s : Sm) : ShortI (smallI s) := by
  have a5 := ruleI_size s
  cases hg : s.g with
  | true =>
    rw [smallI_gap s hg]
    exact ⟨(show (⟨#[]⟩ : ByteArray).size ≤ _ by decide), fun i p h => by simp at h⟩
  | false =>
    rw [smallI_ev s hg]
    exact ⟨by simp only; omega, fun i p h => by
      obtain ⟨h1, h2⟩ := labsS_get s _ i p h
      rw [h1, h2]; decide⟩
theorem smallI_labs (s : Sm) : (smallI s).l.length ≤ 3 := by
  cases hg : s.g with
  | true => rw [smallI_gap s hg]; simp
  | false =>
    rw [smallI_ev s hg]
    simp only [labsS_length]
    omega
theorem labsS_len (s : Sm) (k : Nat) : (labsB (labsS s k)).length = 4 * k := by
  induction k with
  | zero => rfl
  | succ k ih =>
    rw [labsS_succ, labsB_append, List.length_append, ih]
    have h1 : leb 1 = [1] := leb_lt (by decide)
    have h2 : (textB (labS s k).1).length = 2 := by rw [textB_length, (labS_size s k).1, h1]; rfl
    have h3 : (textB (labS s k).2).length = 2 := by rw [textB_length, (labS_size s k).2, h1]; rfl
    simp only [labsB, List.length_append, h2, h3, List.length_nil]
    omega
theorem smallI_len (s : Sm) (hs : OkS s) : (itemB (smallI s)).length ≤ 300 := by
  have ho := smallI_ok s hs
  have a5 := ruleI_size s
  have b1 := leb_le10 ho.q
  have b2 := leb_le10 ho.t
  have b3 := leb_le10 ho.gf
  have b4 := leb_le10 ho.gt
  have b5 := leb_le10 (zig_lt ho.v0 ho.v1)
  have b6 := leb_le10 (n := (smallI s).r.size) (by have := (smallI_short s).r; omega)
  have b7 := leb_le10 (n := (smallI s).l.length) (by have := smallI_labs s; omega)
  have b8 : (smallI s).r.size ≤ 100 := by
    cases hg : s.g with
    | true => rw [smallI_gap s hg]; exact (show (⟨#[]⟩ : ByteArray).size ≤ _ by decide)
    | false => rw [smallI_ev s hg]; exact a5
  have b9 : (labsB (smallI s).l).length ≤ 12 := by
    cases hg : s.g with
    | true => rw [smallI_gap s hg]; simp [labsB]
    | false =>
      rw [smallI_ev s hg]
      show (labsB (labsS s (s.l % 4))).length ≤ 12
      rw [labsS_len]; omega
  unfold itemB
  split
  · unfold gapB
    simp only [List.length_append, List.length_cons, List.length_nil]
    omega
  · unfold evB headB tailB
    simp only [List.length_append, List.length_cons, List.length_nil, textB_length]
    omega
end Go.Proofs.Ytgcfofnlgdfmoaa
/- Layer 8: the statements' Next: an item of the next counts of its origin. -/
namespace Go.Proofs.Ytgcfofnlgdfmoaa
open Go.RowKit

def nextS (s : Sm) : Sm := { s with o := s.o % 4, m := s.m % 3 }
def nextI (s : Sm) (h : Nat) : It := if s.g then { smallI (nextS s) with gf := h + 1, gt := h + 1 + s.m % 3 } else { smallI (nextS s) with q := h + 1 }
def smL (s : Sm) : List Value := [.bool s.g, .int .u8 s.o, .int .u8 s.p, .int .u8 s.w, .int .u16 s.q, .int .u16 s.m, .int .u16 s.t, .int .u8 s.r, .int .u8 s.l, .int .u8 s.v, .bool s.s]
theorem nextS_ok {s : Sm} (h : OkS s) : OkS (nextS s) := by
  obtain ⟨h1, h2, h3, h4, h5, h6, h7, h8, h9⟩ := h
  exact ⟨Nat.lt_of_le_of_lt (Nat.mod_le _ _) h1, h2, h3, h4, Nat.lt_of_le_of_lt (Nat.mod_le _ _) h5, h6, h7, h8, h9⟩
theorem Try.infoSm : (Try.prog.info? 51).map (·.size) = some 11 := by kernel_rfl

/-- the end of Next, whichever cells were written -/
theorem next_end {w w2 w3 : World} {x x' : It} {A : Option Addr} {c g1 g2 B : Nat} (h1 : Below w.heap.size w w2) (h2 : w2.ownsRow B 151 2 (.slice A x.l.length c) x.l.length (cellsP x.l)) (hg1 : w.heap.size ≤ g1) (hB : g1 < B) (hlt : ∀ k, (Value.slice A x.l.length c).ownBlock = some k → k < g2) (hg2 : w.heap.size ≤ g2)
    (h3 : Only (fun k => k = g2) w2 w3) (hl : x'.l = x.l) (cs : Array Value) : (A = none → x.l.length = 0) ∧ RdP (w3.setRow g1 cs) (w3.setRow g1 cs).heap.size A x'.l ∧ Below w.heap.size w (w3.setRow g1 cs) := by
  have ho := h3.own h2 (fun k hk e => by have := hlt k hk; have e : k = g2 := e; omega)
  have hr := RdP.of_own ho
  refine ⟨own_nilA h2, ?_, below_setRow (h1.trans ⟨h3.os, h3.tape, h3.output, h3.size, fun k hk => h3.block k (Nat.lt_of_lt_of_le hk h1.size) (fun e => by have e : k = g2 := e; omega)⟩) hg1 _⟩
  rw [hl]
  exact (onlyRow g1 cs w3).rdP hr (fun a ha h0 e => by have h5 := (h2.lt a.block (by rw [ha]; rfl)).1; have e : a.block = g1 := e; omega)

set_option maxRecDepth 100000 in
set_option maxHeartbeats 2000000 in
theorem next_any {S : Nat → Prop} {b : Nat} {X : Sp} {L : List Ett} (s : Sm) (hs : OkS s) (w : World) (h : SpAt w S b X L) (hh : X.h (s.o % 4) ≤ 1099511627776) :
    Calls Try.prog 21 #[.agg #[.bool s.g, .int .u8 s.o, .int .u8 s.p, .int .u8 s.w, .int .u16 s.q, .int .u16 s.m, .int .u16 s.t, .int .u8 s.r, .int .u8 s.l, .int .u8 s.v, .bool s.s], .func (.func 22) #[.pointer (some ⟨b, 0, none⟩)] #[]] w fun e w' => ∃ A c, e = .returned (.agg (itC (nextI s (X.h (s.o % 4))) A c).toArray) ∧ (A = none → (smallI (nextS s)).l.length = 0) ∧ RdP w' w'.heap.size A (smallI (nextS s)).l ∧ Below w.heap.size w w' := by
  obtain ⟨h1, h2, h3, h4, h5, h6, h7, h8, h9⟩ := id hs
  have hwo : (s.o : Int).tmod 4 = ((s.o % 4 : Nat) : Int) := by rw [Int.tmod_eq_emod_of_nonneg (by omega)]; rfl
  have hwm : (s.m : Int).tmod 3 = ((s.m % 3 : Nat) : Int) := by rw [Int.tmod_eq_emod_of_nonneg (by omega)]; rfl
  obtain ⟨W, hW⟩ : ∃ W, W = (w.alloc (.cells #[.bool s.g, .int .u8 ((s.o : Int) % 4), .int .u8 s.p, .int .u8 s.w, .int .u16 s.q, .int .u16 ((s.m : Int) % 3), .int .u16 s.t, .int .u8 s.r, .int .u8 s.l, .int .u8 s.v, .bool s.s] 51)).alloc (.cells #[.bool false, .int .u8 0, .int .u64 0, .int .u64 0, .string ⟨#[]⟩, .slice none 0 0, .int .u8 0, .int .u8 0, .int .i64 0, .int .u8 0, .int .u8 0, .int .u64 0, .int .u64 0] 60) := ⟨_, rfl⟩
  have hb : Below w.heap.size w W := by rw [hW]; exact ((Below.refl _ _).alloc (Nat.le_refl _) _).alloc (by simp) _
  have hz : W.heap.size = w.heap.size + 2 := by rw [hW]; simp
  have hg0 : W.heap[w.heap.size]? = some (.cells (smL (nextS s)).toArray 51 (0, 0)) := by rw [hW]; exact heap_alloc2_old _ _ _
  have hg1 : W.heap[w.heap.size + 1]? = some (.cells #[.bool false, .int .u8 0, .int .u64 0, .int .u64 0, .string ⟨#[]⟩, .slice none 0 0, .int .u8 0, .int .u8 0, .int .i64 0, .int .u8 0, .int .u8 0, .int .u64 0, .int .u64 0] 60 (0, 0)) := by rw [hW]; exact heap_alloc2_new _ _ _
  have HW := Lib.hid hW
  have HB := Lib.hid hb
  have HZ := Lib.hid hz
  have HG0 := Lib.hid hg0
  have HG1 := Lib.hid hg1
  have HS := Lib.hid (h.below hb)
  have HOS := Lib.hid (nextS_ok hs)
  have HHH := Lib.hid hh
  clear hW hb hz hg0 hg1 h hs hh
  go_enter Try.func21, Try.ntmps21
  go_upto_region 3 with fail
  rw [← HW.out]
  have G0 := HG0.out
  go_wp2_with (first | (refine wpList_load_row rfl _ _ rfl w.heap.size rfl _ _ _ _ G0 Try.underlying51 rfl Try.infoSm ?_) | fail)
  clear G0
  refine (smallItem_any (nextS s) HOS.out W).mono ?_
  rintro _ w1 ⟨A, n, c, rfl, hn, ho1, hb1⟩
  subst hn
  obtain ⟨x, hx⟩ : ∃ x, x = smallI (nextS s) := ⟨_, rfl⟩
  rw [← hx] at ho1 ⊢
  have HX := Lib.hid hx
  have HO1 := Lib.hid ho1
  have hz := HZ.out
  have hz1 := hb1.size
  have HB1 := Lib.hid (HB.out.trans (hb1.mono HB.out.size))
  have HG01 := Lib.hid ((hb1.block w.heap.size (by omega)).trans HG0.out)
  have HG11 := Lib.hid ((hb1.block (w.heap.size + 1) (by omega)).trans HG1.out)
  have HS1 := Lib.hid (HS.out.below hb1)
  clear hx ho1 hb1 HW HG0 HG1
  go_upto_region 4 with (first | (refine wpList_store_row rfl _ _ _ rfl w1.heap.size (itC x A c).toArray rfl rfl _ _ (heap_alloc_new _ _) Try.infoIt rfl (by simp [Value.oneCell', itC]) ?_) | fail)
  obtain ⟨w2, hw2, hc2, hb2, hl2⟩ := boxI w1 _ (itC x A c).toArray
  rw [← hw2]
  have HB2 := Lib.hid (HB1.out.trans (hb2.mono HB1.out.size))
  have HS2 := Lib.hid (HS1.out.below hb2)
  have HC2 := Lib.hid hc2
  have HG02 := Lib.hid ((hb2.block w.heap.size (by omega)).trans HG01.out)
  have HG12 := Lib.hid ((hb2.block (w.heap.size + 1) (by omega)).trans HG11.out)
  have hz2 := hb2.size
  have x1 : w2.cell? ⟨w.heap.size, 1, none⟩ = some (.int .u8 ((s.o % 4 : Nat) : Int)) := cell_of_row _ _ 1 _ _ _ HG02.out
  have HO2 := Lib.hid (ownB_below HO1.out hb2)
  clear hw2 hc2 hb2 HS1 HG01 HG11
  go_wp2_with fail
  refine (high_any (s.o % 4) (by omega) w2 HS2.out).mono ?_
  rintro _ w3 ⟨rfl, rfl⟩
  obtain ⟨H, hH⟩ : ∃ H, H = X.h (s.o % 4) := ⟨_, rfl⟩
  have hHm : H ≤ 1099511627776 := by rw [hH]; exact HHH.out
  rw [← hH] at ⊢
  have HHE := Lib.hid hH
  have y0 : w2.cell? ⟨w1.heap.size, 0, none⟩ = some (.bool x.g) := cell_of_row _ _ 0 _ _ _ HC2.out
  have hxg : x.g = s.g := by
    rw [HX.out]
    cases hg : s.g with
    | true => rw [smallI_gap _ (by show (nextS s).g = true; exact hg)]
    | false => rw [smallI_ev _ (by show (nextS s).g = false; exact hg)]
  rw [hxg] at y0
  have hw1 : IntKind.u64.wrap ((H : Int) + 1) = ((H + 1 : Nat) : Int) := by rw [IntKind.wrap_u64]; omega
  have HXG := Lib.hid hxg
  clear hH hxg x1
  cases hg : s.g with
  | true =>
    rw [hg] at y0
    have f11 : w2.frozen? ⟨w1.heap.size, 11, none⟩ = false := by simp [World.frozen?, HC2.out]
    have f12 : w2.frozen? ⟨w1.heap.size, 12, none⟩ = false := by simp [World.frozen?, HC2.out]
    have y11 : w2.cell? ⟨w1.heap.size, 11, none⟩ = some (.int .u64 x.gf) := cell_of_row _ _ 11 _ _ _ HC2.out
    have y12 : w2.cell? ⟨w1.heap.size, 12, none⟩ = some (.int .u64 x.gt) := cell_of_row _ _ 12 _ _ _ HC2.out
    have y5 : w2.cell? ⟨w.heap.size, 5, none⟩ = some (.int .u16 ((s.m % 3 : Nat) : Int)) := cell_of_row _ _ 5 _ _ _ HG02.out
    have hm3 : s.m % 3 < 3 := Nat.mod_lt _ (by decide)
    obtain ⟨m3, hm3e⟩ : ∃ m3, m3 = s.m % 3 := ⟨_, rfl⟩
    rw [← hm3e] at y5 hm3
    have hw2' : IntKind.u64.wrap ((m3 : Nat) : Int) = (m3 : Int) := by rw [IntKind.wrap_u64]; omega
    have hw3 : IntKind.u64.wrap (((H + 1 : Nat) : Int) + (m3 : Int)) = ((H + 1 + m3 : Nat) : Int) := by rw [IntKind.wrap_u64]; omega
    have hw4 : IntKind.u64.wrap ((H : Int) + 1 + (m3 : Int)) = ((H + 1 + m3 : Nat) : Int) := by rw [IntKind.wrap_u64]; omega
    have HM3 := Lib.hid hm3e
    have hne : w.heap.size ≠ w1.heap.size := by omega
    clear hm3e
    go_upto_region 6 with fail
    go_region
    have h3 : Only (fun k => k = w1.heap.size) w2 ((w2.setCell ⟨w1.heap.size, 11, none⟩ (.int .u64 ((H : Int) + 1))).setCell ⟨w1.heap.size, 12, none⟩ (.int .u64 ((H : Int) + 1 + (m3 : Int)))).drew := ((Only.setCell (T := fun k => k = w1.heap.size) _ _ _ rfl).trans (Only.setCell (T := fun k => k = w1.heap.size) _ _ _ rfl) (fun _ h => .inl h)).trans (Only.of_below (RowKit.Below.refl _ _).drew _) (fun _ h => .inl h)
    have hcF : ((w2.setCell ⟨w1.heap.size, 11, none⟩ (.int .u64 ((H : Int) + 1))).setCell ⟨w1.heap.size, 12, none⟩ (.int .u64 ((H : Int) + 1 + (m3 : Int)))).drew.heap[w1.heap.size]? = some (.cells (itC { x with gf := H + 1, gt := H + 1 + m3 } A c).toArray 60 (0, 0)) := heap_setAt (heap_setAt HC2.out 11 _) 12 _
    have hg1F := (h3.block (w.heap.size + 1) (by omega) (by omega)).trans HG12.out
    have hI : nextI s H = { x with gf := H + 1, gt := H + 1 + m3 } := by unfold nextI; rw [if_pos hg, HX.out, HM3.out]
    have hE := next_end (x' := { x with gf := H + 1, gt := H + 1 + m3 }) HB2.out HO2.out (show w.heap.size ≤ w.heap.size + 1 by omega) (by omega) (fun k hk => (HO1.out.lt k hk).2) (show w.heap.size ≤ w1.heap.size by omega) h3 rfl (itC { x with gf := H + 1, gt := H + 1 + m3 } A c).toArray
    have HCF := Lib.hid hcF
    have HGF := Lib.hid hg1F
    have HI := Lib.hid hI
    have HE := Lib.hid hE
    clear h3 hcF hg1F hI hE
    go_wp2_with (first
      | (refine wpList_load_row rfl _ _ rfl w1.heap.size rfl _ _ _ _ HCF.out Try.underlying60 rfl Try.infoIt ?_)
      | (refine wpList_store_row rfl _ _ _ rfl (w.heap.size + 1) (itC { x with gf := H + 1, gt := H + 1 + m3 } A c).toArray rfl rfl _ _ HGF.out Try.infoIt rfl (by simp [Value.oneCell', itC]) ?_)
      | fail)
    refine bodyPost_ret (v := .agg (itC { x with gf := H + 1, gt := H + 1 + m3 } A c).toArray) (results_cell_row rfl _ _ (w.heap.size + 1) _ _ _ _ rfl (setRow_heap _ _ _ _ _ _ HGF.out) Try.underlying60 rfl Try.infoIt) rfl ?_
    rw [← HHE.out, HI.out, ← HX.out]
    exact ⟨A, ⟨c, rfl⟩, fun h => List.eq_nil_of_length_eq_zero (HE.out.1 h), HE.out.2.1, HE.out.2.2⟩
  | false =>
    rw [hg] at y0
    have f2 : w2.frozen? ⟨w1.heap.size, 2, none⟩ = false := by simp [World.frozen?, HC2.out]
    have y2 : w2.cell? ⟨w1.heap.size, 2, none⟩ = some (.int .u64 x.q) := cell_of_row _ _ 2 _ _ _ HC2.out
    go_upto_region 8 with fail
    have h3 : Only (fun k => k = w1.heap.size) w2 (w2.setCell ⟨w1.heap.size, 2, none⟩ (.int .u64 ((H : Int) + 1))) := Only.setCell _ _ _ rfl
    have hcF : (w2.setCell ⟨w1.heap.size, 2, none⟩ (.int .u64 ((H : Int) + 1))).heap[w1.heap.size]? = some (.cells (itC { x with q := H + 1 } A c).toArray 60 (0, 0)) := heap_setAt HC2.out 2 _
    have hg1F := (h3.block (w.heap.size + 1) (by omega) (by omega)).trans HG12.out
    have hI : nextI s H = { x with q := H + 1 } := by unfold nextI; rw [if_neg (by rw [hg]; decide), HX.out]
    have hE := next_end (x' := { x with q := H + 1 }) HB2.out HO2.out (show w.heap.size ≤ w.heap.size + 1 by omega) (by omega) (fun k hk => (HO1.out.lt k hk).2) (show w.heap.size ≤ w1.heap.size by omega) h3 rfl (itC { x with q := H + 1 } A c).toArray
    have HCF := Lib.hid hcF
    have HGF := Lib.hid hg1F
    have HI := Lib.hid hI
    have HE := Lib.hid hE
    clear h3 hcF hg1F hI hE
    go_wp2_with (first
      | (refine wpList_load_row rfl _ _ rfl w1.heap.size rfl _ _ _ _ HCF.out Try.underlying60 rfl Try.infoIt ?_)
      | (refine wpList_store_row rfl _ _ _ rfl (w.heap.size + 1) (itC { x with q := H + 1 } A c).toArray rfl rfl _ _ HGF.out Try.infoIt rfl (by simp [Value.oneCell', itC]) ?_)
      | fail)
    refine bodyPost_ret (v := .agg (itC { x with q := H + 1 } A c).toArray) (results_cell_row rfl _ _ (w.heap.size + 1) _ _ _ _ rfl (setRow_heap _ _ _ _ _ _ HGF.out) Try.underlying60 rfl Try.infoIt) rfl ?_
    rw [← HHE.out, HI.out, ← HX.out]
    exact ⟨A, ⟨c, rfl⟩, fun h => List.eq_nil_of_length_eq_zero (HE.out.1 h), HE.out.2.1, HE.out.2.2⟩
end Go.Proofs.Ytgcfofnlgdfmoaa
