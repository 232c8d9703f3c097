/- Several texts in one: SpAwake. -/
import Derived.Test.YtgcfofnlgdfmoaaMf34
/- Layer 8: the statements' fixed fact: of three events the second is evicted. -/
namespace Go.Proofs.Ytgcfofnlgdfmoaa
open Go.RowKit

def longN : ByteArray := ⟨#[108, 111, 110, 103, 101, 114, 46, 110, 97, 109, 101]⟩
def evx (o p : Nat) : It := ⟨false, o, 1, 0, longN, [], 0, p, 0, 0, 0, 0, 0⟩
def pr8 : Nat → Nat
  | 0 => 1
  | _ => 0
def X8 : Nat → Sp
  | 0 => ⟨70, 1, 0, 0, fun _ => 0⟩
  | k + 1 => addX (X8 k) (evx k (pr8 k))
def B8 (k : Nat) : List Ett := (List.range k).map fun j => ⟨j + 1, evx j (pr8 j), none, 0⟩
theorem sumE_same {L M : List Ett} (h : SameE L M) : sumE L = sumE M := by
  have : ∀ Q : List Ett, sumE Q = ((Q.map fun e => (e.i, e.x)).map fun q : Nat × It => (itemB q.2).length).sum := fun Q => by rw [List.map_map]; rfl
  rw [this, this, h]
theorem evx_fit : (itemB (evx 0 1)).length = 21 ∧ (itemB (evx 1 0)).length = 21 ∧ (itemB (evx 2 0)).length = 21 ∧ (itemB (evx 3 0)).length = 21 := by decide +kernel
theorem sumB8 : sumE (B8 0) = 0 ∧ sumE (B8 1) = 21 ∧ sumE (B8 2) = 42 ∧ sumE (B8 3) = 63 := by decide +kernel
theorem evx_right : itemN (evx 0 1) = 0 ∧ itemN (evx 1 0) = 0 ∧ itemN (evx 2 0) = 0 ∧ itemN (evx 3 0) = 0 := by decide +kernel
theorem evx_ok (o p : Nat) (ho : o < 256) (hp : p < 256) : OkI (evx o p) :=
  ⟨ho, (show 1 < 18446744073709551616 by decide), (show 0 < 18446744073709551616 by decide), (show longN.size ≤ maxLen by decide +kernel), fun i q hq => by simp [evx] at hq, (show 0 < 256 by decide), hp, (show (-9223372036854775808 : Int) ≤ 0 by decide), (show (0 : Int) < 9223372036854775808 by decide), (show 0 < 256 by decide), (show 0 < 256 by decide), (show 0 < 18446744073709551616 by decide), (show 0 < 18446744073709551616 by decide)⟩
theorem evx_short (o p : Nat) : ShortI (evx o p) := ⟨(show longN.size ≤ 1048576 by decide +kernel), fun i q hq => by simp [evx] at hq⟩
theorem put_plain {X : Sp} {L : List Ett} {x : It} {A : Option Addr} {c : Nat} (hE : partE x X.h = 0) (hI : partI x X.h = x) (hf : sumE L + (itemB x).length ≤ X.q) (hn : X.n < 1099511627776) (hg : x.g = false) : putR X L x A c = (0, X.n, 0, addX X x, L ++ [⟨X.n, x, A, c⟩]) := by
  unfold putR
  rw [if_neg (by rw [hE]; decide), hI, roomK_fit hf]
  simp only [Bool.true_eq_false, if_false]
  rw [if_neg (by omega)]
  have hj : addJ L (addE X x A c) = (L ++ [⟨X.n, x, A, c⟩], false) := by
    unfold addJ
    rw [if_neg (by show ¬ x.g = true; rw [hg]; decide)]
    rfl
  have hF : addF L (addE X x A c) = 0 := by unfold addF; rw [hj]; rfl
  show (0, X.n, lowE 0 (addF L (addE X x A c)), addX X x, (addJ L (addE X x A c)).1) = _
  rw [hF, hj]
  rfl
theorem step8 {k : Nat} (hk : k < 3) {L : List Ett} (h : SameE (B8 k) L) (A : Option Addr) (c : Nat) : putR (X8 k) L (evx k (pr8 k)) A c = (0, k + 1, 0, X8 (k + 1), L ++ [⟨k + 1, evx k (pr8 k), A, c⟩]) ∧ SameE (B8 (k + 1)) (L ++ [⟨k + 1, evx k (pr8 k), A, c⟩]) := by
  have hs := sumE_same h
  obtain ⟨b0, b1, b2, b3⟩ := sumB8
  obtain ⟨f0, f1, f2, f3⟩ := evx_fit
  have hS : SameE (B8 (k + 1)) (L ++ [⟨k + 1, evx k (pr8 k), A, c⟩]) := by
    unfold SameE at h ⊢
    unfold B8 at h ⊢
    rw [List.range_succ, List.map_append, List.map_append, List.map_append, h]
    rfl
  refine ⟨?_, hS⟩
  match k, hk with
  | 0, _ => exact put_plain (X := X8 0) (by decide +kernel) (by rfl) (by rw [← hs, b0]; show 0 + (itemB (evx 0 1)).length ≤ 70; omega) (by decide) rfl
  | 1, _ => exact put_plain (X := X8 1) (by decide +kernel) (by rfl) (by rw [← hs, b1]; show 21 + (itemB (evx 1 0)).length ≤ 70; omega) (by decide) rfl
  | 2, _ => exact put_plain (X := X8 2) (by decide +kernel) (by rfl) (by rw [← hs, b2]; show 42 + (itemB (evx 2 0)).length ≤ 70; omega) (by decide) rfl
theorem three8 {L : List Ett} (h : SameE (B8 3) L) : ∃ A1 c1 A2 c2 A3 c3, L = [⟨1, evx 0 1, A1, c1⟩, ⟨2, evx 1 0, A2, c2⟩, ⟨3, evx 2 0, A3, c3⟩] := by
  have hl := h.len
  match L, hl with
  | [⟨i1, x1, A1, c1⟩, ⟨i2, x2, A2, c2⟩, ⟨i3, x3, A3, c3⟩], _ =>
    have g0 := h.get 0
    have g1 := h.get 1
    have g2 := h.get 2
    simp [B8, List.range_succ, pr8] at g0 g1 g2
    obtain ⟨rfl, rfl⟩ := g0
    obtain ⟨rfl, rfl⟩ := g1
    obtain ⟨rfl, rfl⟩ := g2
    exact ⟨A1, c1, A2, c2, A3, c3, rfl⟩
def gap8 : It := ⟨true, 0, 0, 0, ⟨#[]⟩, [], 0, 0, 0, 0, 1, 1, 1⟩
theorem gap8_len : (itemB gap8).length = 4 := by decide +kernel
theorem ev8 (A1 A2 A3 : Option Addr) (c1 c2 c3 : Nat) : evL [⟨1, evx 0 1, A1, c1⟩, ⟨2, evx 1 0, A2, c2⟩, ⟨3, evx 2 0, A3, c3⟩] 1 ⟨2, evx 1 0, A2, c2⟩ = [⟨1, evx 0 1, A1, c1⟩, ⟨2, gap8, none, 0⟩, ⟨3, evx 2 0, A3, c3⟩] ∧ evIdx [⟨1, evx 0 1, A1, c1⟩, ⟨2, evx 1 0, A2, c2⟩, ⟨3, evx 2 0, A3, c3⟩] 1 ⟨2, evx 1 0, A2, c2⟩ = 2 := by
  have hset : ([⟨1, evx 0 1, A1, c1⟩, ⟨2, evx 1 0, A2, c2⟩, ⟨3, evx 2 0, A3, c3⟩] : List Ett).set 1 (gapE ⟨2, evx 1 0, A2, c2⟩) = [⟨1, evx 0 1, A1, c1⟩, ⟨2, gap8, none, 0⟩, ⟨3, evx 2 0, A3, c3⟩] := rfl
  have hn : nextK [⟨1, evx 0 1, A1, c1⟩, ⟨2, gap8, none, 0⟩, ⟨3, evx 2 0, A3, c3⟩] (spO (evx 1 0)) 2 = none := by
    rw [nextK_at (e := ⟨3, evx 2 0, A3, c3⟩) rfl, if_neg (show ¬ (spO (evx 2 0) = spO (evx 1 0)) by decide +kernel), nextK_end (Nat.le_refl 3)]
  have hA : evA [⟨1, evx 0 1, A1, c1⟩, ⟨2, evx 1 0, A2, c2⟩, ⟨3, evx 2 0, A3, c3⟩] 1 ⟨2, evx 1 0, A2, c2⟩ = [⟨1, evx 0 1, A1, c1⟩, ⟨2, gap8, none, 0⟩, ⟨3, evx 2 0, A3, c3⟩] := by
    unfold evA
    rw [hset]
    show (joinK _ (some 1) (nextK _ (spO (evx 1 0)) 2)).1 = _
    rw [hn]
    rfl
  have hp : prevK [⟨1, evx 0 1, A1, c1⟩, ⟨2, gap8, none, 0⟩, ⟨3, evx 2 0, A3, c3⟩] (spO (evx 1 0)) 1 = none := by
    rw [prevK_at (e := ⟨1, evx 0 1, A1, c1⟩) rfl, if_neg (show ¬ (spO (evx 0 1) = spO (evx 1 0)) by decide +kernel)]
    rfl
  have hB : evB2 [⟨1, evx 0 1, A1, c1⟩, ⟨2, evx 1 0, A2, c2⟩, ⟨3, evx 2 0, A3, c3⟩] 1 ⟨2, evx 1 0, A2, c2⟩ = ([⟨1, evx 0 1, A1, c1⟩, ⟨2, gap8, none, 0⟩, ⟨3, evx 2 0, A3, c3⟩], false) := by
    unfold evB2
    rw [hA]
    show joinK _ (prevK _ (spO (evx 1 0)) 1) (some 1) = _
    rw [hp]
    rfl
  have hP : evPos [⟨1, evx 0 1, A1, c1⟩, ⟨2, evx 1 0, A2, c2⟩, ⟨3, evx 2 0, A3, c3⟩] 1 ⟨2, evx 1 0, A2, c2⟩ = 1 := by unfold evPos; rw [hB]; rfl
  have hL : evL [⟨1, evx 0 1, A1, c1⟩, ⟨2, evx 1 0, A2, c2⟩, ⟨3, evx 2 0, A3, c3⟩] 1 ⟨2, evx 1 0, A2, c2⟩ = [⟨1, evx 0 1, A1, c1⟩, ⟨2, gap8, none, 0⟩, ⟨3, evx 2 0, A3, c3⟩] := by unfold evL; rw [hB]
  refine ⟨hL, ?_⟩
  unfold evIdx
  rw [hP, hL]
  rfl
theorem last8 (A1 A2 A3 A : Option Addr) (c1 c2 c3 c : Nat) : putR (X8 3) [⟨1, evx 0 1, A1, c1⟩, ⟨2, evx 1 0, A2, c2⟩, ⟨3, evx 2 0, A3, c3⟩] (evx 3 0) A c =
    (0, 4, 2, addX { X8 3 with v := 1 } (evx 3 0), [⟨1, evx 0 1, A1, c1⟩, ⟨2, gap8, none, 0⟩, ⟨3, evx 2 0, A3, c3⟩, ⟨4, evx 3 0, A, c⟩]) := by
  obtain ⟨f0, f1, f2, f3⟩ := evx_fit
  have hg := gap8_len
  obtain ⟨e1, e2⟩ := ev8 A1 A2 A3 c1 c2 c3
  have hE : partE (evx 3 0) (X8 3).h = 0 := by decide +kernel
  have hI : partI (evx 3 0) (X8 3).h = evx 3 0 := by rfl
  have hs : sumE [⟨1, evx 0 1, A1, c1⟩, ⟨2, evx 1 0, A2, c2⟩, ⟨3, evx 2 0, A3, c3⟩] = 63 := by
    rw [sumE_cons, sumE_cons, sumE_cons]
    simp only [f0, f1, f2]
    rfl
  have hs2 : sumE [⟨1, evx 0 1, A1, c1⟩, ⟨2, gap8, none, 0⟩, ⟨3, evx 2 0, A3, c3⟩] = 46 := by
    rw [sumE_cons, sumE_cons, sumE_cons]
    simp only [f0, hg, f2]
    rfl
  have hroom : roomK (itemB (evx 3 0)).length (X8 3).q (cntE [⟨1, evx 0 1, A1, c1⟩, ⟨2, evx 1 0, A2, c2⟩, ⟨3, evx 2 0, A3, c3⟩]) [⟨1, evx 0 1, A1, c1⟩, ⟨2, evx 1 0, A2, c2⟩, ⟨3, evx 2 0, A3, c3⟩] 0 (X8 3).v = (true, [⟨1, evx 0 1, A1, c1⟩, ⟨2, gap8, none, 0⟩, ⟨3, evx 2 0, A3, c3⟩], 2, 1) := by
    rw [f3]
    show roomK 21 70 (2 + 1) _ 0 0 = _
    rw [roomK_some (p := 1) (by rw [hs]; decide) rfl]
    show roomK 21 70 2 (evL _ 1 ⟨2, evx 1 0, A2, c2⟩) (lowE 0 (evIdx _ 1 ⟨2, evx 1 0, A2, c2⟩)) 1 = _
    rw [e1, e2, roomK_fit (by rw [hs2]; decide)]
    rfl
  unfold putR
  rw [if_neg (by rw [hE]; decide), hI, hroom]
  simp only [Bool.true_eq_false, if_false]
  rw [if_neg (by decide)]
  rfl

theorem X8_h : ∀ k, k ≤ 4 → ∀ i, i < 32 → (X8 k).h i ≤ 1099511627776 := by decide +kernel
theorem X8_q : ∀ k, k ≤ 4 → (X8 k).v = 0 ∧ (X8 k).q = 70 := by decide +kernel
set_option maxRecDepth 100000 in
set_option maxHeartbeats 2000000 in
theorem awake8_any (w : World) :
    Calls Try.prog 19 #[] w fun e w' => e = .returned (.bool true) ∧ Below w.heap.size w w' := by
  go_enter Try.func19, Try.ntmps19
  go_wp2_with fail
  refine (snew_any 70 (by decide) (by decide) w).mono ?_
  rintro _ w1 ⟨rfl, hs1, hb1⟩
  obtain ⟨s, hs⟩ : ∃ s, s = w.heap.size := ⟨_, rfl⟩
  rw [← hs] at hs1 ⊢
  have HS1 : Hid (SpAt w1 (fun k => k = s) s (X8 0) []) := hs1
  have HB1 := Lib.hid hb1
  have Hs := Lib.hid hs
  clear hs1 hb1 hs
  go_upto_region 3 with fail
  obtain ⟨r, hr⟩ : ∃ r, r = w1.heap.size := ⟨_, rfl⟩
  obtain ⟨w2, hw2⟩ : ∃ w2, w2 = w1.alloc (.cells #[.int .u8 1, .int .u8 0, .int .u8 0] 5) := ⟨_, rfl⟩
  have hb12 : Below w1.heap.size w1 w2 := by rw [hw2]; exact (Below.refl _ _).alloc (Nat.le_refl _) _
  have hrow : ∀ k, k < 3 → w2.cell? ⟨r, k, none⟩ = some (.int .u8 (pr8 k : Nat)) := fun k hk => by
    rw [hw2, hr]
    match k, hk with
    | 0, _ => exact cell_of_row _ _ 0 _ _ _ (heap_alloc_new _ _)
    | 1, _ => exact cell_of_row _ _ 1 _ _ _ (heap_alloc_new _ _)
    | 2, _ => exact cell_of_row _ _ 2 _ _ _ (heap_alloc_new _ _)
  have hr2 : r < w2.heap.size := World.block_lt_of_cell? w2 _ (hrow 0 (by decide))
  have hsr : s < r := by rw [hr]; exact HS1.out.lt s HS1.out.sS
  rw [← hw2, ← hr]
  have HS2 := Lib.hid (HS1.out.below hb12)
  have HB2 := Lib.hid (HB1.out.trans (hb12.mono HB1.out.size))
  have HROW := Lib.hid hrow
  have hrw := HB1.out.size
  rw [← hr] at hrw
  clear hr hw2 hb12 hrow HS1 HB1
  go_loopw [15] (fun iv wx => ∃ (k : Nat) (S : Nat → Prop) (L : List Ett), k ≤ 3 ∧ w2.heap.size ≤ wx.heap.size ∧ iv = .int .i64 k ∧ Hid (SpAt wx S s (X8 k) L) ∧ Hid (SameE (B8 k) L) ∧ Hid (∀ i, S i → i = s ∨ w2.heap.size ≤ i) ∧ Hid (Below w.heap.size w wx) ∧ Hid (∀ k, k < 3 → wx.cell? ⟨r, k, none⟩ = some (.int .u8 (pr8 k : Nat)))) (fun iv _ => 3 - (intOf iv).toNat)
  case atStart => exact ⟨0, _, [], by decide, Nat.le_refl _, rfl, HS2.out, rfl, fun i hi => .inl hi, HB2.out, HROW.out⟩
  case round =>
    obtain ⟨k, S, L, hk, hsz, rfl, HS, HL, HSB, HB, HR⟩ := hrel
    by_cases hlt : k < 3
    · have x0 := HR.out k hlt
      have hw1 : IntKind.u8.wrap (k : Int) = (k : Int) := by rw [IntKind.wrap_u8]; omega
      have hpr : pr8 k < 256 := by match k, hlt with | 0, _ => decide | 1, _ => decide | 2, _ => decide
      have d0 : decide ((k : Int) < 3) = true := decide_eq_true (by omega)
      go_wp2_with fail
      refine (of_any (k : Int) 1 0 longN none 0 0 [] 0 (pr8 k : Int) 0 0 wr rfl (fun _ => rfl) (by decide) RdP.nil).mono ?_
      rintro _ w4 ⟨v4, rfl, ho4, hb4⟩
      obtain ⟨A4, c4, rfl⟩ := own_slice ho4
      have hll : L.length = k := by rw [← HL.out.len]; unfold B8; rw [List.length_map, List.length_range]
      have hq := X8_q k (by omega)
      have hcnt : cntE L ≤ L.length := List.countP_le_length
      have HP := Lib.hid (put_any (evx k (pr8 k)) A4 c4 w4 (HS.out.below hb4) (evx_ok k (pr8 k) (by omega) hpr) (evx_short _ _) (Nat.zero_le 1000) (by obtain ⟨f0, f1, f2, f3⟩ := evx_fit; match k, hlt with | 0, _ => exact Nat.le_trans (Nat.le_of_eq f0) (by decide) | 1, _ => exact Nat.le_trans (Nat.le_of_eq f1) (by decide) | 2, _ => exact Nat.le_trans (Nat.le_of_eq f2) (by decide)) (fun _ => rfl) RdP.nil (X8_h k (by omega)) (by omega) (by omega))
      have HB4 := Lib.hid (HB.out.trans (hb4.mono HB.out.size))
      have hz4 := hb4.size
      have HR4 : Hid (∀ k, k < 3 → w4.cell? ⟨r, k, none⟩ = some (.int .u8 (pr8 k : Nat))) := fun j hj => (hb4.cell (p := ⟨r, j, none⟩) (World.block_lt_of_cell? wr _ (HR.out j hj))).trans (HR.out j hj)
      have hz2 : r < wr.heap.size := World.block_lt_of_cell? wr _ x0
      clear ho4 hb4 hcnt hq x0
      go_wp2_with fail
      refine HP.out.mono ?_
      rintro _ w5 ⟨A5, c5, rfl, S5, hs5, hst5⟩
      obtain ⟨e1, e2⟩ := step8 hlt HL.out A5 c5
      rw [e1] at hs5
      have HS5 := Lib.hid hs5
      have HE2 := Lib.hid e2
      have HSB5 : Hid (∀ i, S5 i → i = s ∨ w2.heap.size ≤ i) := fun i hi => by
        rcases hst5.new i hi with h' | h'
        · exact HSB.out i h'
        · exact .inr (by omega)
      have hz5 := hst5.only.size
      have HB5 : Hid (Below w.heap.size w w5) := HB4.out.trans ⟨hst5.only.os, hst5.only.tape, hst5.only.output, hst5.only.size, fun q hq => hst5.only.block q (Nat.lt_of_lt_of_le hq HB4.out.size) (fun e => by have := Hs.out; rcases HSB.out q e with h' | h' <;> omega)⟩
      have HR5 : Hid (∀ k, k < 3 → w5.cell? ⟨r, k, none⟩ = some (.int .u8 (pr8 k : Nat))) := fun j hj => (hst5.only.cell (p := ⟨r, j, none⟩) (by show r < _; omega) (fun e => by rcases HSB.out r e with h' | h' <;> omega)).trans (HR4.out j hj)
      rw [e1]
      clear e1 e2 hs5 hst5 HP
      go_wp2
      go_roundw
      case rel => exact ⟨k + 1, S5, _, by omega, by omega, by go_num, HS5.out, HE2.out, HSB5.out, HB5.out, HR5.out⟩
      case measure => simp [intOf]; omega
    · obtain rfl : k = 3 := by omega
      obtain ⟨A1, c1, A2, c2, A3, c3, rfl⟩ := three8 HL.out
      have d0 : decide (((3 : Nat) : Int) < 3) = false := by decide
      clear HR HL
      go_wp2_with fail
      refine (of_any 3 1 0 longN none 0 0 [] 0 0 0 0 wr rfl (fun _ => rfl) (by decide) RdP.nil).mono ?_
      rintro _ w4 ⟨v4, rfl, ho4, hb4⟩
      obtain ⟨A4, c4, rfl⟩ := own_slice ho4
      have HP := Lib.hid (put_any (evx 3 0) A4 c4 w4 (HS.out.below hb4) (evx_ok 3 0 (by decide) (by decide)) (evx_short _ _) (Nat.zero_le 1000) (by obtain ⟨f0, f1, f2, f3⟩ := evx_fit; exact Nat.le_trans (Nat.le_of_eq f3) (by decide)) (fun _ => rfl) RdP.nil (X8_h 3 (by decide)) (show 0 + 3 < 18446744073709551615 by decide) (show 3 < 100000 by decide))
      have HB4 := Lib.hid (HB.out.trans (hb4.mono HB.out.size))
      have hz4 := hb4.size
      clear ho4 hb4
      go_wp2_with fail
      refine HP.out.mono ?_
      rintro _ w5 ⟨A5, c5, rfl, S5, hs5, hst5⟩
      have e1 := last8 A1 A2 A3 A5 c1 c2 c3 c5
      rw [e1] at hs5 ⊢
      have hz5 := hst5.only.size
      have HB5 : Hid (Below w.heap.size w w5) := HB4.out.trans ⟨hst5.only.os, hst5.only.tape, hst5.only.output, hst5.only.size, fun q hq => hst5.only.block q (Nat.lt_of_lt_of_le hq HB4.out.size) (fun e => by have := Hs.out; rcases HSB.out q e with h' | h' <;> omega)⟩
      have hidx : ∀ (j : Nat) e, ([⟨1, evx 0 1, A1, c1⟩, ⟨2, gap8, none, 0⟩, ⟨3, evx 2 0, A3, c3⟩, ⟨4, evx 3 0, A5, c5⟩] : List Ett)[j]? = some e → e.i = j + 1 := fun j e he => by
        match j, he with
        | 0, he => injection he with he; rw [← he]
        | 1, he => injection he with he; rw [← he]
        | 2, he => injection he with he; rw [← he]
        | 3, he => injection he with he; rw [← he]
        | j + 4, he => simp at he
      have hrise : RiseE [⟨1, evx 0 1, A1, c1⟩, ⟨2, gap8, none, 0⟩, ⟨3, evx 2 0, A3, c3⟩, ⟨4, evx 3 0, A5, c5⟩] := fun i j a b hij ha hb => by
        rw [hidx i a ha, hidx j b hb]; omega
      have HLS := Lib.hid (list_any (N := 0) 9 (by decide) (by decide) w5 hs5 hrise)
      clear e1 hs5 hst5 HP hidx hrise
      go_wp2_with fail
      refine HLS.out.mono ?_
      rintro _ w6 ⟨A6, c6, M, m, rfl, hsm, hrow, hm, hlo, hhi, hb6⟩
      have hm0 : m = 0 := by
        rcases Nat.eq_zero_or_pos m with h | h
        · exact h
        · have := hlo 0 h
          exact absurd this (by show ¬ (1 ≤ 0); decide)
      subst hm0
      have hsm : SameE [⟨1, evx 0 1, A1, c1⟩, ⟨2, gap8, none, 0⟩, ⟨3, evx 2 0, A3, c3⟩, ⟨4, evx 3 0, A5, c5⟩] M := hsm
      have hml : M.length = 4 := hsm.len.symm
      have hown := hrow.own
      rw [hml] at hown
      obtain ⟨b, cc, hv, -, -⟩ := hown.form (by decide)
      injection hv with hv1 hv2 hv3
      subst hv1
      have hcell : ∀ (j : Nat) e x, M[j]? = some e → e.x.g = x → w6.cell? ⟨b, j * 14 + 1, none⟩ = some (.bool x) := fun j e x he hx => by
        have := hown.cells (g := b) rfl _ _ (cellsE_get (j := 1) he rfl)
        rw [Addr.add_lit, Nat.zero_add] at this
        rw [this, ← hx]
      have hget : ∀ (j : Nat) (q : Nat × It), ([⟨1, evx 0 1, A1, c1⟩, ⟨2, gap8, none, 0⟩, ⟨3, evx 2 0, A3, c3⟩, ⟨4, evx 3 0, A5, c5⟩] : List Ett)[j]?.map (fun e => (e.i, e.x)) = some q → ∃ e, M[j]? = some e ∧ e.x = q.2 := fun j q hq => by
        rw [hsm.get j] at hq
        obtain ⟨e, he, hq⟩ := Option.map_eq_some_iff.1 hq
        exact ⟨e, he, by rw [← hq]⟩
      obtain ⟨m0, hm0, g0⟩ := hget 0 (1, evx 0 1) rfl
      obtain ⟨m1, hm1, g1⟩ := hget 1 (2, gap8) rfl
      obtain ⟨m2, hm2, g2⟩ := hget 2 (3, evx 2 0) rfl
      have x0 := hcell 0 m0 false hm0 (by rw [g0]; rfl)
      have x1 := hcell 1 m1 true hm1 (by rw [g1]; rfl)
      have x2 := hcell 2 m2 false hm2 (by rw [g2]; rfl)
      rw [hml]
      have HB6 := Lib.hid (HB5.out.trans (hb6.mono HB5.out.size))
      clear hsm hrow hm hlo hhi hb6 hml hown hv2 hv3 hcell hget hm0 hm1 hm2 g0 g1 g2 HLS
      go_wp2
      go_ret
      exact ⟨rfl, HB6.out⟩
end Go.Proofs.Ytgcfofnlgdfmoaa
