/- Several texts in one: StPut, StOf, SpAck. -/
import Derived.Test.YtholdcgkhicdmaaGreatDoorZq20
namespace Go.Proofs.YtholdcgkhicdmaaGreatDoor
open Go.RowKit
set_option maxRecDepth 100000 in
set_option maxHeartbeats 2000000 in
theorem put_new {S : Nat → Prop} {s : Nat} {X : Sp} {L : List Ett} (x : It) (A : Option Addr) (c : Nat) (w : World) (h : SpAt w S s X L) (hx : OkI x) (hxs : ShortI x) (hn : x.l.length ≤ 1000) (hxb : (itemB x).length ≤ 100000) (hA : A = none → x.l.length = 0) (hr : RdP w w.heap.size A x.l)
  (hh : ∀ i, i < 32 → X.h i ≤ 1099511627776) (hv : sumE L + (itemB (partI x X.h)).length ≤ X.q ∨ X.v + cntE L < 18446744073709551615) (hf : L.length < 100000) :
  Calls Tryz.prog 35 #[.pointer (some ⟨s, 0, none⟩), .agg (itC x A c).toArray] w fun e w' => ∃ A' c', e = .returned (.tuple #[.int .u64 (putR X L x A' c').2.1, .int .u64 (putR X L x A' c').2.2.1, .int .i64 (putR X L x A' c').1]) ∧
   (∀ a, A' = some a → 0 < (partI x X.h).l.length → w.heap.size ≤ a.block) ∧ ∃ S', SpAt w' S' s (putR X L x A' c').2.2.2.1 (putR X L x A' c').2.2.2.2 ∧ Step w S w' S' := by
 obtain ⟨w0, hw0⟩ : ∃ w0, w0 = w.alloc (.cells (itC x A c).toArray 47) := ⟨_, rfl⟩
 have hb0 : Below w.heap.size w w0 := by rw [hw0]; exact (Below.refl _ _).alloc (Nat.le_refl _) _
 have hbox : w0.heap[w.heap.size]? = some (.cells (itC x A c).toArray 47 (0, 0)) := by rw [hw0]; exact heap_alloc_new _ _
 have HW0 := Lib.hid hw0
 have HBOX := Lib.hid hbox
 have HS := Lib.hid h
 have HS0 := Lib.hid (h.below hb0)
 have HB0 := Lib.hid hb0
 have HP := Lib.hid (part_any x A c w0 (h.below hb0) hx hn hA ((hr.below hb0).more hb0.size) hh)
 have HX := Lib.hid hx
 have HXS := Lib.hid hxs
 have HN := Lib.hid hn
 have HXB := Lib.hid hxb
 have HH := Lib.hid hh
 have HV := Lib.hid hv
 have HSZ : Hid (w.heap.size ≤ w0.heap.size) := HB0.out.size
 clear hw0 hb0 hbox h hx hxs hn hxb hA hr hh hv
 go_enter Tryz.func35, Tryz.ntmps35
 go_upto_region 1 with fail
 rw [← HW0.out]
 go_wp2_with (first | (refine wpList_load_row rfl _ _ rfl w.heap.size rfl _ _ _ _ HBOX.out Tryz.underlying47 rfl Tryz.infoIt ?_) | fail)
 refine HP.out.mono ?_
 rintro _ w1 ⟨A', c', rfl, hnil, hrd, hnew, hb1⟩
 obtain ⟨y, hy⟩ : ∃ y, y = partI x X.h := ⟨_, rfl⟩
 rw [← hy] at hnil hrd hnew ⊢
 have HY := Lib.hid hy
 have HNIL := Lib.hid hnil
 have HRD := Lib.hid hrd
 have HNEW := Lib.hid hnew
 have HB1 := Lib.hid (HB0.out.trans (hb1.mono HB0.out.size))
 have HS1 := Lib.hid (HS.out.below HB1.out)
 clear hnil hrd hnew hb1 HP hy HS0
 go_upto_region 2 with (first | (refine wpList_store_row rfl _ _ _ rfl w1.heap.size (itC y A' c').toArray rfl rfl _ _ (heap_alloc_new _ _) Tryz.infoIt rfl (by simp [Value.oneCell', itC]) ?_) | fail)
 obtain ⟨w2, hw2, hc2, hb2, hl2⟩ := boxI w1 _ (itC y A' c').toArray
 rw [← hw2]
 have HB2 := Lib.hid (HB1.out.trans (hb2.mono HB1.out.size))
 have HS2 := Lib.hid (HS1.out.below hb2)
 have HC2 := Lib.hid hc2
 have HR2 : Hid (RdP w2 w2.heap.size A' y.l) := (HRD.out.below hb2).more hb2.size
 have hz01 := HB0.out.size
 clear hw2 hc2 hb2 HRD HS1 HB1 HBOX
 by_cases hP : partE x X.h = 0
 rotate_left
 ·have hR : putR X L x A' c' = (partE x X.h, 0, 0, X, L) := by unfold putR; rw [if_pos hP]
  have HR := Lib.hid hR
  obtain ⟨N, hN⟩ : ∃ N, N = partE x X.h := ⟨_, rfl⟩
  rw [← hN] at hP HR ⊢
  have d1 : ((N : Int) == 0) = false := by simp; omega
  clear hN hR
  go_wp2
  go_ret3
  exact ⟨A', c', by rw [HR.out]; rfl, fun a ha h0 => Nat.le_trans HSZ.out (HNEW.out a ha (by rw [HY.out]; exact h0)), S, by rw [HR.out]; exact HS2.out, ⟨Only.of_below HB2.out S, fun _ h => .inl h⟩⟩
 obtain ⟨hN0, hHlt, hyI⟩ := partE_zero hP
 have ho := itemN_spO hN0
 have hgood := trim_good (N := X.h (spO x)) HX.out HXS.out HN.out HXB.out (HH.out _ ho)
 have hyo := trim_spO hHlt
 rw [← hyI, ← HY.out] at hgood hyo
 obtain ⟨g1, g2, g3, g4⟩ := hgood
 rw [hP]
 have hent : ∀ (W : World) (S2 : Nat → Prop) (X2 : Sp), X2.n < 18446744073709551616 → Below w2.heap.size w2 W → (∀ k, S2 k → k < w0.heap.size ∨ w2.heap.size ≤ k) → EntOk W S2 (addE X2 y A' c') := fun W S2 X2 hX2 hW hS2 =>
  ⟨g1, g2, g3, g4, hX2, HNIL.out, (HR2.out.below hW).more hW.size, fun a ha h0 hs => by
   have e1 := HNEW.out a ha h0
   have e2 := rdP_lt HR2.out ha h0
   rcases hS2 _ hs with h | h <;> omega⟩
 have HENT := Lib.hid hent
 have HT := Lib.hid (size_any y A' y.l.length c' g1 g2 rfl (by omega) w2 (by omega) HR2.out)
 obtain ⟨z, hz⟩ : ∃ z, z = (itemB y).length := ⟨_, rfl⟩
 rw [← hz] at HT g4
 have HZ := Lib.hid hz
 have HPP := Lib.hid hP
 have hput : putR X L x A' c' = (if (roomK z X.q (cntE L) L 0 X.v).1 = false then (13, 0, 0, X, L) else
   if 1099511627776 ≤ X.n then (6, 0, 0, X, L) else
   (0, X.n, lowE (roomK z X.q (cntE L) L 0 X.v).2.2.1 (addF (roomK z X.q (cntE L) L 0 X.v).2.1 (addE { X with v := (roomK z X.q (cntE L) L 0 X.v).2.2.2 } y A' c')), addX { X with v := (roomK z X.q (cntE L) L 0 X.v).2.2.2 } y, (addJ (roomK z X.q (cntE L) L 0 X.v).2.1 (addE { X with v := (roomK z X.q (cntE L) L 0 X.v).2.2.2 } y A' c')).1)) := by
  unfold putR
  rw [if_neg (by rw [HPP.out]; decide), ← HY.out, ← HZ.out]
 have HPUT := Lib.hid hput
 have hyo32 : spO y < 32 := by rw [hyo]; exact ho
 clear hz hP hput hent hN0 hHlt hyI hyo g1 g2 g3
 go_wp2_with (first | (refine wpList_load_row rfl _ _ rfl w1.heap.size rfl _ _ _ _ HC2.out Tryz.underlying47 rfl Tryz.infoIt ?_) | fail)
 refine HT.out.mono ?_
 rintro _ w3 ⟨rfl, hb3⟩
 have HB3 := Lib.hid hb3
 have HS3 := Lib.hid (HS2.out.below hb3)
 clear hb3 HT
 go_wp2_with fail
 refine (sfits_any z (by omega) w3 HS3.out).mono ?_
 rintro _ w4 ⟨rfl, hb4⟩
 have HB4 := Lib.hid (HB3.out.trans (hb4.mono HB3.out.size))
 have HS4 := Lib.hid (HS3.out.below hb4)
 have HC4 := Lib.hid ((HB4.out.block w1.heap.size hl2).trans HC2.out)
 have HT4 : Hid (Step w S w4 S) := ⟨Only.of_below (HB2.out.trans (HB4.out.mono HB2.out.size)) S, fun _ h => .inl h⟩
 have hsw : s < w.heap.size := HS.out.lt s HS.out.sS
 have hz24 := HB4.out.size
 clear hb4 HB3 HS3
 by_cases hfit : sumE L + z ≤ X.q
 ·have d1 : decide (sumE L + z ≤ X.q) = true := decide_eq_true hfit
  rw [d1]
  have hR := HPUT.out
  rw [roomK_fit hfit] at hR
  simp only [Bool.true_eq_false, if_false] at hR
  obtain ⟨v4, k4, -⟩ := HS4.out.sp
  have c2 := k4.c2
  clear d1 k4
  by_cases hX : 1099511627776 ≤ X.n
  ·have d2 : decide ((1099511627776 : Int) ≤ (X.n : Int)) = true := decide_eq_true (by omega)
   rw [if_pos hX] at hR
   have HR := Lib.hid hR
   clear hR
   go_wp2
   go_ret3
   exact ⟨A', c', by rw [HR.out]; rfl, fun a ha h0 => Nat.le_trans HSZ.out (HNEW.out a ha (by rw [HY.out]; exact h0)), S, by rw [HR.out]; exact HS4.out, HT4.out⟩
  ·have d2 : decide ((1099511627776 : Int) ≤ (X.n : Int)) = false := decide_eq_false (by omega)
   rw [if_neg hX] at hR
   have HR := Lib.hid hR
   have HADD := Lib.hid (add_any y A' c' w4 HS4.out (HENT.out w4 S X (by omega) HB4.out (fun k hk => .inl (Nat.lt_of_lt_of_le (HS.out.lt k hk) hz01))) hyo32 hf (by omega))
   clear hR
   go_wp2_with (first | (refine wpList_load_row rfl _ _ rfl w1.heap.size rfl _ _ _ _ HC4.out Tryz.underlying47 rfl Tryz.infoIt ?_) | fail)
   refine HADD.out.mono ?_
   rintro _ w5 ⟨rfl, S5, hs5, hst5⟩
   obtain ⟨v5, k5, r5⟩ := hs5.sp
   obtain ⟨A5, c5, rfl⟩ := own_slice r5.own
   obtain ⟨cs, hcs, hcz, hone, hck⟩ := k5.one rfl
   have HS5 := Lib.hid hs5
   have HT5 := Lib.hid (HT4.out.trans hst5)
   have HK5 := Lib.hid k5
   have HCS := Lib.hid hcs
   have HCK := Lib.hid hck
   have HVS := Lib.hid r5.vs
   clear hs5 hst5 k5 r5 hcs hck HADD c2
   go_wp2_with (first
    | (refine wpList_load_row rfl _ _ rfl s rfl _ cs _ _ HCS.out Tryz.underlying121 rfl (by rw [Tryz.infoSp, hcz]) ?_)
    | (refine wpList_store_row rfl _ _ _ rfl s cs rfl rfl _ _ HCS.out (by rw [Tryz.infoSp, hcz]) rfl hone ?_)
    | fail)
   refine (lowest_any 0 _ _).mono ?_
   rintro _ w6 ⟨rfl, rfl⟩
   have hfin := HS5.out.copyTo HCK.out hcz HCS.out (fun v hv => by rw [HK5.out.c37] at hv; injection hv with hv; rw [← hv]; exact HVS.out) (fun e he a ha h0 e' => (HS5.out.ent e he).ap a ha h0 (by rw [e']; exact HS5.out.sS))
   have hstf : Step w S (w5.setRow s cs) (fun k => k = s ∨ S5 k) := ⟨HT5.out.only.trans (onlyRow s cs w5) (fun i hi => .inl (by have hi : i = s := hi; rw [hi]; exact HS.out.sS)), fun k hk => hk.elim (fun e => .inl (by rw [e]; exact HS.out.sS)) (HT5.out.new k)⟩
   have HFI := Lib.hid hfin
   have HST := Lib.hid hstf
   clear hfin hstf
   go_wp2
   go_ret3
   exact ⟨A', c', by rw [HR.out]; rfl, fun a ha h0 => Nat.le_trans HSZ.out (HNEW.out a ha (by rw [HY.out]; exact h0)), _, by rw [HR.out]; exact HFI.out, HST.out⟩
 ·have d1 : decide (sumE L + z ≤ X.q) = false := decide_eq_false hfit
  rw [d1]
  clear d1
  go_wp2_with fail
  refine (scopy_any w4 HS4.out).mono ?_
  rintro _ w5 ⟨rfl, hb5, hs5⟩
  obtain ⟨s2, hs2⟩ : ∃ s2, s2 = w4.heap.size := ⟨_, rfl⟩
  rw [← hs2] at hs5 ⊢
  obtain ⟨S2, hS2⟩ : ∃ S2 : Nat → Prop, S2 = fun k => s2 ≤ k ∧ k < w5.heap.size := ⟨_, rfl⟩
  rw [← hS2] at hs5
  have hS2l : ∀ k, S2 k → s2 ≤ k := fun k hk => by rw [hS2] at hk; exact hk.1
  have hv2 : X.v + cntE L < 18446744073709551615 := HV.out.resolve_left (fun h => hfit (by rw [HZ.out, HY.out]; exact h))
  have HRM := Lib.hid (room_any z (by omega) w5 hs5 hv2)
  clear hv2
  have HS5 := Lib.hid hs5
  have HS5o := Lib.hid (HS4.out.below hb5)
  have HB5 := Lib.hid hb5
  have Hs2 := Lib.hid hs2
  have HS2l := Lib.hid hS2l
  have hmf : ∀ (fn : Fn) (first cap : Array Value) (w : World), (Instr.makeFunc fn first cap).run Tryz.prog w = .ok (.func fn first cap) w := fun _ _ _ _ => rfl
  clear hb5 hs5 hs2 hS2 hS2l
  go_wp2_with fail
  refine HRM.out.mono ?_
  rintro _ w6 ⟨ok, L1, f1, v1, hroom, rfl, hs6, hst6⟩
  have hlow6 : Below w4.heap.size w4 w6 := HB5.out.trans ⟨hst6.only.os, hst6.only.tape, hst6.only.output, hst6.only.size, fun k hk => hst6.only.block k (Nat.lt_of_lt_of_le hk HB5.out.size) (fun e => by have := HS2l.out k e; have := Hs2.out; omega)⟩
  have HS6o := Lib.hid (HS4.out.below hlow6)
  have HB6 := Lib.hid hlow6
  have HS6 := Lib.hid hs6
  have HT6 := Lib.hid hst6
  have HRO := Lib.hid hroom
  have HTo : Hid (Step w S w6 S) := HT4.out.trans ⟨Only.of_below hlow6 S, fun _ h => .inl h⟩
  have hpr := HPUT.out
  rw [hroom] at hpr
  simp only at hpr
  have hl1 : L1.length ≤ L.length := by have := len_room (size := z) (q := X.q) (fuel := cntE L) (L := L) (f := 0) (v := X.v); rw [hroom] at this; exact this
  have hmem : ∀ e ∈ L1, e ∈ L ∨ e.x.l = [] := fun e he => by have h := mem_room (size := z) (q := X.q) (fuel := cntE L) (L := L) (f := 0) (v := X.v) (e := e); rw [hroom] at h; exact h he
  have HMEM := Lib.hid hmem
  clear hs6 hst6 hroom hlow6 HRM hmem
  cases ok with
  | false =>
    simp only [if_true] at hpr
    have HR := Lib.hid hpr
    clear hpr
    go_wp2
    go_ret3
    exact ⟨A', c', by rw [HR.out]; rfl, fun a ha h0 => Nat.le_trans HSZ.out (HNEW.out a ha (by rw [HY.out]; exact h0)), S, by rw [HR.out]; exact HS6o.out, HTo.out⟩
  | true =>
    simp only [Bool.true_eq_false, if_false, if_true] at hpr ⊢
    obtain ⟨v4, k4, -⟩ := HS6o.out.sp
    have c2 := k4.c2
    clear k4
    by_cases hX : 1099511627776 ≤ X.n
    ·have d2 : decide ((1099511627776 : Int) ≤ (X.n : Int)) = true := decide_eq_true (by omega)
     rw [if_pos hX] at hpr
     have HR := Lib.hid hpr
     clear hpr
     go_wp2
     go_ret3
     exact ⟨A', c', by rw [HR.out]; rfl, fun a ha h0 => Nat.le_trans HSZ.out (HNEW.out a ha (by rw [HY.out]; exact h0)), S, by rw [HR.out]; exact HS6o.out, HTo.out⟩
    ·have d2 : decide ((1099511627776 : Int) ≤ (X.n : Int)) = false := decide_eq_false (by omega)
     rw [if_neg hX] at hpr
     have HR := Lib.hid hpr
     have HADD := Lib.hid (add_any (X := { X with v := v1 }) y A' c' w6 HS6.out (HENT.out w6 S2 { X with v := v1 } (by show X.n < _; omega) (HB4.out.trans (HB6.out.mono HB4.out.size)) (fun k hk => .inr (by have := HS2l.out k hk; have := Hs2.out; omega))) hyo32 (by omega) (by show X.n < _; omega))
     have HC6 := Lib.hid ((HB6.out.block w1.heap.size (by omega)).trans HC4.out)
     clear hpr
     go_wp2_with (first | (refine wpList_load_row rfl _ _ rfl w1.heap.size rfl _ _ _ _ HC6.out Tryz.underlying47 rfl Tryz.infoIt ?_) | fail)
     refine HADD.out.mono ?_
     rintro _ w7 ⟨rfl, S7, hs7, hst7⟩
     have hS7 : ∀ k, S7 k → s2 ≤ k := fun k hk => by
      rcases hst7.new k hk with h' | h'
      ·exact HS2l.out k h'
      ·have := HB6.out.size; have := Hs2.out; omega
     have hlow7 : Below w4.heap.size w4 w7 := HB6.out.trans ⟨hst7.only.os, hst7.only.tape, hst7.only.output, hst7.only.size, fun k hk => hst7.only.block k (Nat.lt_of_lt_of_le hk HB6.out.size) (fun e => by have := HS2l.out k e; have := Hs2.out; omega)⟩
     obtain ⟨v5, k5, r5⟩ := hs7.sp
     obtain ⟨A5, c5, rfl⟩ := own_slice r5.own
     obtain ⟨cs, hcs, hcz, hone, hck⟩ := k5.one rfl
     obtain ⟨w4v, kk4, -⟩ := HS4.out.sp
     obtain ⟨old, hold, holdz⟩ := kk4.blk
     have hss2 : s < s2 := by have := Hs2.out; have := HS4.out.lt s HS4.out.sS; omega
     have hold7 := (hlow7.block s (HS4.out.lt s HS4.out.sS)).trans hold
     have HS7 := Lib.hid hs7
     have HL7 := Lib.hid hlow7
     have HS7l := Lib.hid hS7
     have HK5 := Lib.hid k5
     have HR5 := Lib.hid r5
     have HCS := Lib.hid hcs
     have HCK := Lib.hid hck
     have HOLD := Lib.hid hold7
     clear hs7 hst7 k5 r5 hcs hck HADD c2 hS7 hlow7 kk4 hold hold7
     go_wp2_with (first
      | (refine wpList_load_row rfl _ _ rfl s2 rfl _ cs _ _ HCS.out Tryz.underlying121 rfl (by rw [Tryz.infoSp, hcz]) ?_)
      | (refine wpList_store_row rfl _ _ _ rfl s cs rfl rfl _ old HOLD.out (by rw [Tryz.infoSp, hcz]) (by rw [holdz, hcz]) hone ?_)
      | fail)
     obtain ⟨j, hj⟩ : ∃ j, j = addF L1 (addE { X with v := v1 } y A' c') := ⟨_, rfl⟩
     rw [← hj] at HR ⊢
     refine (lowest_any f1 j _).mono ?_
     rintro _ w8 ⟨rfl, rfl⟩
     have hlow : (if f1 = 0 ∨ j = 0 then max f1 j else min f1 j) = lowE f1 j := rfl
     rw [hlow]
     clear hlow hj
     have hfin := HS7.out.copyTo HCK.out hcz HOLD.out (fun v hv => by rw [HK5.out.c37] at hv; injection hv with hv; rw [← hv]; exact fun e => by have := HS7l.out s (HR5.out.vS s e); omega) (fun e he a ha h0 e' => by
      rcases mem_addJ he with h1 | h1 | h1
      ·rcases HMEM.out e h1 with h2 | h2
       ·exact (HS.out.ent e h2).ap a ha h0 (by rw [e']; exact HS.out.sS)
       ·rw [h2] at h0; exact absurd h0 (by simp)
      ·rw [h1] at ha h0
       have := HNEW.out a ha h0
       omega
      ·rw [h1] at h0; exact absurd h0 (by simp))
     have hstf : Step w S (w7.setRow s cs) (fun k => k = s ∨ S7 k) := ⟨(HT4.out.only.trans (Only.of_below HL7.out S) (fun _ h => .inl h)).trans (onlyRow s cs w7) (fun i hi => .inl (by have hi : i = s := hi; rw [hi]; exact HS.out.sS)), fun k hk => hk.elim (fun e => .inl (by rw [e]; exact HS.out.sS)) (fun hk => .inr (by have := HS7l.out k hk; have := HB2.out.size; have := Hs2.out; omega))⟩
     have HFI := Lib.hid hfin
     have HST := Lib.hid hstf
     clear hfin hstf
     go_wp2
     go_ret3
     exact ⟨A', c', by rw [HR.out]; rfl, fun a ha h0 => Nat.le_trans HSZ.out (HNEW.out a ha (by rw [HY.out]; exact h0)), _, by rw [HR.out]; exact HFI.out, HST.out⟩
set_option maxRecDepth 100000 in
set_option maxHeartbeats 4000000 in
theorem sof_new (q : Nat) (h1 : 64 ≤ q) (h2 : q ≤ 65536) (cs : List Value) (X : Sp) (A : Option Addr) (n c : Nat) (L : List Ett) (w : World) (hbs : BsV cs X (.slice A n c)) (hn : n = L.length) (hm : n ≤ 100000) (hL : RdM8 w A L) (hok : ∀ e ∈ L, itemN e.x = 0) :
  Calls Tryz.prog 154 #[.int .i64 q, .agg cs.toArray] w fun e w' => ((∃ code : Nat, e = .returned (.tuple #[.pointer none, .int .i64 code]) ∧ (code = 6 ∨ code = 9 ∨ code = 26) ∧ ¬ OfOk q X L) ∨
   (OfOk q X L ∧ ∃ (t : Nat) (S : Nat → Prop) (M : List Ett), e = .returned (.tuple #[.pointer (some ⟨t, 0, none⟩), .int .i64 0]) ∧ SameE L M ∧ SpAt w' S t { X with q := q } M ∧ (∀ k, S k → w.heap.size ≤ k) ∧ (∀ e ∈ M, ∀ a, e.A = some a → 0 < e.x.l.length → w.heap.size ≤ a.block))) ∧ Below w.heap.size w w' := by
 obtain ⟨w0, hw0⟩ : ∃ V, V = w.alloc (.cells cs.toArray 63) := ⟨_, rfl⟩
 have hb0 : Below w.heap.size w w0 := by rw [hw0]; exact (Below.refl _ _).alloc (Nat.le_refl _) _
 obtain ⟨gb, hgb⟩ : ∃ g, g = w.heap.size := ⟨_, rfl⟩
 have hbox : w0.heap[gb]? = some (.cells cs.toArray 63 (0, 0)) := by rw [hw0, hgb]; exact heap_alloc_new _ _
 have HW0 := Lib.hid hw0
 have HB0 := Lib.hid hb0
 have HX0 := Lib.hid hbox
 have HBS := Lib.hid hbs
 have HL := Lib.hid hL
 have HOK := Lib.hid hok
 have HN := Lib.hid hn
 have HGB := Lib.hid hgb
 clear hw0 hb0 hbox hbs hL hok hn hgb
 go_enter Tryz.func154, Tryz.ntmps154
 go_upto_region 1 with fail
 rw [← HW0.out, ← HGB.out]
 go_wp2_with fail
 refine (snew_any q h1 h2 w0).mono ?_
 rintro _ w1 ⟨rfl, hs1, hb1⟩
 obtain ⟨s, hs⟩ : ∃ g, g = w0.heap.size := ⟨_, rfl⟩
 rw [← hs] at hs1 ⊢
 have hgl0 : gb < w0.heap.size := (Array.getElem?_eq_some_iff.1 HX0.out).1
 have hx1 := (hb1.block _ hgl0).trans HX0.out
 have hba1 : BsAt w1 gb X (.slice A n c) := BsAt.of hx1 HBS.out
 have hsg : gb < s := by rw [hs]; exact hgl0
 have HX1 := Lib.hid hx1
 have HS1 := Lib.hid hs1
 have HSG := Lib.hid hsg
 have HB1 := Lib.hid (HB0.out.trans (hb1.mono HB0.out.size))
 have hsw : w.heap.size ≤ s := by rw [hs]; exact HB0.out.size
 have HSW := Lib.hid hsw
 obtain ⟨c0, c1, -, -, c35⟩ := hba1.cell
 have hno : ¬ (X.n ≠ 0 ∧ X.n ≤ 1099511627776 ∧ X.a < X.n ∧ n ≤ q) → ¬ OfOk q X L := fun h h' => h (by rw [HN.out]; exact h'.1)
 have HNO := Lib.hid hno
 clear hs hs1 hb1 hgl0 hx1 hba1 hsg hsw hno HX0 HW0 HB0
 by_cases m1 : X.n = 0
 ·have g3 : ((X.n : Int) == 0) = true := by rw [beq_iff_eq]; omega
  clear HX1 HS1
  go_wp2_with fail
  go_ret2
  exact ⟨.inl ⟨6, rfl, .inl rfl, HNO.out (by omega)⟩, HB1.out⟩
 ·have g3 : ((X.n : Int) == 0) = false := by rw [beq_eq_false_iff_ne]; omega
  by_cases m2 : 1099511627776 < X.n
  ·have d2 : decide ((1099511627776 : Int) < (X.n : Int)) = true := decide_eq_true (by omega)
   clear HX1 HS1
   go_wp2_with fail
   go_ret2
   exact ⟨.inl ⟨6, rfl, .inl rfl, HNO.out (by omega)⟩, HB1.out⟩
  ·have d2 : decide ((1099511627776 : Int) < (X.n : Int)) = false := decide_eq_false (by omega)
   by_cases m3 : X.n ≤ X.a
   ·have d3 : decide ((X.n : Int) ≤ (X.a : Int)) = true := decide_eq_true (by omega)
    clear HX1 HS1
    go_wp2_with fail
    go_ret2
    exact ⟨.inl ⟨6, rfl, .inl rfl, HNO.out (by omega)⟩, HB1.out⟩
   ·have d3 : decide ((X.n : Int) ≤ (X.a : Int)) = false := decide_eq_false (by omega)
    by_cases m4 : q < n
    ·have d4 : decide ((q : Int) < (n : Int)) = true := decide_eq_true (by omega)
     clear HX1 HS1
     go_wp2_with fail
     go_ret2
     exact ⟨.inl ⟨6, rfl, .inl rfl, HNO.out (by omega)⟩, HB1.out⟩
    ·have d4 : decide ((q : Int) < (n : Int)) = false := decide_eq_false (by omega)
     have hck := chk_any cs X A n c L w1 HBS.out HN.out hm (HL.out.below HB1.out) HOK.out
     have HCK := Lib.hid hck
     have hfirst : X.n ≠ 0 ∧ X.n ≤ 1099511627776 ∧ X.a < X.n ∧ L.length ≤ q := ⟨m1, by omega, by omega, by rw [← HN.out]; omega⟩
     have HF := Lib.hid hfirst
     clear hck hfirst HNO
     go_wp2_with (first
      | (refine wpList_load_row rfl _ _ rfl gb rfl _ _ _ _ HX1.out Tryz.underlying63 rfl HBS.out.infoA ?_)
      | fail)
     refine HCK.out.mono ?_
     rintro _ w2 ⟨hcase, hb2⟩
     have HB2 := Lib.hid (HB1.out.trans (hb2.mono HB1.out.size))
     have HX2 := Lib.hid ((hb2.block _ (Array.getElem?_eq_some_iff.1 HX1.out).1).trans HX1.out)
     have HS2 := Lib.hid (HS1.out.below hb2)
     clear hb2 HX1 HS1 HCK c0 c1 c35 d2 d3 d4 g3
     rcases hcase with ⟨rfl, hchk⟩ | ⟨rfl, hchk⟩
     ·have HCHK := Lib.hid hchk
      clear hchk
      have hth := SpC.there (HS2.out.sp.choose_spec.1)
      have hth36 : w2.there s 2 cs.toArray.size := by rw [← HBS.out.size36]; exact hth
      have HT := Lib.hid hth36
      clear hth hth36
      go_upto_region 10 with (first
       | (refine wpList_load_row rfl _ _ rfl gb rfl _ _ _ _ HX2.out Tryz.underlying63 rfl HBS.out.infoA ?_)
       | (refine wpList_store_mid rfl _ _ _ rfl s 2 cs.toArray rfl rfl HT.out HBS.out.infoA HBS.out.one ?_)
       | fail)
      obtain ⟨w3, hw3⟩ : ∃ V, V = w2.setCells s 2 cs := ⟨_, rfl⟩
      have hw3' : w2.setCells s 2 cs.toArray.toList = w3 := hw3.symm
      rw [act_put_no, ← hw3]
      have hon3 : Only (fun k => k = s) w2 w3 := by rw [hw3]; exact onlyCells (T := fun k => k = s) rfl _ _ _
      have hc3 : SpC w3 s { X with q := q } 0 (.slice A n c) := by
       obtain ⟨v0, k0, -⟩ := HS2.out.sp
       rw [hw3]
       exact k0.setBase HBS.out
      have hbw3 : Below w.heap.size w w3 := HB2.out.trans ⟨hon3.os, hon3.tape, hon3.output, hon3.size, fun k hk => hon3.block k (Nat.lt_of_lt_of_le hk HB2.out.size) (fun e => by have e : k = s := e; have := HSW.out; omega)⟩
      have hx3 := (hon3.block _ (Array.getElem?_eq_some_iff.1 HX2.out).1 (fun e => by have e : gb = s := e; have := HSG.out; omega)).trans HX2.out
      have hba3 : BsAt w3 gb X (.slice A n c) := BsAt.of hx3 HBS.out
      have hl3 := HL.out.below hbw3
      have hcl := clones_new A n c L w3 HN.out hm (fun h => by rw [HN.out]; exact hl3.nil h) (fun W hW => RdM8.src HN.out (hl3.below hW)) hl3.ok
      obtain ⟨-, -, -, -, c35⟩ := hba3.cell
      have HC3 := Lib.hid hc3
      have HBW3 := Lib.hid hbw3
      have HX3 := Lib.hid hx3
      have HCL := Lib.hid hcl
      clear hw3 hw3' hon3 hc3 hbw3 hx3 hba3 hl3 hcl HT HX2 HS2 HB2
      go_wp2_with fail
      refine HCL.out.mono ?_
      rintro _ w4 ⟨A4, c4, M, rfl, hsm, hrow, hb4, hnw⟩
      have hc4 := HC3.out.below hb4
      have c37 := hc4.c37
      have f37 := hc4.fz 37
      have HC4 := Lib.hid hc4
      have HSM := Lib.hid hsm
      have HROW := Lib.hid hrow
      have HNW := Lib.hid hnw
      have HS3 := Lib.hid HC3.out.slt
      have HBW4 := Lib.hid (HBW3.out.trans (hb4.mono HBW3.out.size))
      have HX4 := Lib.hid ((hb4.block _ (Array.getElem?_eq_some_iff.1 HX3.out).1).trans HX3.out)
      clear hc4 hsm hrow hnw hb4 c35 HCL HC3 HBW3 HX3
      go_upto_region 11 with fail
      obtain ⟨w5, hw5⟩ : ∃ V, V = w4.setCell ⟨s, 37, none⟩ (.slice A4 n c4) := ⟨_, rfl⟩
      rw [← hw5]
      have hon5 : Only (fun k => k = s) w4 w5 := by rw [hw5]; exact Only.setCell _ _ _ rfl
      have hc5 : SpC w5 s { X with q := q } 0 (.slice A4 n c4) := by rw [hw5]; exact HC4.out.setL _
      have hbw5 : Below w.heap.size w w5 := HBW4.out.trans ⟨hon5.os, hon5.tape, hon5.output, hon5.size, fun k hk => hon5.block k (Nat.lt_of_lt_of_le hk HBW4.out.size) (fun e => by have e : k = s := e; have := HSW.out; omega)⟩
      have hx5 := (hon5.block _ (Array.getElem?_eq_some_iff.1 HX4.out).1 (fun e => by have e : gb = s := e; have := HSG.out; omega)).trans HX4.out
      have hba5 : BsAt w5 gb X (.slice A n c) := BsAt.of hx5 HBS.out
      have hrow5 : w5.ownsRow 0 74 14 (.slice A4 n c4) n (cellsE M) := by
       have h1 := HROW.out.own
       have hml : M.length = n := by rw [HN.out]; exact HSM.out.len.symm
       rw [hml] at h1
       exact ownB_mono (hon5.own h1 (fun k hk e => by have h2 := (h1.lt k hk).1; have h3 := HS3.out; have e : k = s := e; omega)) (Nat.zero_le _)
      have hent5 : ∀ e ∈ M, EntOk w5 (fun k => k = s ∨ (Value.slice A4 n c4).ownBlock = some k) e := fun e he => by
       have h1 := HROW.out.ok e he
       have h2 := HNW.out e he
       have h3 := HS3.out
       have h4 := h1.only hon5 (fun a ha h0 e' => by have h5 := h2 a ha h0; have e' : a.block = s := e'; omega) (fun _ h => .inl h)
       exact ⟨h4.ok, h4.sh, h4.ln, h4.lb, h4.ix, h4.nil, h4.rd, fun a ha h0 hk => hk.elim (fun e' => by have h5 := h2 a ha h0; omega) (h4.ap a ha h0)⟩
      have hvs : ∀ k, (Value.slice A4 n c4).ownBlock = some k → k ≠ s := fun k hk => by
       have h1 := HROW.out.own
       have h2 := (h1.lt k hk).1
       have h3 := HS3.out
       omega
      obtain ⟨-, -, -, -, c35⟩ := hba5.cell
      have HVN : Hid (∀ k, (Value.slice A4 n c4).ownBlock = some k → w.heap.size ≤ k) := fun k hk => by
       have h1 := HROW.out.own
       have h2 := (h1.lt k hk).1
       have h3 := HS3.out
       have h4 := HSW.out
       omega
      have HLN : Hid (∀ e ∈ M, ∀ a, e.A = some a → 0 < e.x.l.length → w.heap.size ≤ a.block) := fun e he a ha h0 => by
       have h2 := HNW.out e he a ha h0
       have h3 := HS3.out
       have h4 := HSW.out
       omega
      have hl5 := HL.out.below hbw5
      have hsz := sizes_any A n c L w5 HN.out hm hl5.rd hl5.ok
      have HSZ := Lib.hid hsz
      have HC5 := Lib.hid hc5
      have HBW5 := Lib.hid hbw5
      have HROW5 := Lib.hid hrow5
      have HENT5 := Lib.hid hent5
      have HVS := Lib.hid hvs
      have hsumb : sumE L ≤ 100000 * L.length := sumE_bound fun e he => (hl5.ok e he).lb
      have HSB := Lib.hid hsumb
      clear hw5 hon5 hc5 hbw5 hx5 hba5 hrow5 hent5 hvs hl5 hsz hsumb c37 f37 HC4 HROW HNW HBW4 HX4
      go_wp2_with fail
      refine HSZ.out.mono ?_
      rintro _ w6 ⟨rfl, hb6⟩
      have hc6 := HC5.out.below hb6
      have c1 := hc6.c1
      have f1 := hc6.fz 1
      obtain ⟨u, hu⟩ : ∃ u, u = sumE L := ⟨_, rfl⟩
      rw [← hu]
      have HU := Lib.hid hu
      have HC6 := Lib.hid hc6
      have HBW6 := Lib.hid (HBW5.out.trans (hb6.mono HBW5.out.size))
      have HROW6 := Lib.hid (ownB_below HROW5.out hb6)
      have HENT6 : Hid (∀ e ∈ M, EntOk w6 (fun k => k = s ∨ (Value.slice A4 n c4).ownBlock = some k) e) := fun e he => (HENT5.out e he).below hb6
      clear hc6 hb6 hu c35 HC5 HBW5 HROW5 HENT5 HSZ
      go_upto_region 12 with fail
      obtain ⟨w7, hw7⟩ : ∃ V, V = w6.setCell ⟨s, 1, none⟩ (.int .i64 (u : Int)) := ⟨_, rfl⟩
      rw [← hw7]
      have hon7 : Only (fun k => k = s) w6 w7 := by rw [hw7]; exact Only.setCell _ _ _ rfl
      have hc7 : SpC w7 s { X with q := q } u (.slice A4 n c4) := by rw [hw7]; exact HC6.out.setU _
      have hbw7 : Below w.heap.size w w7 := HBW6.out.trans ⟨hon7.os, hon7.tape, hon7.output, hon7.size, fun k hk => hon7.block k (Nat.lt_of_lt_of_le hk HBW6.out.size) (fun e => by have e : k = s := e; have := HSW.out; omega)⟩
      have hrow7 := hon7.own HROW6.out (fun k hk e => HVS.out k hk e)
      have hml : M.length = n := by rw [HN.out]; exact HSM.out.len.symm
      have hsum : u = sumE M := by rw [HU.out]; exact sum_same HSM.out
      have hsp : SpAt w7 (fun k => k = s ∨ (Value.slice A4 n c4).ownBlock = some k) s { X with q := q } M := by
       refine SpAt.build (by rw [← hsum]; exact hc7) (by rw [hml]; exact hrow7) HVS.out (by omega) (fun e he => ?_) h2
       have h1 := HENT6.out e he
       have h3 := h1.only hon7 (fun a ha h0 e' => h1.ap a ha h0 (.inl e')) (fun _ h => .inl h)
       exact h3
      have c1 := hc7.c1
      have HSP := Lib.hid hsp
      have HBW7 := Lib.hid hbw7
      clear hw7 hon7 hc7 hbw7 hrow7 hml hsum hsp f1 HC6 HBW6 HROW6 HENT6
      by_cases m5 : q < u
      ·have d5 : decide ((q : Int) < (u : Int)) = true := decide_eq_true (by omega)
       clear HSP
       go_wp2_with fail
       go_ret2
       exact ⟨.inl ⟨26, rfl, .inr (.inr rfl), fun h => by have h1 := h.2.2; have h3 := HU.out; omega⟩, HBW7.out⟩
      ·have d5 : decide ((q : Int) < (u : Int)) = false := decide_eq_false (by omega)
       have hofk : OfOk q X L := ⟨HF.out, HCHK.out, by rw [← HU.out]; omega⟩
       have HOFK := Lib.hid hofk
       clear hofk
       go_wp2_with fail
       go_ret2
       exact ⟨.inr ⟨HOFK.out, s, _, M, rfl, HSM.out, HSP.out, fun k hk => hk.elim (fun e => by rw [e]; exact HSW.out) (HVN.out k), HLN.out⟩, HBW7.out⟩
     ·have HCHK := Lib.hid hchk
      clear hchk HX2 HS2
      go_wp2_with fail
      go_ret2
      exact ⟨.inl ⟨9, rfl, .inr (.inl rfl), fun h => HCHK.out h.2.1⟩, HB2.out⟩
end Go.Proofs.YtholdcgkhicdmaaGreatDoor