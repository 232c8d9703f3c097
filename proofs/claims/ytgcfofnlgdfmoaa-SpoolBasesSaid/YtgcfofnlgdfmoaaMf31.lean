/- Several texts in one: SpPut. -/
import Derived.Test.YtgcfofnlgdfmoaaMf30
/- Layer 8: Put. -/
namespace Go.Proofs.Ytgcfofnlgdfmoaa
open Go.RowKit

theorem mem_joinK {L : List Ett} {a b : Option Nat} {e : Ett} (h : e ∈ (joinK L a b).1) : e ∈ L ∨ e.x.l = [] := by
  cases a with
  | none => exact .inl h
  | some a =>
    cases b with
    | none => exact .inl h
    | some b =>
      unfold joinK at h
      simp only at h
      split at h
      · have h1 := cutE_mem h
        rcases List.mem_or_eq_of_mem_set h1 with h2 | rfl
        · exact .inl h2
        · exact .inr (joinI_l _ _)
      · exact .inl h
theorem mem_evL {L : List Ett} {p : Nat} {e0 e : Ett} (h : e ∈ evL L p e0) : e ∈ L ∨ e.x.l = [] := by
  rcases mem_joinK h with h | h
  · rcases mem_joinK h with h | h
    · rcases List.mem_or_eq_of_mem_set h with h | rfl
      · exact .inl h
      · exact .inr rfl
    · exact .inr h
  · exact .inr h
theorem mem_room {size q : Nat} : ∀ {fuel : Nat} {L : List Ett} {f v : Nat} {e : Ett}, e ∈ (roomK size q fuel L f v).2.1 → e ∈ L ∨ e.x.l = []
  | fuel, L, f, v, e, h => by
    by_cases hf : sumE L + size ≤ q
    · rw [roomK_fit hf] at h; exact .inl h
    · cases hl : leastK L L.length with
      | none => rw [roomK_none hf hl] at h; exact .inl h
      | some p =>
        cases fuel with
        | zero =>
          unfold roomK at h
          rw [if_neg hf] at h
          exact .inl h
        | succ k =>
          rw [roomK_some hf hl] at h
          rcases mem_room h with h | h
          · exact mem_evL h
          · exact .inr h
theorem mem_addJ {L : List Ett} {e0 e : Ett} (h : e ∈ (addJ L e0).1) : e ∈ L ∨ e = e0 ∨ e.x.l = [] := by
  unfold addJ at h
  split at h
  · rcases mem_joinK h with h | h
    · rcases List.mem_append.1 h with h | h
      · exact .inl h
      · exact .inr (.inl (by simpa using h))
    · exact .inr (.inr h)
  · rcases List.mem_append.1 h with h | h
    · exact .inl h
    · exact .inr (.inl (by simpa using h))
theorem len_joinK (L : List Ett) (a b : Option Nat) : (joinK L a b).1.length ≤ L.length := by
  cases a with
  | none => exact Nat.le_refl _
  | some a =>
    cases b with
    | none => exact Nat.le_refl _
    | some b =>
      show (if joinB (L.getD a entD).x (L.getD b entD).x then (joinL L a b (L.getD a entD) (L.getD b entD), true) else (L, false)).1.length ≤ _
      by_cases hj : joinB (L.getD a entD).x (L.getD b entD).x = true
      · rw [if_pos hj]
        show (cutE _ _ _).length ≤ _
        unfold cutE
        rw [List.length_append, List.length_take, List.length_drop, List.length_set]
        omega
      · rw [if_neg hj]; exact Nat.le_refl _
theorem len_evL (L : List Ett) (p : Nat) (e : Ett) : (evL L p e).length ≤ L.length := by
  refine Nat.le_trans (len_joinK _ _ _) (Nat.le_trans (len_joinK _ _ _) ?_)
  rw [List.length_set]
  exact Nat.le_refl _
theorem len_room {size q : Nat} : ∀ {fuel : Nat} {L : List Ett} {f v : Nat}, (roomK size q fuel L f v).2.1.length ≤ L.length
  | fuel, L, f, v => by
    by_cases hf : sumE L + size ≤ q
    · rw [roomK_fit hf]; exact Nat.le_refl _
    · cases hl : leastK L L.length with
      | none => rw [roomK_none hf hl]; exact Nat.le_refl _
      | some p =>
        cases fuel with
        | zero =>
          unfold roomK
          rw [if_neg hf]
          exact Nat.le_refl _
        | succ k =>
          rw [roomK_some hf hl]
          exact Nat.le_trans len_room (len_evL _ _ _)
theorem SpAt.copyTo {w : World} {S2 : Nat → Prop} {s s2 : Nat} {X : Sp} {L : List Ett} {cs old : Array Value} (h : SpAt w S2 s2 X L) (hk : ∀ k, w.cell? ⟨s2, k, none⟩ = cs[k]?) (hz : cs.size = 38) (hold : w.heap[s]? = some (.cells old 130 (0, 0)))
    (hne : ∀ v, w.cell? ⟨s2, 37, none⟩ = some v → v.ownBlock ≠ some s) (hs : ∀ e ∈ L, ∀ a, e.A = some a → 0 < e.x.l.length → a.block ≠ s) : SpAt (w.setRow s cs) (fun k => k = s ∨ S2 k) s X L := by
  have hon := onlyRow s cs w
  have hsl : s < w.heap.size := (Array.getElem?_eq_some_iff.1 hold).1
  obtain ⟨v, h1, h2⟩ := h.sp
  refine ⟨⟨v, h1.as hk hz (setRow_heap _ _ _ _ _ _ hold), hon.own h2.own (fun k hk e => hne v h1.c37 (by rw [hk, e])), hne v h1.c37, fun i hi => .inr (h2.vS i hi)⟩, .inl rfl, fun k hk => Nat.lt_of_lt_of_le (hk.elim (fun e => by rw [e]; exact hsl) (h.lt k)) hon.size, h.few, fun e he => ?_, h.q⟩
  have q := h.ent e he
  exact ⟨q.ok, q.sh, q.ln, q.lb, q.ix, q.nil, hon.rdP q.rd (fun a ha h0 e' => hs e he a ha h0 e'), fun a ha h0 hk => hk.elim (hs e he a ha h0) (q.ap a ha h0)⟩
/-- what Put answers and leaves: the error, the index, the lowest index that changed, the numbers, the row -/
def putR (X : Sp) (L : List Ett) (x : It) (A : Option Addr) (c : Nat) : Nat × Nat × Nat × Sp × List Ett :=
  if partE x X.h ≠ 0 then (partE x X.h, 0, 0, X, L) else
  let R := roomK (itemB (partI x X.h)).length X.q (cntE L) L 0 X.v
  if R.1 = false then (13, 0, 0, X, L) else
  if 1099511627776 ≤ X.n then (6, 0, 0, X, L) else
  let X1 : Sp := { X with v := R.2.2.2 }
  let e := addE X1 (partI x X.h) A c
  (0, X.n, lowE R.2.2.1 (addF R.2.1 e), addX X1 (partI x X.h), (addJ R.2.1 e).1)
theorem trim_good {x : It} {N : Nat} (ho : OkI x) (hs : ShortI x) (hl : x.l.length ≤ 1000) (hb : (itemB x).length ≤ 100000) (hN : N ≤ 1099511627776) : OkI (trimI x N) ∧ ShortI (trimI x N) ∧ (trimI x N).l.length ≤ 1000 ∧ (itemB (trimI x N)).length ≤ 100000 := by
  unfold trimI
  split
  · exact ⟨zeroI_ok, ⟨(Nat.zero_le 1048576 : 0 ≤ 1048576), fun i p hp => by simp [zeroI] at hp⟩, Nat.zero_le 1000, Nat.le_trans zeroI_len (by decide)⟩
  · split
    · exact ⟨ho, hs, hl, hb⟩
    · exact ⟨gapI_ok (spO_lt ho) (by omega) (spT_lt ho), ⟨(Nat.zero_le 1048576 : 0 ≤ 1048576), fun i p hp => by simp at hp⟩, Nat.zero_le 1000, Nat.le_trans (gapI_len _ _ _ (by omega) (spT_lt ho)) (by decide)⟩
theorem trim_spO {x : It} {N : Nat} (h : N < spT x) : spO (trimI x N) = spO x := by
  unfold trimI
  rw [if_neg (by omega)]
  split <;> rfl
theorem partE_zero {x : It} {h : Nat → Nat} (h0 : partE x h = 0) : itemN x = 0 ∧ h (spO x) < spT x ∧ partI x h = trimI x (h (spO x)) := by
  refine ⟨?_, ?_, by unfold partI; rw [if_pos h0]⟩
  · unfold partE at h0
    split at h0
    · assumption
    · rename_i hc; simpa using hc
  · unfold partE at h0
    split at h0
    · rename_i hc; exact absurd h0 hc
    · split at h0
      · cases h0
      · omega

set_option maxRecDepth 100000 in
set_option maxHeartbeats 2000000 in
theorem put_any {S : Nat → Prop} {s : Nat} {X : Sp} {L : List Ett} (x : It) (A : Option Addr) (c : Nat) (w : World) (h : SpAt w S s X L) (hx : OkI x) (hxs : ShortI x) (hn : x.l.length ≤ 1000) (hxb : (itemB x).length ≤ 100000) (hA : A = none → x.l.length = 0) (hr : RdP w w.heap.size A x.l)
    (hh : ∀ i, i < 32 → X.h i ≤ 1099511627776) (hv : X.v + cntE L < 18446744073709551615) (hf : L.length < 100000) :
    Calls Try.prog 24 #[.pointer (some ⟨s, 0, none⟩), .agg (itC x A c).toArray] w fun e w' => ∃ A' c', e = .returned (.tuple #[.int .u64 (putR X L x A' c').2.1, .int .u64 (putR X L x A' c').2.2.1, .int .i64 (putR X L x A' c').1]) ∧
      ∃ S', SpAt w' S' s (putR X L x A' c').2.2.2.1 (putR X L x A' c').2.2.2.2 ∧ Step w S w' S' := by
  obtain ⟨w0, hw0⟩ : ∃ w0, w0 = w.alloc (.cells (itC x A c).toArray 60) := ⟨_, rfl⟩
  have hb0 : Below w.heap.size w w0 := by rw [hw0]; exact (Below.refl _ _).alloc (Nat.le_refl _) _
  have hbox : w0.heap[w.heap.size]? = some (.cells (itC x A c).toArray 60 (0, 0)) := by rw [hw0]; exact heap_alloc_new _ _
  have HW0 := Lib.hid hw0
  have HBOX := Lib.hid hbox
  have HS := Lib.hid h
  have HS0 := Lib.hid (h.below hb0)
  have HB0 := Lib.hid hb0
  have HP := Lib.hid (part_any x A c w0 (h.below hb0) hx hn hA ((hr.below hb0).more hb0.size) hh)
  have HX := Lib.hid hx
  have HXS := Lib.hid hxs
  have HN := Lib.hid hn
  have HXB := Lib.hid hxb
  have HH := Lib.hid hh
  clear hw0 hb0 hbox h hx hxs hn hxb hA hr hh
  go_enter Try.func24, Try.ntmps24
  go_upto_region 1 with fail
  rw [← HW0.out]
  go_wp2_with (first | (refine wpList_load_row rfl _ _ rfl w.heap.size rfl _ _ _ _ HBOX.out Try.underlying60 rfl Try.infoIt ?_) | fail)
  refine HP.out.mono ?_
  rintro _ w1 ⟨A', c', rfl, hnil, hrd, hnew, hb1⟩
  obtain ⟨y, hy⟩ : ∃ y, y = partI x X.h := ⟨_, rfl⟩
  rw [← hy] at hnil hrd hnew ⊢
  have HY := Lib.hid hy
  have HNIL := Lib.hid hnil
  have HRD := Lib.hid hrd
  have HNEW := Lib.hid hnew
  have HB1 := Lib.hid (HB0.out.trans (hb1.mono HB0.out.size))
  have HS1 := Lib.hid (HS.out.below HB1.out)
  clear hnil hrd hnew hb1 HP hy HS0
  go_upto_region 2 with (first | (refine wpList_store_row rfl _ _ _ rfl w1.heap.size (itC y A' c').toArray rfl rfl _ _ (heap_alloc_new _ _) Try.infoIt rfl (by simp [Value.oneCell', itC]) ?_) | fail)
  obtain ⟨w2, hw2, hc2, hb2, hl2⟩ := boxI w1 _ (itC y A' c').toArray
  rw [← hw2]
  have HB2 := Lib.hid (HB1.out.trans (hb2.mono HB1.out.size))
  have HS2 := Lib.hid (HS1.out.below hb2)
  have HC2 := Lib.hid hc2
  have HR2 : Hid (RdP w2 w2.heap.size A' y.l) := (HRD.out.below hb2).more hb2.size
  have hz01 := HB0.out.size
  clear hw2 hc2 hb2 HRD HS1 HB1 HBOX
  by_cases hP : partE x X.h = 0
  rotate_left
  · have hR : putR X L x A' c' = (partE x X.h, 0, 0, X, L) := by unfold putR; rw [if_pos hP]
    have HR := Lib.hid hR
    obtain ⟨N, hN⟩ : ∃ N, N = partE x X.h := ⟨_, rfl⟩
    rw [← hN] at hP HR ⊢
    have d1 : ((N : Int) == 0) = false := by simp; omega
    clear hN hR
    go_wp2
    go_ret3
    exact ⟨A', c', by rw [HR.out]; rfl, S, by rw [HR.out]; exact HS2.out, ⟨Only.of_below HB2.out S, fun _ h => .inl h⟩⟩
  obtain ⟨hN0, hHlt, hyI⟩ := partE_zero hP
  have ho := itemN_spO hN0
  have hgood := trim_good (N := X.h (spO x)) HX.out HXS.out HN.out HXB.out (HH.out _ ho)
  have hyo := trim_spO hHlt
  rw [← hyI, ← HY.out] at hgood hyo
  obtain ⟨g1, g2, g3, g4⟩ := hgood
  rw [hP]
  have hent : ∀ (W : World) (S2 : Nat → Prop) (X2 : Sp), X2.n < 18446744073709551616 → Below w2.heap.size w2 W → (∀ k, S2 k → k < w0.heap.size ∨ w2.heap.size ≤ k) → EntOk W S2 (addE X2 y A' c') := fun W S2 X2 hX2 hW hS2 =>
    ⟨g1, g2, g3, g4, hX2, HNIL.out, (HR2.out.below hW).more hW.size, fun a ha h0 hs => by
      have e1 := HNEW.out a ha h0
      have e2 := rdP_lt HR2.out ha h0
      rcases hS2 _ hs with h | h <;> omega⟩
  have HENT := Lib.hid hent
  have HT := Lib.hid (size_any y A' y.l.length c' g1 g2 rfl (by omega) w2 (by omega) HR2.out)
  obtain ⟨z, hz⟩ : ∃ z, z = (itemB y).length := ⟨_, rfl⟩
  rw [← hz] at HT g4
  have HZ := Lib.hid hz
  have HPP := Lib.hid hP
  have hput : putR X L x A' c' = (if (roomK z X.q (cntE L) L 0 X.v).1 = false then (13, 0, 0, X, L) else
      if 1099511627776 ≤ X.n then (6, 0, 0, X, L) else
      (0, X.n, lowE (roomK z X.q (cntE L) L 0 X.v).2.2.1 (addF (roomK z X.q (cntE L) L 0 X.v).2.1 (addE { X with v := (roomK z X.q (cntE L) L 0 X.v).2.2.2 } y A' c')), addX { X with v := (roomK z X.q (cntE L) L 0 X.v).2.2.2 } y, (addJ (roomK z X.q (cntE L) L 0 X.v).2.1 (addE { X with v := (roomK z X.q (cntE L) L 0 X.v).2.2.2 } y A' c')).1)) := by
    unfold putR
    rw [if_neg (by rw [HPP.out]; decide), ← HY.out, ← HZ.out]
  have HPUT := Lib.hid hput
  have hyo32 : spO y < 32 := by rw [hyo]; exact ho
  clear hz hP hput hent hN0 hHlt hyI hyo g1 g2 g3
  go_wp2_with (first | (refine wpList_load_row rfl _ _ rfl w1.heap.size rfl _ _ _ _ HC2.out Try.underlying60 rfl Try.infoIt ?_) | fail)
  refine HT.out.mono ?_
  rintro _ w3 ⟨rfl, hb3⟩
  have HB3 := Lib.hid hb3
  have HS3 := Lib.hid (HS2.out.below hb3)
  clear hb3 HT
  go_wp2_with fail
  refine (sfits_any z (by omega) w3 HS3.out).mono ?_
  rintro _ w4 ⟨rfl, hb4⟩
  have HB4 := Lib.hid (HB3.out.trans (hb4.mono HB3.out.size))
  have HS4 := Lib.hid (HS3.out.below hb4)
  have HC4 := Lib.hid ((HB4.out.block w1.heap.size hl2).trans HC2.out)
  have HT4 : Hid (Step w S w4 S) := ⟨Only.of_below (HB2.out.trans (HB4.out.mono HB2.out.size)) S, fun _ h => .inl h⟩
  have hsw : s < w.heap.size := HS.out.lt s HS.out.sS
  have hz24 := HB4.out.size
  clear hb4 HB3 HS3
  by_cases hfit : sumE L + z ≤ X.q
  · have d1 : decide (sumE L + z ≤ X.q) = true := decide_eq_true hfit
    rw [d1]
    have hR := HPUT.out
    rw [roomK_fit hfit] at hR
    simp only [Bool.true_eq_false, if_false] at hR
    obtain ⟨v4, k4, -⟩ := HS4.out.sp
    have c2 := k4.c2
    clear d1 k4
    by_cases hX : 1099511627776 ≤ X.n
    · have d2 : decide ((1099511627776 : Int) ≤ (X.n : Int)) = true := decide_eq_true (by omega)
      rw [if_pos hX] at hR
      have HR := Lib.hid hR
      clear hR
      go_wp2
      go_ret3
      exact ⟨A', c', by rw [HR.out]; rfl, S, by rw [HR.out]; exact HS4.out, HT4.out⟩
    · have d2 : decide ((1099511627776 : Int) ≤ (X.n : Int)) = false := decide_eq_false (by omega)
      rw [if_neg hX] at hR
      have HR := Lib.hid hR
      have HADD := Lib.hid (add_any y A' c' w4 HS4.out (HENT.out w4 S X (by omega) HB4.out (fun k hk => .inl (Nat.lt_of_lt_of_le (HS.out.lt k hk) hz01))) hyo32 hf (by omega))
      clear hR
      go_wp2_with (first | (refine wpList_load_row rfl _ _ rfl w1.heap.size rfl _ _ _ _ HC4.out Try.underlying60 rfl Try.infoIt ?_) | fail)
      refine HADD.out.mono ?_
      rintro _ w5 ⟨rfl, S5, hs5, hst5⟩
      obtain ⟨v5, k5, r5⟩ := hs5.sp
      obtain ⟨A5, c5, rfl⟩ := own_slice r5.own
      obtain ⟨cs, hcs, hcz, hone, hck⟩ := k5.one rfl
      have HS5 := Lib.hid hs5
      have HT5 := Lib.hid (HT4.out.trans hst5)
      have HK5 := Lib.hid k5
      have HCS := Lib.hid hcs
      have HCK := Lib.hid hck
      have HVS := Lib.hid r5.vs
      clear hs5 hst5 k5 r5 hcs hck HADD c2
      go_wp2_with (first
        | (refine wpList_load_row rfl _ _ rfl s rfl _ cs _ _ HCS.out Try.underlying130 rfl (by rw [Try.infoSp, hcz]) ?_)
        | (refine wpList_store_row rfl _ _ _ rfl s cs rfl rfl _ _ HCS.out (by rw [Try.infoSp, hcz]) rfl hone ?_)
        | fail)
      refine (lowest_any 0 _ _).mono ?_
      rintro _ w6 ⟨rfl, rfl⟩
      have hfin := HS5.out.copyTo HCK.out hcz HCS.out (fun v hv => by rw [HK5.out.c37] at hv; injection hv with hv; rw [← hv]; exact HVS.out) (fun e he a ha h0 e' => (HS5.out.ent e he).ap a ha h0 (by rw [e']; exact HS5.out.sS))
      have hstf : Step w S (w5.setRow s cs) (fun k => k = s ∨ S5 k) := ⟨HT5.out.only.trans (onlyRow s cs w5) (fun i hi => .inl (by have hi : i = s := hi; rw [hi]; exact HS.out.sS)), fun k hk => hk.elim (fun e => .inl (by rw [e]; exact HS.out.sS)) (HT5.out.new k)⟩
      have HFI := Lib.hid hfin
      have HST := Lib.hid hstf
      clear hfin hstf
      go_wp2
      go_ret3
      exact ⟨A', c', by rw [HR.out]; rfl, _, by rw [HR.out]; exact HFI.out, HST.out⟩
  · have d1 : decide (sumE L + z ≤ X.q) = false := decide_eq_false hfit
    rw [d1]
    clear d1
    go_wp2_with fail
    refine (scopy_any w4 HS4.out).mono ?_
    rintro _ w5 ⟨rfl, hb5, hs5⟩
    obtain ⟨s2, hs2⟩ : ∃ s2, s2 = w4.heap.size := ⟨_, rfl⟩
    rw [← hs2] at hs5 ⊢
    obtain ⟨S2, hS2⟩ : ∃ S2 : Nat → Prop, S2 = fun k => s2 ≤ k ∧ k < w5.heap.size := ⟨_, rfl⟩
    rw [← hS2] at hs5
    have hS2l : ∀ k, S2 k → s2 ≤ k := fun k hk => by rw [hS2] at hk; exact hk.1
    have HRM := Lib.hid (room_any z (by omega) w5 hs5 hv)
    have HS5 := Lib.hid hs5
    have HS5o := Lib.hid (HS4.out.below hb5)
    have HB5 := Lib.hid hb5
    have Hs2 := Lib.hid hs2
    have HS2l := Lib.hid hS2l
    have hmf : ∀ (fn : Fn) (first cap : Array Value) (w : World), (Instr.makeFunc fn first cap).run Try.prog w = .ok (.func fn first cap) w := fun _ _ _ _ => rfl
    clear hb5 hs5 hs2 hS2 hS2l
    go_wp2_with fail
    refine HRM.out.mono ?_
    rintro _ w6 ⟨ok, L1, f1, v1, hroom, rfl, hs6, hst6⟩
    have hlow6 : Below w4.heap.size w4 w6 := HB5.out.trans ⟨hst6.only.os, hst6.only.tape, hst6.only.output, hst6.only.size, fun k hk => hst6.only.block k (Nat.lt_of_lt_of_le hk HB5.out.size) (fun e => by have := HS2l.out k e; have := Hs2.out; omega)⟩
    have HS6o := Lib.hid (HS4.out.below hlow6)
    have HB6 := Lib.hid hlow6
    have HS6 := Lib.hid hs6
    have HT6 := Lib.hid hst6
    have HRO := Lib.hid hroom
    have HTo : Hid (Step w S w6 S) := HT4.out.trans ⟨Only.of_below hlow6 S, fun _ h => .inl h⟩
    have hpr := HPUT.out
    rw [hroom] at hpr
    simp only at hpr
    have hl1 : L1.length ≤ L.length := by have := len_room (size := z) (q := X.q) (fuel := cntE L) (L := L) (f := 0) (v := X.v); rw [hroom] at this; exact this
    have hmem : ∀ e ∈ L1, e ∈ L ∨ e.x.l = [] := fun e he => by have h := mem_room (size := z) (q := X.q) (fuel := cntE L) (L := L) (f := 0) (v := X.v) (e := e); rw [hroom] at h; exact h he
    have HMEM := Lib.hid hmem
    clear hs6 hst6 hroom hlow6 HRM hmem
    cases ok with
    | false =>
      simp only [if_true] at hpr
      have HR := Lib.hid hpr
      clear hpr
      go_wp2
      go_ret3
      exact ⟨A', c', by rw [HR.out]; rfl, S, by rw [HR.out]; exact HS6o.out, HTo.out⟩
    | true =>
      simp only [Bool.true_eq_false, if_false, if_true] at hpr ⊢
      obtain ⟨v4, k4, -⟩ := HS6o.out.sp
      have c2 := k4.c2
      clear k4
      by_cases hX : 1099511627776 ≤ X.n
      · have d2 : decide ((1099511627776 : Int) ≤ (X.n : Int)) = true := decide_eq_true (by omega)
        rw [if_pos hX] at hpr
        have HR := Lib.hid hpr
        clear hpr
        go_wp2
        go_ret3
        exact ⟨A', c', by rw [HR.out]; rfl, S, by rw [HR.out]; exact HS6o.out, HTo.out⟩
      · have d2 : decide ((1099511627776 : Int) ≤ (X.n : Int)) = false := decide_eq_false (by omega)
        rw [if_neg hX] at hpr
        have HR := Lib.hid hpr
        have HADD := Lib.hid (add_any (X := { X with v := v1 }) y A' c' w6 HS6.out (HENT.out w6 S2 { X with v := v1 } (by show X.n < _; omega) (HB4.out.trans (HB6.out.mono HB4.out.size)) (fun k hk => .inr (by have := HS2l.out k hk; have := Hs2.out; omega))) hyo32 (by omega) (by show X.n < _; omega))
        have HC6 := Lib.hid ((HB6.out.block w1.heap.size (by omega)).trans HC4.out)
        clear hpr
        go_wp2_with (first | (refine wpList_load_row rfl _ _ rfl w1.heap.size rfl _ _ _ _ HC6.out Try.underlying60 rfl Try.infoIt ?_) | fail)
        refine HADD.out.mono ?_
        rintro _ w7 ⟨rfl, S7, hs7, hst7⟩
        have hS7 : ∀ k, S7 k → s2 ≤ k := fun k hk => by
          rcases hst7.new k hk with h' | h'
          · exact HS2l.out k h'
          · have := HB6.out.size; have := Hs2.out; omega
        have hlow7 : Below w4.heap.size w4 w7 := HB6.out.trans ⟨hst7.only.os, hst7.only.tape, hst7.only.output, hst7.only.size, fun k hk => hst7.only.block k (Nat.lt_of_lt_of_le hk HB6.out.size) (fun e => by have := HS2l.out k e; have := Hs2.out; omega)⟩
        obtain ⟨v5, k5, r5⟩ := hs7.sp
        obtain ⟨A5, c5, rfl⟩ := own_slice r5.own
        obtain ⟨cs, hcs, hcz, hone, hck⟩ := k5.one rfl
        obtain ⟨w4v, kk4, -⟩ := HS4.out.sp
        obtain ⟨old, hold, holdz⟩ := kk4.blk
        have hss2 : s < s2 := by have := Hs2.out; have := HS4.out.lt s HS4.out.sS; omega
        have hold7 := (hlow7.block s (HS4.out.lt s HS4.out.sS)).trans hold
        have HS7 := Lib.hid hs7
        have HL7 := Lib.hid hlow7
        have HS7l := Lib.hid hS7
        have HK5 := Lib.hid k5
        have HR5 := Lib.hid r5
        have HCS := Lib.hid hcs
        have HCK := Lib.hid hck
        have HOLD := Lib.hid hold7
        clear hs7 hst7 k5 r5 hcs hck HADD c2 hS7 hlow7 kk4 hold hold7
        go_wp2_with (first
          | (refine wpList_load_row rfl _ _ rfl s2 rfl _ cs _ _ HCS.out Try.underlying130 rfl (by rw [Try.infoSp, hcz]) ?_)
          | (refine wpList_store_row rfl _ _ _ rfl s cs rfl rfl _ old HOLD.out (by rw [Try.infoSp, hcz]) (by rw [holdz, hcz]) hone ?_)
          | fail)
        obtain ⟨j, hj⟩ : ∃ j, j = addF L1 (addE { X with v := v1 } y A' c') := ⟨_, rfl⟩
        rw [← hj] at HR ⊢
        refine (lowest_any f1 j _).mono ?_
        rintro _ w8 ⟨rfl, rfl⟩
        have hlow : (if f1 = 0 ∨ j = 0 then max f1 j else min f1 j) = lowE f1 j := rfl
        rw [hlow]
        clear hlow hj
        have hfin := HS7.out.copyTo HCK.out hcz HOLD.out (fun v hv => by rw [HK5.out.c37] at hv; injection hv with hv; rw [← hv]; exact fun e => by have := HS7l.out s (HR5.out.vS s e); omega) (fun e he a ha h0 e' => by
          rcases mem_addJ he with h1 | h1 | h1
          · rcases HMEM.out e h1 with h2 | h2
            · exact (HS.out.ent e h2).ap a ha h0 (by rw [e']; exact HS.out.sS)
            · rw [h2] at h0; exact absurd h0 (by simp)
          · rw [h1] at ha h0
            have := HNEW.out a ha h0
            omega
          · rw [h1] at h0; exact absurd h0 (by simp))
        have hstf : Step w S (w7.setRow s cs) (fun k => k = s ∨ S7 k) := ⟨(HT4.out.only.trans (Only.of_below HL7.out S) (fun _ h => .inl h)).trans (onlyRow s cs w7) (fun i hi => .inl (by have hi : i = s := hi; rw [hi]; exact HS.out.sS)), fun k hk => hk.elim (fun e => .inl (by rw [e]; exact HS.out.sS)) (fun hk => .inr (by have := HS7l.out k hk; have := HB2.out.size; have := Hs2.out; omega))⟩
        have HFI := Lib.hid hfin
        have HST := Lib.hid hstf
        clear hfin hstf
        go_wp2
        go_ret3
        exact ⟨A', c', by rw [HR.out]; rfl, _, by rw [HR.out]; exact HFI.out, HST.out⟩
end Go.Proofs.Ytgcfofnlgdfmoaa
