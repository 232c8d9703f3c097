/- Several texts in one: SpEvict, SpRoom, SpCopy. -/
import Derived.Deep.LoopGhost
import Derived.Test.YtholdcgkhicdmaaGreatDoorZq12
namespace Go.Proofs.YtholdcgkhicdmaaGreatDoor
open Go.RowKit
theorem gapI_ok {a f t : Nat} (ha : a < 256) (hf : f < 18446744073709551616) (ht : t < 18446744073709551616) : OkI ⟨true, 0, 0, 0, ⟨#[]⟩, [], 0, 0, 0, 0, a, f, t⟩ :=
 ⟨(show 0 < 256 by decide), (show 0 < 18446744073709551616 by decide), (show 0 < 18446744073709551616 by decide), (Nat.zero_le maxLen : 0 ≤ maxLen), fun i p hp => (by simp at hp), (show 0 < 256 by decide), (show 0 < 256 by decide), (show (-9223372036854775808 : Int) ≤ 0 by decide), (show (0 : Int) < 9223372036854775808 by decide), (show 0 < 256 by decide), ha, hf, ht⟩
theorem zeroI_ok : OkI zeroI := ⟨by decide, by decide, by decide, Nat.zero_le _, fun i p hp => (by simp [zeroI] at hp), by decide, by decide, by decide, by decide, by decide, by decide, by decide, by decide⟩
theorem joinI_ok {x y : It} (hx : OkI x) (hy : OkI y) : OkI (joinI x y) := by
 unfold joinI
 split
 ·exact gapI_ok hx.ga hx.gf hy.gt
 ·exact zeroI_ok
theorem gapI_len (a f t : Nat) (hf : f < 18446744073709551616) (ht : t < 18446744073709551616) : (itemB ⟨true, 0, 0, 0, ⟨#[]⟩, [], 0, 0, 0, 0, a, f, t⟩).length ≤ 22 := by
 have h1 := leb_le10 hf
 have h2 := leb_le10 ht
 unfold itemB gapB
 simp only [if_true, List.length_cons, List.length_append, List.length_nil]
 omega
theorem zeroI_len : (itemB zeroI).length ≤ 22 := by decide +kernel
theorem joinI_len {x y : It} (hx : OkI x) (hy : OkI y) : (itemB (joinI x y)).length ≤ 100000 := by
 unfold joinI
 split
 ·have := gapI_len x.ga x.gf y.gt hx.gf hy.gt; omega
 ·have := zeroI_len; omega
def entD : Ett := ⟨0, zeroI, none, 0⟩
def joinK (L : List Ett) : Option Nat → Option Nat → List Ett × Bool
 | some a, some b => if joinB (L.getD a entD).x (L.getD b entD).x then (joinL L a b (L.getD a entD) (L.getD b entD), true) else (L, false)
 | _, _ => (L, false)
theorem getD_of {L : List Ett} {k : Nat} {e : Ett} (h : L[k]? = some e) : L.getD k entD = e := by rw [List.getD_eq_getElem?_getD, h]; rfl
theorem nextK_some {L : List Ett} {o : Nat} : ∀ (d k j : Nat), L.length - k ≤ d → nextK L o k = some j → k ≤ j ∧ j < L.length
 | d, k, j, hd, h => by
   by_cases hk : k < L.length
   ·rw [nextK_at (List.getElem?_eq_getElem hk)] at h
    split at h
    ·injection h with h; omega
    ·cases d with
     | zero => omega
     | succ d => have := nextK_some d (k + 1) j (by omega) h; omega
   ·rw [nextK_end (by omega)] at h; cases h
theorem prevK_some {L : List Ett} {o : Nat} : ∀ {p j : Nat}, prevK L o p = some j → j < p ∧ j < L.length
 | 0, j, h => by simp [prevK] at h
 | p + 1, j, h => by
   unfold prevK at h
   by_cases hp : p < L.length
   ·split at h
    ·injection h with h; omega
    ·have := prevK_some h; omega
   ·rw [List.getElem?_eq_none (by omega)] at h
    simp at h
    have := prevK_some h; omega
theorem joinL_keep {L : List Ett} {a b : Nat} {ea eb : Ett} (hab : a < b) (hb : b < L.length) : (joinL L a b ea eb)[a]? = some ⟨ea.i, joinI ea.x eb.x, none, 0⟩ := by
 unfold joinL cutE
 rw [List.getElem?_append_left (by rw [List.length_take, List.length_set]; omega), List.getElem?_take, if_pos hab, List.getElem?_set_self (by omega)]
theorem joinI_spO {x y : It} (h : joinB x y = true) : spO (joinI x y) = x.ga := by
 unfold joinI
 rw [if_pos h]
 rfl
set_option maxRecDepth 100000 in
theorem sjoinK {S : Nat → Prop} {s : Nat} {X : Sp} {L : List Ett} (a b : Option Nat) (w : World) (h : SpAt w S s X L) (ha : ∀ k, a = some k → k < L.length) (hb : ∀ k, b = some k → k < L.length) :
  Calls Tryz.prog 114 #[.pointer (some ⟨s, 0, none⟩), idxV a, idxV b] w fun e w' => e = .returned (.bool (joinK L a b).2) ∧ SpAt w' S s X (joinK L a b).1 ∧ Step w S w' S := by
 have hrefl : Step w S w S := ⟨Only.refl _ _, fun _ h => .inl h⟩
 cases a with
 | none =>
   have : ∀ v, ∃ z, idxV v = .int .i64 z := fun v => by cases v <;> exact ⟨_, rfl⟩
   obtain ⟨z, hz⟩ := this b
   rw [hz]
   refine (sjoin_none1 _ z w).mono ?_
   rintro e w' ⟨rfl, rfl⟩
   exact ⟨rfl, h, hrefl⟩
 | some a =>
   cases b with
   | none =>
     refine (sjoin_none2 _ a w).mono ?_
     rintro e w' ⟨rfl, rfl⟩
     exact ⟨rfl, h, hrefl⟩
   | some b =>
     have ha := ha a rfl
     have hb := hb b rfl
     have ea := List.getElem?_eq_getElem ha
     have eb := List.getElem?_eq_getElem hb
     have oa := (h.ent _ (List.mem_iff_getElem?.2 ⟨a, ea⟩)).ok
     have ob := (h.ent _ (List.mem_iff_getElem?.2 ⟨b, eb⟩)).ok
     refine (sjoin_any w h ea eb (joinI_ok oa ob) (joinI_len oa ob)).mono ?_
     rintro e w' ⟨rfl, h1, h2⟩
     unfold joinK
     simp only [getD_of ea, getD_of eb]
     split <;> rename_i hj
     ·rw [hj] at h1 ⊢
      exact ⟨rfl, h1, h2⟩
     ·rw [if_neg hj] at h1
      exact ⟨by simpa using hj, h1, h2⟩
theorem SpAt.of_set {w : World} {S : Nat → Prop} {s : Nat} {X X' : Sp} {L : List Ett} (h : SpAt w S s X L) (k : Nat) (u : Value) (hX : ∀ v, SpC w s X (sumE L) v → SpC (w.setCell ⟨s, k, none⟩ u) s X' (sumE L) v) (hq : X'.q = X.q) :
  SpAt (w.setCell ⟨s, k, none⟩ u) S s X' L ∧ Step w S (w.setCell ⟨s, k, none⟩ u) S := by
 have ho : Only (fun k => k = s) w (w.setCell ⟨s, k, none⟩ u) := Only.setCell _ _ _ rfl
 have hst : Step w S (w.setCell ⟨s, k, none⟩ u) S := ⟨Only.setCell _ _ _ h.sS, fun _ h => .inl h⟩
 obtain ⟨v, h1, h2⟩ := h.sp
 exact ⟨⟨⟨v, hX v h1, ho.own h2.own (fun k hk e => h2.vs (by rw [hk, e])), h2.vs, h2.vS⟩, h.sS, fun k hk => Nat.lt_of_lt_of_le (h.lt k hk) ho.size, h.few, fun e he => (h.ent e he).step hst, by rw [hq]; exact h.q⟩, hst⟩
theorem spO_lt {x : It} (h : OkI x) : spO x < 256 := by
 unfold spO
 split
 ·exact h.ga
 ·exact h.o
theorem spF_lt {x : It} (h : OkI x) : spF x < 18446744073709551616 := by
 unfold spF
 split
 ·exact h.gf
 ·exact h.q
def gapE (e : Ett) : Ett := ⟨e.i, ⟨true, 0, 0, 0, ⟨#[]⟩, [], 0, 0, 0, 0, spO e.x, spF e.x, spT e.x⟩, none, 0⟩
def evA (L : List Ett) (p : Nat) (e : Ett) : List Ett := (joinK (L.set p (gapE e)) (some p) (nextK (L.set p (gapE e)) (spO e.x) (p + 1))).1
def evB2 (L : List Ett) (p : Nat) (e : Ett) : List Ett × Bool := joinK (evA L p e) (prevK (evA L p e) (spO e.x) p) (some p)
def evPos (L : List Ett) (p : Nat) (e : Ett) : Nat := if (evB2 L p e).2 then (prevK (evA L p e) (spO e.x) p).getD p else p
def evL (L : List Ett) (p : Nat) (e : Ett) : List Ett := (evB2 L p e).1
def evIdx (L : List Ett) (p : Nat) (e : Ett) : Nat := ((evL L p e).getD (evPos L p e) entD).i
theorem evA_at {L : List Ett} {p : Nat} {e : Ett} (h : L[p]? = some e) : ∃ e1, (evA L p e)[p]? = some e1 ∧ spO e1.x = spO e.x := by
 have hp := (List.getElem?_eq_some_iff.1 h).1
 have h1 : (L.set p (gapE e))[p]? = some (gapE e) := List.getElem?_set_self hp
 unfold evA
 cases hn : nextK (L.set p (gapE e)) (spO e.x) (p + 1) with
 | none => exact ⟨_, h1, rfl⟩
 | some k =>
   have hk := nextK_some _ _ _ (Nat.le_refl _) hn
   unfold joinK
   simp only [getD_of h1]
   split
   ·rename_i hj
    refine ⟨_, joinL_keep (by omega) hk.2, ?_⟩
    rw [joinI_spO hj]
    rfl
   ·exact ⟨_, h1, rfl⟩
theorem evL_at {L : List Ett} {p : Nat} {e : Ett} (h : L[p]? = some e) : ∃ e1, (evL L p e)[evPos L p e]? = some e1 := by
 obtain ⟨e1, h1, _⟩ := evA_at h
 have hp := (List.getElem?_eq_some_iff.1 h1).1
 unfold evL evPos evB2
 cases hn : prevK (evA L p e) (spO e.x) p with
 | none => exact ⟨e1, h1⟩
 | some k =>
   have hk := prevK_some hn
   unfold joinK
   simp only [getD_of h1]
   split
   ·rename_i hj
    exact ⟨_, joinL_keep hk.1 hp⟩
   ·exact ⟨e1, h1⟩
set_option maxRecDepth 100000 in
set_option maxHeartbeats 1000000 in
theorem evict_none {S : Nat → Prop} {s : Nat} {X : Sp} {L : List Ett} (w : World) (h : SpAt w S s X L) (hl : leastK L L.length = none) :
  Calls Tryz.prog 71 #[.pointer (some ⟨s, 0, none⟩)] w fun e w' => e = .returned (.tuple #[.int .u64 0, .bool false]) ∧ Below w.heap.size w w' := by
 have hL := least_any w h
 rw [hl] at hL
 have HL := Lib.hid hL
 clear hL h
 go_enter Tryz.func71, Tryz.ntmps71
 go_wp2_with fail
 refine HL.out.mono ?_
 rintro e w1 ⟨rfl, hb⟩
 have HB := Lib.hid hb
 clear hb HL
 unfold idxV
 go_wp2
 go_ret2
 exact ⟨rfl, HB.out⟩
set_option maxRecDepth 100000 in
set_option maxHeartbeats 2000000 in
theorem evict_some {S : Nat → Prop} {s p : Nat} {X : Sp} {L : List Ett} {e : Ett} (w : World) (h : SpAt w S s X L) (hl : leastK L L.length = some p) (hp : L[p]? = some e) (hv : X.v + 1 < 18446744073709551616) :
  Calls Tryz.prog 71 #[.pointer (some ⟨s, 0, none⟩)] w fun e' w' => e' = .returned (.tuple #[.int .u64 (evIdx L p e), .bool true]) ∧ SpAt w' S s { X with v := X.v + 1 } (evL L p e) ∧ Step w S w' S := by
 have hL := least_any w h
 rw [hl] at hL
 have HL := Lib.hid hL
 have HH := Lib.hid h
 have HP := Lib.hid hp
 have hpl := (List.getElem?_eq_some_iff.1 hp).1
 have hfew := h.few
 clear hL h hl hp
 go_enter Tryz.func71, Tryz.ntmps71
 go_wp2_with fail
 refine HL.out.mono ?_
 rintro e' w1 ⟨rfl, hb⟩
 have hs1 := HH.out.below hb
 have hst1 : Step w S w1 S := ⟨Only.of_below hb S, fun _ h => .inl h⟩
 obtain ⟨v, h1, h2⟩ := hs1.sp
 obtain ⟨r, c, rfl, hr, hrs, hrS, -, hrg⟩ := h2.at_ HP.out
 obtain ⟨n, hn⟩ : ∃ n, n = L.length := ⟨_, rfl⟩
 rw [← hn] at h1 hfew hpl
 have c37 := h1.c37
 have d0 : decide ((p : Int) < 0) = false := decide_eq_false (by omega)
 have HS1 := Lib.hid hs1
 have HT1 := Lib.hid hst1
 have HN := Lib.hid hn
 have he := hs1.ent e (List.mem_iff_getElem?.2 ⟨p, HP.out⟩)
 have HE := Lib.hid he
 clear hb HL hs1 hst1 h1 h2 hn he
 unfold idxV
 go_wp2_with (first | (refine wpList_load_mid rfl _ _ rfl r (p * 14 + 1) rfl (itC e.x e.A e.c) _ hrg Tryz.underlying47 rfl Tryz.infoIt ?_) | fail)
 refine (span_any e.x e.A e.x.l.length e.c w1).mono ?_
 rintro _ w2 ⟨rfl, hb2⟩
 have hs2 := HS1.out.below hb2
 have hst2 : Step w S w2 S := HT1.out.trans ⟨Only.of_below hb2 S, fun _ h => .inl h⟩
 have HS2 := Lib.hid hs2
 have HT2 := Lib.hid hst2
 clear hb2 hs2 hst2 hrg c37
 go_wp2_with fail
 refine (gap_any _ _ _ w2).mono ?_
 rintro _ w3 ⟨rfl, hb3⟩
 have hs3 := HS2.out.below hb3
 have hst3 : Step w S w3 S := HT2.out.trans ⟨Only.of_below hb3 S, fun _ h => .inl h⟩
 have HS3 := Lib.hid hs3
 have HT3 := Lib.hid hst3
 have hok := HE.out.ok
 have hgap : EntOk w3 S (gapE e) := ⟨gapI_ok (spO_lt hok) (spF_lt hok) (spT_lt hok), ⟨(Nat.zero_le 1048576 : 0 ≤ 1048576), fun i p hp => (by simp [gapE] at hp)⟩, Nat.zero_le 1000, by have := gapI_len (spO e.x) (spF e.x) (spT e.x) (spF_lt hok) (spT_lt hok); exact Nat.le_trans this (by decide), HE.out.ix, fun _ => rfl, RdP.nil, fun a ha => (by cases ha)⟩
 have HG := Lib.hid hgap
 clear hb3 hs3 hst3 hok hgap
 go_wp2_with fail
 refine (set_any (gapE e).x none 0 w3 HS3.out HP.out HG.out).mono ?_
 rintro _ w4 ⟨rfl, hs4, hst4⟩
 have hs4 : SpAt w4 S s X (L.set p (gapE e)) := hs4
 obtain ⟨v4, k4, -⟩ := hs4.sp
 have c4 := k4.c4
 have fz4 := k4.fz 4
 have hsl4 := k4.slt
 have hw1 : IntKind.u64.wrap ((X.v : Int) + 1) = ((X.v + 1 : Nat) : Int) := by rw [IntKind.wrap_u64]; omega
 have HS4 := Lib.hid hs4
 have HT4 := Lib.hid (HT3.out.trans hst4)
 clear hs4 hst4 k4
 go_wp2_with fail
 obtain ⟨h5, t5⟩ := HS4.out.of_set (X' := { X with v := X.v + 1 }) 4 (.int .u64 ((X.v + 1 : Nat) : Int)) (fun v hv => hv.setV (X.v + 1)) rfl
 have HS5 := Lib.hid h5
 have HT5 := Lib.hid (HT4.out.trans t5)
 have h1p : (L.set p (gapE e))[p]? = some (gapE e) := List.getElem?_set_self (by rw [← HN.out]; exact hpl)
 have H1P := Lib.hid h1p
 clear h5 t5 h1p c4 fz4
 refine (near_up _ HS5.out H1P.out).mono ?_
 rintro _ w6 ⟨rfl, hb6⟩
 have hs6 := HS5.out.below hb6
 have HS6 := Lib.hid hs6
 have HT6 : Hid (Step w S w6 S) := HT5.out.trans ⟨Only.of_below hb6 S, fun _ h => .inl h⟩
 clear hb6 hs6
 go_wp2_with fail
 refine (sjoinK (some p) (nextK (L.set p (gapE e)) (spO e.x) (p + 1)) w6 HS6.out (fun k hk => by injection hk with hk; rw [List.length_set, ← HN.out]; omega) (fun k hk => (nextK_some _ _ _ (Nat.le_refl _) hk).2)).mono ?_
 rintro _ w7 ⟨rfl, hs7, hst7⟩
 have hs7 : SpAt w7 S s { X with v := X.v + 1 } (evA L p e) := hs7
 have HS7 := Lib.hid hs7
 have HT7 := Lib.hid (HT6.out.trans hst7)
 obtain ⟨e1, he1, ho1⟩ := evA_at HP.out
 have HE1 := Lib.hid he1
 have HO1 := Lib.hid ho1
 clear hs7 hst7 he1 ho1
 go_wp2_with fail
 refine (near_down w7 HS7.out HE1.out).mono ?_
 rw [HO1.out]
 rintro _ w8 ⟨rfl, hb8⟩
 have hs8 := HS7.out.below hb8
 have HS8 := Lib.hid hs8
 have HT8 : Hid (Step w S w8 S) := HT7.out.trans ⟨Only.of_below hb8 S, fun _ h => .inl h⟩
 obtain ⟨dn, hdn⟩ : ∃ dn, dn = prevK (evA L p e) (spO e.x) p := ⟨_, rfl⟩
 rw [← hdn]
 have HDN := Lib.hid hdn
 clear hb8 hs8 hdn
 go_wp2_with fail
 refine (sjoinK dn (some p) w8 HS8.out (fun k hk => (prevK_some (by rw [← HDN.out]; exact hk)).2) (fun k hk => by injection hk with hk; rw [← hk]; exact (List.getElem?_eq_some_iff.1 HE1.out).1)).mono ?_
 rintro _ w9 ⟨rfl, hs9, hst9⟩
 have hB : joinK (evA L p e) dn (some p) = evB2 L p e := by rw [HDN.out]; rfl
 rw [hB] at hs9 ⊢
 have hs9 : SpAt w9 S s { X with v := X.v + 1 } (evL L p e) := hs9
 obtain ⟨e2, he2⟩ := evL_at HP.out
 obtain ⟨v9, k9, r9⟩ := hs9.sp
 obtain ⟨r2, c2, rfl, -, -, -, hrg2, -⟩ := r9.at_ he2
 have x0 := hrg2 0 _ rfl
 have c37 := k9.c37
 have hql := (List.getElem?_eq_some_iff.1 he2).1
 have hf9 := hs9.few
 have hidx : evIdx L p e = e2.i := by unfold evIdx; rw [getD_of he2]
 have HS9 := Lib.hid hs9
 have HT9 := Lib.hid (HT8.out.trans hst9)
 have HID := Lib.hid hidx
 rw [Nat.add_zero] at x0
 clear hB hs9 hst9 k9 r9 hrg2 he2 hidx
 obtain ⟨q, hq⟩ : ∃ q, q = evPos L p e := ⟨_, rfl⟩
 rw [← hq] at x0 hql
 by_cases hj : (evB2 L p e).2 = true
 ·have hq2 : dn = some q := by
   rw [hq]
   unfold evPos
   rw [if_pos hj, ← HDN.out]
   cases dn with
   | none => exfalso; have h3 : evB2 L p e = joinK (evA L p e) none (some p) := by unfold evB2; rw [← HDN.out]
             rw [h3] at hj; cases hj
   | some k => rfl
  subst hq2
  rw [hj]
  clear hq hj
  rw [show idxV (some q) = Value.int .i64 (q : Int) from rfl]
  go_wp2
  go_ret2
  exact ⟨by rw [HID.out]; rfl, HS9.out, HT9.out⟩
 ·have hj : (evB2 L p e).2 = false := by simpa using hj
  have hq2 : q = p := by
   rw [hq]
   unfold evPos
   rw [hj]
   rfl
  subst hq2
  rw [hj]
  clear hq hj
  go_wp2
  go_ret2
  exact ⟨by rw [HID.out]; rfl, HS9.out, HT9.out⟩
def cntE (L : List Ett) : Nat := L.countP fun e => !lastB e.x
theorem cntE_set {L : List Ett} {p : Nat} {e : Ett} (h : L[p]? = some e) (y : Ett) : cntE (L.set p y) + (if lastB e.x then 0 else 1) = cntE L + (if lastB y.x then 0 else 1) := by
 have hp := (List.getElem?_eq_some_iff.1 h).1
 have hd : L.drop p = e :: L.drop (p + 1) := by
  rw [List.drop_eq_getElem_cons hp, (List.getElem?_eq_some_iff.1 h).2]
 have h1 : cntE L = cntE (L.take p) + cntE (e :: L.drop (p + 1)) := by
  conv => lhs; rw [← List.take_append_drop p L, hd]
  exact List.countP_append
 have h2 : cntE (L.set p y) = cntE (L.take p) + cntE (y :: L.drop (p + 1)) := by
  rw [List.set_eq_take_append_cons_drop, if_pos hp]
  exact List.countP_append
 have h3 : ∀ x : Ett, cntE (x :: L.drop (p + 1)) = cntE (L.drop (p + 1)) + (if lastB x.x then 0 else 1) := fun x => by
  unfold cntE
  rw [List.countP_cons]
  cases lastB x.x <;> simp
 rw [h1, h2, h3, h3]
 omega
theorem cntE_cut {L : List Ett} {i j : Nat} (h : i ≤ j) : cntE (cutE L i j) ≤ cntE L := by
 unfold cutE cntE
 rw [List.countP_append]
 have h1 : L.countP (fun e => !lastB e.x) = (L.take j).countP (fun e => !lastB e.x) + (L.drop j).countP (fun e => !lastB e.x) := by
  conv => lhs; rw [← List.take_append_drop j L]
  exact List.countP_append
 have h2 : (L.take i).countP (fun e => !lastB e.x) ≤ (L.take j).countP (fun e => !lastB e.x) := by
  have : L.take i = (L.take j).take i := by rw [List.take_take, Nat.min_eq_left h]
  rw [this]
  exact (List.take_sublist _ _).countP_le
 omega
theorem joinB_g {x y : It} (h : joinB x y = true) : (joinI x y).g = true := by
 unfold joinI
 rw [if_pos h]
theorem lastB_g {x : It} (h : x.g = true) : lastB x = true := by unfold lastB; rw [h]; rfl
theorem cntE_joinK {L : List Ett} (a b : Option Nat) (ha : ∀ k, a = some k → k < L.length) : cntE (joinK L a b).1 ≤ cntE L := by
 cases a with
 | none => exact Nat.le_refl _
 | some a =>
   cases b with
   | none => exact Nat.le_refl _
   | some b =>
     show cntE (if joinB (L.getD a entD).x (L.getD b entD).x then (joinL L a b (L.getD a entD) (L.getD b entD), true) else (L, false)).1 ≤ _
     by_cases hj : joinB (L.getD a entD).x (L.getD b entD).x = true
     ·rw [if_pos hj]
      have ea := List.getElem?_eq_getElem (ha a rfl)
      have h1 := cntE_set ea ⟨(L.getD a entD).i, joinI (L.getD a entD).x (L.getD b entD).x, none, 0⟩
      rw [if_pos (lastB_g (joinB_g hj))] at h1
      refine Nat.le_trans (cntE_cut (Nat.le_succ b)) ?_
      omega
     ·rw [if_neg hj]
      exact Nat.le_refl _
theorem cntE_ev {L : List Ett} {p : Nat} {e : Ett} (h : L[p]? = some e) (hl : lastB e.x = false) : cntE (evL L p e) < cntE L := by
 have hp := (List.getElem?_eq_some_iff.1 h).1
 have h1 := cntE_set h (gapE e)
 rw [if_pos (lastB_g (x := (gapE e).x) rfl), hl] at h1
 have h2 : cntE (evA L p e) ≤ cntE (L.set p (gapE e)) := cntE_joinK _ _ (fun k hk => by injection hk with hk; rw [List.length_set]; omega)
 have h3 : cntE (evL L p e) ≤ cntE (evA L p e) := cntE_joinK _ _ (fun k hk => (prevK_some hk).2)
 simp at h1
 omega
def lowE (a b : Nat) : Nat := if a = 0 ∨ b = 0 then max a b else min a b
def roomK (size q : Nat) : Nat → List Ett → Nat → Nat → Bool × List Ett × Nat × Nat
 | fuel, L, f, v => if sumE L + size ≤ q then (true, L, f, v) else match fuel with
   | 0 => (false, L, f, v)
   | fuel + 1 => match leastK L L.length with
     | none => (false, L, f, v)
     | some p => roomK size q fuel (evL L p (L.getD p entD)) (lowE f (evIdx L p (L.getD p entD))) (v + 1)
theorem roomK_fit {size q fuel f v : Nat} {L : List Ett} (h : sumE L + size ≤ q) : roomK size q fuel L f v = (true, L, f, v) := by
 unfold roomK
 rw [if_pos h]
theorem roomK_none {size q fuel f v : Nat} {L : List Ett} (h : ¬ sumE L + size ≤ q) (hl : leastK L L.length = none) : roomK size q fuel L f v = (false, L, f, v) := by
 unfold roomK
 rw [if_neg h]
 cases fuel with
 | zero => rfl
 | succ k => simp only [hl]
theorem roomK_some {size q fuel f v p : Nat} {L : List Ett} (h : ¬ sumE L + size ≤ q) (hl : leastK L L.length = some p) : roomK size q (fuel + 1) L f v = roomK size q fuel (evL L p (L.getD p entD)) (lowE f (evIdx L p (L.getD p entD))) (v + 1) := by
 conv => lhs; unfold roomK
 rw [if_neg h]
 simp only [hl]
set_option maxRecDepth 100000 in
set_option maxHeartbeats 2000000 in
theorem room_any {S : Nat → Prop} {s : Nat} {X : Sp} {L : List Ett} (size : Nat) (hsz : size ≤ 1000000) (w : World) (h : SpAt w S s X L) (hv : X.v + cntE L < 18446744073709551615) :
  Calls Tryz.prog 70 #[.pointer (some ⟨s, 0, none⟩), .int .i64 size, .func (.func 71) #[.pointer (some ⟨s, 0, none⟩)] #[]] w fun e' w' =>
   ∃ ok L' f' v', roomK size X.q (cntE L) L 0 X.v = (ok, L', f', v') ∧ e' = .returned (.tuple #[.int .u64 ((if ok then f' else 0 : Nat) : Int), .bool ok]) ∧ SpAt w' S s { X with v := v' } L' ∧ Step w S w' S := by
 have HH := Lib.hid h
 obtain ⟨R, hR⟩ : ∃ R, R = roomK size X.q (cntE L) L 0 X.v := ⟨_, rfl⟩
 rw [← hR]
 have HR := Lib.hid hR
 have HV := Lib.hid hv
 clear h hR hv
 go_enter Tryz.func70, Tryz.ntmps70
 go_wp2
 go_loopg [8] (cntE L) (fun g fv wx => ∃ (L1 : List Ett) (f1 v1 : Nat), fv = .int .u64 f1 ∧ Hid (R = roomK size X.q g L1 f1 v1) ∧ Hid (cntE L1 ≤ g) ∧ Hid (v1 + cntE L1 < 18446744073709551615) ∧ Hid (SpAt wx S s { X with v := v1 } L1) ∧ Hid (Step w S wx S))
 case atStart => exact ⟨L, 0, X.v, rfl, HR.out, Nat.le_refl _, HV.out, HH.out, ⟨Only.refl _ _, fun _ h => .inl h⟩⟩
 case round =>
  obtain ⟨L1, f1, v1, rfl, HR1, HC, HV1, HS, HT⟩ := hrel
  clear HR HV HH
  go_wp2_with fail
  refine (sfits_any size hsz wr HS.out).mono ?_
  rintro _ w1 ⟨rfl, hb1⟩
  have HS1 := Lib.hid (HS.out.below hb1)
  have HT1 : Hid (Step w S w1 S) := HT.out.trans ⟨Only.of_below hb1 S, fun _ h => .inl h⟩
  clear hb1
  by_cases hfit : sumE L1 + size ≤ X.q
  ·have d1 : decide (sumE L1 + size ≤ ({ X with v := v1 } : Sp).q) = true := decide_eq_true hfit
   have hr : R = (true, L1, f1, v1) := HR1.out.trans (roomK_fit hfit)
   have HRR := Lib.hid hr
   rw [d1]
   clear d1 hr
   go_wp2
   go_ret2
   exact ⟨true, L1, f1, v1, HRR.out, rfl, HS1.out, HT1.out⟩
  ·have d1 : decide (sumE L1 + size ≤ ({ X with v := v1 } : Sp).q) = false := decide_eq_false hfit
   rw [d1]
   clear d1
   cases hl : leastK L1 L1.length with
   | none =>
     have hr : R = (false, L1, f1, v1) := HR1.out.trans (roomK_none hfit hl)
     have HRR := Lib.hid hr
     have HEV := Lib.hid (evict_none w1 HS1.out hl)
     clear hr hl
     go_wp2_with fail
     refine HEV.out.mono ?_
     rintro _ w2 ⟨rfl, hb2⟩
     have HS2 := Lib.hid (HS1.out.below hb2)
     have HT2 : Hid (Step w S w2 S) := HT1.out.trans ⟨Only.of_below hb2 S, fun _ h => .inl h⟩
     clear hb2 HEV
     go_wp2
     go_ret2
     exact ⟨false, L1, f1, v1, HRR.out, rfl, HS2.out, HT2.out⟩
   | some p =>
     obtain ⟨hpl, e, hp, hlast⟩ := leastK_some hl
     have hcnt := cntE_ev hp hlast
     have hc := HC.out
     have hv1 := HV1.out
     obtain ⟨g', rfl⟩ : ∃ g', gk = g' + 1 := ⟨gk - 1, by omega⟩
     have hr := HR1.out.trans (roomK_some hfit hl)
     rw [getD_of hp] at hr
     have HRR := Lib.hid hr
     have HEV := Lib.hid (evict_some w1 HS1.out hl hp (by show v1 + 1 < _; omega))
     clear hr hl hp
     go_wp2_with fail
     refine HEV.out.mono ?_
     rintro _ w2 ⟨rfl, hs2, hst2⟩
     have hs2 : SpAt w2 S s { X with v := v1 + 1 } (evL L1 p e) := hs2
     have HS2 := Lib.hid hs2
     have HT2 := Lib.hid (HT1.out.trans hst2)
     clear hs2 hst2 HEV
     go_wp2_with fail
     refine (lowest_any f1 (evIdx L1 p e) w2).mono ?_
     rintro _ w3 ⟨rfl, rfl⟩
     have hlow : (if f1 = 0 ∨ evIdx L1 p e = 0 then max f1 (evIdx L1 p e) else min f1 (evIdx L1 p e)) = lowE f1 (evIdx L1 p e) := rfl
     rw [hlow]
     clear hlow
     go_wp2
     go_roundg g'
     case measure => omega
     case rel => exact ⟨evL L1 p e, lowE f1 (evIdx L1 p e), v1 + 1, rfl, HRR.out, (by show _ ≤ _; omega), (by show _ < _; omega), HS2.out, HT2.out⟩
theorem src_ownE {w : World} {base : Nat} {e : TypeId} {A : Option Addr} {n c size : Nat} {xs : List Value} (h : w.ownsRow base e size (.slice A n c) n xs) : Src w A n size xs := by
 refine ⟨h.1, fun h0 => ?_⟩
 obtain ⟨g, cap, hv, _, _⟩ := h.form h0
 injection hv with hv
 subst hv
 exact ⟨_, rfl, fun j u hj => h.cells (g := g) rfl j u hj⟩
set_option maxRecDepth 100000 in
set_option maxHeartbeats 400000 in
theorem clone_E (A : Option Addr) (n c : Nat) (L : List Ett) (w : World) (hn : n = L.length) (hm : n ≤ 100000) (ho : w.ownsRow 0 74 14 (.slice A n c) n (cellsE L)) :
  Calls Tryz.prog 66 #[.slice A n c] w fun e w' => ∃ A' c', e = .returned (.slice A' n c') ∧ w'.ownsRow w.heap.size 74 14 (.slice A' n c') n (cellsE L) ∧ Below w.heap.size w w' := by
 obtain ⟨i0, hi0, hz0, hz1, hz2⟩ := info_parts Tryz.infoEnt
 have q22 : ∀ (w : World) (a : Option Addr) (n c n' c' : Nat), (binOp .eql 61 (.slice a n c) (.slice none n' c')).run Tryz.prog w = .ok (.bool a.isNone) w := fun w a n c n' c' => Lib.run_eql_slice_nil w _ _ a n c n' c' Tryz.underlying61
 cases A with
 | none =>
   obtain rfl : n = 0 := own_nilA ho rfl
   obtain rfl : L = [] := List.eq_nil_of_length_eq_zero hn.symm
   clear hn ho
   go_enter Tryz.func66, Tryz.ntmps66
   go_wp2
   go_ret
   exact ⟨none, 0, rfl, World.ownsRow_nil _ _ _ _, Below.refl _ _⟩
 | some a =>
   have hba : Below w.heap.size w (w.alloc (.cells #[] 74)) := (Below.refl _ _).alloc (Nat.le_refl _) _
   have hs1 : Src (w.alloc (.cells #[] 74)) (some a) n 14 (cellsE L) := src_ownE (ownB_below ho hba)
   have HS := Lib.hid hs1
   have HBA := Lib.hid hba
   clear hs1 hba ho hn
   go_enter Tryz.func66, Tryz.ntmps66
   go_wp2_with (at_builtin; (
    refine wpList_append_src (base := w.heap.size) rfl _ _ rfl Tryz.underlying61 hi0 hz0 hz1 hz2 rfl (by decide) rfl (World.ownsRow_made w #[] 0 (Nat.le_refl _) (by decide) rfl) rfl HS.out (cellsE_one L) (by unfold maxLen; omega) (by omega) HBA.out.size ?_
    intro v9 w9 ho9 hg9 hb9
    have hlow : Below w.heap.size w w9 := HBA.out.trans ⟨hg9.os, hg9.tape, hg9.output, hg9.size, fun k hk => hg9.block k (Nat.lt_of_lt_of_le hk HBA.out.size) (fun e => by injection e with e; have e : k = w.heap.size := e; omega)⟩
    rw [Nat.zero_add, List.nil_append] at ho9
    have HO9 := Lib.hid ho9
    have HL9 := Lib.hid hlow
    clear ho9 hlow hg9 hb9))
   obtain ⟨A', c', hv⟩ := own_slice HO9.out
   subst hv
   go_wp2
   go_ret
   exact ⟨A', c', rfl, HO9.out, HL9.out⟩
theorem SpC.one {w : World} {s u : Nat} {X : Sp} {v : Value} (h : SpC w s X u v) (hv : v.oneCell' = true) : ∃ cs : Array Value, w.heap[s]? = some (.cells cs 121 (0, 0)) ∧ cs.size = 38 ∧ cs.all (·.oneCell') = true ∧ ∀ k, w.cell? ⟨s, k, none⟩ = cs[k]? := by
 obtain ⟨cs, hc, hz⟩ := h.blk
 have hk : ∀ k, w.cell? ⟨s, k, none⟩ = cs[k]? := fun k => cell_of_row w s k cs _ _ hc
 refine ⟨cs, hc, hz, ?_, hk⟩
 rw [Array.all_eq_true]
 intro i hi
 have hget : cs[i]? = some cs[i] := Array.getElem?_eq_getElem hi
 rw [← hk] at hget
 have key : ∀ x, w.cell? ⟨s, i, none⟩ = some x → x.oneCell' = true → (cs[i]).oneCell' = true := fun x hx h1 => by
  rw [hget] at hx
  injection hx with hx
  rw [hx]; exact h1
 by_cases h5 : 5 ≤ i ∧ i < 37
 ·have := h.hi (i - 5) (by omega)
  rw [show 5 + (i - 5) = i by omega] at this
  exact key _ this rfl
 ·rcases (show i = 0 ∨ i = 1 ∨ i = 2 ∨ i = 3 ∨ i = 4 ∨ i = 37 by omega) with rfl | rfl | rfl | rfl | rfl | rfl
  ·exact key _ h.c0 rfl
  ·exact key _ h.c1 rfl
  ·exact key _ h.c2 rfl
  ·exact key _ h.c3 rfl
  ·exact key _ h.c4 rfl
  ·exact key _ h.c37 hv
theorem boxS (W : World) (Z cs : Array Value) : ∃ V, V = (W.alloc (.cells Z 121)).setRow W.heap.size cs ∧ V.heap[W.heap.size]? = some (.cells cs 121 (0, 0)) ∧ Below W.heap.size W V ∧ W.heap.size < V.heap.size := by
 have h := setRow_heap (W.alloc (.cells Z 121)) W.heap.size Z cs _ _ (heap_alloc_new _ _)
 exact ⟨_, rfl, h, below_setRow ((Below.refl _ _).alloc (Nat.le_refl _) _) (Nat.le_refl _) _, (Array.getElem?_eq_some_iff.1 h).1⟩
theorem SpC.as {w w' : World} {s s' u : Nat} {X : Sp} {v : Value} {cs : Array Value} (h : SpC w s X u v) (hk : ∀ k, w.cell? ⟨s, k, none⟩ = cs[k]?) (hz : cs.size = 38) (hc : w'.heap[s']? = some (.cells cs 121 (0, 0))) : SpC w' s' X u v := by
 have hk' : ∀ k, w'.cell? ⟨s', k, none⟩ = w.cell? ⟨s, k, none⟩ := fun k => (cell_of_row w' s' k cs _ _ hc).trans (hk k).symm
 exact ⟨⟨cs, hc, hz⟩, (hk' 0).trans h.c0, (hk' 1).trans h.c1, (hk' 2).trans h.c2, (hk' 3).trans h.c3, (hk' 4).trans h.c4, fun i hi => (hk' (5 + i)).trans (h.hi i hi), (hk' 37).trans h.c37⟩
set_option maxRecDepth 100000 in
set_option maxHeartbeats 1000000 in
theorem scopy_any {S : Nat → Prop} {s : Nat} {X : Sp} {L : List Ett} (w : World) (h : SpAt w S s X L) :
  Calls Tryz.prog 34 #[.pointer (some ⟨s, 0, none⟩)] w fun e w' => e = .returned (.pointer (some ⟨w.heap.size, 0, none⟩)) ∧ Below w.heap.size w w' ∧ SpAt w' (fun k => w.heap.size ≤ k ∧ k < w'.heap.size) w.heap.size X L := by
 obtain ⟨v, h1, h2⟩ := h.sp
 obtain ⟨A, c, rfl⟩ := own_slice h2.own
 obtain ⟨cs, hc, hz, hone, hk⟩ := h1.one rfl
 have HH := Lib.hid h
 have H1 := Lib.hid h1
 have H2 := Lib.hid h2
 have HC := Lib.hid hc
 have HK := Lib.hid hk
 clear h h1 h2 hc hk
 go_enter Tryz.func34, Tryz.ntmps34
 go_upto_region 4 with (first
  | (refine wpList_load_row rfl _ _ rfl s rfl _ cs _ _ HC.out Tryz.underlying121 rfl (by rw [Tryz.infoSp, hz]) ?_)
  | (refine wpList_store_row rfl _ _ _ rfl w.heap.size cs rfl rfl _ _ (heap_alloc_new _ _) (by rw [Tryz.infoSp, hz]) (by rw [hz]; rfl) hone ?_)
  | fail)
 obtain ⟨w1, hw1, hc1, hb1, hl1⟩ := boxS w _ cs
 rw [← hw1, act_put_no]
 have k1 := H1.out.below hb1
 have x37 := k1.c37
 have hn1 : SpC w1 w.heap.size X (sumE L) (.slice A L.length c) := H1.out.as HK.out hz hc1
 have hown1 := ownB_below H2.out.own hb1
 have HCL := Lib.hid (clone_E A L.length c L w1 rfl HH.out.few hown1)
 have HN1 := Lib.hid hn1
 have HB1 := Lib.hid hb1
 clear hw1 hc1 hb1 k1 hn1 hown1 HC HK
 go_wp2_with fail
 refine HCL.out.mono ?_
 rintro _ w2 ⟨A', c', rfl, ho2, hb2⟩
 have k2 := HN1.out.below hb2
 have y37 := k2.c37
 have fz := k2.fz 37
 have HO2 := Lib.hid ho2
 have HB2 := Lib.hid (HB1.out.trans (hb2.mono HB1.out.size))
 have hl2 := hb2.size
 have K2 := Lib.hid k2
 clear ho2 hb2 k2 HCL x37
 go_wp2
 have k3 := K2.out.setL (.slice A' L.length c')
 have ho3 : Only (fun k => k = w.heap.size) w2 (w2.setCell ⟨w.heap.size, 37, none⟩ (.slice A' L.length c')) := Only.setCell _ _ _ rfl
 have hlow : Below w.heap.size w (w2.setCell ⟨w.heap.size, 37, none⟩ (.slice A' L.length c')) := HB2.out.trans ⟨ho3.os, ho3.tape, ho3.output, ho3.size, fun k hk => ho3.block k (Nat.lt_of_lt_of_le hk HB2.out.size) (fun e => by have e : k = w.heap.size := e; omega)⟩
 have hz3 := ho3.size
 have hvb : ∀ k, (Value.slice A' L.length c').ownBlock = some k → w1.heap.size ≤ k ∧ k < w2.heap.size := HO2.out.lt
 go_ret
 refine ⟨rfl, hlow, ⟨⟨_, k3, ownB_mono (ho3.own HO2.out (fun k hk e => by have := hvb k hk; have e : k = w.heap.size := e; omega)) (Nat.zero_le _), fun e => by have := hvb _ e; omega, fun k hk => by have := hvb k hk; exact ⟨by omega, by omega⟩⟩, ⟨Nat.le_refl _, by omega⟩, fun k hk => hk.2, HH.out.few, fun e he => ?_, HH.out.q⟩⟩
 have q := HH.out.ent e he
 have qb := q.below hlow
 exact ⟨q.ok, q.sh, q.ln, q.lb, q.ix, q.nil, qb.rd, fun a ha h0 hs => by have := rdP_lt q.rd ha h0; have := hs.1; omega⟩
end Go.Proofs.YtholdcgkhicdmaaGreatDoor