/- Several texts in one: SpEvict. -/
import Derived.Test.YtgcfofnlgdfmoaaMf26
/- Layer 8: evict: the least important event becomes a gap. -/
namespace Go.Proofs.Ytgcfofnlgdfmoaa
open Go.RowKit

theorem gapI_ok {a f t : Nat} (ha : a < 256) (hf : f < 18446744073709551616) (ht : t < 18446744073709551616) : OkI ⟨true, 0, 0, 0, ⟨#[]⟩, [], 0, 0, 0, 0, a, f, t⟩ :=
  ⟨(show 0 < 256 by decide), (show 0 < 18446744073709551616 by decide), (show 0 < 18446744073709551616 by decide), (Nat.zero_le maxLen : 0 ≤ maxLen), fun i p hp => (by simp at hp), (show 0 < 256 by decide), (show 0 < 256 by decide), (show (-9223372036854775808 : Int) ≤ 0 by decide), (show (0 : Int) < 9223372036854775808 by decide), (show 0 < 256 by decide), ha, hf, ht⟩
theorem zeroI_ok : OkI zeroI := ⟨by decide, by decide, by decide, Nat.zero_le _, fun i p hp => (by simp [zeroI] at hp), by decide, by decide, by decide, by decide, by decide, by decide, by decide, by decide⟩
theorem joinI_ok {x y : It} (hx : OkI x) (hy : OkI y) : OkI (joinI x y) := by
  unfold joinI
  split
  · exact gapI_ok hx.ga hx.gf hy.gt
  · exact zeroI_ok
theorem gapI_len (a f t : Nat) (hf : f < 18446744073709551616) (ht : t < 18446744073709551616) : (itemB ⟨true, 0, 0, 0, ⟨#[]⟩, [], 0, 0, 0, 0, a, f, t⟩).length ≤ 22 := by
  have h1 := leb_le10 hf
  have h2 := leb_le10 ht
  unfold itemB gapB
  simp only [if_true, List.length_cons, List.length_append, List.length_nil]
  omega
theorem zeroI_len : (itemB zeroI).length ≤ 22 := by decide +kernel
theorem joinI_len {x y : It} (hx : OkI x) (hy : OkI y) : (itemB (joinI x y)).length ≤ 100000 := by
  unfold joinI
  split
  · have := gapI_len x.ga x.gf y.gt hx.gf hy.gt; omega
  · have := zeroI_len; omega
def entD : Ett := ⟨0, zeroI, none, 0⟩
def joinK (L : List Ett) : Option Nat → Option Nat → List Ett × Bool
  | some a, some b => if joinB (L.getD a entD).x (L.getD b entD).x then (joinL L a b (L.getD a entD) (L.getD b entD), true) else (L, false)
  | _, _ => (L, false)
theorem getD_of {L : List Ett} {k : Nat} {e : Ett} (h : L[k]? = some e) : L.getD k entD = e := by rw [List.getD_eq_getElem?_getD, h]; rfl
theorem nextK_some {L : List Ett} {o : Nat} : ∀ (d k j : Nat), L.length - k ≤ d → nextK L o k = some j → k ≤ j ∧ j < L.length
  | d, k, j, hd, h => by
    by_cases hk : k < L.length
    · rw [nextK_at (List.getElem?_eq_getElem hk)] at h
      split at h
      · injection h with h; omega
      · cases d with
        | zero => omega
        | succ d => have := nextK_some d (k + 1) j (by omega) h; omega
    · rw [nextK_end (by omega)] at h; cases h
theorem prevK_some {L : List Ett} {o : Nat} : ∀ {p j : Nat}, prevK L o p = some j → j < p ∧ j < L.length
  | 0, j, h => by simp [prevK] at h
  | p + 1, j, h => by
    unfold prevK at h
    by_cases hp : p < L.length
    · split at h
      · injection h with h; omega
      · have := prevK_some h; omega
    · rw [List.getElem?_eq_none (by omega)] at h
      simp at h
      have := prevK_some h; omega
theorem joinL_keep {L : List Ett} {a b : Nat} {ea eb : Ett} (hab : a < b) (hb : b < L.length) : (joinL L a b ea eb)[a]? = some ⟨ea.i, joinI ea.x eb.x, none, 0⟩ := by
  unfold joinL cutE
  rw [List.getElem?_append_left (by rw [List.length_take, List.length_set]; omega), List.getElem?_take, if_pos hab, List.getElem?_set_self (by omega)]
theorem joinI_spO {x y : It} (h : joinB x y = true) : spO (joinI x y) = x.ga := by
  unfold joinI
  rw [if_pos h]
  rfl

set_option maxRecDepth 100000 in
/-- join, whichever places -/
theorem sjoinK {S : Nat → Prop} {s : Nat} {X : Sp} {L : List Ett} (a b : Option Nat) (w : World) (h : SpAt w S s X L) (ha : ∀ k, a = some k → k < L.length) (hb : ∀ k, b = some k → k < L.length) :
    Calls Try.prog 81 #[.pointer (some ⟨s, 0, none⟩), idxV a, idxV b] w fun e w' => e = .returned (.bool (joinK L a b).2) ∧ SpAt w' S s X (joinK L a b).1 ∧ Step w S w' S := by
  have hrefl : Step w S w S := ⟨Only.refl _ _, fun _ h => .inl h⟩
  cases a with
  | none =>
    have : ∀ v, ∃ z, idxV v = .int .i64 z := fun v => by cases v <;> exact ⟨_, rfl⟩
    obtain ⟨z, hz⟩ := this b
    rw [hz]
    refine (sjoin_none1 _ z w).mono ?_
    rintro e w' ⟨rfl, rfl⟩
    exact ⟨rfl, h, hrefl⟩
  | some a =>
    cases b with
    | none =>
      refine (sjoin_none2 _ a w).mono ?_
      rintro e w' ⟨rfl, rfl⟩
      exact ⟨rfl, h, hrefl⟩
    | some b =>
      have ha := ha a rfl
      have hb := hb b rfl
      have ea := List.getElem?_eq_getElem ha
      have eb := List.getElem?_eq_getElem hb
      have oa := (h.ent _ (List.mem_iff_getElem?.2 ⟨a, ea⟩)).ok
      have ob := (h.ent _ (List.mem_iff_getElem?.2 ⟨b, eb⟩)).ok
      refine (sjoin_any w h ea eb (joinI_ok oa ob) (joinI_len oa ob)).mono ?_
      rintro e w' ⟨rfl, h1, h2⟩
      unfold joinK
      simp only [getD_of ea, getD_of eb]
      split <;> rename_i hj
      · rw [hj] at h1 ⊢
        exact ⟨rfl, h1, h2⟩
      · rw [if_neg hj] at h1
        exact ⟨by simpa using hj, h1, h2⟩

theorem SpAt.of_set {w : World} {S : Nat → Prop} {s : Nat} {X X' : Sp} {L : List Ett} (h : SpAt w S s X L) (k : Nat) (u : Value) (hX : ∀ v, SpC w s X (sumE L) v → SpC (w.setCell ⟨s, k, none⟩ u) s X' (sumE L) v) (hq : X'.q = X.q) :
    SpAt (w.setCell ⟨s, k, none⟩ u) S s X' L ∧ Step w S (w.setCell ⟨s, k, none⟩ u) S := by
  have ho : Only (fun k => k = s) w (w.setCell ⟨s, k, none⟩ u) := Only.setCell _ _ _ rfl
  have hst : Step w S (w.setCell ⟨s, k, none⟩ u) S := ⟨Only.setCell _ _ _ h.sS, fun _ h => .inl h⟩
  obtain ⟨v, h1, h2⟩ := h.sp
  exact ⟨⟨⟨v, hX v h1, ho.own h2.own (fun k hk e => h2.vs (by rw [hk, e])), h2.vs, h2.vS⟩, h.sS, fun k hk => Nat.lt_of_lt_of_le (h.lt k hk) ho.size, h.few, fun e he => (h.ent e he).step hst, by rw [hq]; exact h.q⟩, hst⟩
theorem spO_lt {x : It} (h : OkI x) : spO x < 256 := by
  unfold spO
  split
  · exact h.ga
  · exact h.o
theorem spF_lt {x : It} (h : OkI x) : spF x < 18446744073709551616 := by
  unfold spF
  split
  · exact h.gf
  · exact h.q
def gapE (e : Ett) : Ett := ⟨e.i, ⟨true, 0, 0, 0, ⟨#[]⟩, [], 0, 0, 0, 0, spO e.x, spF e.x, spT e.x⟩, none, 0⟩
/-- the row, the place and what was joined, where the event of place p becomes a gap -/
def evA (L : List Ett) (p : Nat) (e : Ett) : List Ett := (joinK (L.set p (gapE e)) (some p) (nextK (L.set p (gapE e)) (spO e.x) (p + 1))).1
def evB2 (L : List Ett) (p : Nat) (e : Ett) : List Ett × Bool := joinK (evA L p e) (prevK (evA L p e) (spO e.x) p) (some p)
def evPos (L : List Ett) (p : Nat) (e : Ett) : Nat := if (evB2 L p e).2 then (prevK (evA L p e) (spO e.x) p).getD p else p
def evL (L : List Ett) (p : Nat) (e : Ett) : List Ett := (evB2 L p e).1
def evIdx (L : List Ett) (p : Nat) (e : Ett) : Nat := ((evL L p e).getD (evPos L p e) entD).i
theorem evA_at {L : List Ett} {p : Nat} {e : Ett} (h : L[p]? = some e) : ∃ e1, (evA L p e)[p]? = some e1 ∧ spO e1.x = spO e.x := by
  have hp := (List.getElem?_eq_some_iff.1 h).1
  have h1 : (L.set p (gapE e))[p]? = some (gapE e) := List.getElem?_set_self hp
  unfold evA
  cases hn : nextK (L.set p (gapE e)) (spO e.x) (p + 1) with
  | none => exact ⟨_, h1, rfl⟩
  | some k =>
    have hk := nextK_some _ _ _ (Nat.le_refl _) hn
    unfold joinK
    simp only [getD_of h1]
    split
    · rename_i hj
      refine ⟨_, joinL_keep (by omega) hk.2, ?_⟩
      rw [joinI_spO hj]
      rfl
    · exact ⟨_, h1, rfl⟩
theorem evL_at {L : List Ett} {p : Nat} {e : Ett} (h : L[p]? = some e) : ∃ e1, (evL L p e)[evPos L p e]? = some e1 := by
  obtain ⟨e1, h1, _⟩ := evA_at h
  have hp := (List.getElem?_eq_some_iff.1 h1).1
  unfold evL evPos evB2
  cases hn : prevK (evA L p e) (spO e.x) p with
  | none => exact ⟨e1, h1⟩
  | some k =>
    have hk := prevK_some hn
    unfold joinK
    simp only [getD_of h1]
    split
    · rename_i hj
      exact ⟨_, joinL_keep hk.1 hp⟩
    · exact ⟨e1, h1⟩

set_option maxRecDepth 100000 in
set_option maxHeartbeats 1000000 in
theorem evict_none {S : Nat → Prop} {s : Nat} {X : Sp} {L : List Ett} (w : World) (h : SpAt w S s X L) (hl : leastK L L.length = none) :
    Calls Try.prog 53 #[.pointer (some ⟨s, 0, none⟩)] w fun e w' => e = .returned (.tuple #[.int .u64 0, .bool false]) ∧ Below w.heap.size w w' := by
  have hL := least_any w h
  rw [hl] at hL
  have HL := Lib.hid hL
  clear hL h
  go_enter Try.func53, Try.ntmps53
  go_wp2_with fail
  refine HL.out.mono ?_
  rintro e w1 ⟨rfl, hb⟩
  have HB := Lib.hid hb
  clear hb HL
  unfold idxV
  go_wp2
  go_ret2
  exact ⟨rfl, HB.out⟩

set_option maxRecDepth 100000 in
set_option maxHeartbeats 2000000 in
theorem evict_some {S : Nat → Prop} {s p : Nat} {X : Sp} {L : List Ett} {e : Ett} (w : World) (h : SpAt w S s X L) (hl : leastK L L.length = some p) (hp : L[p]? = some e) (hv : X.v + 1 < 18446744073709551616) :
    Calls Try.prog 53 #[.pointer (some ⟨s, 0, none⟩)] w fun e' w' => e' = .returned (.tuple #[.int .u64 (evIdx L p e), .bool true]) ∧ SpAt w' S s { X with v := X.v + 1 } (evL L p e) ∧ Step w S w' S := by
  have hL := least_any w h
  rw [hl] at hL
  have HL := Lib.hid hL
  have HH := Lib.hid h
  have HP := Lib.hid hp
  have hpl := (List.getElem?_eq_some_iff.1 hp).1
  have hfew := h.few
  clear hL h hl hp
  go_enter Try.func53, Try.ntmps53
  go_wp2_with fail
  refine HL.out.mono ?_
  rintro e' w1 ⟨rfl, hb⟩
  have hs1 := HH.out.below hb
  have hst1 : Step w S w1 S := ⟨Only.of_below hb S, fun _ h => .inl h⟩
  obtain ⟨v, h1, h2⟩ := hs1.sp
  obtain ⟨r, c, rfl, hr, hrs, hrS, -, hrg⟩ := h2.at_ HP.out
  obtain ⟨n, hn⟩ : ∃ n, n = L.length := ⟨_, rfl⟩
  rw [← hn] at h1 hfew hpl
  have c37 := h1.c37
  have d0 : decide ((p : Int) < 0) = false := decide_eq_false (by omega)
  have HS1 := Lib.hid hs1
  have HT1 := Lib.hid hst1
  have HN := Lib.hid hn
  have he := hs1.ent e (List.mem_iff_getElem?.2 ⟨p, HP.out⟩)
  have HE := Lib.hid he
  clear hb HL hs1 hst1 h1 h2 hn he
  unfold idxV
  go_wp2_with (first | (refine wpList_load_mid rfl _ _ rfl r (p * 14 + 1) rfl (itC e.x e.A e.c) _ hrg Try.underlying60 rfl Try.infoIt ?_) | fail)
  refine (span_any e.x e.A e.x.l.length e.c w1).mono ?_
  rintro _ w2 ⟨rfl, hb2⟩
  have hs2 := HS1.out.below hb2
  have hst2 : Step w S w2 S := HT1.out.trans ⟨Only.of_below hb2 S, fun _ h => .inl h⟩
  have HS2 := Lib.hid hs2
  have HT2 := Lib.hid hst2
  clear hb2 hs2 hst2 hrg c37
  go_wp2_with fail
  refine (gap_any _ _ _ w2).mono ?_
  rintro _ w3 ⟨rfl, hb3⟩
  have hs3 := HS2.out.below hb3
  have hst3 : Step w S w3 S := HT2.out.trans ⟨Only.of_below hb3 S, fun _ h => .inl h⟩
  have HS3 := Lib.hid hs3
  have HT3 := Lib.hid hst3
  have hok := HE.out.ok
  have hgap : EntOk w3 S (gapE e) := ⟨gapI_ok (spO_lt hok) (spF_lt hok) (spT_lt hok), ⟨(Nat.zero_le 1048576 : 0 ≤ 1048576), fun i p hp => (by simp [gapE] at hp)⟩, Nat.zero_le 1000, by have := gapI_len (spO e.x) (spF e.x) (spT e.x) (spF_lt hok) (spT_lt hok); exact Nat.le_trans this (by decide), HE.out.ix, fun _ => rfl, RdP.nil, fun a ha => (by cases ha)⟩
  have HG := Lib.hid hgap
  clear hb3 hs3 hst3 hok hgap
  go_wp2_with fail
  refine (set_any (gapE e).x none 0 w3 HS3.out HP.out HG.out).mono ?_
  rintro _ w4 ⟨rfl, hs4, hst4⟩
  have hs4 : SpAt w4 S s X (L.set p (gapE e)) := hs4
  obtain ⟨v4, k4, -⟩ := hs4.sp
  have c4 := k4.c4
  have fz4 := k4.fz 4
  have hsl4 := k4.slt
  have hw1 : IntKind.u64.wrap ((X.v : Int) + 1) = ((X.v + 1 : Nat) : Int) := by rw [IntKind.wrap_u64]; omega
  have HS4 := Lib.hid hs4
  have HT4 := Lib.hid (HT3.out.trans hst4)
  clear hs4 hst4 k4
  go_wp2_with fail
  obtain ⟨h5, t5⟩ := HS4.out.of_set (X' := { X with v := X.v + 1 }) 4 (.int .u64 ((X.v + 1 : Nat) : Int)) (fun v hv => hv.setV (X.v + 1)) rfl
  have HS5 := Lib.hid h5
  have HT5 := Lib.hid (HT4.out.trans t5)
  have h1p : (L.set p (gapE e))[p]? = some (gapE e) := List.getElem?_set_self (by rw [← HN.out]; exact hpl)
  have H1P := Lib.hid h1p
  clear h5 t5 h1p c4 fz4
  refine (near_up _ HS5.out H1P.out).mono ?_
  rintro _ w6 ⟨rfl, hb6⟩
  have hs6 := HS5.out.below hb6
  have HS6 := Lib.hid hs6
  have HT6 : Hid (Step w S w6 S) := HT5.out.trans ⟨Only.of_below hb6 S, fun _ h => .inl h⟩
  clear hb6 hs6
  go_wp2_with fail
  refine (sjoinK (some p) (nextK (L.set p (gapE e)) (spO e.x) (p + 1)) w6 HS6.out (fun k hk => by injection hk with hk; rw [List.length_set, ← HN.out]; omega) (fun k hk => (nextK_some _ _ _ (Nat.le_refl _) hk).2)).mono ?_
  rintro _ w7 ⟨rfl, hs7, hst7⟩
  have hs7 : SpAt w7 S s { X with v := X.v + 1 } (evA L p e) := hs7
  have HS7 := Lib.hid hs7
  have HT7 := Lib.hid (HT6.out.trans hst7)
  obtain ⟨e1, he1, ho1⟩ := evA_at HP.out
  have HE1 := Lib.hid he1
  have HO1 := Lib.hid ho1
  clear hs7 hst7 he1 ho1
  go_wp2_with fail
  refine (near_down w7 HS7.out HE1.out).mono ?_
  rw [HO1.out]
  rintro _ w8 ⟨rfl, hb8⟩
  have hs8 := HS7.out.below hb8
  have HS8 := Lib.hid hs8
  have HT8 : Hid (Step w S w8 S) := HT7.out.trans ⟨Only.of_below hb8 S, fun _ h => .inl h⟩
  obtain ⟨dn, hdn⟩ : ∃ dn, dn = prevK (evA L p e) (spO e.x) p := ⟨_, rfl⟩
  rw [← hdn]
  have HDN := Lib.hid hdn
  clear hb8 hs8 hdn
  go_wp2_with fail
  refine (sjoinK dn (some p) w8 HS8.out (fun k hk => (prevK_some (by rw [← HDN.out]; exact hk)).2) (fun k hk => by injection hk with hk; rw [← hk]; exact (List.getElem?_eq_some_iff.1 HE1.out).1)).mono ?_
  rintro _ w9 ⟨rfl, hs9, hst9⟩
  have hB : joinK (evA L p e) dn (some p) = evB2 L p e := by rw [HDN.out]; rfl
  rw [hB] at hs9 ⊢
  have hs9 : SpAt w9 S s { X with v := X.v + 1 } (evL L p e) := hs9
  obtain ⟨e2, he2⟩ := evL_at HP.out
  obtain ⟨v9, k9, r9⟩ := hs9.sp
  obtain ⟨r2, c2, rfl, -, -, -, hrg2, -⟩ := r9.at_ he2
  have x0 := hrg2 0 _ rfl
  have c37 := k9.c37
  have hql := (List.getElem?_eq_some_iff.1 he2).1
  have hf9 := hs9.few
  have hidx : evIdx L p e = e2.i := by unfold evIdx; rw [getD_of he2]
  have HS9 := Lib.hid hs9
  have HT9 := Lib.hid (HT8.out.trans hst9)
  have HID := Lib.hid hidx
  rw [Nat.add_zero] at x0
  clear hB hs9 hst9 k9 r9 hrg2 he2 hidx
  obtain ⟨q, hq⟩ : ∃ q, q = evPos L p e := ⟨_, rfl⟩
  rw [← hq] at x0 hql
  by_cases hj : (evB2 L p e).2 = true
  · have hq2 : dn = some q := by
      rw [hq]
      unfold evPos
      rw [if_pos hj, ← HDN.out]
      cases dn with
      | none => exfalso; have h3 : evB2 L p e = joinK (evA L p e) none (some p) := by unfold evB2; rw [← HDN.out]
                rw [h3] at hj; cases hj
      | some k => rfl
    subst hq2
    rw [hj]
    clear hq hj
    rw [show idxV (some q) = Value.int .i64 (q : Int) from rfl]
    go_wp2
    go_ret2
    exact ⟨by rw [HID.out]; rfl, HS9.out, HT9.out⟩
  · have hj : (evB2 L p e).2 = false := by simpa using hj
    have hq2 : q = p := by
      rw [hq]
      unfold evPos
      rw [hj]
      rfl
    subst hq2
    rw [hj]
    clear hq hj
    go_wp2
    go_ret2
    exact ⟨by rw [HID.out]; rfl, HS9.out, HT9.out⟩
end Go.Proofs.Ytgcfofnlgdfmoaa
