/- Several texts in one: SpRoom, SpCopy. -/
import Derived.Deep.LoopGhost
import Derived.Test.YtgcfofnlgdfmoaaMf27
/- Layer 8: makeRoom: events are evicted as long as there is no room. -/
namespace Go.Proofs.Ytgcfofnlgdfmoaa
open Go.RowKit

/-- how many entries may be evicted -/
def cntE (L : List Ett) : Nat := L.countP fun e => !lastB e.x
theorem cntE_set {L : List Ett} {p : Nat} {e : Ett} (h : L[p]? = some e) (y : Ett) : cntE (L.set p y) + (if lastB e.x then 0 else 1) = cntE L + (if lastB y.x then 0 else 1) := by
  have hp := (List.getElem?_eq_some_iff.1 h).1
  have hd : L.drop p = e :: L.drop (p + 1) := by
    rw [List.drop_eq_getElem_cons hp, (List.getElem?_eq_some_iff.1 h).2]
  have h1 : cntE L = cntE (L.take p) + cntE (e :: L.drop (p + 1)) := by
    conv => lhs; rw [← List.take_append_drop p L, hd]
    exact List.countP_append
  have h2 : cntE (L.set p y) = cntE (L.take p) + cntE (y :: L.drop (p + 1)) := by
    rw [List.set_eq_take_append_cons_drop, if_pos hp]
    exact List.countP_append
  have h3 : ∀ x : Ett, cntE (x :: L.drop (p + 1)) = cntE (L.drop (p + 1)) + (if lastB x.x then 0 else 1) := fun x => by
    unfold cntE
    rw [List.countP_cons]
    cases lastB x.x <;> simp
  rw [h1, h2, h3, h3]
  omega
theorem cntE_cut {L : List Ett} {i j : Nat} (h : i ≤ j) : cntE (cutE L i j) ≤ cntE L := by
  unfold cutE cntE
  rw [List.countP_append]
  have h1 : L.countP (fun e => !lastB e.x) = (L.take j).countP (fun e => !lastB e.x) + (L.drop j).countP (fun e => !lastB e.x) := by
    conv => lhs; rw [← List.take_append_drop j L]
    exact List.countP_append
  have h2 : (L.take i).countP (fun e => !lastB e.x) ≤ (L.take j).countP (fun e => !lastB e.x) := by
    have : L.take i = (L.take j).take i := by rw [List.take_take, Nat.min_eq_left h]
    rw [this]
    exact (List.take_sublist _ _).countP_le
  omega
theorem joinB_g {x y : It} (h : joinB x y = true) : (joinI x y).g = true := by
  unfold joinI
  rw [if_pos h]
theorem lastB_g {x : It} (h : x.g = true) : lastB x = true := by unfold lastB; rw [h]; rfl
theorem cntE_joinK {L : List Ett} (a b : Option Nat) (ha : ∀ k, a = some k → k < L.length) : cntE (joinK L a b).1 ≤ cntE L := by
  cases a with
  | none => exact Nat.le_refl _
  | some a =>
    cases b with
    | none => exact Nat.le_refl _
    | some b =>
      show cntE (if joinB (L.getD a entD).x (L.getD b entD).x then (joinL L a b (L.getD a entD) (L.getD b entD), true) else (L, false)).1 ≤ _
      by_cases hj : joinB (L.getD a entD).x (L.getD b entD).x = true
      · rw [if_pos hj]
        have ea := List.getElem?_eq_getElem (ha a rfl)
        have h1 := cntE_set ea ⟨(L.getD a entD).i, joinI (L.getD a entD).x (L.getD b entD).x, none, 0⟩
        rw [if_pos (lastB_g (joinB_g hj))] at h1
        refine Nat.le_trans (cntE_cut (Nat.le_succ b)) ?_
        omega
      · rw [if_neg hj]
        exact Nat.le_refl _
theorem cntE_ev {L : List Ett} {p : Nat} {e : Ett} (h : L[p]? = some e) (hl : lastB e.x = false) : cntE (evL L p e) < cntE L := by
  have hp := (List.getElem?_eq_some_iff.1 h).1
  have h1 := cntE_set h (gapE e)
  rw [if_pos (lastB_g (x := (gapE e).x) rfl), hl] at h1
  have h2 : cntE (evA L p e) ≤ cntE (L.set p (gapE e)) := cntE_joinK _ _ (fun k hk => by injection hk with hk; rw [List.length_set]; omega)
  have h3 : cntE (evL L p e) ≤ cntE (evA L p e) := cntE_joinK _ _ (fun k hk => (prevK_some hk).2)
  simp at h1
  omega
def lowE (a b : Nat) : Nat := if a = 0 ∨ b = 0 then max a b else min a b
/-- what makeRoom leaves: did it succeed, the row, the lowest index that changed, how many were evicted -/
def roomK (size q : Nat) : Nat → List Ett → Nat → Nat → Bool × List Ett × Nat × Nat
  | fuel, L, f, v => if sumE L + size ≤ q then (true, L, f, v) else match fuel with
    | 0 => (false, L, f, v)
    | fuel + 1 => match leastK L L.length with
      | none => (false, L, f, v)
      | some p => roomK size q fuel (evL L p (L.getD p entD)) (lowE f (evIdx L p (L.getD p entD))) (v + 1)
theorem roomK_fit {size q fuel f v : Nat} {L : List Ett} (h : sumE L + size ≤ q) : roomK size q fuel L f v = (true, L, f, v) := by
  unfold roomK
  rw [if_pos h]
theorem roomK_none {size q fuel f v : Nat} {L : List Ett} (h : ¬ sumE L + size ≤ q) (hl : leastK L L.length = none) : roomK size q fuel L f v = (false, L, f, v) := by
  unfold roomK
  rw [if_neg h]
  cases fuel with
  | zero => rfl
  | succ k => simp only [hl]
theorem roomK_some {size q fuel f v p : Nat} {L : List Ett} (h : ¬ sumE L + size ≤ q) (hl : leastK L L.length = some p) : roomK size q (fuel + 1) L f v = roomK size q fuel (evL L p (L.getD p entD)) (lowE f (evIdx L p (L.getD p entD))) (v + 1) := by
  conv => lhs; unfold roomK
  rw [if_neg h]
  simp only [hl]

set_option maxRecDepth 100000 in
set_option maxHeartbeats 2000000 in
theorem room_any {S : Nat → Prop} {s : Nat} {X : Sp} {L : List Ett} (size : Nat) (hsz : size ≤ 1000000) (w : World) (h : SpAt w S s X L) (hv : X.v + cntE L < 18446744073709551615) :
    Calls Try.prog 52 #[.pointer (some ⟨s, 0, none⟩), .int .i64 size, .func (.func 53) #[.pointer (some ⟨s, 0, none⟩)] #[]] w fun e' w' =>
      ∃ ok L' f' v', roomK size X.q (cntE L) L 0 X.v = (ok, L', f', v') ∧ e' = .returned (.tuple #[.int .u64 ((if ok then f' else 0 : Nat) : Int), .bool ok]) ∧ SpAt w' S s { X with v := v' } L' ∧ Step w S w' S := by
  have HH := Lib.hid h
  obtain ⟨R, hR⟩ : ∃ R, R = roomK size X.q (cntE L) L 0 X.v := ⟨_, rfl⟩
  rw [← hR]
  have HR := Lib.hid hR
  have HV := Lib.hid hv
  clear h hR hv
  go_enter Try.func52, Try.ntmps52
  go_wp2
  go_loopg [8] (cntE L) (fun g fv wx => ∃ (L1 : List Ett) (f1 v1 : Nat), fv = .int .u64 f1 ∧ Hid (R = roomK size X.q g L1 f1 v1) ∧ Hid (cntE L1 ≤ g) ∧ Hid (v1 + cntE L1 < 18446744073709551615) ∧ Hid (SpAt wx S s { X with v := v1 } L1) ∧ Hid (Step w S wx S))
  case atStart => exact ⟨L, 0, X.v, rfl, HR.out, Nat.le_refl _, HV.out, HH.out, ⟨Only.refl _ _, fun _ h => .inl h⟩⟩
  case round =>
    obtain ⟨L1, f1, v1, rfl, HR1, HC, HV1, HS, HT⟩ := hrel
    clear HR HV HH
    go_wp2_with fail
    refine (sfits_any size hsz wr HS.out).mono ?_
    rintro _ w1 ⟨rfl, hb1⟩
    have HS1 := Lib.hid (HS.out.below hb1)
    have HT1 : Hid (Step w S w1 S) := HT.out.trans ⟨Only.of_below hb1 S, fun _ h => .inl h⟩
    clear hb1
    by_cases hfit : sumE L1 + size ≤ X.q
    · have d1 : decide (sumE L1 + size ≤ ({ X with v := v1 } : Sp).q) = true := decide_eq_true hfit
      have hr : R = (true, L1, f1, v1) := HR1.out.trans (roomK_fit hfit)
      have HRR := Lib.hid hr
      rw [d1]
      clear d1 hr
      go_wp2
      go_ret2
      exact ⟨true, L1, f1, v1, HRR.out, rfl, HS1.out, HT1.out⟩
    · have d1 : decide (sumE L1 + size ≤ ({ X with v := v1 } : Sp).q) = false := decide_eq_false hfit
      rw [d1]
      clear d1
      cases hl : leastK L1 L1.length with
      | none =>
        have hr : R = (false, L1, f1, v1) := HR1.out.trans (roomK_none hfit hl)
        have HRR := Lib.hid hr
        have HEV := Lib.hid (evict_none w1 HS1.out hl)
        clear hr hl
        go_wp2_with fail
        refine HEV.out.mono ?_
        rintro _ w2 ⟨rfl, hb2⟩
        have HS2 := Lib.hid (HS1.out.below hb2)
        have HT2 : Hid (Step w S w2 S) := HT1.out.trans ⟨Only.of_below hb2 S, fun _ h => .inl h⟩
        clear hb2 HEV
        go_wp2
        go_ret2
        exact ⟨false, L1, f1, v1, HRR.out, rfl, HS2.out, HT2.out⟩
      | some p =>
        obtain ⟨hpl, e, hp, hlast⟩ := leastK_some hl
        have hcnt := cntE_ev hp hlast
        have hc := HC.out
        have hv1 := HV1.out
        obtain ⟨g', rfl⟩ : ∃ g', gk = g' + 1 := ⟨gk - 1, by omega⟩
        have hr := HR1.out.trans (roomK_some hfit hl)
        rw [getD_of hp] at hr
        have HRR := Lib.hid hr
        have HEV := Lib.hid (evict_some w1 HS1.out hl hp (by show v1 + 1 < _; omega))
        clear hr hl hp
        go_wp2_with fail
        refine HEV.out.mono ?_
        rintro _ w2 ⟨rfl, hs2, hst2⟩
        have hs2 : SpAt w2 S s { X with v := v1 + 1 } (evL L1 p e) := hs2
        have HS2 := Lib.hid hs2
        have HT2 := Lib.hid (HT1.out.trans hst2)
        clear hs2 hst2 HEV
        go_wp2_with fail
        refine (lowest_any f1 (evIdx L1 p e) w2).mono ?_
        rintro _ w3 ⟨rfl, rfl⟩
        have hlow : (if f1 = 0 ∨ evIdx L1 p e = 0 then max f1 (evIdx L1 p e) else min f1 (evIdx L1 p e)) = lowE f1 (evIdx L1 p e) := rfl
        rw [hlow]
        clear hlow
        go_wp2
        go_roundg g'
        case measure => omega
        case rel => exact ⟨evL L1 p e, lowE f1 (evIdx L1 p e), v1 + 1, rfl, HRR.out, (by show _ ≤ _; omega), (by show _ < _; omega), HS2.out, HT2.out⟩
end Go.Proofs.Ytgcfofnlgdfmoaa
/- Layer 8: slices.Clone of entries; Copy of a spool. -/
namespace Go.Proofs.Ytgcfofnlgdfmoaa
open Go.RowKit

theorem src_ownE {w : World} {base : Nat} {e : TypeId} {A : Option Addr} {n c size : Nat} {xs : List Value} (h : w.ownsRow base e size (.slice A n c) n xs) : Src w A n size xs := by
  refine ⟨h.1, fun h0 => ?_⟩
  obtain ⟨g, cap, hv, _, _⟩ := h.form h0
  injection hv with hv
  subst hv
  exact ⟨_, rfl, fun j u hj => h.cells (g := g) rfl j u hj⟩

set_option maxRecDepth 100000 in
set_option maxHeartbeats 400000 in
theorem clone_E (A : Option Addr) (n c : Nat) (L : List Ett) (w : World) (hn : n = L.length) (hm : n ≤ 100000) (ho : w.ownsRow 0 68 14 (.slice A n c) n (cellsE L)) :
    Calls Try.prog 63 #[.slice A n c] w fun e w' => ∃ A' c', e = .returned (.slice A' n c') ∧ w'.ownsRow w.heap.size 68 14 (.slice A' n c') n (cellsE L) ∧ Below w.heap.size w w' := by
  obtain ⟨i0, hi0, hz0, hz1, hz2⟩ := info_parts Try.infoEnt
  have q22 : ∀ (w : World) (a : Option Addr) (n c n' c' : Nat), (binOp .eql 63 (.slice a n c) (.slice none n' c')).run Try.prog w = .ok (.bool a.isNone) w := fun w a n c n' c' => Lib.run_eql_slice_nil w _ _ a n c n' c' Try.underlying63
  cases A with
  | none =>
    obtain rfl : n = 0 := own_nilA ho rfl
    obtain rfl : L = [] := List.eq_nil_of_length_eq_zero hn.symm
    clear hn ho
    go_enter Try.func63, Try.ntmps63
    go_wp2
    go_ret
    exact ⟨none, 0, rfl, World.ownsRow_nil _ _ _ _, Below.refl _ _⟩
  | some a =>
    have hba : Below w.heap.size w (w.alloc (.cells #[] 68)) := (Below.refl _ _).alloc (Nat.le_refl _) _
    have hs1 : Src (w.alloc (.cells #[] 68)) (some a) n 14 (cellsE L) := src_ownE (ownB_below ho hba)
    have HS := Lib.hid hs1
    have HBA := Lib.hid hba
    clear hs1 hba ho hn
    go_enter Try.func63, Try.ntmps63
    go_wp2_with (at_builtin; (
      refine wpList_append_src (base := w.heap.size) rfl _ _ rfl Try.underlying63 hi0 hz0 hz1 hz2 rfl (by decide) rfl (World.ownsRow_made w #[] 0 (Nat.le_refl _) (by decide) rfl) rfl HS.out (cellsE_one L) (by unfold maxLen; omega) (by omega) HBA.out.size ?_
      intro v9 w9 ho9 hg9 hb9
      have hlow : Below w.heap.size w w9 := HBA.out.trans ⟨hg9.os, hg9.tape, hg9.output, hg9.size, fun k hk => hg9.block k (Nat.lt_of_lt_of_le hk HBA.out.size) (fun e => by injection e with e; have e : k = w.heap.size := e; omega)⟩
      rw [Nat.zero_add, List.nil_append] at ho9
      have HO9 := Lib.hid ho9
      have HL9 := Lib.hid hlow
      clear ho9 hlow hg9 hb9))
    obtain ⟨A', c', hv⟩ := own_slice HO9.out
    subst hv
    go_wp2
    go_ret
    exact ⟨A', c', rfl, HO9.out, HL9.out⟩

theorem SpC.one {w : World} {s u : Nat} {X : Sp} {v : Value} (h : SpC w s X u v) (hv : v.oneCell' = true) : ∃ cs : Array Value, w.heap[s]? = some (.cells cs 130 (0, 0)) ∧ cs.size = 38 ∧ cs.all (·.oneCell') = true ∧ ∀ k, w.cell? ⟨s, k, none⟩ = cs[k]? := by
  obtain ⟨cs, hc, hz⟩ := h.blk
  have hk : ∀ k, w.cell? ⟨s, k, none⟩ = cs[k]? := fun k => cell_of_row w s k cs _ _ hc
  refine ⟨cs, hc, hz, ?_, hk⟩
  rw [Array.all_eq_true]
  intro i hi
  have hget : cs[i]? = some cs[i] := Array.getElem?_eq_getElem hi
  rw [← hk] at hget
  have key : ∀ x, w.cell? ⟨s, i, none⟩ = some x → x.oneCell' = true → (cs[i]).oneCell' = true := fun x hx h1 => by
    rw [hget] at hx
    injection hx with hx
    rw [hx]; exact h1
  by_cases h5 : 5 ≤ i ∧ i < 37
  · have := h.hi (i - 5) (by omega)
    rw [show 5 + (i - 5) = i by omega] at this
    exact key _ this rfl
  · rcases (show i = 0 ∨ i = 1 ∨ i = 2 ∨ i = 3 ∨ i = 4 ∨ i = 37 by omega) with rfl | rfl | rfl | rfl | rfl | rfl
    · exact key _ h.c0 rfl
    · exact key _ h.c1 rfl
    · exact key _ h.c2 rfl
    · exact key _ h.c3 rfl
    · exact key _ h.c4 rfl
    · exact key _ h.c37 hv

theorem boxS (W : World) (Z cs : Array Value) : ∃ V, V = (W.alloc (.cells Z 130)).setRow W.heap.size cs ∧ V.heap[W.heap.size]? = some (.cells cs 130 (0, 0)) ∧ Below W.heap.size W V ∧ W.heap.size < V.heap.size := by
  have h := setRow_heap (W.alloc (.cells Z 130)) W.heap.size Z cs _ _ (heap_alloc_new _ _)
  exact ⟨_, rfl, h, below_setRow ((Below.refl _ _).alloc (Nat.le_refl _) _) (Nat.le_refl _) _, (Array.getElem?_eq_some_iff.1 h).1⟩
theorem SpC.as {w w' : World} {s s' u : Nat} {X : Sp} {v : Value} {cs : Array Value} (h : SpC w s X u v) (hk : ∀ k, w.cell? ⟨s, k, none⟩ = cs[k]?) (hz : cs.size = 38) (hc : w'.heap[s']? = some (.cells cs 130 (0, 0))) : SpC w' s' X u v := by
  have hk' : ∀ k, w'.cell? ⟨s', k, none⟩ = w.cell? ⟨s, k, none⟩ := fun k => (cell_of_row w' s' k cs _ _ hc).trans (hk k).symm
  exact ⟨⟨cs, hc, hz⟩, (hk' 0).trans h.c0, (hk' 1).trans h.c1, (hk' 2).trans h.c2, (hk' 3).trans h.c3, (hk' 4).trans h.c4, fun i hi => (hk' (5 + i)).trans (h.hi i hi), (hk' 37).trans h.c37⟩

set_option maxRecDepth 100000 in
set_option maxHeartbeats 1000000 in
theorem scopy_any {S : Nat → Prop} {s : Nat} {X : Sp} {L : List Ett} (w : World) (h : SpAt w S s X L) :
    Calls Try.prog 34 #[.pointer (some ⟨s, 0, none⟩)] w fun e w' => e = .returned (.pointer (some ⟨w.heap.size, 0, none⟩)) ∧ Below w.heap.size w w' ∧ SpAt w' (fun k => w.heap.size ≤ k ∧ k < w'.heap.size) w.heap.size X L := by
  obtain ⟨v, h1, h2⟩ := h.sp
  obtain ⟨A, c, rfl⟩ := own_slice h2.own
  obtain ⟨cs, hc, hz, hone, hk⟩ := h1.one rfl
  have HH := Lib.hid h
  have H1 := Lib.hid h1
  have H2 := Lib.hid h2
  have HC := Lib.hid hc
  have HK := Lib.hid hk
  clear h h1 h2 hc hk
  go_enter Try.func34, Try.ntmps34
  go_upto_region 4 with (first
    | (refine wpList_load_row rfl _ _ rfl s rfl _ cs _ _ HC.out Try.underlying130 rfl (by rw [Try.infoSp, hz]) ?_)
    | (refine wpList_store_row rfl _ _ _ rfl w.heap.size cs rfl rfl _ _ (heap_alloc_new _ _) (by rw [Try.infoSp, hz]) (by rw [hz]; rfl) hone ?_)
    | fail)
  obtain ⟨w1, hw1, hc1, hb1, hl1⟩ := boxS w _ cs
  rw [← hw1, act_put_no]
  have k1 := H1.out.below hb1
  have x37 := k1.c37
  have hn1 : SpC w1 w.heap.size X (sumE L) (.slice A L.length c) := H1.out.as HK.out hz hc1
  have hown1 := ownB_below H2.out.own hb1
  have HCL := Lib.hid (clone_E A L.length c L w1 rfl HH.out.few hown1)
  have HN1 := Lib.hid hn1
  have HB1 := Lib.hid hb1
  clear hw1 hc1 hb1 k1 hn1 hown1 HC HK
  go_wp2_with fail
  refine HCL.out.mono ?_
  rintro _ w2 ⟨A', c', rfl, ho2, hb2⟩
  have k2 := HN1.out.below hb2
  have y37 := k2.c37
  have fz := k2.fz 37
  have HO2 := Lib.hid ho2
  have HB2 := Lib.hid (HB1.out.trans (hb2.mono HB1.out.size))
  have hl2 := hb2.size
  have K2 := Lib.hid k2
  clear ho2 hb2 k2 HCL x37
  go_wp2
  have k3 := K2.out.setL (.slice A' L.length c')
  have ho3 : Only (fun k => k = w.heap.size) w2 (w2.setCell ⟨w.heap.size, 37, none⟩ (.slice A' L.length c')) := Only.setCell _ _ _ rfl
  have hlow : Below w.heap.size w (w2.setCell ⟨w.heap.size, 37, none⟩ (.slice A' L.length c')) := HB2.out.trans ⟨ho3.os, ho3.tape, ho3.output, ho3.size, fun k hk => ho3.block k (Nat.lt_of_lt_of_le hk HB2.out.size) (fun e => by have e : k = w.heap.size := e; omega)⟩
  have hz3 := ho3.size
  have hvb : ∀ k, (Value.slice A' L.length c').ownBlock = some k → w1.heap.size ≤ k ∧ k < w2.heap.size := HO2.out.lt
  go_ret
  refine ⟨rfl, hlow, ⟨⟨_, k3, ownB_mono (ho3.own HO2.out (fun k hk e => by have := hvb k hk; have e : k = w.heap.size := e; omega)) (Nat.zero_le _), fun e => by have := hvb _ e; omega, fun k hk => by have := hvb k hk; exact ⟨by omega, by omega⟩⟩, ⟨Nat.le_refl _, by omega⟩, fun k hk => hk.2, HH.out.few, fun e he => ?_, HH.out.q⟩⟩
  have q := HH.out.ent e he
  have qb := q.below hlow
  exact ⟨q.ok, q.sh, q.ln, q.lb, q.ix, q.nil, qb.rd, fun a ha h0 hs => by have := rdP_lt q.rd ha h0; have := hs.1; omega⟩
end Go.Proofs.Ytgcfofnlgdfmoaa
