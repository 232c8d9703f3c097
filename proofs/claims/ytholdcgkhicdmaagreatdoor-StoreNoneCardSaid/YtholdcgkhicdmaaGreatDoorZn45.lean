/- Several texts in one: StIn3, StPre, StNon, StRt, StFu, StR4, StNm. -/
import Derived.Test.YtholdcgkhicdmaaGreatDoorZn44
namespace Go.Proofs.YtholdcgkhicdmaaGreatDoor
open Go.RowKit
theorem spOk_of {q : Nat} {X : Sp} {L : List Ett} (h : OfOk q X L) (hh : ∀ i, 32 ≤ i → X.h i = 0) : ∃ k, SpOk X L k := by
  obtain ⟨⟨h1, h2, h3, h4⟩, ⟨b, E, h5, h6⟩, h7⟩ := h
  obtain ⟨r1, r2⟩ := chk_rise h5
  refine ⟨X.n + X.v + cntE L + L.length, ⟨by omega, by omega, r1, r2, h3, fun i => ?_, by omega, by omega⟩⟩
  by_cases hi : i < 32
  · exact (h6 i hi).m
  · rw [hh i (by omega)]; omega
theorem bsX_high (s : St) (i : Nat) (hi : 32 ≤ i) : (bsX 32 s).h i = 0 := by
  have key : ∀ k, k ≤ i → ((nR k (bsV s).2).1).getD i 0 = 0 := fun k hk => by
    rw [List.getD_eq_getElem?_getD, List.getElem?_eq_none (by rw [nR_len]; exact hk)]
    rfl
  have e : ∀ k, (bsX k s).h i = ((nR k (bsV s).2).1).getD i 0 := fun k => rfl
  rw [e 32]
  exact key 32 hi
theorem SpOk.withQ {X : Sp} {L : List Ett} {k : Nat} (h : SpOk X L k) (q : Nat) : SpOk { X with q := q } L k := ⟨h.n1, h.nk, h.rise, h.ix, h.an, h.hs, h.ev, h.len⟩
theorem withQ_q (X : Sp) (q : Nat) : ({ X with q := q } : Sp).q = q := rfl
theorem InN.mk' {q B m f : Nat} {X : Sp} {K : List Ett} {F : List It} (h1 : ∃ k, SpOk X K k) (h2 : sumE K ≤ B - 4) (h3 : K.length ≤ B) (h4 : F.length ≤ B) (h5 : X.q = q) : InN q B ⟨X, K, F, m, f⟩ := ⟨h1, h2, h3, h4, h5⟩
section
variable {q B : Nat} {a a' : Ab} {c : List Nat}
theorem InN.rec_ (h : InN q B a) {self gen : Nat} (hok : OkB c) (hr : repA self gen a c = some a') (hB : B + c.length + 8 ≤ q) : InN q (B + c.length + 8) a' := by
  cases c with
  | nil => unfold repA at hr; cases hr
  | cons k r =>
    have hokr : OkB r := fun x hx => hok x (List.mem_cons_of_mem _ hx)
    have hlen : (k :: r).length = r.length + 1 := rfl
    rw [hlen] at hB ⊢
    by_cases k1 : k = 1
    · subst k1
      rw [repA_1] at hr
      unfold rep1 at hr
      split at hr
      · rename_i hc
        have e := Option.some.inj hr
        rw [← e]
        have hz := endE_zero hc.1
        obtain ⟨x, l2, hx⟩ : ∃ x l2, takeR (r, 0) = (x, (l2, 0)) := ⟨(takeR (r, 0)).1, (takeR (r, 0)).2.1, Prod.ext rfl (Prod.ext rfl hz)⟩
        have hb := takeR_b hokr hx
        rw [hx] at hc ⊢
        have hl2 : l2 = [] := by
          have h1 := hc.1
          unfold endE at h1
          simp only at h1
          split at h1
          · split at h1
            · assumption
            · cases h1
          · rename_i hne; exact absurd trivial hne
        have hrl : r.length = (itemB x).length := by
          have h2 := congrArg List.length hb.2.1
          rw [List.length_append, hl2] at h2
          simpa using h2
        have h3 := h.put (self := self) hb.2.2.1 hc.2 (by omega)
        rw [hrl]
        exact h3.more (by omega)
      · cases hr
    by_cases k2 : k = 2
    · subst k2
      rw [repA_2] at hr
      unfold rep2 at hr
      split at hr
      · rename_i hc
        rw [← Option.some.inj hr]
        exact (h.ack hc.2).more (by omega)
      · cases hr
    by_cases k3 : k = 3
    · subst k3
      rw [repA_3] at hr
      unfold rep3 at hr
      split at hr
      · rw [← Option.some.inj hr]
        have h1 := h.more (C := B + (r.length + 1) + 8) (by omega)
        exact ⟨h1.ok, h1.sum, h1.len, h1.F, h1.q⟩
      · cases hr
    by_cases k4 : k = 4
    · subst k4
      rw [repA_4] at hr
      unfold rep4 at hr
      split at hr
      · rename_i hc
        rw [← Option.some.inj hr]
        have hsn := sn_len hokr (endE_zero hc.1)
        obtain ⟨kk, hkk⟩ := spOk_of hc.2 (bsX_high _)
        have hsn2 : (sn2 r).1.length ≤ r.length := by omega
        have hF : (noteAll self [] (sn3 r).1).length ≤ (sn3 r).1.length := by
          have h5 : (noteAll self [] ((sn3 r).1.take (sn3 r).1.length)).length ≤ (sn3 r).1.length := noteAll_len
          rwa [List.take_length] at h5
        exact InN.mk' ⟨kk, hkk.withQ a.X.q⟩ (by omega) (by omega) (by omega) ((withQ_q _ _).trans h.q)
      · cases hr
    rw [repA_x k1 k2 k3 k4] at hr
    cases hr
theorem InN.reC (h : InN q B a) {k : Nat} {r : List Nat} (hok : OkB r) (hq1 : 64 ≤ q) (hq2 : q ≤ 65536) (hB2 : B ≤ 60000) (hB : B + r.length + 9 ≤ q) : ReOkA a r := by
  refine h.re hq1 hq2 hB2 (fun hp => ?_) (by omega)
  have hn : itemN (takeR (r, 0)).1 = 0 := by
    unfold partE at hp
    split at hp
    · rename_i hne; exact absurd hp hne
    · rename_i hne; exact Classical.byContradiction hne
  by_cases hz : (takeR (r, 0)).2.2 = 0
  · obtain ⟨x, l2, hx⟩ : ∃ x l2, takeR (r, 0) = (x, (l2, 0)) := ⟨(takeR (r, 0)).1, (takeR (r, 0)).2.1, Prod.ext rfl (Prod.ext rfl hz)⟩
    have hb := takeR_b hok hx
    rw [hx]
    refine ⟨hb.2.2.1, ?_⟩
    have h2 := congrArg List.length hb.2.1
    rw [List.length_append] at h2
    show B + 9 + (itemB x).length ≤ q
    omega
  · exfalso
    have hz1 : (takeR (r, 0)).1 = zeroI := by
      have h5 : (chkR (itR 12 8 8 16 (r, 0)).1 (itR 12 8 8 16 (r, 0)).2).2.2 = (takeR (r, 0)).2.2 := rfl
      show (chkR (itR 12 8 8 16 (r, 0)).1 (itR 12 8 8 16 (r, 0)).2).1 = zeroI
      unfold chkR at h5 ⊢
      split
      · rename_i h6
        rw [if_pos h6] at h5
        split
        · rename_i h7
          rw [if_pos h7] at h5
          exact absurd (h5.symm.trans h6) hz
        · rfl
      · rfl
    rw [hz1] at hn
    exact absurd hn (by decide +kernel)
end
def laidN (cs : List (List Nat)) : Nat := (cs.map fun c => c.length + 8).sum
theorem laidN_take {cs : List (List Nat)} {j : Nat} {c : List Nat} (h : cs[j]? = some c) : laidN (cs.take (j + 1)) = laidN (cs.take j) + (c.length + 8) := by
  unfold laidN
  rw [List.take_add_one, h]
  simp
theorem laidN_le (cs : List (List Nat)) (j : Nat) : laidN (cs.take j) ≤ laidN cs := by
  have h : laidN cs = laidN (cs.take j) + laidN (cs.drop j) := by
    unfold laidN
    rw [← List.sum_append, ← List.map_append, List.take_append_drop]
  omega
theorem InN.all {q self gen : Nat} {cs : List (List Nat)} (hok : ∀ c ∈ cs, OkB c) (hB : laidN cs ≤ q) : ∀ (j : Nat) {a : Ab}, j ≤ cs.length → repAll self gen ⟨⟨q, 1, 0, 0, fun _ => 0⟩, [], [], 0, 0⟩ (cs.take j) = some a → InN q (laidN (cs.take j)) a
  | 0, a, _, h => by
    rw [← Option.some.inj (show some (⟨⟨q, 1, 0, 0, fun _ => 0⟩, [], [], 0, 0⟩ : Ab) = some a from h)]
    exact InN.zero q
  | j + 1, a, hj, h => by
    obtain ⟨c, hc⟩ : ∃ c, cs[j]? = some c := ⟨_, List.getElem?_eq_getElem (by omega)⟩
    rw [repAll_step hc] at h
    cases hb : repAll self gen ⟨⟨q, 1, 0, 0, fun _ => 0⟩, [], [], 0, 0⟩ (cs.take j) with
    | none => rw [hb] at h; cases h
    | some b =>
      rw [hb] at h
      have ih := InN.all hok hB j (by omega) hb
      have h1 := laidN_take hc
      have h2 := laidN_le cs (j + 1)
      rw [h1]
      exact ih.rec_ (self := self) (gen := gen) (hok c (List.mem_of_getElem? hc)) h (by omega)
theorem InN.may {q self gen : Nat} {cs : List (List Nat)} (hok : ∀ c ∈ cs, OkB c) (hq1 : 64 ≤ q) (hq2 : q ≤ 60000) (hB : laidN cs ≤ q) {j k : Nat} {r : List Nat} {a : Ab} (hj : cs[j]? = some (k :: r)) (h : repAll self gen ⟨⟨q, 1, 0, 0, fun _ => 0⟩, [], [], 0, 0⟩ (cs.take j) = some a) : ReOkA a r := by
  have hjl := (List.getElem?_eq_some_iff.1 hj).1
  have ih := InN.all hok hB j (by omega) h
  have h1 := laidN_take hj
  have h2 := laidN_le cs (j + 1)
  have h3 : (k :: r).length = r.length + 1 := rfl
  exact ih.reC (k := k) (fun x hx => hok _ (List.mem_of_getElem? hj) x (List.mem_cons_of_mem _ hx)) hq1 (by omega) (by omega) (by omega)
theorem laidN_join : ∀ cs : List (List Nat), laidN cs = (joinR cs).length
  | [] => rfl
  | c :: cs => by
    have ih := laidN_join cs
    have h1 : laidN (c :: cs) = (c.length + 8) + laidN cs := by simp [laidN]
    have h2 : joinR (c :: cs) = laidR c ++ joinR cs := by simp [joinR]
    rw [h1, h2, List.length_append, laidR_length, ih]
theorem recs_small {b : List Nat} (hok : OkB b) : (∀ c ∈ (scanJ b).1, OkB c) ∧ laidN (scanJ b).1 ≤ b.length := by
  obtain ⟨h1, h2⟩ := scanJ_laid b.length b (Nat.le_refl _) hok
  refine ⟨fun c hc => (h1 c hc).1, ?_⟩
  rw [laidN_join, ← h2, List.length_take]
  omega
theorem laidN_each {cs : List (List Nat)} {c : List Nat} (h : c ∈ cs) : c.length + 8 ≤ laidN cs := by
  obtain ⟨j, hj, rfl⟩ := List.getElem_of_mem h
  have h1 := laidN_take (List.getElem?_eq_getElem hj)
  have h2 := laidN_le cs (j + 1)
  omega
theorem laidN_count : ∀ cs : List (List Nat), cs.length ≤ laidN cs
  | [] => Nat.le_refl _
  | c :: cs => by
    have ih := laidN_count cs
    have h1 : laidN (c :: cs) = (c.length + 8) + laidN cs := by simp [laidN]
    rw [List.length_cons]
    omega
theorem repA_first {self : Nat} {a a' : Ab} {c : List Nat} (h : repA self 0 a c = some a') : a'.f = a.f := by
  cases c with
  | nil => unfold repA at h; cases h
  | cons k r =>
    by_cases k1 : k = 1
    · subst k1
      rw [repA_1] at h
      unfold rep1 at h
      split at h
      · rw [← Option.some.inj h]; rfl
      · cases h
    by_cases k2 : k = 2
    · subst k2
      rw [repA_2] at h
      unfold rep2 at h
      split at h
      · rw [← Option.some.inj h]; rfl
      · cases h
    by_cases k3 : k = 3
    · subst k3
      rw [repA_3] at h
      unfold rep3 at h
      split at h
      · rw [← Option.some.inj h]
      · cases h
    by_cases k4 : k = 4
    · subst k4
      rw [repA_4] at h
      unfold rep4 at h
      split at h
      · rw [← Option.some.inj h]; rfl
      · cases h
    rw [repA_x k1 k2 k3 k4] at h
    cases h
theorem repAll_first {self : Nat} : ∀ (cs : List (List Nat)) {a a' : Ab}, repAll self 0 a cs = some a' → a'.f = a.f
  | [], a, a', h => by rw [← Option.some.inj (show some a = some a' from h)]
  | c :: cs, a, a', h => by
    unfold repAll at h
    rw [List.foldlM_cons] at h
    cases hb : repA self 0 a c with
    | none => rw [hb] at h; cases h
    | some b =>
      rw [hb] at h
      exact (repAll_first cs (show repAll self 0 b cs = some a' from h)).trans (repA_first hb)
theorem had_open {LL : List (ByteArray × Fl)} {s : ByteArray} {q : Nat} (h : ∀ f, findP LL s = some f → f.by_.length ≤ q) : (had (open9 LL s) s).by_.length ≤ q := by
  unfold open9
  cases hf : findP LL s with
  | none =>
    unfold had
    simp only
    rw [hf]
    exact Nat.zero_le _
  | some f =>
    unfold had
    simp only
    rw [findP_set]
    have := h f hf
    show (f.by_.take (scanJ f.by_).2).length ≤ q
    rw [List.length_take]
    omega
theorem openPre_of {me q : Nat} {LL : List (ByteArray × Fl)} {os : List (Option Nat)} (hG : GNs LL os) (h0 : topG os = 0) (hfew : LL.length < 64)
    (hT : ∃ os2, GNs (open9 LL (nmG 0)) os2 ∧ ∀ (i : Nat) p k, (open9 LL (nmG 0))[i]? = some p → os2[i]? = some (some k) → p.1 = nmG 0) (hlo : (open9 LL (nmG 0)).length < 64) (hno : ∀ p ∈ open9 LL (nmG 0), p.1 ≠ nmN) (hse : me < 32) (hq1 : 64 ≤ q) (hq2 : q ≤ 20000)
    (hl : ∀ f, findP LL (nmG 0) = some f → OkB f.by_ ∧ f.by_.length ≤ q) : OpenPre me 0 ⟨q, 1, 0, 0, fun _ => 0⟩ LL os := by
  have hrec : (∀ c ∈ recs9 LL (nmG 0), OkB c) ∧ laidN (recs9 LL (nmG 0)) ≤ q := by
    unfold recs9
    cases hf : findP LL (nmG 0) with
    | none => exact ⟨fun c hc => (by cases hc), Nat.zero_le _⟩
    | some f =>
      obtain ⟨h1, h2⟩ := hl f hf
      obtain ⟨h3, h4⟩ := recs_small h1
      exact ⟨h3, Nat.le_trans h4 h2⟩
  have hhad := had_open (q := q) (fun f hf => (hl f hf).2)
  refine ⟨hG, h0, hfew, hT, hlo, by omega, hno, hse, fun f hf => by have := (hl f hf).2; omega, fun c hc => by have := laidN_each hc; have := hrec.2; omega, by have := laidN_count (recs9 LL (nmG 0)); have := hrec.2; omega, fun j k r a hj h => InN.may hrec.1 hq1 (by omega) hrec.2 hj h, fun a R1 hra e1 e2 e3 e4 e5 => ?_⟩
  have hf0 : R1.first = 0 := by
    have h1 : R1.ab.f = a.f := by rw [e4]
    have h2 := repAll_first _ hra
    exact h1.trans h2
  have hall := InN.all (self := me) (gen := 0) hrec.1 hrec.2 (recs9 LL (nmG 0)).length (a := a) (Nat.le_refl _) (by rw [List.take_length]; exact hra)
  have hq : R1.X.q = q := by
    have h1 : R1.ab.X = a.X := by rw [e4]
    have h2 : R1.X = a.X := h1
    rw [h2]
    exact hall.q
  refine ⟨by omega, by omega, by rw [e3]; exact nmG_max (by decide), _, by rw [e5, e3]; exact findP_set _ _ _, fun hlong => ?_⟩
  exfalso
  have h5 : (leb ((a.m + 1) % 18446744073709551616)).length ≤ 10 := leb_le10 (Nat.mod_lt _ (by decide))
  have h6 : ((had (open9 LL (nmG 0)) (nmG 0)).by_ ++ laidR (3 :: leb ((a.m + 1) % 18446744073709551616))).length ≤ q + 19 := by
    rw [List.length_append, laidR_length, List.length_cons]
    omega
  have h7 : R1.first + 4 * R1.X.q + 1024 < ((had (open9 LL (nmG 0)) (nmG 0)).by_ ++ laidR (3 :: leb ((a.m + 1) % 18446744073709551616))).length := hlong
  omega
theorem gn_zero : GN (nmG 0) (some 0) := .inl ⟨0, by decide, rfl, rfl⟩
theorem gn_other : GN nmO none := .inr ⟨rfl, rfl⟩
theorem nm0_ne_other : nmG 0 ≠ nmO := by decide +kernel
theorem nmO_ne_new : nmO ≠ nmN := by decide +kernel
theorem nm0_ne_new : nmG 0 ≠ nmN := by decide +kernel
theorem lt_zero_other : ltS (nmG 0) nmO = false := by decide +kernel
theorem lt_other_zero : ltS nmO (nmG 0) = true := by decide +kernel
theorem gns_nil : GNs [] [] := ⟨rfl, fun i p o h => by simp at h⟩
theorem gns_one (f : Fl) : GNs [(nmG 0, f)] [some 0] := ⟨rfl, fun i p o h1 h2 => by
  cases i with
  | zero =>
    simp at h1 h2
    rw [← h1, ← h2]
    exact gn_zero
  | succ i => simp at h1⟩
theorem gns_two (f1 f2 : Fl) : GNs [(nmO, f1), (nmG 0, f2)] [none, some 0] := ⟨rfl, fun i p o h1 h2 => by
  match i with
  | 0 =>
    simp at h1 h2
    rw [← h1, ← h2]
    exact gn_other
  | 1 =>
    simp at h1 h2
    rw [← h1, ← h2]
    exact gn_zero
  | i + 2 => simp at h1⟩
theorem put_other (f1 f2 x : Fl) : putP [(nmO, f1), (nmG 0, f2)] (nmG 0) x = [(nmO, f1), (nmG 0, x)] := by
  have e1 : eqS nmO (nmG 0) = false := eqS_no (Ne.symm nm0_ne_other)
  simp [putP, delP, insP, eqS_refl, e1, lt_zero_other]
theorem find_other (f1 f2 : Fl) : findP [(nmO, f1), (nmG 0, f2)] (nmG 0) = some f2 := by
  have e1 : eqS nmO (nmG 0) = false := eqS_no (Ne.symm nm0_ne_other)
  simp [findP, eqS_refl, e1]
theorem open_one (f : Fl) : open9 [(nmG 0, f)] (nmG 0) = [(nmG 0, ⟨f.by_.take (scanJ f.by_).2, (scanJ f.by_).2⟩)] := by
  unfold open9
  rw [findP_one]
  exact put_one9
theorem open_two (f1 f2 : Fl) : open9 [(nmO, f1), (nmG 0, f2)] (nmG 0) = [(nmO, f1), (nmG 0, ⟨f2.by_.take (scanJ f2.by_).2, (scanJ f2.by_).2⟩)] := by
  unfold open9
  rw [find_other]
  exact put_other _ _ _
theorem openPre_one {me q : Nat} {f : Fl} (hse : me < 32) (hq1 : 64 ≤ q) (hq2 : q ≤ 20000) (hok : OkB f.by_) (hl : f.by_.length ≤ q) : OpenPre me 0 ⟨q, 1, 0, 0, fun _ => 0⟩ [(nmG 0, f)] [some 0] := by
  refine openPre_of (gns_one f) rfl (by simp) ⟨[some 0], by rw [open_one]; exact gns_one _, fun i p k h1 h2 => ?_⟩ (by rw [open_one]; simp) (fun p hp => ?_) hse hq1 hq2 (fun f' hf => ?_)
  · rw [open_one] at h1
    cases i with
    | zero => simp at h1; rw [← h1]
    | succ i => simp at h1
  · rw [open_one, List.mem_singleton] at hp
    rw [hp]
    exact nm0_ne_new
  · rw [findP_one] at hf
    rw [← Option.some.inj hf]
    exact ⟨hok, hl⟩
theorem openPre_two {me q : Nat} {f1 f2 : Fl} (hse : me < 32) (hq1 : 64 ≤ q) (hq2 : q ≤ 20000) (hok : OkB f2.by_) (hl : f2.by_.length ≤ q) : OpenPre me 0 ⟨q, 1, 0, 0, fun _ => 0⟩ [(nmO, f1), (nmG 0, f2)] [none, some 0] := by
  refine openPre_of (gns_two f1 f2) rfl (by simp) ⟨[none, some 0], by rw [open_two]; exact gns_two _ _, fun i p k h1 h2 => ?_⟩ (by rw [open_two]; simp) (fun p hp => ?_) hse hq1 hq2 (fun f' hf => ?_)
  · rw [open_two] at h1
    match i with
    | 0 => simp at h2
    | 1 => simp at h1; rw [← h1]
    | i + 2 => simp at h1
  · rw [open_two] at hp
    rcases List.mem_cons.1 hp with rfl | hp
    · exact nmO_ne_new
    · rw [List.mem_singleton] at hp
      rw [hp]
      exact nm0_ne_new
  · rw [find_other] at hf
    rw [← Option.some.inj hf]
    exact ⟨hok, hl⟩
theorem repAll_kind {self k : Nat} {a0 : Ab} (hk : 5 ≤ k) : repAll self 0 a0 [[k]] = none := by
  unfold repAll
  rw [List.foldlM_cons, repA_x (by omega) (by omega) (by omega) (by omega)]
  rfl
theorem takeR_itemB {x : It} (hx : OkI x) (h : itemN x = 0) (hn : normI x = x) (rest : List Nat) : takeR (itemB x ++ rest, 0) = (x, (rest, 0)) := by
  have h1 := takeR_p hx h rest
  rw [hn] at h1
  exact h1
theorem rU_back {n : Nat} (h : n < 18446744073709551616) (rest : List Nat) : rU (leb n ++ rest, 0) = (n, (rest, 0)) := rU_p h rest
theorem endE_ok : endE (([] : List Nat), 0) = 0 := rfl
theorem rep1_back {self : Nat} {a : Ab} {x : It} (hx : OkI x) (h : itemN x = 0) (hn : normI x = x) (h0 : (putV a.X a.K x).1 = 0) : rep1 self a (itemB x) = some (putA self a x) := by
  have h1 := takeR_itemB hx h hn []
  rw [List.append_nil] at h1
  unfold rep1
  rw [h1, if_pos ⟨rfl, h0⟩]
theorem rep3_back {a : Ab} {m : Nat} (hm : m < 18446744073709551616) : rep3 a (leb m) = some { a with m := m } := by
  have h1 := rU_back hm []
  rw [List.append_nil] at h1
  unfold rep3
  rw [h1]
  exact if_pos endE_ok
theorem hisL_back {h : Nat → Nat} (hh : ∀ i, i < 32 → h i < 18446744073709551616) : ∀ (k : Nat) (rest : List Nat), k ≤ 32 → nR k (hisB h k ++ rest, 0) = ((List.range k).map h, (rest, 0))
  | 0, rest, _ => rfl
  | k + 1, rest, hk => by
    have ih := hisL_back hh k (leb (h k) ++ rest) (by omega)
    have e : hisB h (k + 1) ++ rest = hisB h k ++ (leb (h k) ++ rest) := by
      show (hisB h k ++ leb (h k)) ++ rest = _
      rw [List.append_assoc]
    rw [e]
    show ((nR k (hisB h k ++ (leb (h k) ++ rest), 0)).1 ++ [(rU (nR k (hisB h k ++ (leb (h k) ++ rest), 0)).2).1], (rU (nR k (hisB h k ++ (leb (h k) ++ rest), 0)).2).2) = _
    rw [ih, rU_back (hh k (by omega)), List.range_succ, List.map_append]
    rfl
def EntR (e : Ett) : Prop := OkI e.x ∧ itemN e.x = 0 ∧ normI e.x = e.x ∧ e.i < 18446744073709551616
theorem entsR_back : ∀ (K acc : List Ett) (rest : List Nat), (∀ e ∈ K, EntR e) → entsR K.length acc (entsB K ++ rest, 0) = (acc ++ ers K, (rest, 0))
  | [], acc, rest, _ => by
    show (acc, (rest, 0)) = _
    rw [show ers [] = [] from rfl, List.append_nil]
  | e :: K, acc, rest, h => by
    obtain ⟨h1, h2, h3, h4⟩ := h e (List.mem_cons_self ..)
    have e0 : entsB (e :: K) ++ rest = leb e.i ++ (itemB e.x ++ (entsB K ++ rest)) := by
      have : entsB (e :: K) = leb e.i ++ itemB e.x ++ entsB K := by simp [entsB]
      rw [this]
      simp only [List.append_assoc]
    rw [e0, List.length_cons, entsR_step rfl, rU_back h4, takeR_itemB h1 h2 h3]
    have ih := entsR_back K (acc ++ [⟨e.i, e.x, none, 0⟩]) rest (fun e' he' => h e' (List.mem_cons_of_mem _ he'))
    refine ih.trans ?_
    rw [show ers (e :: K) = ⟨e.i, e.x, none, 0⟩ :: ers K from rfl, List.append_assoc]
    rfl
theorem firR_back : ∀ (F acc : List It) (rest : List Nat), (∀ x ∈ F, OkI x ∧ itemN x = 0 ∧ normI x = x ∧ x.g = false ∧ x.s = 2) → firR F.length acc (firesB F ++ rest, 0) = (acc ++ F, (rest, 0))
  | [], acc, rest, _ => by
    show (acc, (rest, 0)) = _
    rw [List.append_nil]
  | x :: F, acc, rest, h => by
    obtain ⟨h1, h2, h3, h4, h5⟩ := h x (List.mem_cons_self ..)
    have e0 : firesB (x :: F) ++ rest = itemB x ++ (firesB F ++ rest) := by
      have : firesB (x :: F) = itemB x ++ firesB F := by simp [firesB]
      rw [this, List.append_assoc]
    rw [e0, List.length_cons, firR_step rfl, takeR_itemB h1 h2 h3, if_neg (fun hb => hb.elim (fun hg => by rw [h4] at hg; cases hg) (fun hs => hs h5))]
    have ih := firR_back F (acc ++ [x]) rest (fun y hy => h y (List.mem_cons_of_mem _ hy))
    refine ih.trans ?_
    rw [List.append_assoc]
    rfl
theorem sn_back {X : Sp} {K : List Ett} {F : List It} {m : Nat} (hn : X.n < 18446744073709551616) (ha : X.a < 18446744073709551616) (hv : X.v < 18446744073709551616) (hh : ∀ i, i < 32 → X.h i < 18446744073709551616) (hm : m < 18446744073709551616) (hK : ∀ e ∈ K, EntR e) (hF : ∀ x ∈ F, OkI x ∧ itemN x = 0 ∧ normI x = x ∧ x.g = false ∧ x.s = 2) (hKl : K.length < 18446744073709551616) (hFl : F.length < 18446744073709551616) :
    (sn1 (snapB m X K F)).1 = m ∧ (sn2 (snapB m X K F)).1 = ers K ∧ sn3 (snapB m X K F) = (F, ([], 0)) ∧ ∀ k, k ≤ 32 → k = 32 → bsX k (sn1 (snapB m X K F)).2 = ⟨0, X.n, X.a, X.v, fun i => ((List.range k).map X.h).getD i 0⟩ := by
  obtain ⟨R, hR⟩ : ∃ z, z = leb F.length ++ firesB F := ⟨_, rfl⟩
  have e1 : sn1 (snapB m X K F) = (m, (baseB X K ++ R, 0)) := by
    unfold sn1 snapB
    rw [hR]
    have h1 := rU_back hm (baseB X K ++ (leb F.length ++ firesB F))
    simp only [List.append_assoc] at h1 ⊢
    exact h1
  obtain ⟨H, hH⟩ : ∃ z, z = hisB X.h 32 := ⟨_, rfl⟩
  have e2 : baseB X K ++ R = leb X.n ++ (leb X.a ++ (leb X.v ++ (H ++ (leb K.length ++ (entsB K ++ R))))) := by
    unfold baseB
    rw [← hH]
    simp only [List.append_assoc]
  obtain ⟨s, hs⟩ : ∃ s : St, s = (leb X.n ++ (leb X.a ++ (leb X.v ++ (H ++ (leb K.length ++ (entsB K ++ R))))), 0) := ⟨_, rfl⟩
  rw [e2, ← hs] at e1
  have b1 : bsN s = (X.n, (leb X.a ++ (leb X.v ++ (H ++ (leb K.length ++ (entsB K ++ R)))), 0)) := by unfold bsN; rw [hs]; exact rU_back hn _
  have b2 : bsA s = (X.a, (leb X.v ++ (H ++ (leb K.length ++ (entsB K ++ R))), 0)) := by unfold bsA; rw [b1]; exact rU_back ha _
  have b3 : bsV s = (X.v, (H ++ (leb K.length ++ (entsB K ++ R)), 0)) := by unfold bsV; rw [b2]; exact rU_back hv _
  have b4 : ∀ k, k ≤ 32 → H = hisB X.h k → bsH k s = ((List.range k).map X.h, (leb K.length ++ (entsB K ++ R), 0)) := fun k hk hHk => by
    unfold bsH
    rw [b3, hHk]
    exact hisL_back hh k _ hk
  have b5 : bsC s = (K.length, (entsB K ++ R, 0)) := by
    unfold bsC
    rw [b4 32 (Nat.le_refl _) hH]
    exact rU_back hKl _
  have b6 : baseR s = (ers K, (R, 0)) := by
    unfold baseR
    rw [b5]
    exact entsR_back K [] R hK
  have e3 : sn2 (snapB m X K F) = (ers K, (R, 0)) := by
    unfold sn2
    rw [e1]
    exact b6
  have b7 : fsC (R, 0) = (F.length, (firesB F, 0)) := by
    unfold fsC
    rw [hR]
    exact rU_back hFl _
  have b8 : firesR (R, 0) = (F, ([], 0)) := by
    unfold firesR
    rw [b7]
    have h1 := firR_back F [] [] hF
    rw [List.append_nil] at h1
    exact h1
  have e4 : sn3 (snapB m X K F) = (F, ([], 0)) := by
    unfold sn3
    rw [e3]
    exact b8
  refine ⟨by rw [e1], by rw [e3], e4, fun k hk hk2 => ?_⟩
  rw [e1]
  have hHk : H = hisB X.h k := by rw [hk2]; exact hH
  unfold bsX
  rw [b1, b2, b3, b4 k hk hHk]
theorem chk_any9 {n : Nat} {h : Nat → Nat} : ∀ {L : List Ett} {b : Nat} {E F : Nat → Nat}, (∀ o, ∃ m, chainO o L (F o) = some m) → (∀ o, E o = 0 ∨ E o = F o) → (idxL L).Pairwise (· < ·) → (∀ i ∈ idxL L, b < i ∧ i < n) → (∀ e ∈ L, spT e.x ≤ h (spO e.x)) → ∃ b' E', chkL n h L b E = some (b', E') ∧ ∀ o, E' o = 0 ∨ chainO o L (F o) = some (E' o)
  | [], b, E, F, _, hE, _, _, _ => ⟨b, E, rfl, fun o => (hE o).imp id (fun e => by rw [e]; rfl)⟩
  | e :: L, b, E, F, hc, hE, hp, hi, ht => by
    have hp' : (e.i :: idxL L).Pairwise (· < ·) := hp
    rw [List.pairwise_cons] at hp'
    have hie := hi e.i List.mem_cons_self
    have hf : spF e.x = F (spO e.x) + 1 := by
      obtain ⟨m, hm⟩ := hc (spO e.x)
      unfold chainO at hm
      rw [if_pos rfl] at hm
      split at hm
      · assumption
      · cases hm
    have hk : ChkE n h b E e := ⟨hie.1, hie.2, (hE (spO e.x)).imp id (fun e1 => by rw [e1]; exact hf), ht e List.mem_cons_self⟩
    have e0 : chkL n h (e :: L) b E = chkL n h L e.i (upT E e.x) := by
      show (if _ then _ else _) = _
      rw [if_pos hk]
    have hch : ∀ o, chainO o (e :: L) (F o) = chainO o L (upT F e.x o) := fun o => by
      conv => lhs; unfold chainO
      unfold upT
      by_cases ho : spO e.x = o
      · rw [if_pos ho, ← ho, if_pos hf]
        simp
      · rw [if_neg ho]
        simp [Ne.symm ho]
    obtain ⟨b', E', h1, h2⟩ := chk_any9 (L := L) (b := e.i) (E := upT E e.x) (F := upT F e.x) (fun o => by
      obtain ⟨m, hm⟩ := hc o
      rw [hch o] at hm
      exact ⟨m, hm⟩) (fun o => by
      unfold upT
      split
      · exact .inr rfl
      · exact hE o) hp'.2 (fun i hi2 => ⟨hp'.1 i hi2, (hi i (List.mem_cons_of_mem _ hi2)).2⟩) (fun x hx => ht x (List.mem_cons_of_mem _ hx))
    exact ⟨b', E', by rw [e0]; exact h1, fun o => (h2 o).imp id (fun h3 => by rw [hch o]; exact h3)⟩
theorem itemB_one (x : It) : 1 ≤ (itemB x).length := by
  unfold itemB
  split <;> simp
theorem len_sum : ∀ L : List Ett, L.length ≤ sumE L
  | [] => Nat.le_refl _
  | e :: L => by
    have ih := len_sum L
    have h1 := itemB_one e.x
    rw [sumE_cons, List.length_cons]
    omega
structure Fc (X : Sp) (K : List Ett) (k : Nat) : Prop where
  ok : SpOk X K k
  cov : ∃ F, Cov F X.h K
  sum : sumE K ≤ X.q
  hi : ∀ i, 32 ≤ i → X.h i = 0
theorem Fc.of {X : Sp} {K : List Ett} {k : Nat} (h : Fc X K k) (hk : k ≤ 1000000) : OfOk X.q X K := by
  obtain ⟨F, hc⟩ := h.cov
  obtain ⟨b, E, h1, h2⟩ := chk_any9 (n := X.n) (h := X.h) (L := K) (b := X.a) (E := fun _ => 0) (F := F) (fun o => ⟨_, hc.ch o⟩) (fun _ => .inl rfl) h.ok.rise h.ok.ix (fun e he => (hc.ok e he).2)
  have hl := len_sum K
  have hs := h.sum
  refine ⟨⟨by have := h.ok.n1; omega, by have := h.ok.nk; omega, h.ok.an, by omega⟩, ⟨b, E, h1, fun o _ => ⟨(h2 o).imp id (fun h3 => ?_), h.ok.hs o⟩⟩, h.sum⟩
  rw [hc.ch o] at h3
  exact (Option.some.inj h3).symm
theorem Fc.new (q : Nat) : Fc ⟨q, 1, 0, 0, fun _ => 0⟩ [] 0 := ⟨SpOk.new q, ⟨fun _ => 0, ⟨fun _ => rfl, fun e he => by cases he⟩⟩, Nat.zero_le _, fun _ _ => rfl⟩
theorem putR_high {X : Sp} {L : List Ett} (h : ∀ i, 32 ≤ i → X.h i = 0) (x : It) (A : Option Addr) (c : Nat) : ∀ i, 32 ≤ i → (putR X L x A c).2.2.2.1.h i = 0 := by
  intro i hi
  unfold putR
  by_cases h0 : partE x X.h = 0
  · rw [if_neg (fun hne => hne h0)]
    have hn : itemN x = 0 := by
      unfold partE at h0
      split at h0
      · rename_i hne; exact absurd h0 hne
      · rename_i hne; exact Classical.byContradiction hne
    simp only
    split
    · exact h i hi
    · split
      · exact h i hi
      · have hso := itemN_spO hn
        show upH X.h (spO (partI x X.h)) (spT (partI x X.h)) i = 0
        rw [(part_right h0).2.1]
        unfold upH
        rw [if_neg (by omega)]
        exact h i hi
  · rw [if_pos h0]
    exact h i hi
theorem Fc.put {X : Sp} {K : List Ett} {k : Nat} (h : Fc X K k) (x : It) : Fc (putV X K x).2.2.2.1 (putV X K x).2.2.2.2 (k + 1) := by
  obtain ⟨F, hc⟩ := h.cov
  refine ⟨h.ok.put x none 0, ⟨F, hc.put x none 0⟩, ?_, putR_high h.hi x none 0⟩
  unfold putV
  rw [putR_q]
  exact sum_put h.sum x none 0
theorem OfOk.withQ {q q' : Nat} {X : Sp} {L : List Ett} (h : OfOk q X L) : OfOk q { X with q := q' } L := by
  obtain ⟨⟨h1, h2, h3, h4⟩, ⟨b, E, h5, h6⟩, h7⟩ := h
  exact ⟨⟨h1, h2, h3, h4⟩, ⟨b, E, h5, fun o ho => ⟨(h6 o ho).e, (h6 o ho).m⟩⟩, h7⟩
theorem range_high {h : Nat → Nat} {k : Nat} (hh : ∀ i, k ≤ i → h i = 0) : (fun i => ((List.range k).map h).getD i 0) = h := by
  funext i
  rw [List.getD_eq_getElem?_getD, List.getElem?_map]
  by_cases hi : i < k
  · rw [List.getElem?_range hi]
    rfl
  · rw [List.getElem?_eq_none (by rw [List.length_range]; omega), hh i (by omega)]
    rfl
theorem rep4_back {self gen : Nat} {a : Ab} {X : Sp} {K : List Ett} {F : List It} {m k : Nat} (h : Fc X K k) (hk : k ≤ 1000000) (hq : a.X.q = X.q) (hv : X.v < 18446744073709551616) (hm : m < 18446744073709551616) (hK : ∀ e ∈ K, EntR e)
    (hF : ∀ x ∈ F, OkI x ∧ itemN x = 0 ∧ normI x = x ∧ x.g = false ∧ x.s = 2) (hFl : F.length < 18446744073709551616) (hFn : noteAll self [] F = F) :
    rep4 self gen a (snapB m X K F) = some ⟨X, ers K, F, m, if 0 < gen then (snapB m X K F).length + 9 else a.f⟩ := by
  have hn : X.n < 18446744073709551616 := by have := h.ok.nk; omega
  have ha : X.a < 18446744073709551616 := by have := h.ok.an; omega
  obtain ⟨e1, e2, e3, e4⟩ := sn_back (X := X) (K := K) (F := F) (m := m) hn ha hv (fun i _ => by have := h.ok.hs i; omega) hm hK hF (by have := h.ok.len; omega) hFl
  have e5 : bsX 32 (sn1 (snapB m X K F)).2 = { X with q := 0 } := by
    have key : ∀ k, k ≤ 32 → k = 32 → bsX k (sn1 (snapB m X K F)).2 = { X with q := 0 } := fun k hk1 hk2 => by
      rw [e4 k hk1 hk2, range_high (fun i hi => h.hi i (by omega))]
    exact key 32 (Nat.le_refl _) rfl
  have hof : OfOk a.X.q (bsX 32 (sn1 (snapB m X K F)).2) (sn2 (snapB m X K F)).1 := by
    rw [e5, e2, hq]
    exact OfOk.ers.2 (h.of hk).withQ
  have h3 : endE (sn3 (snapB m X K F)).2 = 0 := by rw [e3]; rfl
  unfold rep4
  rw [if_pos ⟨h3, hof⟩, e1, e2, e3, e5, hFn, hq]
theorem repA_snap {self gen : Nat} {a : Ab} {X : Sp} {K : List Ett} {F : List It} {m k : Nat} (h : Fc X K k) (hk : k ≤ 1000000) (hq : a.X.q = X.q) (hv : X.v < 18446744073709551616) (hm : m < 18446744073709551616) (hK : ∀ e ∈ K, EntR e)
    (hF : ∀ x ∈ F, OkI x ∧ itemN x = 0 ∧ normI x = x ∧ x.g = false ∧ x.s = 2) (hFl : F.length < 18446744073709551616) (hFn : noteAll self [] F = F) :
    repA self gen a (4 :: snapB m X K F) = some ⟨X, ers K, F, m, if 0 < gen then (snapB m X K F).length + 9 else a.f⟩ := by
  rw [repA_4]
  exact rep4_back h hk hq hv hm hK hF hFl hFn
def Nm (x : It) : Prop := OkI x ∧ normI x = x ∧ ShortI x ∧ x.l.length ≤ 1000
def NmL (L : List Ett) : Prop := ∀ e ∈ L, Nm e.x
theorem nm_gap {a f t : Nat} (ha : a < 256) (hf : f < 18446744073709551616) (ht : t < 18446744073709551616) : Nm ⟨true, 0, 0, 0, ⟨#[]⟩, [], 0, 0, 0, 0, a, f, t⟩ := ⟨gapI_ok ha hf ht, rfl, ⟨(Nat.zero_le 1048576 : 0 ≤ 1048576), fun i p hp => by simp at hp⟩, Nat.zero_le 1000⟩
theorem nm_zero : Nm zeroI := ⟨zeroI_ok, rfl, ⟨(Nat.zero_le 1048576 : 0 ≤ 1048576), fun i p hp => by simp [zeroI] at hp⟩, Nat.zero_le 1000⟩
theorem nm_join {x y : It} (hx : Nm x) (hy : Nm y) : Nm (joinI x y) := by
  unfold joinI
  split
  · exact nm_gap hx.1.ga hx.1.gf hy.1.gt
  · exact nm_zero
theorem nm_getD {L : List Ett} (h : NmL L) (k : Nat) : Nm (L.getD k entD).x := by
  rw [List.getD_eq_getElem?_getD]
  cases hk : L[k]? with
  | none => exact nm_zero
  | some e => exact h e (List.mem_of_getElem? hk)
theorem nm_joinK {L : List Ett} (h : NmL L) (a b : Option Nat) : NmL (joinK L a b).1 := fun e he => by
  cases a with
  | none => exact h e he
  | some a =>
    cases b with
    | none => exact h e he
    | some b =>
      unfold joinK at he
      simp only at he
      split at he
      · have h1 := cutE_mem he
        rcases List.mem_or_eq_of_mem_set h1 with h2 | rfl
        · exact h e h2
        · exact nm_join (nm_getD h _) (nm_getD h _)
      · exact h e he
theorem nm_span {x : It} (h : Nm x) : spO x < 256 ∧ spF x < 18446744073709551616 ∧ spT x < 18446744073709551616 := by
  unfold spO spF spT
  split
  · exact ⟨h.1.ga, h.1.gf, h.1.gt⟩
  · exact ⟨h.1.o, h.1.q, h.1.q⟩
theorem nm_evL {L : List Ett} (h : NmL L) {p : Nat} {e0 : Ett} (h0 : Nm e0.x) : NmL (evL L p e0) := by
  refine nm_joinK (nm_joinK (fun e he => ?_) _ _) _ _
  rcases List.mem_or_eq_of_mem_set he with h1 | rfl
  · exact h e h1
  · obtain ⟨a, b, c⟩ := nm_span h0
    exact nm_gap a b c
theorem nm_room {size q : Nat} : ∀ {fuel : Nat} {L : List Ett} {f v : Nat}, NmL L → NmL (roomK size q fuel L f v).2.1
  | fuel, L, f, v, h => by
    by_cases hf : sumE L + size ≤ q
    · rw [roomK_fit hf]; exact h
    · cases hl : leastK L L.length with
      | none => rw [roomK_none hf hl]; exact h
      | some p =>
        cases fuel with
        | zero =>
          unfold roomK
          rw [if_neg hf]
          exact h
        | succ k =>
          rw [roomK_some hf hl]
          exact nm_room (nm_evL h (nm_getD h p))
theorem nm_addJ {L : List Ett} (h : NmL L) {e0 : Ett} (h0 : Nm e0.x) : NmL (addJ L e0).1 := by
  have h1 : NmL (L ++ [e0]) := fun e he => by
    rcases List.mem_append.1 he with h2 | h2
    · exact h e h2
    · rw [List.mem_singleton] at h2; rw [h2]; exact h0
  unfold addJ
  split
  · exact nm_joinK h1 _ _
  · exact h1
theorem nm_part {x : It} (h : Nm x) {H : Nat → Nat} (hH : H (spO x) ≤ 1099511627776) : Nm (partI x H) := by
  unfold partI
  split
  · unfold trimI
    split
    · exact nm_zero
    · split
      · exact h
      · obtain ⟨a, b, c⟩ := nm_span h
        exact nm_gap a (by omega) c
  · exact nm_zero
theorem nm_putV {X : Sp} {K : List Ett} {x : It} (h : NmL K) (hx : Nm x) (hH : ∀ i, X.h i ≤ 1099511627776) : NmL (putV X K x).2.2.2.2 := by
  unfold putV putR
  split
  · exact h
  · simp only
    split
    · exact h
    · split
      · exact h
      · exact nm_addJ (nm_room h) (nm_part hx (hH _))
theorem Fc.entR {X : Sp} {K : List Ett} {k : Nat} (h : Fc X K k) (hk : k ≤ 1000000) (hn : NmL K) : ∀ e ∈ K, EntR e := fun e he => by
  obtain ⟨F, hc⟩ := h.cov
  have h1 := h.ok.ix e.i (List.mem_map_of_mem (f := fun e : Ett => e.i) he)
  have h2 := h.ok.nk
  exact ⟨(hn e he).1, (hc.ok e he).1, (hn e he).2.1, by omega⟩
end Go.Proofs.YtholdcgkhicdmaaGreatDoor
