/- Several texts in one: SpCovA, SpKept. -/
import Derived.Test.YtgcfofnlgdfmoaaMf38
import Derived.Test.YtgcfofnlgdfmoaaMf39
/- Layer 8: what a spool covers behind Ack, and read one item at a time. -/
namespace Go.Proofs.Ytgcfofnlgdfmoaa
open Go.RowKit

def upT (G : Nat → Nat) (x : It) : Nat → Nat := fun i => if i = spO x then spT x else G i
/-- each origin's last count behind these items -/
def adv : List Ett → (Nat → Nat) → Nat → Nat
  | [], F => F
  | e :: l, F => adv l (upT F e.x)
theorem adv_app : ∀ (l r : List Ett) (F : Nat → Nat), adv (l ++ r) F = adv r (adv l F)
  | [], r, F => rfl
  | e :: l, r, F => adv_app l r _
theorem chain_adv {o : Nat} : ∀ {l : List Ett} {F : Nat → Nat} {n : Nat}, chainO o l (F o) = some n → adv l F o = n
  | [], F, n, h => by injection h
  | e :: l, F, n, h => by
    show adv l (upT F e.x) o = n
    unfold chainO at h
    apply chain_adv
    unfold upT
    by_cases ho : spO e.x = o
    · rw [if_pos ho] at h
      rw [if_pos ho.symm]
      split at h
      · exact h
      · cases h
    · rw [if_neg ho] at h
      rw [if_neg (fun h => ho h.symm)]
      exact h
theorem same_cons {L M : List Ett} (h : SameE L M) : (L = [] ∧ M = []) ∨ ∃ a b l m, L = a :: l ∧ M = b :: m ∧ a.i = b.i ∧ a.x = b.x ∧ SameE l m := by
  unfold SameE at h
  cases L with
  | nil =>
    cases M with
    | nil => exact .inl ⟨rfl, rfl⟩
    | cons b m => cases h
  | cons a l =>
    cases M with
    | nil => cases h
    | cons b m =>
      rw [List.map_cons, List.map_cons] at h
      injection h with h1 h2
      injection h1 with h1 h3
      exact .inr ⟨a, b, l, m, rfl, rfl, h1, h3, h2⟩
theorem chain_same {o : Nat} : ∀ {L M : List Ett} {n : Nat}, SameE L M → chainO o L n = chainO o M n
  | L, M, n, h => by
    rcases same_cons h with ⟨rfl, rfl⟩ | ⟨a, b, l, m, rfl, rfl, _, hx, hs⟩
    · rfl
    · unfold chainO
      rw [hx]
      rw [chain_same (n := spT b.x) hs, chain_same (n := n) hs]
  termination_by L => L.length
theorem adv_same : ∀ {L M : List Ett} {F : Nat → Nat}, SameE L M → adv L F = adv M F
  | L, M, F, h => by
    rcases same_cons h with ⟨rfl, rfl⟩ | ⟨a, b, l, m, rfl, rfl, _, hx, hs⟩
    · rfl
    · show adv l (upT F a.x) = adv m (upT F b.x)
      rw [hx]
      exact adv_same hs
  termination_by L => L.length
theorem same_its {L M : List Ett} (h : SameE L M) : L.map (·.x) = M.map (·.x) := by
  have h2 := congrArg (List.map (fun p : Nat × It => p.2)) (show L.map (fun e => (e.i, e.x)) = M.map (fun e => (e.i, e.x)) from h)
  rw [List.map_map, List.map_map] at h2
  exact h2
theorem same_mem {L M : List Ett} (h : SameE L M) {e : Ett} (he : e ∈ M) : ∃ y ∈ L, y.x = e.x := by
  have : e.x ∈ M.map (·.x) := List.mem_map_of_mem he
  rw [← same_its h] at this
  obtain ⟨y, hy, hx⟩ := List.mem_map.1 this
  exact ⟨y, hy, hx⟩
section
variable {F H : Nat → Nat} {L : List Ett}
theorem Cov.drop (h : Cov F H L) (m : Nat) : Cov (adv (L.take m) F) H (L.drop m) := by
  refine ⟨fun o => ?_, fun e he => h.ok e (List.mem_of_mem_drop he)⟩
  have hc := h.ch o
  rw [← List.take_append_drop m L, chain_app] at hc
  cases hn : chainO o (L.take m) (F o) with
  | none => rw [hn] at hc; cases hc
  | some n =>
    rw [hn, Option.bind_some] at hc
    rw [chain_adv hn]
    exact hc
theorem chain_le {o : Nat} : ∀ {L : List Ett} {n m : Nat}, (∀ e ∈ L, itemN e.x = 0) → chainO o L n = some m → n ≤ m
  | [], n, m, _, h => by injection h with h; omega
  | e :: L, n, m, hok, h => by
    unfold chainO at h
    split at h
    · split at h
      · have h1 := chain_le (fun x hx => hok x (List.mem_cons_of_mem _ hx)) h
        have h2 := right_span (hok e List.mem_cons_self)
        omega
      · cases h
    · exact chain_le (fun x hx => hok x (List.mem_cons_of_mem _ hx)) h
theorem Cov.same {M : List Ett} (h : Cov F H L) (hs : SameE L M) : Cov F H M :=
  ⟨fun o => by rw [← chain_same hs]; exact h.ch o, fun e he => by obtain ⟨y, hy, hx⟩ := same_mem hs he; rw [← hx]; exact h.ok y hy⟩
theorem Cov.next {j : Nat} {e : Ett} (h : Cov F H (L.drop j)) (he : L[j]? = some e) : spF e.x = F (spO e.x) + 1 ∧ itemN e.x = 0 ∧ F (spO e.x) ≤ H (spO e.x) ∧ Cov (upT F e.x) H (L.drop (j + 1)) := by
  have hd : L.drop j = e :: L.drop (j + 1) := by
    rw [List.drop_eq_getElem_cons (List.getElem?_eq_some_iff.1 he).1, (List.getElem?_eq_some_iff.1 he).2]
  have hch := h.ch
  have hok := h.ok
  rw [hd] at hch hok
  have hf : spF e.x = F (spO e.x) + 1 := by
    have := hch (spO e.x)
    unfold chainO at this
    rw [if_pos rfl] at this
    split at this
    · assumption
    · cases this
  refine ⟨hf, (hok e List.mem_cons_self).1, chain_le (fun x hx => (hok x hx).1) (hch _), fun o => ?_, fun x hx => hok x (List.mem_cons_of_mem _ hx)⟩
  have := hch o
  unfold chainO at this
  unfold upT
  by_cases ho : spO e.x = o
  · rw [if_pos ho] at this
    rw [if_pos ho.symm]
    rw [← ho] at this
    rw [if_pos hf] at this
    rw [← ho]
    exact this
  · rw [if_neg ho] at this
    rw [if_neg (fun h => ho h.symm)]
    exact this
theorem Cov.end_ (h : Cov F H []) (o : Nat) : F o = H o := by
  have := h.ch o
  injection this
end
theorem cutE_zero (L : List Ett) (m : Nat) : cutE L 0 m = L.drop m := by unfold cutE; rw [List.take_zero, List.nil_append]
/-- acknowledged up to the place m - 1 -/
theorem SpOk.acked {X : Sp} {L : List Ett} {k m N : Nat} (h : SpOk X L k) (h1 : N < X.n) (h2 : CutAt L N m) : SpOk { X with a := N } (cutE L 0 m) k := by
  have hs : List.Sublist (idxL (cutE L 0 m)) (idxL L) := (cut_sub (Nat.zero_le m)).map _
  refine ⟨h.n1, h.nk, h.rise.sublist hs, fun i hi => ?_, h1, h.hs, ?_, ?_⟩
  · refine ⟨?_, (h.ix i (hs.subset hi)).2⟩
    rw [cutE_zero] at hi
    obtain ⟨e, he, rfl⟩ := List.mem_map.1 hi
    obtain ⟨j, hj, hje⟩ := List.getElem_of_mem he
    rw [List.length_drop] at hj
    rw [List.getElem_drop] at hje
    have h3 := h2.hi (m + j) (by omega) (by omega)
    rw [idxE_at (e := e) (by rw [List.getElem?_eq_getElem (by omega), hje])] at h3
    exact h3
  · have := cntE_cut (L := L) (i := 0) (j := m) (Nat.zero_le m)
    have := h.ev
    show X.v + _ ≤ k
    omega
  · have := h.len
    rw [cutE_zero, List.length_drop]
    omega
theorem cut_of_last {L : List Ett} {m : Nat} {e : Ett} (hr : RiseE L) (hm : 0 < m) (he : L[m - 1]? = some e) : CutAt L e.i m := by
  have hl := (List.getElem?_eq_some_iff.1 he).1
  refine ⟨by omega, fun k hk => ?_, fun k h1 h2 => ?_⟩
  · by_cases hkm : k = m - 1
    · subst hkm
      rw [idxE_at he]; exact Nat.le_refl _
    · have e1 := List.getElem?_eq_getElem (show k < L.length by omega)
      have := hr k (m - 1) _ _ (by omega) e1 he
      rw [idxE_at e1]
      omega
  · have e2 := List.getElem?_eq_getElem h2
    have := hr (m - 1) k _ _ (by omega) he e2
    rw [idxE_at e2]
    omega
end Go.Proofs.Ytgcfofnlgdfmoaa
/- Layer 8: what Put keeps: events that last stay, what is evicted matters no more than what stays. -/
namespace Go.Proofs.Ytgcfofnlgdfmoaa
open Go.RowKit

theorem joinE_mem {L : List Ett} {a b : Option Nat} {e : Ett} (h : e ∈ (joinK L a b).1) (hg : e.x.g = false) : e ∈ L := by
  cases a with
  | none => exact h
  | some a =>
    cases b with
    | none => exact h
    | some b =>
      unfold joinK at h
      simp only at h
      split at h
      · rename_i hj
        rcases List.mem_append.1 h with h1 | h1
        · rcases List.mem_or_eq_of_mem_set (List.mem_of_mem_take h1) with h2 | rfl
          · exact h2
          · rw [(joinB_parts hj).2.2.2.2.2] at hg; cases hg
        · rcases List.mem_or_eq_of_mem_set (List.mem_of_mem_drop h1) with h2 | rfl
          · exact h2
          · rw [(joinB_parts hj).2.2.2.2.2] at hg; cases hg
      · exact h
theorem joinE_stay {L : List Ett} {a b : Option Nat} {e : Ett} (h : e ∈ L) (hg : e.x.g = false) (hab : ∀ i j, a = some i → b = some j → i < j ∧ j < L.length) : e ∈ (joinK L a b).1 := by
  cases a with
  | none => exact h
  | some a =>
    cases b with
    | none => exact h
    | some b =>
      obtain ⟨h1, h2⟩ := hab a b rfl rfl
      have ha := List.getElem?_eq_getElem (show a < L.length by omega)
      have hb := List.getElem?_eq_getElem h2
      obtain ⟨ea, hea⟩ : ∃ x, x = L[a]'(by omega) := ⟨_, rfl⟩
      obtain ⟨eb, heb⟩ : ∃ x, x = L[b] := ⟨_, rfl⟩
      rw [← hea] at ha
      rw [← heb] at hb
      clear hea heb
      unfold joinK
      simp only
      rw [getD_of ha, getD_of hb]
      split
      · rename_i hj
        obtain ⟨g1, g2, -⟩ := joinB_parts hj
        obtain ⟨A, M, R, rfl, hA, hM⟩ := split2 ha hb h1
        show e ∈ joinL _ _ _ _ _
        rw [joinL_split hA hM h1]
        rcases List.mem_append.1 h with h | h
        · exact List.mem_append_left _ h
        · rcases List.mem_cons.1 h with rfl | h
          · rw [g1] at hg; cases hg
          · rcases List.mem_append.1 h with h | h
            · exact List.mem_append_right _ (List.mem_cons_of_mem _ (List.mem_append_left _ h))
            · rcases List.mem_cons.1 h with rfl | h
              · rw [g2] at hg; cases hg
              · exact List.mem_append_right _ (List.mem_cons_of_mem _ (List.mem_append_right _ h))
      · exact h
theorem len_evA (L : List Ett) (p : Nat) (e : Ett) : (evA L p e).length ≤ L.length := by
  unfold evA
  refine Nat.le_trans (len_joinK _ _ _) ?_
  rw [List.length_set]
  exact Nat.le_refl _
theorem evL_mem {L : List Ett} {p : Nat} {e0 e : Ett} (h : e ∈ evL L p e0) (hg : e.x.g = false) : e ∈ L := by
  have h1 : e ∈ evA L p e0 := joinE_mem h hg
  have h2 : e ∈ L.set p (gapE e0) := joinE_mem h1 hg
  rcases List.mem_or_eq_of_mem_set h2 with h3 | rfl
  · exact h3
  · cases hg
theorem evL_stay {L : List Ett} {p : Nat} {e0 e : Ett} (he : L[p]? = some e0) (h : e ∈ L) (hg : e.x.g = false) : e = e0 ∨ e ∈ evL L p e0 := by
  have hp := (List.getElem?_eq_some_iff.1 he).1
  have hg1 : (L.set p (gapE e0))[p]? = some (gapE e0) := List.getElem?_set_self hp
  have h1 : e = e0 ∨ e ∈ L.set p (gapE e0) := by
    obtain ⟨A, R, rfl, hA⟩ := split1 he
    rw [set_split hA]
    rcases List.mem_append.1 h with h | h
    · exact .inr (List.mem_append_left _ h)
    · rcases List.mem_cons.1 h with rfl | h
      · exact .inl rfl
      · exact .inr (List.mem_append_right _ (List.mem_cons_of_mem _ h))
  rcases h1 with h1 | h1
  · exact .inl h1
  · have hn : ∀ j, nextK (L.set p (gapE e0)) (spO e0.x) (p + 1) = some j → p < j ∧ j < (L.set p (gapE e0)).length := fun j hj => by
      have := nextK_some _ _ _ (Nat.le_refl _) hj
      omega
    have h2 : e ∈ evA L p e0 := joinE_stay h1 hg (fun i j hi hj => by
      injection hi with hi
      subst hi
      exact hn j hj)
    obtain ⟨y, hy, _⟩ : ∃ y, (evA L p e0)[p]? = some y ∧ spO y.x = spO (gapE e0).x := by
      unfold evA
      exact joinK_get hn hg1
    refine .inr (joinE_stay h2 hg (fun i j hi hj => ?_))
    injection hj with hj
    subst hj
    exact ⟨(prevK_some hi).1, (List.getElem?_eq_some_iff.1 hy).1⟩
theorem leastK_le {L : List Ett} : ∀ {k f : Nat}, leastK L k = some f → ∀ j y, j < k → L[j]? = some y → lastB y.x = false → prioE L f ≤ y.x.p
  | 0, f, h, _, _, hj, _, _ => by omega
  | k + 1, f, h, j, y, hj, hy, hl => by
    unfold leastK at h
    cases hk : L[k]? with
    | none =>
      rw [hk] at h
      by_cases hjk : j = k
      · subst hjk; rw [hk] at hy; cases hy
      · exact leastK_le h j y (by omega) hy hl
    | some e =>
      rw [hk] at h
      simp only at h
      have hpk : prioE L k = e.x.p := by unfold prioE; rw [hk]; rfl
      cases hle : lastB e.x with
      | true =>
        rw [hle, if_pos rfl] at h
        by_cases hjk : j = k
        · subst hjk
          rw [hk] at hy
          injection hy with hy
          subst hy
          rw [hle] at hl; cases hl
        · exact leastK_le h j y (by omega) hy hl
      | false =>
        rw [hle, if_neg (by decide)] at h
        cases hlk : leastK L k with
        | none =>
          rw [hlk] at h
          injection h with h
          subst h
          by_cases hjk : j = k
          · subst hjk
            rw [hk] at hy
            injection hy with hy
            subst hy
            rw [hpk]; exact Nat.le_refl _
          · exfalso
            have : ∀ {k : Nat}, leastK L k = none → ∀ j y, j < k → L[j]? = some y → lastB y.x = true := by
              intro k
              induction k with
              | zero => intro _ j y h; omega
              | succ k ih =>
                intro h j y hj hy
                unfold leastK at h
                cases hk : L[k]? with
                | none =>
                  rw [hk] at h
                  by_cases hjk : j = k
                  · subst hjk; rw [hk] at hy; cases hy
                  · exact ih h j y (by omega) hy
                | some e =>
                  rw [hk] at h
                  simp only at h
                  cases hle : lastB e.x with
                  | true =>
                    rw [hle, if_pos rfl] at h
                    by_cases hjk : j = k
                    · subst hjk
                      rw [hk] at hy
                      injection hy with hy
                      rw [← hy]; exact hle
                    · exact ih h j y (by omega) hy
                  | false =>
                    rw [hle, if_neg (by decide)] at h
                    cases hq : leastK L k with
                    | none => rw [hq] at h; cases h
                    | some f =>
                      rw [hq] at h
                      simp only at h
                      split at h <;> cases h
            have := this hlk j y (by omega) hy
            rw [hl] at this; cases this
        | some f2 =>
          rw [hlk] at h
          simp only at h
          split at h <;> rename_i hlt
          · injection h with h
            subst h
            rw [hpk]
            by_cases hjk : j = k
            · subst hjk
              rw [hk] at hy
              injection hy with hy
              subst hy
              exact Nat.le_refl _
            · have := leastK_le hlk j y (by omega) hy hl
              omega
          · injection h with h
            subst h
            by_cases hjk : j = k
            · subst hjk
              rw [hk] at hy
              injection hy with hy
              subst hy
              omega
            · exact leastK_le hlk j y (by omega) hy hl
/-- what evictions keep -/
structure KeptL (L L' : List Ett) : Prop where
  stay : ∀ e ∈ L, e.x.g = false → e ∈ L' ∨ (lastB e.x = false ∧ ∀ y ∈ L', lastB y.x = false → e.x.p ≤ y.x.p)
  from_ : ∀ y ∈ L', y.x.g = false → y ∈ L
theorem KeptL.refl (L : List Ett) : KeptL L L := ⟨fun _ he _ => .inl he, fun _ hy _ => hy⟩
theorem kept_room {size q : Nat} : ∀ {fuel : Nat} {L : List Ett} {f v : Nat}, KeptL L (roomK size q fuel L f v).2.1
  | fuel, L, f, v => by
    by_cases hf : sumE L + size ≤ q
    · rw [roomK_fit hf]; exact KeptL.refl L
    · cases hl : leastK L L.length with
      | none => rw [roomK_none hf hl]; exact KeptL.refl L
      | some p =>
        cases fuel with
        | zero =>
          unfold roomK
          rw [if_neg hf]
          exact KeptL.refl L
        | succ k =>
          rw [roomK_some hf hl]
          obtain ⟨_, e, he, hle⟩ := leastK_some hl
          rw [getD_of he]
          have ih := kept_room (size := size) (q := q) (fuel := k) (L := evL L p e) (f := lowE f (evIdx L p e)) (v := v + 1)
          have hpe : prioE L p = e.x.p := by unfold prioE; rw [he]; rfl
          refine ⟨fun x hx hg => ?_, fun y hy hg => evL_mem (ih.from_ y hy hg) hg⟩
          rcases evL_stay he hx hg with rfl | h
          · refine .inr ⟨hle, fun y hy hly => ?_⟩
            have hyg := (ev_span hly).1
            have hyL := evL_mem (ih.from_ y hy hyg) hyg
            obtain ⟨j, hj, hjy⟩ := List.getElem_of_mem hyL
            have := leastK_le hl j y hj (by rw [List.getElem?_eq_getElem hj, hjy]) hly
            rwa [hpe] at this
          · exact ih.stay x h hg
def hasI (N : List It) (x : It) : Bool := N.any fun y => sameI x y
/-- what the statement asks of what waited ahead, what waits behind, and what was put -/
structure KeptP (K N : List It) (x : It) : Prop where
  own : ∀ e ∈ K, lastB e = true → e.g = false → hasI N e = true
  low : ∀ e ∈ K, ∀ y ∈ K, lastB e = false → lastB y = false → hasI N e = false → hasI N y = true → e.p ≤ y.p
  put : x.g = true ∨ hasI N x = true
  few : ∀ e ∈ K, e.g = false → e.p ≤ 7
def itsE (L : List Ett) : List It := L.map (·.x)
theorem sameI_ev {a b : It} (h : sameI a b = true) (hg : a.g = false) : b.g = false ∧ a.o = b.o ∧ a.q = b.q ∧ a.p = b.p ∧ a.w = b.w := by
  unfold sameI at h
  cases hb : b.g with
  | true => rw [hg, hb] at h; cases h
  | false =>
    rw [hg, hb] at h
    simp only [bne_self_eq_false, Bool.false_eq_true, if_false] at h
    unfold sameEv at h
    have h := of_decide_eq_true h
    exact ⟨rfl, h.1, h.2.1, h.2.2.2.2.2.1, h.2.2.2.2.2.2.2.1⟩
theorem hasI_mem {L : List Ett} {e : Ett} (h : e ∈ L) : hasI (itsE L) e.x = true := List.any_eq_true.2 ⟨e.x, List.mem_map_of_mem h, sameI_refl _⟩
theorem hasI_ex {L : List Ett} {x : It} (h : hasI (itsE L) x = true) : ∃ y ∈ L, sameI x y.x = true := by
  obtain ⟨z, hz, hs⟩ := List.any_eq_true.1 h
  obtain ⟨y, hy, rfl⟩ := List.mem_map.1 hz
  exact ⟨y, hy, hs⟩
theorem lastB_of {a b : It} (h : sameI a b = true) (hl : lastB a = false) : lastB b = false := by
  obtain ⟨g, _, _, _, w⟩ := ev_span hl
  obtain ⟨h1, h2, h3, h4, h5⟩ := sameI_ev h g
  unfold lastB
  rw [h1, ← h5, w]
  rfl
theorem kept_put {F : Nat → Nat} {X : Sp} {L : List Ett} (hc : Cov F X.h L) (x : It) (A : Option Addr) (c : Nat) (h0 : (putR X L x A c).1 = 0) : KeptP (itsE L) (itsE (putR X L x A c).2.2.2.2) x := by
  have hp0 : partE x X.h = 0 := by
    by_cases h : partE x X.h = 0
    · exact h
    · unfold putR at h0
      rw [if_pos h] at h0
      exact h0
  obtain ⟨p1, p2, p3, p4⟩ := part_right hp0
  obtain ⟨i1, i2, i3⟩ := partE_zero hp0
  have hk := kept_room (size := (itemB (partI x X.h)).length) (q := X.q) (fuel := cntE L) (L := L) (f := 0) (v := X.v)
  obtain ⟨R, hR⟩ : ∃ R, R = roomK (itemB (partI x X.h)).length X.q (cntE L) L 0 X.v := ⟨_, rfl⟩
  obtain ⟨e, he⟩ : ∃ e, e = addE { X with v := R.2.2.2 } (partI x X.h) A c := ⟨_, rfl⟩
  have hex : e.x = partI x X.h := by rw [he]; rfl
  have hL : (putR X L x A c).2.2.2.2 = (addJ R.2.1 e).1 := by
    unfold putR at h0 ⊢
    rw [if_neg (by rw [hp0]; exact fun h => h rfl)] at h0 ⊢
    rw [← hR] at h0 ⊢
    dsimp only at h0 ⊢
    by_cases h1 : R.1 = false
    · rw [if_pos h1] at h0; cases h0
    · rw [if_neg h1] at h0 ⊢
      by_cases h2 : 1099511627776 ≤ X.n
      · rw [if_pos h2] at h0; cases h0
      · rw [if_neg h2, he]
  rw [hL]
  rw [← hR] at hk
  clear hR hL h0
  have hab : ∀ i j, prevK (R.2.1 ++ [e]) (spO e.x) R.2.1.length = some i → some R.2.1.length = some j → i < j ∧ j < (R.2.1 ++ [e]).length := fun i j hi hj => by
    injection hj with hj
    subst hj
    exact ⟨(prevK_some hi).1, by rw [List.length_append]; exact Nat.lt_succ_self _⟩
  have hstay : ∀ y ∈ R.2.1 ++ [e], y.x.g = false → y ∈ (addJ R.2.1 e).1 := fun y hy hg => by
    unfold addJ
    split
    · exact joinE_stay hy hg hab
    · exact hy
  have hfrom : ∀ y ∈ (addJ R.2.1 e).1, y.x.g = false → y ∈ R.2.1 ∨ y = e := fun y hy hg => by
    unfold addJ at hy
    have : y ∈ R.2.1 ++ [e] := by
      split at hy
      · exact joinE_mem hy hg
      · exact hy
    rcases List.mem_append.1 this with h | h
    · exact .inl h
    · exact .inr (List.mem_singleton.1 h)
  refine ⟨fun a ha hl hg => ?_, fun a ha b hb hla hlb hna hhb => ?_, ?_, fun a ha hg => ?_⟩
  · obtain ⟨a, ha2, rfl⟩ := List.mem_map.1 ha
    rcases hk.stay a ha2 hg with h | ⟨h, _⟩
    · exact hasI_mem (hstay a (List.mem_append_left _ h) hg)
    · rw [hl] at h; cases h
  · obtain ⟨a, ha2, rfl⟩ := List.mem_map.1 ha
    obtain ⟨b, hb2, rfl⟩ := List.mem_map.1 hb
    have hga := (ev_span hla).1
    rcases hk.stay a ha2 hga with h | ⟨_, h⟩
    · have := hasI_mem (hstay a (List.mem_append_left _ h) hga)
      rw [this] at hna; cases hna
    · obtain ⟨z, hz, hs⟩ := hasI_ex hhb
      obtain ⟨s1, s2, s3, s4, s5⟩ := sameI_ev hs (ev_span hlb).1
      have hlz := lastB_of hs hlb
      rcases hfrom z hz s1 with hz | rfl
      · rw [s4]; exact h z hz hlz
      · exfalso
        have h1 := (hc.ok b hb2).2
        obtain ⟨_, eo, _, et, _⟩ := ev_span hlb
        obtain ⟨_, zo, _, zt, _⟩ := ev_span hlz
        rw [eo, et, s2, s3, ← zo, ← zt, hex, p2, p4] at h1
        omega
  · cases hg : x.g with
    | true => exact .inl rfl
    | false =>
      refine .inr ?_
      have hx : partI x X.h = x := by
        rw [i3]
        unfold trimI
        have e1 : spF x = spT x := by unfold spF spT; rw [hg]; rfl
        rw [if_neg (by omega), if_pos (by omega)]
      have := hasI_mem (hstay e (List.mem_append_right _ List.mem_cons_self) (by rw [hex, hx]; exact hg))
      rwa [hex, hx] at this
  · obtain ⟨a, ha2, rfl⟩ := List.mem_map.1 ha
    exact (ev_right (hc.ok a ha2).1 hg).2.2.2
end Go.Proofs.Ytgcfofnlgdfmoaa
