/- Several texts in one: SpFinK, SpCovA. -/
import Derived.Test.YtgcfofnlgdfmoaaMd35
import Derived.Test.YtgcfofnlgdfmoaaMd37
import Derived.Test.YtgcfofnlgdfmoaaMd38
/- Layer 8: SpoolFinds, the plain part: where a rising list is cut by an index, and the statement's own list of those behind it. -/
namespace Go.Proofs.Ytgcfofnlgdfmoaa
open Go.RowKit

/-- the first m have an index up to P, the others a higher one -/
structure CutAt (L : List Ett) (P m : Nat) : Prop where
  le : m ≤ L.length
  lo : ∀ k, k < m → idxE L k ≤ P
  hi : ∀ k, m ≤ k → k < L.length → P < idxE L k
theorem idxE_at {L : List Ett} {k : Nat} {e : Ett} (h : L[k]? = some e) : idxE L k = e.i := by unfold idxE; rw [h]; rfl
theorem CutAt.eq {L : List Ett} {P m m' : Nat} (h : CutAt L P m) (h' : CutAt L P m') : m = m' := by
  rcases Nat.lt_trichotomy m m' with c | c | c
  · have h1 := h'.lo m c
    have h2 := h.hi m (Nat.le_refl _) (Nat.lt_of_lt_of_le c h'.le)
    omega
  · exact c
  · have h1 := h.lo m' c
    have h2 := h'.hi m' (Nat.le_refl _) (Nat.lt_of_lt_of_le c h.le)
    omega
theorem cut_ex {L : List Ett} (hr : RiseE L) (P : Nat) : ∀ k, k ≤ L.length → (∀ j, j < k → idxE L j ≤ P) ∨ ∃ m, CutAt L P m
  | 0, _ => .inl fun j hj => by omega
  | k + 1, hk => by
    rcases cut_ex hr P k (by omega) with h | h
    · by_cases hp : idxE L k ≤ P
      · refine .inl fun j hj => ?_
        by_cases he : j = k
        · rw [he]; exact hp
        · exact h j (by omega)
      · refine .inr ⟨k, by omega, h, fun j hj hl => ?_⟩
        by_cases he : j = k
        · rw [he]; omega
        · have e1 := List.getElem?_eq_getElem (show k < L.length by omega)
          have e2 := List.getElem?_eq_getElem hl
          have := hr k j _ _ (by omega) e1 e2
          rw [idxE_at e1] at hp
          rw [idxE_at e2]
          omega
    · exact .inr h
theorem CutAt.ex {L : List Ett} (hr : RiseE L) (P : Nat) : ∃ m, CutAt L P m := by
  rcases cut_ex hr P L.length (Nat.le_refl _) with h | h
  · exact ⟨L.length, Nat.le_refl _, h, fun k h1 h2 => by omega⟩
  · exact h
theorem SameE.idx {L M : List Ett} (h : SameE L M) (k : Nat) : idxE L k = idxE M k := by
  have := h.get k
  unfold idxE
  cases h1 : L[k]? <;> cases h2 : M[k]? <;> rw [h1, h2] at this <;> simp at this
  exact this.1
theorem SameE.symm {L M : List Ett} (h : SameE L M) : SameE M L := Eq.symm h
theorem SameE.trans {L M K : List Ett} (h : SameE L M) (h' : SameE M K) : SameE L K := Eq.trans h h'
theorem SameE.cut {L M : List Ett} {P m : Nat} (h : SameE L M) (hc : CutAt L P m) : CutAt M P m :=
  ⟨by rw [← h.len]; exact hc.le, fun k hk => by rw [← h.idx]; exact hc.lo k hk, fun k h1 h2 => by rw [← h.idx]; exact hc.hi k h1 (by rw [h.len]; exact h2)⟩
theorem SameE.list {L M : List Ett} (h : SameE L M) (m k : Nat) : SameE (listE L m k) (listE M m k) := by
  unfold SameE listE at *
  rw [List.map_take, List.map_drop, List.map_take, List.map_drop, h]
theorem SameE.at_ {L M : List Ett} {k : Nat} {e : Ett} (h : SameE L M) (he : L[k]? = some e) : ∃ y, M[k]? = some y ∧ y.i = e.i ∧ y.x = e.x := by
  have := h.get k
  rw [he] at this
  cases h2 : M[k]? with
  | none => rw [h2] at this; simp at this
  | some y => rw [h2] at this; simp at this; exact ⟨y, rfl, this.1.symm, this.2.symm⟩
/-- of the first k those behind the first m, t at most -/
def wantL (M : List Ett) (m t k : Nat) : List Ett := listE (M.take k) m t
theorem wantL_len (M : List Ett) (m t k : Nat) (hk : k ≤ M.length) : (wantL M m t k).length = min t (k - m) := by
  unfold wantL listE
  rw [List.length_take, List.length_drop, List.length_take]
  omega
theorem wantL_zero (M : List Ett) (m t : Nat) : wantL M m t 0 = [] := by simp [wantL, listE]
theorem wantL_all (M : List Ett) (m t : Nat) : wantL M m t M.length = listE M m t := by unfold wantL; rw [List.take_length]
theorem wantL_lo {M : List Ett} {m t k : Nat} (h : k < m) : wantL M m t (k + 1) = wantL M m t k := by
  have e : ∀ j, j ≤ m → wantL M m t j = [] := fun j hj => by
    unfold wantL listE
    rw [List.drop_of_length_le (by rw [List.length_take]; omega), List.take_nil]
  rw [e _ (by omega), e _ (by omega)]
theorem wantL_hi {M : List Ett} {m t k : Nat} {e : Ett} (h : m ≤ k) (he : M[k]? = some e) : wantL M m t (k + 1) = if (wantL M m t k).length < t then wantL M m t k ++ [e] else wantL M m t k := by
  have hk := (List.getElem?_eq_some_iff.1 he).1
  have h1 : M.take (k + 1) = M.take k ++ [e] := by rw [List.take_add_one, he]; rfl
  have h2 : (M.take (k + 1)).drop m = (M.take k).drop m ++ [e] := by rw [h1, List.drop_append_of_le_length (by rw [List.length_take]; omega)]
  have hl : ((M.take k).drop m).length = k - m := by rw [List.length_drop, List.length_take]; omega
  rw [wantL_len M m t k (by omega)]
  unfold wantL listE
  rw [h2]
  by_cases hc : min t (k - m) < t
  · rw [if_pos hc, List.take_append, List.take_of_length_le (by omega), hl]
    congr 1
    rw [List.take_of_length_le (by simp; omega)]
  · rw [if_neg hc, List.take_append_of_le_length (by omega)]
theorem wantL_mem {M : List Ett} {m t k : Nat} {e : Ett} (h : e ∈ wantL M m t k) : e ∈ M := by
  unfold wantL listE at h
  exact List.mem_of_mem_take (List.mem_of_mem_drop (List.mem_of_mem_take h))
/-- the world of the statement's outer loop -/
structure FAt (w0 w : World) (S : Nat → Prop) (s q : Nat) (X : Sp) (L : List Ett) (A : Option Addr) (M : List Ett) (g N N2 : Nat) : Prop where
  sp : SpW w0 w S s q 40 X L
  m : RdM8 w A M
  two : ∀ k, k < 2 → w.cell? ⟨g, k, none⟩ = some (.int .u64 ((if k = 0 then N else N2 : Nat) : Int))
theorem FAt.below {w0 w w' : World} {S : Nat → Prop} {s q g N N2 : Nat} {X : Sp} {L M : List Ett} {A : Option Addr} (h : FAt w0 w S s q X L A M g N N2) (hb : Below w.heap.size w w') : FAt w0 w' S s q X L A M g N N2 :=
  ⟨h.sp.below hb, h.m.below hb, fun k hk => (hb.cell (p := ⟨g, k, none⟩) (World.block_lt_of_cell? w _ (h.two k hk))).trans (h.two k hk)⟩
/-- the row of those that are wanted -/
structure WAt (w : World) (base : Nat) (v : Value) (K : List Ett) : Prop where
  own : w.ownsRow base 68 14 v K.length (cellsE K)
  ok : OkE w K
theorem SpW.forty {w0 w : World} {S : Nat → Prop} {s q k : Nat} {X : Sp} {L : List Ett} (h : SpW w0 w S s q k X L) (hk : k ≤ 40) : SpW w0 w S s q 40 X L := ⟨h.at_, h.ok.more hk, h.q, h.new, h.bl⟩
theorem list_want {L M K : List Ett} {m t n : Nat} (h : SameE L M) (hK : SameE (listE L m (min t (L.length - m))) K) (hn : n = M.length) : SameE (wantL M m t n) K := by
  subst hn
  rw [wantL_all]
  refine (h.list m t).symm.trans ?_
  have e : listE L m (min t (L.length - m)) = listE L m t := by
    unfold listE
    by_cases hc : t ≤ L.length - m
    · rw [Nat.min_eq_left hc]
    · rw [Nat.min_eq_right (by omega), List.take_of_length_le (by rw [List.length_drop]; omega), List.take_of_length_le (by rw [List.length_drop]; omega)]
  rwa [e] at hK
theorem own_rdE {w : World} {base : Nat} {A : Option Addr} {c : Nat} {M : List Ett} (h : w.ownsRow base 68 14 (.slice A M.length c) M.length (cellsE M)) (hok : OkE w M) : RdM8 w A M := by
  refine ⟨fun h0 => ?_, hok⟩
  obtain ⟨b, c', hv, _, hlt⟩ := h.form h0
  injection hv with hv1 _ hv3
  subst hv1
  refine ⟨b, 0, rfl, hlt, fun k e he => ?_⟩
  have hc : ∀ (j : Nat) u, (entC e)[j]? = some u → w.cell? ⟨b, k * 14 + j, none⟩ = some u := fun j u hj => by
    have := h.cells (g := b) rfl _ _ (cellsE_get he hj)
    rw [Addr.add_lit, Nat.zero_add] at this
    exact this
  refine ⟨fun j u hj => ?_, fun j u hj => ?_⟩
  · rw [Nat.zero_add]; exact hc j u hj
  · have := hc (j + 1) u hj
    rw [show 0 + k * 14 + 1 + j = k * 14 + (j + 1) by omega]
    exact this
end Go.Proofs.Ytgcfofnlgdfmoaa
/- Layer 8: what a spool covers behind Ack, and read one item at a time. -/
namespace Go.Proofs.Ytgcfofnlgdfmoaa
open Go.RowKit

def upT (G : Nat → Nat) (x : It) : Nat → Nat := fun i => if i = spO x then spT x else G i
/-- each origin's last count behind these items -/
def adv : List Ett → (Nat → Nat) → Nat → Nat
  | [], F => F
  | e :: l, F => adv l (upT F e.x)
theorem adv_app : ∀ (l r : List Ett) (F : Nat → Nat), adv (l ++ r) F = adv r (adv l F)
  | [], r, F => rfl
  | e :: l, r, F => adv_app l r _
theorem chain_adv {o : Nat} : ∀ {l : List Ett} {F : Nat → Nat} {n : Nat}, chainO o l (F o) = some n → adv l F o = n
  | [], F, n, h => by injection h
  | e :: l, F, n, h => by
    show adv l (upT F e.x) o = n
    unfold chainO at h
    apply chain_adv
    unfold upT
    by_cases ho : spO e.x = o
    · rw [if_pos ho] at h
      rw [if_pos ho.symm]
      split at h
      · exact h
      · cases h
    · rw [if_neg ho] at h
      rw [if_neg (fun h => ho h.symm)]
      exact h
theorem same_cons {L M : List Ett} (h : SameE L M) : (L = [] ∧ M = []) ∨ ∃ a b l m, L = a :: l ∧ M = b :: m ∧ a.i = b.i ∧ a.x = b.x ∧ SameE l m := by
  unfold SameE at h
  cases L with
  | nil =>
    cases M with
    | nil => exact .inl ⟨rfl, rfl⟩
    | cons b m => cases h
  | cons a l =>
    cases M with
    | nil => cases h
    | cons b m =>
      rw [List.map_cons, List.map_cons] at h
      injection h with h1 h2
      injection h1 with h1 h3
      exact .inr ⟨a, b, l, m, rfl, rfl, h1, h3, h2⟩
theorem chain_same {o : Nat} : ∀ {L M : List Ett} {n : Nat}, SameE L M → chainO o L n = chainO o M n
  | L, M, n, h => by
    rcases same_cons h with ⟨rfl, rfl⟩ | ⟨a, b, l, m, rfl, rfl, _, hx, hs⟩
    · rfl
    · unfold chainO
      rw [hx]
      rw [chain_same (n := spT b.x) hs, chain_same (n := n) hs]
  termination_by L => L.length
theorem adv_same : ∀ {L M : List Ett} {F : Nat → Nat}, SameE L M → adv L F = adv M F
  | L, M, F, h => by
    rcases same_cons h with ⟨rfl, rfl⟩ | ⟨a, b, l, m, rfl, rfl, _, hx, hs⟩
    · rfl
    · show adv l (upT F a.x) = adv m (upT F b.x)
      rw [hx]
      exact adv_same hs
  termination_by L => L.length
theorem same_its {L M : List Ett} (h : SameE L M) : L.map (·.x) = M.map (·.x) := by
  have h2 := congrArg (List.map (fun p : Nat × It => p.2)) (show L.map (fun e => (e.i, e.x)) = M.map (fun e => (e.i, e.x)) from h)
  rw [List.map_map, List.map_map] at h2
  exact h2
theorem same_mem {L M : List Ett} (h : SameE L M) {e : Ett} (he : e ∈ M) : ∃ y ∈ L, y.x = e.x := by
  have : e.x ∈ M.map (·.x) := List.mem_map_of_mem he
  rw [← same_its h] at this
  obtain ⟨y, hy, hx⟩ := List.mem_map.1 this
  exact ⟨y, hy, hx⟩
section
variable {F H : Nat → Nat} {L : List Ett}
theorem Cov.drop (h : Cov F H L) (m : Nat) : Cov (adv (L.take m) F) H (L.drop m) := by
  refine ⟨fun o => ?_, fun e he => h.ok e (List.mem_of_mem_drop he)⟩
  have hc := h.ch o
  rw [← List.take_append_drop m L, chain_app] at hc
  cases hn : chainO o (L.take m) (F o) with
  | none => rw [hn] at hc; cases hc
  | some n =>
    rw [hn, Option.bind_some] at hc
    rw [chain_adv hn]
    exact hc
theorem chain_le {o : Nat} : ∀ {L : List Ett} {n m : Nat}, (∀ e ∈ L, itemN e.x = 0) → chainO o L n = some m → n ≤ m
  | [], n, m, _, h => by injection h with h; omega
  | e :: L, n, m, hok, h => by
    unfold chainO at h
    split at h
    · split at h
      · have h1 := chain_le (fun x hx => hok x (List.mem_cons_of_mem _ hx)) h
        have h2 := right_span (hok e List.mem_cons_self)
        omega
      · cases h
    · exact chain_le (fun x hx => hok x (List.mem_cons_of_mem _ hx)) h
theorem Cov.same {M : List Ett} (h : Cov F H L) (hs : SameE L M) : Cov F H M :=
  ⟨fun o => by rw [← chain_same hs]; exact h.ch o, fun e he => by obtain ⟨y, hy, hx⟩ := same_mem hs he; rw [← hx]; exact h.ok y hy⟩
theorem Cov.next {j : Nat} {e : Ett} (h : Cov F H (L.drop j)) (he : L[j]? = some e) : spF e.x = F (spO e.x) + 1 ∧ itemN e.x = 0 ∧ F (spO e.x) ≤ H (spO e.x) ∧ Cov (upT F e.x) H (L.drop (j + 1)) := by
  have hd : L.drop j = e :: L.drop (j + 1) := by
    rw [List.drop_eq_getElem_cons (List.getElem?_eq_some_iff.1 he).1, (List.getElem?_eq_some_iff.1 he).2]
  have hch := h.ch
  have hok := h.ok
  rw [hd] at hch hok
  have hf : spF e.x = F (spO e.x) + 1 := by
    have := hch (spO e.x)
    unfold chainO at this
    rw [if_pos rfl] at this
    split at this
    · assumption
    · cases this
  refine ⟨hf, (hok e List.mem_cons_self).1, chain_le (fun x hx => (hok x hx).1) (hch _), fun o => ?_, fun x hx => hok x (List.mem_cons_of_mem _ hx)⟩
  have := hch o
  unfold chainO at this
  unfold upT
  by_cases ho : spO e.x = o
  · rw [if_pos ho] at this
    rw [if_pos ho.symm]
    rw [← ho] at this
    rw [if_pos hf] at this
    rw [← ho]
    exact this
  · rw [if_neg ho] at this
    rw [if_neg (fun h => ho h.symm)]
    exact this
theorem Cov.end_ (h : Cov F H []) (o : Nat) : F o = H o := by
  have := h.ch o
  injection this
end
theorem cutE_zero (L : List Ett) (m : Nat) : cutE L 0 m = L.drop m := by unfold cutE; rw [List.take_zero, List.nil_append]
/-- acknowledged up to the place m - 1 -/
theorem SpOk.acked {X : Sp} {L : List Ett} {k m N : Nat} (h : SpOk X L k) (h1 : N < X.n) (h2 : CutAt L N m) : SpOk { X with a := N } (cutE L 0 m) k := by
  have hs : List.Sublist (idxL (cutE L 0 m)) (idxL L) := (cut_sub (Nat.zero_le m)).map _
  refine ⟨h.n1, h.nk, h.rise.sublist hs, fun i hi => ?_, h1, h.hs, ?_, ?_⟩
  · refine ⟨?_, (h.ix i (hs.subset hi)).2⟩
    rw [cutE_zero] at hi
    obtain ⟨e, he, rfl⟩ := List.mem_map.1 hi
    obtain ⟨j, hj, hje⟩ := List.getElem_of_mem he
    rw [List.length_drop] at hj
    rw [List.getElem_drop] at hje
    have h3 := h2.hi (m + j) (by omega) (by omega)
    rw [idxE_at (e := e) (by rw [List.getElem?_eq_getElem (by omega), hje])] at h3
    exact h3
  · have := cntE_cut (L := L) (i := 0) (j := m) (Nat.zero_le m)
    have := h.ev
    show X.v + _ ≤ k
    omega
  · have := h.len
    rw [cutE_zero, List.length_drop]
    omega
theorem cut_of_last {L : List Ett} {m : Nat} {e : Ett} (hr : RiseE L) (hm : 0 < m) (he : L[m - 1]? = some e) : CutAt L e.i m := by
  have hl := (List.getElem?_eq_some_iff.1 he).1
  refine ⟨by omega, fun k hk => ?_, fun k h1 h2 => ?_⟩
  · by_cases hkm : k = m - 1
    · subst hkm
      rw [idxE_at he]; exact Nat.le_refl _
    · have e1 := List.getElem?_eq_getElem (show k < L.length by omega)
      have := hr k (m - 1) _ _ (by omega) e1 he
      rw [idxE_at e1]
      omega
  · have e2 := List.getElem?_eq_getElem h2
    have := hr (m - 1) k _ _ (by omega) he e2
    rw [idxE_at e2]
    omega
end Go.Proofs.Ytgcfofnlgdfmoaa
