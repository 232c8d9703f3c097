/- Several texts in one: SpKept, ItTwo. -/
import Derived.Test.YtgcfofnlgdfmoaaMd5
import Derived.Test.YtgcfofnlgdfmoaaMd9
import Derived.Test.YtgcfofnlgdfmoaaMd32
import Derived.Test.YtgcfofnlgdfmoaaMd37
/- Layer 8: what Put keeps: events that last stay, what is evicted matters no more than what stays. -/
namespace Go.Proofs.Ytgcfofnlgdfmoaa
open Go.RowKit

theorem joinE_mem {L : List Ett} {a b : Option Nat} {e : Ett} (h : e ∈ (joinK L a b).1) (hg : e.x.g = false) : e ∈ L := by
  cases a with
  | none => exact h
  | some a =>
    cases b with
    | none => exact h
    | some b =>
      unfold joinK at h
      simp only at h
      split at h
      · rename_i hj
        rcases List.mem_append.1 h with h1 | h1
        · rcases List.mem_or_eq_of_mem_set (List.mem_of_mem_take h1) with h2 | rfl
          · exact h2
          · rw [(joinB_parts hj).2.2.2.2.2] at hg; cases hg
        · rcases List.mem_or_eq_of_mem_set (List.mem_of_mem_drop h1) with h2 | rfl
          · exact h2
          · rw [(joinB_parts hj).2.2.2.2.2] at hg; cases hg
      · exact h
theorem joinE_stay {L : List Ett} {a b : Option Nat} {e : Ett} (h : e ∈ L) (hg : e.x.g = false) (hab : ∀ i j, a = some i → b = some j → i < j ∧ j < L.length) : e ∈ (joinK L a b).1 := by
  cases a with
  | none => exact h
  | some a =>
    cases b with
    | none => exact h
    | some b =>
      obtain ⟨h1, h2⟩ := hab a b rfl rfl
      have ha := List.getElem?_eq_getElem (show a < L.length by omega)
      have hb := List.getElem?_eq_getElem h2
      obtain ⟨ea, hea⟩ : ∃ x, x = L[a]'(by omega) := ⟨_, rfl⟩
      obtain ⟨eb, heb⟩ : ∃ x, x = L[b] := ⟨_, rfl⟩
      rw [← hea] at ha
      rw [← heb] at hb
      clear hea heb
      unfold joinK
      simp only
      rw [getD_of ha, getD_of hb]
      split
      · rename_i hj
        obtain ⟨g1, g2, -⟩ := joinB_parts hj
        obtain ⟨A, M, R, rfl, hA, hM⟩ := split2 ha hb h1
        show e ∈ joinL _ _ _ _ _
        rw [joinL_split hA hM h1]
        rcases List.mem_append.1 h with h | h
        · exact List.mem_append_left _ h
        · rcases List.mem_cons.1 h with rfl | h
          · rw [g1] at hg; cases hg
          · rcases List.mem_append.1 h with h | h
            · exact List.mem_append_right _ (List.mem_cons_of_mem _ (List.mem_append_left _ h))
            · rcases List.mem_cons.1 h with rfl | h
              · rw [g2] at hg; cases hg
              · exact List.mem_append_right _ (List.mem_cons_of_mem _ (List.mem_append_right _ h))
      · exact h
theorem len_evA (L : List Ett) (p : Nat) (e : Ett) : (evA L p e).length ≤ L.length := by
  unfold evA
  refine Nat.le_trans (len_joinK _ _ _) ?_
  rw [List.length_set]
  exact Nat.le_refl _
theorem evL_mem {L : List Ett} {p : Nat} {e0 e : Ett} (h : e ∈ evL L p e0) (hg : e.x.g = false) : e ∈ L := by
  have h1 : e ∈ evA L p e0 := joinE_mem h hg
  have h2 : e ∈ L.set p (gapE e0) := joinE_mem h1 hg
  rcases List.mem_or_eq_of_mem_set h2 with h3 | rfl
  · exact h3
  · cases hg
theorem evL_stay {L : List Ett} {p : Nat} {e0 e : Ett} (he : L[p]? = some e0) (h : e ∈ L) (hg : e.x.g = false) : e = e0 ∨ e ∈ evL L p e0 := by
  have hp := (List.getElem?_eq_some_iff.1 he).1
  have hg1 : (L.set p (gapE e0))[p]? = some (gapE e0) := List.getElem?_set_self hp
  have h1 : e = e0 ∨ e ∈ L.set p (gapE e0) := by
    obtain ⟨A, R, rfl, hA⟩ := split1 he
    rw [set_split hA]
    rcases List.mem_append.1 h with h | h
    · exact .inr (List.mem_append_left _ h)
    · rcases List.mem_cons.1 h with rfl | h
      · exact .inl rfl
      · exact .inr (List.mem_append_right _ (List.mem_cons_of_mem _ h))
  rcases h1 with h1 | h1
  · exact .inl h1
  · have hn : ∀ j, nextK (L.set p (gapE e0)) (spO e0.x) (p + 1) = some j → p < j ∧ j < (L.set p (gapE e0)).length := fun j hj => by
      have := nextK_some _ _ _ (Nat.le_refl _) hj
      omega
    have h2 : e ∈ evA L p e0 := joinE_stay h1 hg (fun i j hi hj => by
      injection hi with hi
      subst hi
      exact hn j hj)
    obtain ⟨y, hy, _⟩ : ∃ y, (evA L p e0)[p]? = some y ∧ spO y.x = spO (gapE e0).x := by
      unfold evA
      exact joinK_get hn hg1
    refine .inr (joinE_stay h2 hg (fun i j hi hj => ?_))
    injection hj with hj
    subst hj
    exact ⟨(prevK_some hi).1, (List.getElem?_eq_some_iff.1 hy).1⟩
theorem leastK_le {L : List Ett} : ∀ {k f : Nat}, leastK L k = some f → ∀ j y, j < k → L[j]? = some y → lastB y.x = false → prioE L f ≤ y.x.p
  | 0, f, h, _, _, hj, _, _ => by omega
  | k + 1, f, h, j, y, hj, hy, hl => by
    unfold leastK at h
    cases hk : L[k]? with
    | none =>
      rw [hk] at h
      by_cases hjk : j = k
      · subst hjk; rw [hk] at hy; cases hy
      · exact leastK_le h j y (by omega) hy hl
    | some e =>
      rw [hk] at h
      simp only at h
      have hpk : prioE L k = e.x.p := by unfold prioE; rw [hk]; rfl
      cases hle : lastB e.x with
      | true =>
        rw [hle, if_pos rfl] at h
        by_cases hjk : j = k
        · subst hjk
          rw [hk] at hy
          injection hy with hy
          subst hy
          rw [hle] at hl; cases hl
        · exact leastK_le h j y (by omega) hy hl
      | false =>
        rw [hle, if_neg (by decide)] at h
        cases hlk : leastK L k with
        | none =>
          rw [hlk] at h
          injection h with h
          subst h
          by_cases hjk : j = k
          · subst hjk
            rw [hk] at hy
            injection hy with hy
            subst hy
            rw [hpk]; exact Nat.le_refl _
          · exfalso
            have : ∀ {k : Nat}, leastK L k = none → ∀ j y, j < k → L[j]? = some y → lastB y.x = true := by
              intro k
              induction k with
              | zero => intro _ j y h; omega
              | succ k ih =>
                intro h j y hj hy
                unfold leastK at h
                cases hk : L[k]? with
                | none =>
                  rw [hk] at h
                  by_cases hjk : j = k
                  · subst hjk; rw [hk] at hy; cases hy
                  · exact ih h j y (by omega) hy
                | some e =>
                  rw [hk] at h
                  simp only at h
                  cases hle : lastB e.x with
                  | true =>
                    rw [hle, if_pos rfl] at h
                    by_cases hjk : j = k
                    · subst hjk
                      rw [hk] at hy
                      injection hy with hy
                      rw [← hy]; exact hle
                    · exact ih h j y (by omega) hy
                  | false =>
                    rw [hle, if_neg (by decide)] at h
                    cases hq : leastK L k with
                    | none => rw [hq] at h; cases h
                    | some f =>
                      rw [hq] at h
                      simp only at h
                      split at h <;> cases h
            have := this hlk j y (by omega) hy
            rw [hl] at this; cases this
        | some f2 =>
          rw [hlk] at h
          simp only at h
          split at h <;> rename_i hlt
          · injection h with h
            subst h
            rw [hpk]
            by_cases hjk : j = k
            · subst hjk
              rw [hk] at hy
              injection hy with hy
              subst hy
              exact Nat.le_refl _
            · have := leastK_le hlk j y (by omega) hy hl
              omega
          · injection h with h
            subst h
            by_cases hjk : j = k
            · subst hjk
              rw [hk] at hy
              injection hy with hy
              subst hy
              omega
            · exact leastK_le hlk j y (by omega) hy hl
/-- what evictions keep -/
structure KeptL (L L' : List Ett) : Prop where
  stay : ∀ e ∈ L, e.x.g = false → e ∈ L' ∨ (lastB e.x = false ∧ ∀ y ∈ L', lastB y.x = false → e.x.p ≤ y.x.p)
  from_ : ∀ y ∈ L', y.x.g = false → y ∈ L
theorem KeptL.refl (L : List Ett) : KeptL L L := ⟨fun _ he _ => .inl he, fun _ hy _ => hy⟩
theorem kept_room {size q : Nat} : ∀ {fuel : Nat} {L : List Ett} {f v : Nat}, KeptL L (roomK size q fuel L f v).2.1
  | fuel, L, f, v => by
    by_cases hf : sumE L + size ≤ q
    · rw [roomK_fit hf]; exact KeptL.refl L
    · cases hl : leastK L L.length with
      | none => rw [roomK_none hf hl]; exact KeptL.refl L
      | some p =>
        cases fuel with
        | zero =>
          unfold roomK
          rw [if_neg hf]
          exact KeptL.refl L
        | succ k =>
          rw [roomK_some hf hl]
          obtain ⟨_, e, he, hle⟩ := leastK_some hl
          rw [getD_of he]
          have ih := kept_room (size := size) (q := q) (fuel := k) (L := evL L p e) (f := lowE f (evIdx L p e)) (v := v + 1)
          have hpe : prioE L p = e.x.p := by unfold prioE; rw [he]; rfl
          refine ⟨fun x hx hg => ?_, fun y hy hg => evL_mem (ih.from_ y hy hg) hg⟩
          rcases evL_stay he hx hg with rfl | h
          · refine .inr ⟨hle, fun y hy hly => ?_⟩
            have hyg := (ev_span hly).1
            have hyL := evL_mem (ih.from_ y hy hyg) hyg
            obtain ⟨j, hj, hjy⟩ := List.getElem_of_mem hyL
            have := leastK_le hl j y hj (by rw [List.getElem?_eq_getElem hj, hjy]) hly
            rwa [hpe] at this
          · exact ih.stay x h hg
def hasI (N : List It) (x : It) : Bool := N.any fun y => sameI x y
/-- what the statement asks of what waited ahead, what waits behind, and what was put -/
structure KeptP (K N : List It) (x : It) : Prop where
  own : ∀ e ∈ K, lastB e = true → e.g = false → hasI N e = true
  low : ∀ e ∈ K, ∀ y ∈ K, lastB e = false → lastB y = false → hasI N e = false → hasI N y = true → e.p ≤ y.p
  put : x.g = true ∨ hasI N x = true
  few : ∀ e ∈ K, e.g = false → e.p ≤ 7
def itsE (L : List Ett) : List It := L.map (·.x)
theorem sameI_ev {a b : It} (h : sameI a b = true) (hg : a.g = false) : b.g = false ∧ a.o = b.o ∧ a.q = b.q ∧ a.p = b.p ∧ a.w = b.w := by
  unfold sameI at h
  cases hb : b.g with
  | true => rw [hg, hb] at h; cases h
  | false =>
    rw [hg, hb] at h
    simp only [bne_self_eq_false, Bool.false_eq_true, if_false] at h
    unfold sameEv at h
    have h := of_decide_eq_true h
    exact ⟨rfl, h.1, h.2.1, h.2.2.2.2.2.1, h.2.2.2.2.2.2.2.1⟩
theorem hasI_mem {L : List Ett} {e : Ett} (h : e ∈ L) : hasI (itsE L) e.x = true := List.any_eq_true.2 ⟨e.x, List.mem_map_of_mem h, sameI_refl _⟩
theorem hasI_ex {L : List Ett} {x : It} (h : hasI (itsE L) x = true) : ∃ y ∈ L, sameI x y.x = true := by
  obtain ⟨z, hz, hs⟩ := List.any_eq_true.1 h
  obtain ⟨y, hy, rfl⟩ := List.mem_map.1 hz
  exact ⟨y, hy, hs⟩
theorem lastB_of {a b : It} (h : sameI a b = true) (hl : lastB a = false) : lastB b = false := by
  obtain ⟨g, _, _, _, w⟩ := ev_span hl
  obtain ⟨h1, h2, h3, h4, h5⟩ := sameI_ev h g
  unfold lastB
  rw [h1, ← h5, w]
  rfl
theorem kept_put {F : Nat → Nat} {X : Sp} {L : List Ett} (hc : Cov F X.h L) (x : It) (A : Option Addr) (c : Nat) (h0 : (putR X L x A c).1 = 0) : KeptP (itsE L) (itsE (putR X L x A c).2.2.2.2) x := by
  have hp0 : partE x X.h = 0 := by
    by_cases h : partE x X.h = 0
    · exact h
    · unfold putR at h0
      rw [if_pos h] at h0
      exact h0
  obtain ⟨p1, p2, p3, p4⟩ := part_right hp0
  obtain ⟨i1, i2, i3⟩ := partE_zero hp0
  have hk := kept_room (size := (itemB (partI x X.h)).length) (q := X.q) (fuel := cntE L) (L := L) (f := 0) (v := X.v)
  obtain ⟨R, hR⟩ : ∃ R, R = roomK (itemB (partI x X.h)).length X.q (cntE L) L 0 X.v := ⟨_, rfl⟩
  obtain ⟨e, he⟩ : ∃ e, e = addE { X with v := R.2.2.2 } (partI x X.h) A c := ⟨_, rfl⟩
  have hex : e.x = partI x X.h := by rw [he]; rfl
  have hL : (putR X L x A c).2.2.2.2 = (addJ R.2.1 e).1 := by
    unfold putR at h0 ⊢
    rw [if_neg (by rw [hp0]; exact fun h => h rfl)] at h0 ⊢
    rw [← hR] at h0 ⊢
    dsimp only at h0 ⊢
    by_cases h1 : R.1 = false
    · rw [if_pos h1] at h0; cases h0
    · rw [if_neg h1] at h0 ⊢
      by_cases h2 : 1099511627776 ≤ X.n
      · rw [if_pos h2] at h0; cases h0
      · rw [if_neg h2, he]
  rw [hL]
  rw [← hR] at hk
  clear hR hL h0
  have hab : ∀ i j, prevK (R.2.1 ++ [e]) (spO e.x) R.2.1.length = some i → some R.2.1.length = some j → i < j ∧ j < (R.2.1 ++ [e]).length := fun i j hi hj => by
    injection hj with hj
    subst hj
    exact ⟨(prevK_some hi).1, by rw [List.length_append]; exact Nat.lt_succ_self _⟩
  have hstay : ∀ y ∈ R.2.1 ++ [e], y.x.g = false → y ∈ (addJ R.2.1 e).1 := fun y hy hg => by
    unfold addJ
    split
    · exact joinE_stay hy hg hab
    · exact hy
  have hfrom : ∀ y ∈ (addJ R.2.1 e).1, y.x.g = false → y ∈ R.2.1 ∨ y = e := fun y hy hg => by
    unfold addJ at hy
    have : y ∈ R.2.1 ++ [e] := by
      split at hy
      · exact joinE_mem hy hg
      · exact hy
    rcases List.mem_append.1 this with h | h
    · exact .inl h
    · exact .inr (List.mem_singleton.1 h)
  refine ⟨fun a ha hl hg => ?_, fun a ha b hb hla hlb hna hhb => ?_, ?_, fun a ha hg => ?_⟩
  · obtain ⟨a, ha2, rfl⟩ := List.mem_map.1 ha
    rcases hk.stay a ha2 hg with h | ⟨h, _⟩
    · exact hasI_mem (hstay a (List.mem_append_left _ h) hg)
    · rw [hl] at h; cases h
  · obtain ⟨a, ha2, rfl⟩ := List.mem_map.1 ha
    obtain ⟨b, hb2, rfl⟩ := List.mem_map.1 hb
    have hga := (ev_span hla).1
    rcases hk.stay a ha2 hga with h | ⟨_, h⟩
    · have := hasI_mem (hstay a (List.mem_append_left _ h) hga)
      rw [this] at hna; cases hna
    · obtain ⟨z, hz, hs⟩ := hasI_ex hhb
      obtain ⟨s1, s2, s3, s4, s5⟩ := sameI_ev hs (ev_span hlb).1
      have hlz := lastB_of hs hlb
      rcases hfrom z hz s1 with hz | rfl
      · rw [s4]; exact h z hz hlz
      · exfalso
        have h1 := (hc.ok b hb2).2
        obtain ⟨_, eo, _, et, _⟩ := ev_span hlb
        obtain ⟨_, zo, _, zt, _⟩ := ev_span hlz
        rw [eo, et, s2, s3, ← zo, ← zt, hex, p2, p4] at h1
        omega
  · cases hg : x.g with
    | true => exact .inl rfl
    | false =>
      refine .inr ?_
      have hx : partI x X.h = x := by
        rw [i3]
        unfold trimI
        have e1 : spF x = spT x := by unfold spF spT; rw [hg]; rfl
        rw [if_neg (by omega), if_pos (by omega)]
      have := hasI_mem (hstay e (List.mem_append_right _ List.mem_cons_self) (by rw [hex, hx]; exact hg))
      rwa [hex, hx] at this
  · obtain ⟨a, ha2, rfl⟩ := List.mem_map.1 ha
    exact (ev_right (hc.ok a ha2).1 hg).2.2.2
end Go.Proofs.Ytgcfofnlgdfmoaa
/- Layer 4: two small items, each in a variable of its own: what holds of the world behind that. -/
namespace Go.Proofs.Ytgcfofnlgdfmoaa
open Go.RowKit

theorem smallItem_as {s : Sm} {x : It} (hx : smallI s = x) (hs : OkS s) (w : World) :
    Calls Try.prog 33 #[.agg #[.bool s.g, .int .u8 s.o, .int .u8 s.p, .int .u8 s.w, .int .u16 s.q, .int .u16 s.m, .int .u16 s.t, .int .u8 s.r, .int .u8 s.l, .int .u8 s.v, .bool s.s]] w (ItRet x w) := by
  subst hx; exact smallItem_any s hs w
theorem own_setRow2 {W : World} {base : Nat} {e : TypeId} {size n g : Nat} {v : Value} {xs : List Value} (h : W.ownsRow base e size v n xs) (hg : v.ownBlock ≠ some g) (cs : Array Value) : (W.setRow g cs).ownsRow base e size v n xs := by
  refine ⟨h.1, ?_⟩
  rcases h.2 with hn | ⟨k, cap, cur, rfl, hb, hgg, rest⟩
  · exact .inl hn
  · exact .inr ⟨k, cap, cur, rfl, hb, (setRow_other W g k cs (fun e => hg (by simp [Value.ownBlock, e]))).trans hgg, rest⟩

/-- a variable for an item at block X -/
def CellsAt (V : World) (X : Nat) (t : TypeId) : Prop := ∃ cs, V.heap[X]? = some (.cells cs t (0, 0)) ∧ cs.size = 13
theorem CellsAt.lt {V : World} {X : Nat} {t : TypeId} (h : CellsAt V X t) : X < V.heap.size := by
  obtain ⟨cs, h1, _⟩ := h
  exact (Array.getElem?_eq_some_iff.1 h1).1
theorem CellsAt.below {V V2 : World} {X : Nat} {t : TypeId} (h : CellsAt V X t) (hb : Below V.heap.size V V2) : CellsAt V2 X t := by
  have hl := h.lt
  obtain ⟨cs, h1, h2⟩ := h
  exact ⟨cs, (hb.block X hl).trans h1, h2⟩
theorem CellsAt.other {V : World} {X Y : Nat} {t : TypeId} (h : CellsAt V X t) (hne : X ≠ Y) (cs : Array Value) : CellsAt (V.setRow Y cs) X t := by
  obtain ⟨c, h1, h2⟩ := h
  exact ⟨c, (setRow_other V Y X cs hne).trans h1, h2⟩
theorem CellsAt.same {V : World} {X : Nat} {t : TypeId} (h : CellsAt V X t) (cs : Array Value) (hs : cs.size = 13) : CellsAt (V.setRow X cs) X t := by
  obtain ⟨c, h1, _⟩ := h
  exact ⟨cs, setRow_heap V X c cs t _ h1, hs⟩
theorem CellsAt.new (V : World) (cs : Array Value) (t : TypeId) (hs : cs.size = 13) : CellsAt (V.alloc (.cells cs t)) V.heap.size t := ⟨cs, heap_alloc_new _ _, hs⟩

/-- x at block X, y at block Y, their labels in rows of their own, nothing of it old -/
structure XY (w0 w : World) (x y : It) (X Y : Nat) (A : Option Addr) (n c : Nat) (A2 : Option Addr) (n2 c2 : Nat) (tI tP : TypeId) : Prop where
  bl : Below w0.heap.size w0 w
  hx : w.heap[X]? = some (.cells #[.bool x.g, .int .u8 x.o, .int .u64 x.q, .int .u64 x.t, .string x.r, .slice A n c, .int .u8 x.s, .int .u8 x.p, .int .i64 x.v, .int .u8 x.w, .int .u8 x.ga, .int .u64 x.gf, .int .u64 x.gt] tI (0, 0))
  hy : w.heap[Y]? = some (.cells #[.bool y.g, .int .u8 y.o, .int .u64 y.q, .int .u64 y.t, .string y.r, .slice A2 n2 c2, .int .u8 y.s, .int .u8 y.p, .int .i64 y.v, .int .u8 y.w, .int .u8 y.ga, .int .u64 y.gf, .int .u64 y.gt] tI (0, 0))
  ox : w.ownsRow w0.heap.size tP 2 (.slice A n c) n (cellsP x.l)
  oy : w.ownsRow w0.heap.size tP 2 (.slice A2 n2 c2) n2 (cellsP y.l)
  nx : n = x.l.length
  ny : n2 = y.l.length
  ne : X ≠ Y
  lx : w0.heap.size ≤ X
  ly : w0.heap.size ≤ Y
  xx : (Value.slice A n c).ownBlock ≠ some X
  xy : (Value.slice A n c).ownBlock ≠ some Y
  yx : (Value.slice A2 n2 c2).ownBlock ≠ some X
  yy : (Value.slice A2 n2 c2).ownBlock ≠ some Y
theorem XY.ltx {w0 w : World} {x y : It} {X Y : Nat} {A : Option Addr} {n c : Nat} {A2 : Option Addr} {n2 c2 : Nat} {tI tP : TypeId} (h : XY w0 w x y X Y A n c A2 n2 c2 tI tP) : X < w.heap.size := (Array.getElem?_eq_some_iff.1 h.hx).1
theorem XY.lty {w0 w : World} {x y : It} {X Y : Nat} {A : Option Addr} {n c : Nat} {A2 : Option Addr} {n2 c2 : Nat} {tI tP : TypeId} (h : XY w0 w x y X Y A n c A2 n2 c2 tI tP) : Y < w.heap.size := (Array.getElem?_eq_some_iff.1 h.hy).1
theorem XY.below {w0 w w2 : World} {x y : It} {X Y : Nat} {A : Option Addr} {n c : Nat} {A2 : Option Addr} {n2 c2 : Nat} {tI tP : TypeId} (h : XY w0 w x y X Y A n c A2 n2 c2 tI tP) (hb : Below w.heap.size w w2) : XY w0 w2 x y X Y A n c A2 n2 c2 tI tP :=
  ⟨h.bl.trans (hb.mono h.bl.size), (hb.block _ h.ltx).trans h.hx, (hb.block _ h.lty).trans h.hy, own_below h.ox hb, own_below h.oy hb, h.nx, h.ny, h.ne, h.lx, h.ly, h.xx, h.xy, h.yx, h.yy⟩
end Go.Proofs.Ytgcfofnlgdfmoaa
