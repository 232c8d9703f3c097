/- Several texts in one: SpCov, SpFind, SpFinK, SpCovA, SpKept, ItTwo. -/
import Derived.Test.YtholdcgkhicdmaaGreatDoorZq17
namespace Go.Proofs.YtholdcgkhicdmaaGreatDoor
open Go.RowKit
def chainO (o : Nat) : List Ett → Nat → Option Nat
 | [], n => some n
 | e :: L, n => if spO e.x = o then (if spF e.x = n + 1 then chainO o L (spT e.x) else none) else chainO o L n
theorem chain_app (o : Nat) : ∀ (A B : List Ett) (n : Nat), chainO o (A ++ B) n = (chainO o A n).bind (chainO o B)
 | [], B, n => rfl
 | e :: A, B, n => by
   rw [List.cons_append]
   unfold chainO
   split
   ·split
    ·exact chain_app o A B _
    ·rfl
   ·exact chain_app o A B _
theorem chain_skip {o : Nat} : ∀ {A : List Ett}, (∀ e ∈ A, spO e.x ≠ o) → ∀ n, chainO o A n = some n
 | [], _, n => rfl
 | e :: A, h, n => by
   unfold chainO
   rw [if_neg (h e List.mem_cons_self)]
   exact chain_skip (fun x hx => h x (List.mem_cons_of_mem _ hx)) n
theorem split1 {L : List Ett} {p : Nat} {e : Ett} (h : L[p]? = some e) : ∃ A R, L = A ++ e :: R ∧ A.length = p := by
 have hp := (List.getElem?_eq_some_iff.1 h).1
 refine ⟨L.take p, L.drop (p + 1), ?_, by rw [List.length_take]; omega⟩
 have : e :: L.drop (p + 1) = L.drop p := by rw [List.drop_eq_getElem_cons hp, (List.getElem?_eq_some_iff.1 h).2]
 rw [this, List.take_append_drop]
theorem set_split {A R : List Ett} {e y : Ett} {p : Nat} (h : A.length = p) : (A ++ e :: R).set p y = A ++ y :: R := by
 subst h
 rw [List.set_append_right _ _ (Nat.le_refl _), Nat.sub_self, List.set_cons_zero]
theorem split2 {L : List Ett} {a b : Nat} {ea eb : Ett} (ha : L[a]? = some ea) (hb : L[b]? = some eb) (hab : a < b) :
  ∃ A M R, L = A ++ ea :: (M ++ eb :: R) ∧ A.length = a ∧ M.length = b - a - 1 := by
 obtain ⟨A, T, rfl, hA⟩ := split1 ha
 rw [List.getElem?_append_right (by omega)] at hb
 obtain ⟨k, hk⟩ : ∃ k, b - A.length = k + 1 := ⟨b - A.length - 1, by omega⟩
 rw [hk, List.getElem?_cons_succ] at hb
 obtain ⟨M, R, rfl, hM⟩ := split1 hb
 exact ⟨A, M, R, rfl, hA, by omega⟩
theorem joinL_split {A M R : List Ett} {ea eb : Ett} {a b : Nat} (hA : A.length = a) (hM : M.length = b - a - 1) (hab : a < b) :
  joinL (A ++ ea :: (M ++ eb :: R)) a b ea eb = A ++ ⟨ea.i, joinI ea.x eb.x, none, 0⟩ :: (M ++ R) := by
 unfold joinL cutE
 rw [set_split hA]
 have h1 : A ++ (⟨ea.i, joinI ea.x eb.x, none, 0⟩ : Ett) :: (M ++ eb :: R) = (A ++ ⟨ea.i, joinI ea.x eb.x, none, 0⟩ :: M) ++ eb :: R := by simp
 have hl : (A ++ (⟨ea.i, joinI ea.x eb.x, none, 0⟩ : Ett) :: M).length = b := by simp; omega
 rw [h1, List.take_left' hl]
 have h2 : (A ++ (⟨ea.i, joinI ea.x eb.x, none, 0⟩ : Ett) :: M) ++ eb :: R = ((A ++ ⟨ea.i, joinI ea.x eb.x, none, 0⟩ :: M) ++ [eb]) ++ R := by simp
 rw [h2, List.drop_left' (by rw [List.length_append, hl]; rfl)]
 simp
def Free (L : List Ett) (o a b : Nat) : Prop := ∀ j e, a < j → j < b → L[j]? = some e → spO e.x ≠ o
theorem nextK_free {L : List Ett} {o : Nat} : ∀ (d k j : Nat), L.length - k ≤ d → nextK L o k = some j → (∀ i e, k ≤ i → i < j → L[i]? = some e → spO e.x ≠ o) ∧ ∃ e, L[j]? = some e ∧ spO e.x = o
 | d, k, j, hd, h => by
   by_cases hk : k < L.length
   ·have hg := List.getElem?_eq_getElem hk
    rw [nextK_at hg] at h
    split at h
    ·injection h with h
     subst h
     rename_i ho
     exact ⟨fun i e h1 h2 => by omega, _, hg, ho⟩
    ·rename_i ho
     cases d with
     | zero => omega
     | succ d =>
       obtain ⟨h1, h2⟩ := nextK_free d (k + 1) j (by omega) h
       refine ⟨fun i e hi hj he => ?_, h2⟩
       by_cases hik : i = k
       ·subst hik
        rw [hg] at he
        injection he with he
        rw [← he]; exact ho
       ·exact h1 i e (by omega) hj he
   ·rw [nextK_end (by omega)] at h; cases h
theorem prevK_free {L : List Ett} {o : Nat} : ∀ {p j : Nat}, prevK L o p = some j → Free L o j p ∧ ∃ e, L[j]? = some e ∧ spO e.x = o
 | 0, j, h => by simp [prevK] at h
 | p + 1, j, h => by
   by_cases hp : p < L.length
   ·have hg := List.getElem?_eq_getElem hp
    rw [prevK_at hg] at h
    split at h
    ·injection h with h
     subst h
     rename_i ho
     exact ⟨fun i e h1 h2 => by omega, _, hg, ho⟩
    ·rename_i ho
     obtain ⟨h1, h2⟩ := prevK_free h
     refine ⟨fun i e hi hj he => ?_, h2⟩
     by_cases hik : i = p
     ·subst hik
      rw [hg] at he
      injection he with he
      rw [← he]; exact ho
     ·exact h1 i e hi (by omega) he
   ·have hg : L[p]? = none := List.getElem?_eq_none (by omega)
    have h' : prevK L o p = some j := by
     conv at h => lhs; unfold prevK
     rw [hg] at h
     simpa using h
    obtain ⟨h1, h2⟩ := prevK_free h'
    refine ⟨fun i e hi hj he => ?_, h2⟩
    by_cases hik : i = p
    ·subst hik; rw [hg] at he; cases he
    ·exact h1 i e hi (by omega) he
theorem gap_right {x : It} (h : itemN x = 0) (hg : x.g = true) : x.ga ≤ 31 ∧ 0 < x.gf ∧ x.gf ≤ x.gt ∧ x.gt ≤ 1099511627776 := by
 unfold itemN at h
 rw [if_pos hg] at h
 unfold gapN at h
 split at h
 ·cases h
 ·omega
theorem ev_right {x : It} (h : itemN x = 0) (hg : x.g = false) : x.o ≤ 31 ∧ 0 < x.q ∧ x.q ≤ 1099511627776 ∧ x.p ≤ 7 := by
 unfold itemN at h
 rw [hg, if_neg (by decide)] at h
 unfold evN at h
 split at h
 ·cases h
 ·omega
theorem gap_made {a f t : Nat} (h1 : a ≤ 31) (h2 : 0 < f) (h3 : f ≤ t) (h4 : t ≤ 1099511627776) : itemN ⟨true, 0, 0, 0, ⟨#[]⟩, [], 0, 0, 0, 0, a, f, t⟩ = 0 := by
 unfold itemN
 rw [if_pos rfl]
 unfold gapN
 rw [if_neg (by simp only; omega)]
theorem right_span {x : It} (h : itemN x = 0) : spO x ≤ 31 ∧ 0 < spF x ∧ spF x ≤ spT x ∧ spT x ≤ 1099511627776 := by
 unfold spO spF spT
 cases hg : x.g with
 | true =>
   have := gap_right h hg
   simp only [if_true]
   omega
 | false =>
   have := ev_right h hg
   simp only [Bool.false_eq_true, if_false]
   omega
theorem joinB_parts {x y : It} (h : joinB x y = true) : x.g = true ∧ y.g = true ∧ x.ga = y.ga ∧ y.gf = x.gt + 1 ∧ y.gf ≤ y.gt ∧ joinI x y = ⟨true, 0, 0, 0, ⟨#[]⟩, [], 0, 0, 0, 0, x.ga, x.gf, y.gt⟩ := by
 have hi : joinI x y = ⟨true, 0, 0, 0, ⟨#[]⟩, [], 0, 0, 0, 0, x.ga, x.gf, y.gt⟩ := by unfold joinI; rw [if_pos h]
 unfold joinB at h
 simp only [Bool.and_eq_true, decide_eq_true_eq] at h
 obtain ⟨⟨h1, h2⟩, h3, h4, h5, h6⟩ := h
 exact ⟨h1, h2, h3, by omega, h6, hi⟩
structure Cov (F H : Nat → Nat) (L : List Ett) : Prop where
 ch : ∀ o, chainO o L (F o) = some (H o)
 ok : ∀ e ∈ L, itemN e.x = 0 ∧ spT e.x ≤ H (spO e.x)
theorem chain_set {A R : List Ett} {e y : Ett} {o n : Nat} (h1 : spO y.x = spO e.x) (h2 : spF y.x = spF e.x) (h3 : spT y.x = spT e.x) : chainO o (A ++ y :: R) n = chainO o (A ++ e :: R) n := by
 rw [chain_app, chain_app]
 congr 1
 funext k
 conv => lhs; unfold chainO
 conv => rhs; unfold chainO
 rw [h1, h2, h3]
section
variable {F H : Nat → Nat} {L : List Ett}
theorem Cov.join {a b : Nat} {ea eb : Ett} (h : Cov F H L) (ha : L[a]? = some ea) (hb : L[b]? = some eb) (hab : a < b) (hf : Free L (spO ea.x) a b) (hj : joinB ea.x eb.x = true) : Cov F H (joinL L a b ea eb) := by
 obtain ⟨A, M, R, rfl, hA, hM⟩ := split2 ha hb hab
 obtain ⟨g1, g2, g3, g4, g5, g6⟩ := joinB_parts hj
 rw [joinL_split hA hM hab]
 have hfree : ∀ e ∈ M, spO e.x ≠ ea.x.ga := fun e he => by
  obtain ⟨j, hjl, hje⟩ := List.getElem_of_mem he
  have := hf (a + 1 + j) e (by omega) (by omega) (by
   rw [List.getElem?_append_right (by omega), show a + 1 + j - A.length = j + 1 by omega, List.getElem?_cons_succ, List.getElem?_append_left hjl, List.getElem?_eq_getElem hjl, hje])
  unfold spO at this ⊢
  rw [g1, if_pos rfl] at this
  exact this
 have oa : spO ea.x = ea.x.ga := by unfold spO; rw [g1, if_pos rfl]
 have ob : spO eb.x = ea.x.ga := by unfold spO; rw [g2, if_pos rfl, g3]
 have fa : spF ea.x = ea.x.gf := by unfold spF; rw [g1, if_pos rfl]
 have fb : spF eb.x = ea.x.gt + 1 := by unfold spF; rw [g2, if_pos rfl, g4]
 have ta : spT ea.x = ea.x.gt := by unfold spT; rw [g1, if_pos rfl]
 have tb : spT eb.x = eb.x.gt := by unfold spT; rw [g2, if_pos rfl]
 have hea := h.ok ea (List.mem_append_right _ List.mem_cons_self)
 have heb := h.ok eb (List.mem_append_right _ (List.mem_cons_of_mem _ (List.mem_append_right _ List.mem_cons_self)))
 have r1 := gap_right hea.1 g1
 have r2 := gap_right heb.1 g2
 have oj : spO (joinI ea.x eb.x) = ea.x.ga := by rw [g6]; rfl
 have fj : spF (joinI ea.x eb.x) = ea.x.gf := by rw [g6]; rfl
 have tj : spT (joinI ea.x eb.x) = eb.x.gt := by rw [g6]; rfl
 refine ⟨fun o => ?_, fun e he => ?_⟩
 ·have hc := h.ch o
  rw [chain_app] at hc ⊢
  cases hn : chainO o A (F o) with
  | none => rw [hn] at hc; cases hc
  | some n =>
    rw [hn] at hc
    simp only [Option.bind_some] at hc ⊢
    conv => lhs; unfold chainO
    conv at hc => lhs; unfold chainO
    simp only [oa, oj, fa, fj, ta, tj] at hc ⊢
    by_cases ho : ea.x.ga = o
    ·rw [if_pos ho] at hc ⊢
     split at hc
     ·rename_i hfn
      rw [if_pos hfn]
      rw [chain_app] at hc ⊢
      have hs := chain_skip (o := o) (A := M) (fun e he => ho ▸ hfree e he)
      rw [hs, Option.bind_some] at hc ⊢
      conv at hc => lhs; unfold chainO
      rw [ob, if_pos ho, fb, if_pos rfl, tb] at hc
      exact hc
     ·cases hc
    ·rw [if_neg ho] at hc ⊢
     rw [chain_app] at hc ⊢
     cases hm : chainO o M n with
     | none => rw [hm] at hc; cases hc
     | some k =>
       rw [hm] at hc
       simp only [Option.bind_some] at hc ⊢
       conv at hc => lhs; unfold chainO
       rw [ob, if_neg ho] at hc
       exact hc
 ·rcases List.mem_append.1 he with he | he
  ·exact h.ok e (List.mem_append_left _ he)
  ·rcases List.mem_cons.1 he with rfl | he
   ·refine ⟨?_, ?_⟩
    ·show itemN (joinI ea.x eb.x) = 0
     rw [g6]
     exact gap_made r1.1 r1.2.1 (by omega) r2.2.2.2
    ·show spT (joinI ea.x eb.x) ≤ H (spO (joinI ea.x eb.x))
     rw [tj, oj, ← tb, ← ob]
     exact heb.2
   ·rcases List.mem_append.1 he with he | he
    ·exact h.ok e (List.mem_append_right _ (List.mem_cons_of_mem _ (List.mem_append_left _ he)))
    ·exact h.ok e (List.mem_append_right _ (List.mem_cons_of_mem _ (List.mem_append_right _ (List.mem_cons_of_mem _ he))))
theorem Cov.joinK {a b : Option Nat} (h : Cov F H L) (hh : ∀ i j, a = some i → b = some j → i < j ∧ ∃ ei ej, L[i]? = some ei ∧ L[j]? = some ej ∧ Free L (spO ei.x) i j) : Cov F H (joinK L a b).1 := by
 cases a with
 | none => exact h
 | some a =>
   cases b with
   | none => exact h
   | some b =>
     obtain ⟨hab, ea, eb, ha, hb, hf⟩ := hh a b rfl rfl
     unfold Go.Proofs.YtholdcgkhicdmaaGreatDoor.joinK
     simp only
     rw [getD_of ha, getD_of hb]
     split
     ·exact h.join ha hb hab hf (by assumption)
     ·exact h
theorem Cov.set {p : Nat} {e y : Ett} (h : Cov F H L) (he : L[p]? = some e) (h1 : spO y.x = spO e.x) (h2 : spF y.x = spF e.x) (h3 : spT y.x = spT e.x) (h4 : itemN y.x = 0) : Cov F H (L.set p y) := by
 obtain ⟨A, R, rfl, hA⟩ := split1 he
 rw [set_split hA]
 refine ⟨fun o => by rw [chain_set h1 h2 h3]; exact h.ch o, fun x hx => ?_⟩
 rcases List.mem_append.1 hx with hx | hx
 ·exact h.ok x (List.mem_append_left _ hx)
 ·rcases List.mem_cons.1 hx with rfl | hx
  ·exact ⟨h4, by rw [h3, h1]; exact (h.ok e (List.mem_append_right _ List.mem_cons_self)).2⟩
  ·exact h.ok x (List.mem_append_right _ (List.mem_cons_of_mem _ hx))
theorem joinK_get {L : List Ett} {a : Nat} {b : Option Nat} (hb : ∀ j, b = some j → a < j ∧ j < L.length) {e : Ett} (he : L[a]? = some e) : ∃ y, (Go.Proofs.YtholdcgkhicdmaaGreatDoor.joinK L (some a) b).1[a]? = some y ∧ spO y.x = spO e.x := by
 cases b with
 | none => exact ⟨e, he, rfl⟩
 | some b =>
   obtain ⟨h1, h2⟩ := hb b rfl
   unfold Go.Proofs.YtholdcgkhicdmaaGreatDoor.joinK
   simp only
   rw [getD_of he]
   split
   ·rename_i hj
    refine ⟨_, joinL_keep h1 h2, ?_⟩
    obtain ⟨g1, _, _, _, _, g6⟩ := joinB_parts hj
    show spO (joinI _ _) = _
    rw [g6]
    unfold spO
    rw [if_pos rfl, g1, if_pos rfl]
   ·exact ⟨e, he, rfl⟩
theorem Cov.evL {p : Nat} {e : Ett} (h : Cov F H L) (he : L[p]? = some e) : Cov F H (evL L p e) := by
 have hp := (List.getElem?_eq_some_iff.1 he).1
 have hr := right_span (h.ok e (List.mem_of_getElem? he)).1
 have h1 : Cov F H (L.set p (gapE e)) := h.set he rfl rfl rfl (gap_made hr.1 hr.2.1 hr.2.2.1 hr.2.2.2)
 have hg1 : (L.set p (gapE e))[p]? = some (gapE e) := List.getElem?_set_self hp
 have hn : ∀ j, nextK (L.set p (gapE e)) (spO e.x) (p + 1) = some j → p < j ∧ j < (L.set p (gapE e)).length := fun j hj => by
  have := nextK_some _ _ _ (Nat.le_refl _) hj
  omega
 have h2 : Cov F H (evA L p e) := by
  unfold evA
  refine h1.joinK (fun i j hi hj => ?_)
  injection hi with hi
  subst hi
  obtain ⟨f1, ej, f2, f3⟩ := nextK_free _ _ _ (Nat.le_refl _) hj
  exact ⟨(hn j hj).1, gapE e, ej, hg1, f2, fun k x hk1 hk2 hx => f1 k x (by omega) hk2 hx⟩
 obtain ⟨y, hy, hyo⟩ : ∃ y, (evA L p e)[p]? = some y ∧ spO y.x = spO e.x := by
  unfold evA
  obtain ⟨y, hy, hyo⟩ := joinK_get hn hg1
  exact ⟨y, hy, hyo⟩
 unfold Go.Proofs.YtholdcgkhicdmaaGreatDoor.evL evB2
 refine h2.joinK (fun i j hi hj => ?_)
 injection hj with hj
 subst hj
 obtain ⟨f1, ei, f2, f3⟩ := prevK_free hi
 exact ⟨(prevK_some hi).1, ei, y, f2, hy, by rw [f3]; exact f1⟩
theorem Cov.room {size q : Nat} : ∀ {fuel : Nat} {L : List Ett} {f v : Nat}, Cov F H L → Cov F H (roomK size q fuel L f v).2.1
 | fuel, L, f, v, h => by
   by_cases hf : sumE L + size ≤ q
   ·rw [roomK_fit hf]; exact h
   ·cases hl : leastK L L.length with
    | none => rw [roomK_none hf hl]; exact h
    | some p =>
      cases fuel with
      | zero =>
        unfold roomK
        rw [if_neg hf]
        exact h
      | succ k =>
        rw [roomK_some hf hl]
        obtain ⟨_, e, he, hle⟩ := leastK_some hl
        rw [getD_of he]
        exact Cov.room (h.evL he)
theorem Cov.app {e : Ett} (h : Cov F H L) (h1 : itemN e.x = 0) (h2 : spF e.x = H (spO e.x) + 1) : Cov F (upH H (spO e.x) (spT e.x)) (L ++ [e]) := by
 have hr := right_span h1
 refine ⟨fun o => ?_, fun x hx => ?_⟩
 ·rw [chain_app, h.ch o, Option.bind_some]
  unfold chainO upH
  by_cases ho : spO e.x = o
  ·rw [if_pos ho, if_pos (by rw [h2, ho]), if_pos ho.symm]
   rfl
  ·rw [if_neg ho, if_neg (fun h => ho h.symm)]
   rfl
 ·rcases List.mem_append.1 hx with hx | hx
  ·have := h.ok x hx
   refine ⟨this.1, ?_⟩
   unfold upH
   split
   ·rename_i ho
    have h3 := this.2
    rw [ho] at h3
    omega
   ·exact this.2
  ·rw [List.mem_singleton] at hx
   subst hx
   exact ⟨h1, by unfold upH; rw [if_pos rfl]; exact Nat.le_refl _⟩
theorem Cov.addJ {e : Ett} (h : Cov F H L) (h1 : itemN e.x = 0) (h2 : spF e.x = H (spO e.x) + 1) : Cov F (upH H (spO e.x) (spT e.x)) (addJ L e).1 := by
 have h3 := h.app h1 h2
 unfold Go.Proofs.YtholdcgkhicdmaaGreatDoor.addJ
 split
 ·refine h3.joinK (fun i j hi hj => ?_)
  injection hj with hj
  subst hj
  obtain ⟨f1, ei, f2, f3⟩ := prevK_free hi
  exact ⟨(prevK_some hi).1, ei, e, f2, by rw [List.getElem?_append_right (Nat.le_refl _), Nat.sub_self]; rfl, by rw [f3]; exact f1⟩
 ·exact h3
theorem part_right {x : It} {h : Nat → Nat} (h0 : partE x h = 0) : itemN (partI x h) = 0 ∧ spO (partI x h) = spO x ∧ spF (partI x h) = h (spO x) + 1 ∧ spT (partI x h) = spT x := by
 obtain ⟨i1, i2, i3⟩ := partE_zero h0
 have hr := right_span i1
 have i4 : spF x ≤ h (spO x) + 1 := by
  unfold partE at h0
  rw [if_neg (by omega), if_neg (by omega)] at h0
  split at h0
  ·cases h0
  ·omega
 rw [i3]
 unfold trimI
 rw [if_neg (by omega)]
 split
 ·exact ⟨i1, rfl, by omega, rfl⟩
 ·refine ⟨gap_made hr.1 (by omega) (by omega) hr.2.2.2, ?_, ?_, ?_⟩ <;> rfl
theorem Cov.put {X : Sp} (h : Cov F X.h L) (x : It) (A : Option Addr) (c : Nat) : Cov F (putR X L x A c).2.2.2.1.h (putR X L x A c).2.2.2.2 := by
 unfold putR
 by_cases h0 : partE x X.h = 0
 ·rw [if_neg (by rw [h0]; exact fun h => h rfl)]
  dsimp only
  split
  ·exact h
  ·split
   ·exact h
   ·obtain ⟨p1, p2, p3, p4⟩ := part_right h0
    have hc := (Cov.room (size := (itemB (partI x X.h)).length) (q := X.q) (fuel := cntE L) (f := 0) (v := X.v) h).addJ (e := addE { X with v := (roomK (itemB (partI x X.h)).length X.q (cntE L) L 0 X.v).2.2.2 } (partI x X.h) A c) p1 (by show spF (partI x X.h) = X.h (spO (partI x X.h)) + 1; rw [p3, p2])
    exact hc
 ·rw [if_pos h0]
  exact h
end
structure CutAt (L : List Ett) (P m : Nat) : Prop where
 le : m ≤ L.length
 lo : ∀ k, k < m → idxE L k ≤ P
 hi : ∀ k, m ≤ k → k < L.length → P < idxE L k
theorem idxE_at {L : List Ett} {k : Nat} {e : Ett} (h : L[k]? = some e) : idxE L k = e.i := by unfold idxE; rw [h]; rfl
theorem SameE.symm {L M : List Ett} (h : SameE L M) : SameE M L := Eq.symm h
theorem SameE.trans {L M K : List Ett} (h : SameE L M) (h' : SameE M K) : SameE L K := Eq.trans h h'
def upT (G : Nat → Nat) (x : It) : Nat → Nat := fun i => if i = spO x then spT x else G i
theorem same_cons {L M : List Ett} (h : SameE L M) : (L = [] ∧ M = []) ∨ ∃ a b l m, L = a :: l ∧ M = b :: m ∧ a.i = b.i ∧ a.x = b.x ∧ SameE l m := by
 unfold SameE at h
 cases L with
 | nil =>
   cases M with
   | nil => exact .inl ⟨rfl, rfl⟩
   | cons b m => cases h
 | cons a l =>
   cases M with
   | nil => cases h
   | cons b m =>
     rw [List.map_cons, List.map_cons] at h
     injection h with h1 h2
     injection h1 with h1 h3
     exact .inr ⟨a, b, l, m, rfl, rfl, h1, h3, h2⟩
theorem same_its {L M : List Ett} (h : SameE L M) : L.map (·.x) = M.map (·.x) := by
 have h2 := congrArg (List.map (fun p : Nat × It => p.2)) (show L.map (fun e => (e.i, e.x)) = M.map (fun e => (e.i, e.x)) from h)
 rw [List.map_map, List.map_map] at h2
 exact h2
section
variable {F H : Nat → Nat} {L : List Ett}
end
end Go.Proofs.YtholdcgkhicdmaaGreatDoor