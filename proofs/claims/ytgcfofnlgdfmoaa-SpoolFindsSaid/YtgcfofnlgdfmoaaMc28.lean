/- Several texts in one: SpRow. -/
import Derived.Test.YtgcfofnlgdfmoaaMc27
/- Layer 8: an item of a row of entries that is written over. -/
namespace Go.Proofs.Ytgcfofnlgdfmoaa
open Go.RowKit

theorem own_setCell {w : World} {base : Nat} {e : TypeId} {n c r size : Nat} {xs : List Value} (h : w.ownsRow base e size (.slice (some ⟨r, 0, none⟩) n c) n xs) (i : Nat) (u : Value) :
    (w.setCell ⟨r, i, none⟩ u).ownsRow base e size (.slice (some ⟨r, 0, none⟩) n c) n (xs.set i u) := by
  refine ⟨by rw [List.length_set]; exact h.1, ?_⟩
  rcases h.2 with ⟨e1, _⟩ | ⟨g, cap, cur, e1, h1, h2, h3, h4, h5, h6⟩
  · injection e1 with e1; cases e1
  · injection e1 with e1 e2 e3
    injection e1 with e1
    have e1 : r = g := congrArg Addr.block e1
    subst e1
    subst e3
    refine .inr ⟨r, c, cur.setIfInBounds i u, rfl, h1, ?_, h3, h4, by simpa using h5, ?_⟩
    · show (w.heap.modify r _)[r]? = _
      rw [Array.getElem?_modify, if_pos rfl, h2]
      rfl
    · rw [← h6]
      simp [List.take_set]
def putL : List Value → Nat → List Value → List Value
  | xs, _, [] => xs
  | xs, i, v :: r => putL (xs.set i v) (i + 1) r
theorem own_setCells {base : Nat} {e : TypeId} {n c r size : Nat} : ∀ (vs : List Value) (i : Nat) {w : World} {xs : List Value}, w.ownsRow base e size (.slice (some ⟨r, 0, none⟩) n c) n xs →
    (w.setCells r i vs).ownsRow base e size (.slice (some ⟨r, 0, none⟩) n c) n (putL xs i vs)
  | [], _, _, _, h => h
  | v :: vs, i, _, _, h => own_setCells vs (i + 1) (own_setCell h i v)
theorem putL_mid : ∀ (vs old pre post : List Value), vs.length = old.length → putL (pre ++ (old ++ post)) pre.length vs = pre ++ (vs ++ post)
  | [], old, pre, post, h => by
    obtain rfl : old = [] := List.eq_nil_of_length_eq_zero h.symm
    rfl
  | v :: vs, old, pre, post, h => by
    cases old with
    | nil => simp at h
    | cons o old =>
      have e : (pre ++ (o :: old ++ post)).set pre.length v = (pre ++ [v]) ++ (old ++ post) := by
        rw [List.set_append_right _ _ (Nat.le_refl _), Nat.sub_self, List.cons_append, List.set_cons_zero, List.append_assoc]
        rfl
      have ih := putL_mid vs old (pre ++ [v]) post (by simpa using h)
      rw [List.length_append, List.length_singleton] at ih
      rw [putL, e, ih, List.append_assoc]
      rfl
theorem cellsE_setL {L : List Ett} {p : Nat} {e : Ett} (y : It) (A : Option Addr) (c : Nat) (h : L[p]? = some e) : putL (cellsE L) (p * 14 + 1) (itC y A c) = cellsE (L.set p ⟨e.i, y, A, c⟩) := by
  have hp := (List.getElem?_eq_some_iff.1 h).1
  have hd : L.drop p = e :: L.drop (p + 1) := by
    rw [List.drop_eq_getElem_cons hp, (List.getElem?_eq_some_iff.1 h).2]
  have h1 : cellsE L = (cellsE (L.take p) ++ [Value.int .u64 e.i]) ++ (itC e.x e.A e.c ++ cellsE (L.drop (p + 1))) := by
    conv => lhs; rw [← List.take_append_drop p L, hd, cellsE_append, cellsE_cons]
    simp [entC]
  have h2 : cellsE (L.set p ⟨e.i, y, A, c⟩) = (cellsE (L.take p) ++ [Value.int .u64 e.i]) ++ (itC y A c ++ cellsE (L.drop (p + 1))) := by
    rw [List.set_eq_take_append_cons_drop, if_pos hp, cellsE_append, cellsE_cons]
    simp [entC]
  have hl : (cellsE (L.take p) ++ [Value.int .u64 e.i]).length = p * 14 + 1 := by
    rw [List.length_append, cellsE_length, List.length_take, List.length_singleton]
    congr 2
    omega
  rw [h1, h2, ← hl]
  exact putL_mid (itC y A c) (itC e.x e.A e.c) (cellsE (L.take p) ++ [Value.int .u64 e.i]) (cellsE (L.drop (p + 1))) rfl
theorem onlyCells {T : Nat → Prop} {b : Nat} (hb : T b) : ∀ (vs : List Value) (i : Nat) (w : World), Only T w (w.setCells b i vs)
  | [], _, w => Only.refl T w
  | v :: vs, i, w => (Only.setCell w ⟨b, i, none⟩ v hb).trans (onlyCells hb vs (i + 1) _) (fun _ h => .inl h)
theorem sumE_set {L : List Ett} {p : Nat} {e : Ett} (h : L[p]? = some e) (y : Ett) : sumE (L.set p y) + (itemB e.x).length = sumE L + (itemB y.x).length := by
  have hp := (List.getElem?_eq_some_iff.1 h).1
  have hd : L.drop p = e :: L.drop (p + 1) := by
    rw [List.drop_eq_getElem_cons hp, (List.getElem?_eq_some_iff.1 h).2]
  have h1 : sumE L = sumE (L.take p) + ((itemB e.x).length + sumE (L.drop (p + 1))) := by
    conv => lhs; rw [← List.take_append_drop p L, hd, sumE_append, sumE_cons]
  rw [List.set_eq_take_append_cons_drop, if_pos hp, sumE_append, sumE_cons, h1]
  omega
section
variable {w : World} {s u : Nat} {X : Sp} {v : Value}
theorem heap_setAt {w : World} {s : Nat} {cs : Array Value} {t : TypeId} {fr : Nat × Nat} (h : w.heap[s]? = some (.cells cs t fr)) (k : Nat) (u : Value) : (w.setCell ⟨s, k, none⟩ u).heap[s]? = some (.cells (cs.setIfInBounds k u) t fr) := by
  show (w.heap.modify s _)[s]? = _
  rw [Array.getElem?_modify, if_pos rfl, h]
  rfl
theorem SpC.setU (h : SpC w s X u v) (u' : Nat) : SpC (w.setCell ⟨s, 1, none⟩ (.int .i64 u')) s X u' v := by
  obtain ⟨cs, hc, hz⟩ := h.blk
  refine ⟨⟨_, heap_setAt hc _ _, by simpa using hz⟩, (World.cell?_setCell_other _ _ _ _ (by simp)).trans h.c0, World.cell?_setCell_same _ _ _ h.c1, (World.cell?_setCell_other _ _ _ _ (by simp)).trans h.c2, (World.cell?_setCell_other _ _ _ _ (by simp)).trans h.c3, (World.cell?_setCell_other _ _ _ _ (by simp)).trans h.c4, fun i hi => (World.cell?_setCell_other _ _ _ _ (by simp)).trans (h.hi i hi), (World.cell?_setCell_other _ _ _ _ (by simp)).trans h.c37⟩
theorem SpC.setN (h : SpC w s X u v) (k : Nat) : SpC (w.setCell ⟨s, 2, none⟩ (.int .u64 k)) s { X with n := k } u v := by
  obtain ⟨cs, hc, hz⟩ := h.blk
  refine ⟨⟨_, heap_setAt hc _ _, by simpa using hz⟩, (World.cell?_setCell_other _ _ _ _ (by simp)).trans h.c0, (World.cell?_setCell_other _ _ _ _ (by simp)).trans h.c1, World.cell?_setCell_same _ _ _ h.c2, (World.cell?_setCell_other _ _ _ _ (by simp)).trans h.c3, (World.cell?_setCell_other _ _ _ _ (by simp)).trans h.c4, fun i hi => (World.cell?_setCell_other _ _ _ _ (by simp)).trans (h.hi i hi), (World.cell?_setCell_other _ _ _ _ (by simp)).trans h.c37⟩
theorem SpC.setA (h : SpC w s X u v) (k : Nat) : SpC (w.setCell ⟨s, 3, none⟩ (.int .u64 k)) s { X with a := k } u v := by
  obtain ⟨cs, hc, hz⟩ := h.blk
  refine ⟨⟨_, heap_setAt hc _ _, by simpa using hz⟩, (World.cell?_setCell_other _ _ _ _ (by simp)).trans h.c0, (World.cell?_setCell_other _ _ _ _ (by simp)).trans h.c1, (World.cell?_setCell_other _ _ _ _ (by simp)).trans h.c2, World.cell?_setCell_same _ _ _ h.c3, (World.cell?_setCell_other _ _ _ _ (by simp)).trans h.c4, fun i hi => (World.cell?_setCell_other _ _ _ _ (by simp)).trans (h.hi i hi), (World.cell?_setCell_other _ _ _ _ (by simp)).trans h.c37⟩
theorem SpC.setV (h : SpC w s X u v) (k : Nat) : SpC (w.setCell ⟨s, 4, none⟩ (.int .u64 k)) s { X with v := k } u v := by
  obtain ⟨cs, hc, hz⟩ := h.blk
  refine ⟨⟨_, heap_setAt hc _ _, by simpa using hz⟩, (World.cell?_setCell_other _ _ _ _ (by simp)).trans h.c0, (World.cell?_setCell_other _ _ _ _ (by simp)).trans h.c1, (World.cell?_setCell_other _ _ _ _ (by simp)).trans h.c2, (World.cell?_setCell_other _ _ _ _ (by simp)).trans h.c3, World.cell?_setCell_same _ _ _ h.c4, fun i hi => (World.cell?_setCell_other _ _ _ _ (by simp)).trans (h.hi i hi), (World.cell?_setCell_other _ _ _ _ (by simp)).trans h.c37⟩
theorem SpC.setL (h : SpC w s X u v) (v' : Value) : SpC (w.setCell ⟨s, 37, none⟩ v') s X u v' := by
  obtain ⟨cs, hc, hz⟩ := h.blk
  refine ⟨⟨_, heap_setAt hc _ _, by simpa using hz⟩, (World.cell?_setCell_other _ _ _ _ (by simp)).trans h.c0, (World.cell?_setCell_other _ _ _ _ (by simp)).trans h.c1, (World.cell?_setCell_other _ _ _ _ (by simp)).trans h.c2, (World.cell?_setCell_other _ _ _ _ (by simp)).trans h.c3, (World.cell?_setCell_other _ _ _ _ (by simp)).trans h.c4, fun i hi => (World.cell?_setCell_other _ _ _ _ (by simp <;> omega)).trans (h.hi i hi), World.cell?_setCell_same _ _ _ h.c37⟩
theorem SpC.setH (h : SpC w s X u v) {o : Nat} (ho : o < 32) (k : Nat) : SpC (w.setCell ⟨s, 5 + o, none⟩ (.int .u64 k)) s { X with h := fun i => if i = o then k else X.h i } u v := by
  obtain ⟨cs, hc, hz⟩ := h.blk
  refine ⟨⟨_, heap_setAt hc _ _, by simpa using hz⟩, (World.cell?_setCell_other _ _ _ _ (by simp)).trans h.c0, (World.cell?_setCell_other _ _ _ _ (by simp)).trans h.c1, (World.cell?_setCell_other _ _ _ _ (by simp)).trans h.c2, (World.cell?_setCell_other _ _ _ _ (by simp)).trans h.c3, (World.cell?_setCell_other _ _ _ _ (by simp)).trans h.c4, fun i hi => ?_, (World.cell?_setCell_other _ _ _ _ (by simp <;> omega)).trans h.c37⟩
  by_cases e : i = o
  · subst e
    simp only [if_true]
    exact World.cell?_setCell_same _ _ _ (h.hi i hi)
  · simp only [if_neg e]
    exact (World.cell?_setCell_other _ _ _ _ (by simp <;> omega)).trans (h.hi i hi)
end
end Go.Proofs.Ytgcfofnlgdfmoaa
