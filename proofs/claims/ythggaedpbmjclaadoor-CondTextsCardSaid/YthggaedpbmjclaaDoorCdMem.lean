/- Layer 13: a series in memory: a block of 65 cells: 32 points of two cells each, and how many of them count. -/
import Derived.Test.YthggaedpbmjclaaDoorByt
import Derived.Test.YthggaedpbmjclaaDoorHeld
import Derived.Deep.MidRow
import Derived.Laws.Rows
import Derived.Laws.Cells
import Derived.Laws.CopyRow
import Derived.Laws.Tables
namespace Go.Proofs.YthggaedpbmjclaaDoor
open Go.RowKit

/-- a point: its time, its value -/
structure Pt where
  t : Nat
  v : Int
instance : Inhabited Pt := ⟨⟨0, 0⟩⟩
def ptC (p : Pt) : List Value := [.int .u64 p.t, .int .i64 p.v]
def cellsPt (L : List Pt) : List Value := L.flatMap ptC
theorem ptC_length (p : Pt) : (ptC p).length = 2 := rfl
theorem cellsPt_nil : cellsPt [] = [] := rfl
theorem cellsPt_cons (f : Pt) (L : List Pt) : cellsPt (f :: L) = .int .u64 f.t :: .int .i64 f.v :: cellsPt L := rfl
theorem cellsPt_append (a b : List Pt) : cellsPt (a ++ b) = cellsPt a ++ cellsPt b := by simp [cellsPt]
theorem cellsPt_length : ∀ L : List Pt, (cellsPt L).length = L.length * 2
  | [] => rfl
  | f :: L => by rw [cellsPt_cons, List.length_cons, List.length_cons, cellsPt_length L, List.length_cons]; omega
theorem cellsPt_one (L : List Pt) : ∀ u ∈ cellsPt L, u.oneCell' = true := by
  intro u hu
  obtain ⟨e, _, hu⟩ := List.mem_flatMap.1 hu
  simp only [ptC, List.mem_cons, List.not_mem_nil, or_false] at hu
  rcases hu with rfl | rfl <;> rfl
theorem cellsPt_split {L : List Pt} {k : Nat} {f : Pt} (h : L[k]? = some f) : cellsPt L = cellsPt (L.take k) ++ (ptC f ++ cellsPt (L.drop (k + 1))) := by
  have hk := (List.getElem?_eq_some_iff.1 h).1
  have hd : L.drop k = f :: L.drop (k + 1) := by
    rw [List.drop_eq_getElem_cons hk, (List.getElem?_eq_some_iff.1 h).2]
  have : ptC f ++ cellsPt (L.drop (k + 1)) = cellsPt (L.drop k) := by rw [hd]; rfl
  rw [this, ← cellsPt_append, List.take_append_drop]
theorem cellsPt_get {L : List Pt} {k j : Nat} {f : Pt} {v : Value} (hk : L[k]? = some f) (hj : (ptC f)[j]? = some v) : (cellsPt L)[k * 2 + j]? = some v := by
  have hkl := (List.getElem?_eq_some_iff.1 hk).1
  have hj6 : j < 2 := by have := (List.getElem?_eq_some_iff.1 hj).1; rwa [ptC_length] at this
  have hl : (cellsPt (L.take k)).length = k * 2 := by rw [cellsPt_length, List.length_take]; congr 1; omega
  rw [cellsPt_split hk, List.getElem?_append_right (by omega), hl, Nat.add_sub_cancel_left, List.getElem?_append_left (by rw [ptC_length]; exact hj6)]
  exact hj
def serC (L R : List Pt) (n : Nat) : List Value := cellsPt (L ++ R) ++ [.int .i64 n]
theorem serC_length {L R : List Pt} (h : L.length + R.length = 32) (n : Nat) : (serC L R n).length = 65 := by
  rw [serC, List.length_append, cellsPt_length, List.length_append, h]; rfl
theorem serC_many {L R : List Pt} (h : L.length + R.length = 32) (n : Nat) : (serC L R n)[64]? = some (.int .i64 n) := by
  rw [serC, List.getElem?_append_right (by rw [cellsPt_length, List.length_append, h]; omega), cellsPt_length, List.length_append, h]; rfl
theorem serC_get {L R : List Pt} {k j n : Nat} {f : Pt} {v : Value} (hk : L[k]? = some f) (hj : (ptC f)[j]? = some v) : (serC L R n)[k * 2 + j]? = some v := by
  have hkl := (List.getElem?_eq_some_iff.1 hk).1
  have h := cellsPt_get (L := L ++ R) (by rw [List.getElem?_append_left hkl]; exact hk) hj
  rw [serC, List.getElem?_append_left (List.getElem?_eq_some_iff.1 h).1]
  exact h
theorem serC_push (L R : List Pt) (z p : Pt) (n : Nat) : ((serC L (z :: R) n).set (L.length * 2) (.int .u64 p.t)).set (L.length * 2 + 1) (.int .i64 p.v) = serC (L ++ [p]) R n := by
  have e : serC L (z :: R) n = cellsPt L ++ (.int .u64 z.t :: .int .i64 z.v :: (cellsPt R ++ [.int .i64 n])) := by
    simp [serC, cellsPt_append, cellsPt_cons]
  have hl := cellsPt_length L
  rw [e, List.set_append_right _ _ (by omega), hl, Nat.sub_self, List.set_append_right _ _ (by omega), hl, Nat.add_sub_cancel_left]
  simp [serC, cellsPt_append, cellsPt_cons, cellsPt_nil]
theorem serC_setN {L R : List Pt} (h : L.length + R.length = 32) (n m : Nat) : (serC L R n).set 64 (.int .i64 m) = serC L R m := by
  have hl : (cellsPt (L ++ R)).length = 64 := by rw [cellsPt_length, List.length_append, h]
  rw [serC, List.set_append_right _ _ (by omega), hl]; rfl
/-- the series at block s holds these points -/
structure SerAt (w : World) (s : Nat) (L : List Pt) : Prop where
  row : ∃ R, L.length + R.length = 32 ∧ w.heap[s]? = some (.cells (serC L R L.length).toArray 54 (0, 0))
section
variable {w w' : World} {s : Nat} {L : List Pt}
theorem SerAt.few (h : SerAt w s L) : L.length ≤ 32 := by obtain ⟨R, h1, _⟩ := h.row; omega
theorem SerAt.lt (h : SerAt w s L) : s < w.heap.size := by
  obtain ⟨R, _, h1⟩ := h.row
  exact (Array.getElem?_eq_some_iff.1 h1).1
theorem SerAt.as (h : SerAt w s L) (he : w'.heap[s]? = w.heap[s]?) : SerAt w' s L := by
  obtain ⟨R, h1, h2⟩ := h.row
  exact ⟨R, h1, he.trans h2⟩
theorem SerAt.below (h : SerAt w s L) (hb : Below w.heap.size w w') : SerAt w' s L := h.as (hb.block s h.lt)
theorem SerAt.many (h : SerAt w s L) : w.cell? ⟨s, 64, none⟩ = some (.int .i64 L.length) := by
  obtain ⟨R, h1, h2⟩ := h.row
  rw [cell_of_row _ _ _ _ _ _ h2]
  simpa using serC_many h1 L.length
theorem SerAt.frozen (h : SerAt w s L) (j : Nat) : w.frozen? ⟨s, j, none⟩ = false := by
  obtain ⟨R, h1, h2⟩ := h.row
  exact frozen_of_row _ _ _ _ _ h2
theorem SerAt.pt (h : SerAt w s L) {k : Nat} {p : Pt} (hk : L[k]? = some p) : w.rangeAt s (k * 2) (ptC p) := by
  obtain ⟨R, h1, h2⟩ := h.row
  intro j v hj
  rw [cell_of_row _ _ _ _ _ _ h2]
  simpa using serC_get (R := R) (n := L.length) hk hj
theorem SerAt.there (h : SerAt w s L) {o n : Nat} (hn : o + n ≤ 65) : w.there s o n := by
  obtain ⟨R, h1, h2⟩ := h.row
  intro j hj
  refine ⟨?_, frozen_of_row _ _ _ _ _ h2⟩
  have hl := serC_length h1 L.length
  rw [cell_of_row _ _ _ _ _ _ h2, List.getElem?_toArray, List.getElem?_eq_getElem (by omega)]; rfl
/-- a point more -/
theorem SerAt.push (h : SerAt w s L) (hn : L.length < 32) (p : Pt) {m : Nat} (hm : m = L.length + 1) : SerAt ((((w.setCell ⟨s, L.length * 2, none⟩ (.int .u64 p.t)).setCell ⟨s, L.length * 2 + 1, none⟩ (.int .i64 p.v))).setCell ⟨s, 64, none⟩ (.int .i64 m)) s (L ++ [p]) := by
  obtain ⟨R, h1, h2⟩ := h.row
  match R, h1, h2 with
  | [], h1, _ => simp at h1; omega
  | z :: R, h1, h2 =>
    have h3 := heap_setCell_same _ s (L.length * 2) _ _ (.int .u64 p.t) h2
    have h4 := heap_setCell_same _ s (L.length * 2 + 1) _ _ (.int .i64 p.v) h3
    have h5 := heap_setCell_same _ s 64 _ _ (.int .i64 m) h4
    have hl : (L ++ [p]).length + R.length = 32 := by simp at h1 ⊢; omega
    refine ⟨R, hl, h5.trans ?_⟩
    congr 2
    rw [List.setIfInBounds_toArray, List.setIfInBounds_toArray, List.setIfInBounds_toArray, serC_push, serC_setN hl]
    rw [hm]
    simp
/-- the next place is filled; then it counts -/
theorem SerAt.fill (h : SerAt w s L) (hn : L.length < 32) (p : Pt) {n : Nat} (hm : n = L.length) : SerAt (w.setCells s (n * 2) (ptC p)) s L ∧ SerAt ((w.setCells s (n * 2) (ptC p)).setCell ⟨s, 64, none⟩ (.int .i64 (n + 1 : Nat))) s (L ++ [p]) := by
  subst hm
  have h2 := h.push hn p rfl
  refine ⟨?_, h2⟩
  obtain ⟨R, h1, h2⟩ := h.row
  match R, h1, h2 with
  | [], h1, _ => simp at h1; omega
  | z :: R, h1, h2 =>
    have h3 := heap_setCell_same _ s (L.length * 2) _ _ (.int .u64 p.t) h2
    have h4 := heap_setCell_same _ s (L.length * 2 + 1) _ _ (.int .i64 p.v) h3
    refine ⟨p :: R, by simpa using h1, h4.trans ?_⟩
    congr 2
    rw [List.setIfInBounds_toArray, List.setIfInBounds_toArray, serC_push]
    simp [serC]
theorem SerAt.made (w : World) : SerAt (w.alloc (.cells (serC [] (List.replicate 32 ⟨0, 0⟩) 0).toArray 54)) w.heap.size [] :=
  ⟨List.replicate 32 ⟨0, 0⟩, by simp, heap_alloc_new _ _⟩
/-- the first point goes: the others are copied down, and one is counted less -/
theorem SerAt.shift (h : SerAt w s L) (hn : L.length = 32) : ∃ cur : Array Value, w.heap[s]? = some (.cells cur 54 (0, 0)) ∧ cur.size = 65 ∧ (∀ j v, ((cur.toList.drop 2).take 62)[j]? = some v → w.cell? ((⟨s, 2, none⟩ : Addr).add j) = some v) ∧
    (∀ v ∈ (cur.toList.drop 2).take 62, v.oneCell' = true) ∧ ((cur.toList.drop 2).take 62).length = 62 ∧
    ∀ w' : World, w'.heap[s]? = some (.cells (cur.toList.take 0 ++ (cur.toList.drop 2).take 62 ++ cur.toList.drop (0 + 62)).toArray 54 (0, 0)) →
      w'.cell? ⟨s, 64, none⟩ = some (.int .i64 32) ∧ w'.frozen? ⟨s, 64, none⟩ = false ∧ SerAt (w'.setCell ⟨s, 64, none⟩ (.int .i64 31)) s (L.drop 1) := by
  obtain ⟨R, h1, h2⟩ := h.row
  obtain rfl : R = [] := List.eq_nil_of_length_eq_zero (by omega)
  obtain ⟨p, L2, rfl⟩ : ∃ p L2, L = p :: L2 := by
    cases L with
    | nil => simp at hn
    | cons p L => exact ⟨p, L, rfl⟩
  obtain ⟨L, hLL⟩ : ∃ z, z = L2 := ⟨_, rfl⟩
  subst hLL
  have hL : L.length = 31 := by simpa using hn
  have hl := serC_length h1 (p :: L).length
  obtain ⟨q, hq⟩ : ∃ q, (p :: L).getLast? = some q := by
    cases e : (p :: L).getLast? with
    | none => simp at e
    | some q => exact ⟨q, rfl⟩
  obtain ⟨M, hM⟩ : ∃ M, p :: L = M ++ [q] := ⟨_, (List.getLast?_eq_some_iff.1 hq).choose_spec⟩
  have hMl : M.length = 31 := by have := congrArg List.length hM; simp at this; omega
  refine ⟨_, h2, by simpa using hl, fun j v hj => ?_, fun v hv => ?_, by simp at hl ⊢; omega, fun w' hw' => ?_⟩
  · rw [Addr.add_lit, cell_of_row _ _ _ _ _ _ h2, List.getElem?_toArray]
    rw [List.getElem?_take] at hj
    split at hj
    · rwa [List.getElem?_drop] at hj
    · cases hj
  · have h3 := List.mem_of_mem_drop (List.mem_of_mem_take hv)
    simp only [serC, List.append_nil, List.mem_append, List.mem_singleton] at h3
    rcases h3 with h3 | rfl
    · exact cellsPt_one _ _ h3
    · rfl
  · have e1 : (serC (p :: L) [] (p :: L).length).drop 2 = cellsPt L ++ [.int .i64 32] := by
      simp [serC, cellsPt_cons, hL]
    have e2 : (cellsPt L ++ [Value.int .i64 32]).take 62 = cellsPt L := by
      rw [List.take_append_of_le_length (by rw [cellsPt_length, hL]; omega), List.take_of_length_le (by rw [cellsPt_length, hL]; omega)]
    have e3 : (serC (p :: L) [] (p :: L).length).drop 62 = cellsPt [q] ++ [.int .i64 32] := by
      rw [serC, List.append_nil, hM, cellsPt_append, List.append_assoc, List.drop_append, cellsPt_length, hMl]
      rw [List.drop_eq_nil_of_le (by rw [cellsPt_length, hMl]; omega)]
      simp [hMl]
    have e4 : (serC (p :: L) [] (p :: L).length).take 0 ++ ((serC (p :: L) [] (p :: L).length).drop 2).take 62 ++ (serC (p :: L) [] (p :: L).length).drop (0 + 62) = serC L [q] 32 := by
      rw [e1, e2, e3]
      simp [serC, cellsPt_append]
    have hw' : w'.heap[s]? = some (.cells (serC L [q] 32).toArray 54 (0, 0)) := by rw [hw', e4]
    have hlen : L.length + [q].length = 32 := by simp [hL]
    refine ⟨?_, frozen_of_row _ _ _ _ _ hw', ⟨[q], by simpa using hlen, ?_⟩⟩
    · rw [cell_of_row _ _ _ _ _ _ hw']
      simpa using serC_many hlen 32
    · have h5 := heap_setCell_same _ s 64 _ _ (.int .i64 31) hw'
      rw [h5, List.setIfInBounds_toArray]
      have := serC_setN hlen 32 31
      simp only [List.drop_succ_cons, List.drop_zero, hL]
      rw [← this]
      rfl
end
/-- elements of two cells, copied within memory -/
theorem run_copy_row2 {P : Program} (w : World) (dT sT ty elem : TypeId) (g o dLen dCap : Nat) (a : Addr) (sLen sCap : Nat) (cur : Array Value) (t : TypeId) (cs : List Value)
    (hu : P.underlying dT = some (.slice elem)) (hs : (P.info? elem).map (·.size) = some 2)
    (hg : w.heap[g]? = some (.cells cur t (0, 0))) (hn : cs.length = Nat.min sLen dLen * 2)
    (hsrc : ∀ j v, cs[j]? = some v → w.cell? (a.add j) = some v) (hfit : o + cs.length ≤ cur.size) (h1 : ∀ v ∈ cs, v.oneCell' = true) :
    (Builtin.copy_ #[dT, sT] ty #[.slice (some ⟨g, o, none⟩) dLen dCap, .slice (some a) sLen sCap]).run P w =
      .ok (goInt (Nat.min sLen dLen)) (w.setRow g (cur.toList.take o ++ cs ++ cur.toList.drop (o + cs.length)).toArray) := by
  have hl := run_loadCells_list (P := P) w a cs hsrc
  have hst := run_storeCells_at P g o t cs 0 cur w hg (by simpa using hfit) h1
  cases hq : P.info? elem with
  | none => simp [hq] at hs
  | some i =>
    have hi : i.size = 2 := by simpa [hq] using hs
    simp [Builtin.copy_, run_underlying hu, Builtin.lenOf, Builtin.firstCells, sizeOf, typeInfo, hq, hi, ← hn, hl, hst]
/-- a load out of the midst of a row -/
theorem exec_load_pt {P : Program} {o : Oper} {ev : Operand → Value} {w : World} (ty : TypeId) (x : Operand) (ho : o.op = .load ty x)
    (b off : Nat) (hx : ev x = .pointer (some ⟨b, off, none⟩)) (cs : List Value) (d : TypeDesc) (hc : w.rangeAt b off cs)
    (hu : P.underlying ty = some d) (hd : d.isRow = true) (hi : (P.info? ty).map (·.size) = some cs.length) :
    (execOp ev o).run P w = .ok (.value (.agg cs.toArray)) w := by
  unfold execOp
  simp only [ho, hx, Instr.loadAt, Instr.sureAddr, Sem.run_bind, Sem.run_pure, Result.andThen_ok, run_loadVar_mid w b off ty cs d hc hu hd hi]
end Go.Proofs.YthggaedpbmjclaaDoor
