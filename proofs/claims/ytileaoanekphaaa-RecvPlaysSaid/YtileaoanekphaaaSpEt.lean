/- Entries and items as cells: an index and an item side by side; where an item's labels lie. -/
import Derived.Test.YtileaoanekphaaaItPlain
import Derived.Test.YtileaoanekphaaaDkMem
import Derived.Deep.MidRow
import Derived.Laws.Rows
import Derived.Laws.Tables
import Derived.Laws.CopyOwn
import Derived.BigQuiet
namespace Go.Proofs.Ytileaoanekphaaa
open Go.RowKit

/-- an entry: its index, its item, where its labels lie -/
structure Ett where
  i : Nat
  x : It
  A : Option Addr
  c : Nat
def itC (x : It) (A : Option Addr) (c : Nat) : List Value := [.bool x.g, .int .u8 x.o, .int .u64 x.q, .int .u64 x.t, .string x.r, .slice A x.l.length c, .int .u8 x.s, .int .u8 x.p, .int .i64 x.v, .int .u8 x.w, .int .u8 x.ga, .int .u64 x.gf, .int .u64 x.gt]
def entC (e : Ett) : List Value := .int .u64 e.i :: itC e.x e.A e.c
def cellsE (L : List Ett) : List Value := L.flatMap entC
theorem entC_length (e : Ett) : (entC e).length = 14 := rfl
theorem cellsE_nil : cellsE [] = [] := rfl
theorem cellsE_cons (e : Ett) (L : List Ett) : cellsE (e :: L) = entC e ++ cellsE L := by simp [cellsE]
theorem cellsE_append (a b : List Ett) : cellsE (a ++ b) = cellsE a ++ cellsE b := by simp [cellsE]
theorem cellsE_length : ∀ L : List Ett, (cellsE L).length = L.length * 14
  | [] => rfl
  | e :: L => by rw [cellsE_cons, List.length_append, entC_length, cellsE_length L, List.length_cons]; omega
theorem cellsE_one (L : List Ett) : ∀ u ∈ cellsE L, u.oneCell' = true := by
  intro u hu
  obtain ⟨e, _, hu⟩ := List.mem_flatMap.1 hu
  simp only [entC, itC, List.mem_cons, List.not_mem_nil, or_false] at hu
  rcases hu with rfl | rfl | rfl | rfl | rfl | rfl | rfl | rfl | rfl | rfl | rfl | rfl | rfl | rfl <;> rfl
theorem cellsE_take (L : List Ett) (k : Nat) : cellsE (L.take k) = (cellsE L).take (k * 14) := by
  by_cases hk : k ≤ L.length
  · have h : cellsE L = cellsE (L.take k) ++ cellsE (L.drop k) := by rw [← cellsE_append, List.take_append_drop]
    rw [h, List.take_left' (by rw [cellsE_length, List.length_take]; omega)]
  · rw [List.take_of_length_le (by omega), List.take_of_length_le (by rw [cellsE_length]; omega)]
theorem cellsE_drop (L : List Ett) (k : Nat) : cellsE (L.drop k) = (cellsE L).drop (k * 14) := by
  by_cases hk : k ≤ L.length
  · have h : cellsE L = cellsE (L.take k) ++ cellsE (L.drop k) := by rw [← cellsE_append, List.take_append_drop]
    rw [h, List.drop_left' (by rw [cellsE_length, List.length_take]; omega)]
  · rw [List.drop_of_length_le (by omega), List.drop_of_length_le (by rw [cellsE_length]; omega), cellsE_nil]
theorem cellsE_get {L : List Ett} {k j : Nat} {e : Ett} {v : Value} (hk : L[k]? = some e) (hj : (entC e)[j]? = some v) : (cellsE L)[k * 14 + j]? = some v := by
  have hkl := (List.getElem?_eq_some_iff.1 hk).1
  have hj14 : j < 14 := by have := (List.getElem?_eq_some_iff.1 hj).1; rwa [entC_length] at this
  have hd : L.drop k = e :: L.drop (k + 1) := by
    rw [List.drop_eq_getElem_cons hkl]
    congr 1
    exact (List.getElem?_eq_some_iff.1 hk).2
  have h : cellsE L = cellsE (L.take k) ++ (entC e ++ cellsE (L.drop (k + 1))) := by rw [← cellsE_cons, ← hd, ← cellsE_append, List.take_append_drop]
  have hl : (cellsE (L.take k)).length = k * 14 := by rw [cellsE_length, List.length_take]; congr 1; omega
  rw [h, List.getElem?_append_right (by omega), hl, Nat.add_sub_cancel_left, List.getElem?_append_left (by rw [entC_length]; exact hj14)]
  exact hj
section
variable {w w' : World} {S S' T : Nat → Prop}
theorem rdP_lt {B : Nat} {A : Option Addr} {l : List Pr} (h : RdP w B A l) {a : Addr} (ha : A = some a) (h0 : 0 < l.length) : a.block < B := by
  obtain ⟨b, o, e, hb, _⟩ := h h0
  rw [ha] at e
  injection e with e
  rw [e]; exact hb
theorem Only.rdP {A : Option Addr} {l : List Pr} (ho : Only T w w') (h : RdP w w.heap.size A l) (hT : ∀ a, A = some a → 0 < l.length → ¬ T a.block) : RdP w' w'.heap.size A l := fun h0 => by
  obtain ⟨b, o, e, hb, hc⟩ := h h0
  refine ⟨b, o, e, Nat.lt_of_lt_of_le hb ho.size, fun i p hp => ?_⟩
  have hne := hT _ e h0
  exact ⟨(ho.cell (p := ⟨b, o + i * 2, none⟩) hb hne).trans (hc i p hp).1, (ho.cell (p := ⟨b, o + i * 2 + 1, none⟩) hb hne).trans (hc i p hp).2⟩
end
theorem exec_load_row {P : Program} {o : Oper} {ev : Operand → Value} {w : World} (ty : TypeId) (x : Operand) (ho : o.op = .load ty x)
    (g : Nat) (hx : ev x = .pointer (some ⟨g, 0, none⟩)) (t : TypeId) (cs : Array Value) (fr : Nat × Nat) (d : TypeDesc) (hg : w.heap[g]? = some (.cells cs t fr))
    (hu : P.underlying ty = some d) (hd : (match d with | .struct _ | .array _ _ => true | _ => false) = true) (hi : (P.info? ty).map (·.size) = some cs.size) :
    (execOp ev o).run P w = .ok (.value (.agg cs)) w := by
  unfold execOp
  simp only [ho, hx, Instr.loadAt, Instr.sureAddr, Sem.run_bind, Sem.run_pure, Result.andThen_ok, run_loadVar_row w g t ty cs fr d hg hu hd hi]
theorem exec_load_mid {P : Program} {o : Oper} {ev : Operand → Value} {w : World} (ty : TypeId) (x : Operand) (ho : o.op = .load ty x)
    (b off : Nat) (hx : ev x = .pointer (some ⟨b, off, none⟩)) (cs : List Value) (d : TypeDesc) (hc : w.rangeAt b off cs)
    (hu : P.underlying ty = some d) (hd : d.isRow = true) (hi : (P.info? ty).map (·.size) = some cs.length) :
    (execOp ev o).run P w = .ok (.value (.agg cs.toArray)) w := by
  unfold execOp
  simp only [ho, hx, Instr.loadAt, Instr.sureAddr, Sem.run_bind, Sem.run_pure, Result.andThen_ok, run_loadVar_mid w b off ty cs d hc hu hd hi]
theorem boxI (W : World) (Z cs : Array Value) : ∃ V, V = (W.alloc (.cells Z 43)).setRow W.heap.size cs ∧ V.heap[W.heap.size]? = some (.cells cs 43 (0, 0)) ∧ Below W.heap.size W V ∧ W.heap.size < V.heap.size := by
  have h := setRow_heap (W.alloc (.cells Z 43)) W.heap.size Z cs _ _ (heap_alloc_new _ _)
  exact ⟨_, rfl, h, below_setRow ((Below.refl _ _).alloc (Nat.le_refl _) _) (Nat.le_refl _) _, (Array.getElem?_eq_some_iff.1 h).1⟩
theorem act_put_no (a : Act) (v : Value) : a.put none v = a := rfl
theorem wpList_at8 {P : Program} {ops : Array Oper} {rest : List Oper} {op : Oper} {a : Act} {w : World} {Q : Exit → Act → World → Prop} (h : wpList P ops Q (op :: rest) a w) : wpList P ops Q (op :: rest) a w := h
theorem wpList_load_wanted8 {P : Program} {ops : Array Oper} {rest : List Oper} {op : Oper} {a : Act} {w : World} {Q : Exit → Act → World → Prop} (hw : Region.wanted op (yielded ops a.tmps) = true) (ty : TypeId) (x : Operand) (ho : op.op = .load ty x)
    (b o : Nat) (hx : a.eval x = .pointer (some ⟨b, o, none⟩)) (cs : List Value) (d : TypeDesc) (hc : w.rangeAt b o cs)
    (hu : P.underlying ty = some d) (hd : d.isRow = true) (hi : (P.info? ty).map (·.size) = some cs.length)
    (h : wpList P ops Q rest (a.put op.dst (.agg cs.toArray)) w) : wpList P ops Q (op :: rest) a w :=
  BigFrame.wpList_want hw fun _ hK => wp_load_mid ty x ho b o hx cs d hc hu hd hi (hK _ _ h)
theorem rdP_keep8 {w w' : World} {A : Option Addr} {l : List Pr} (h : RdP w w.heap.size A l) (hb : Below w.heap.size w w') : RdP w' w'.heap.size A l := (Only.of_below hb fun _ => False).rdP h (fun _ _ _ h => h)
theorem range_of_row {w : World} {g : Nat} {cs : List Value} {t : TypeId} {fr : Nat × Nat} (h : w.heap[g]? = some (.cells cs.toArray t fr)) : w.rangeAt g 0 cs := fun j u hj => by
  rw [Nat.zero_add, cell_of_row _ _ j _ _ _ h]
  simpa using hj
theorem Try.infoIt : (Try.prog.info? 43).map (·.size) = some 13 := by kernel_rfl
end Go.Proofs.Ytileaoanekphaaa
