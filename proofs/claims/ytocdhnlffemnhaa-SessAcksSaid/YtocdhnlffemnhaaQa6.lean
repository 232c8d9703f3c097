/- Several texts in one: SpEt, SsFrm, Clone. -/
import Derived.Deep.MidRow
import Derived.Laws.Rows
import Derived.Laws.Tables
import Derived.Laws.CopyOwn
import Derived.BigQuiet
import Derived.WalkSpells
import Derived.Lib.SliceRun
import Derived.Test.YtocdhnlffemnhaaQa1
import Derived.Test.YtocdhnlffemnhaaQa2
import Derived.Test.YtocdhnlffemnhaaQa4
import Derived.Test.YtocdhnlffemnhaaQa5
/- Entries and items as cells: an index and an item side by side; where an item's labels lie. -/
namespace Go.Proofs.Ytocdhnlffemnhaa
open Go.RowKit

/-- an entry: its index, its item, where its labels lie -/
structure Ett where
  i : Nat
  x : It
  A : Option Addr
  c : Nat
def itC (x : It) (A : Option Addr) (c : Nat) : List Value := [.bool x.g, .int .u8 x.o, .int .u64 x.q, .int .u64 x.t, .string x.r, .slice A x.l.length c, .int .u8 x.s, .int .u8 x.p, .int .i64 x.v, .int .u8 x.w, .int .u8 x.ga, .int .u64 x.gf, .int .u64 x.gt]
def entC (e : Ett) : List Value := .int .u64 e.i :: itC e.x e.A e.c
def cellsE (L : List Ett) : List Value := L.flatMap entC
theorem entC_length (e : Ett) : (entC e).length = 14 := rfl
theorem cellsE_nil : cellsE [] = [] := rfl
theorem cellsE_cons (e : Ett) (L : List Ett) : cellsE (e :: L) = entC e ++ cellsE L := by simp [cellsE]
theorem cellsE_append (a b : List Ett) : cellsE (a ++ b) = cellsE a ++ cellsE b := by simp [cellsE]
theorem cellsE_length : ∀ L : List Ett, (cellsE L).length = L.length * 14
  | [] => rfl
  | e :: L => by rw [cellsE_cons, List.length_append, entC_length, cellsE_length L, List.length_cons]; omega
theorem cellsE_one (L : List Ett) : ∀ u ∈ cellsE L, u.oneCell' = true := by
  intro u hu
  obtain ⟨e, _, hu⟩ := List.mem_flatMap.1 hu
  simp only [entC, itC, List.mem_cons, List.not_mem_nil, or_false] at hu
  rcases hu with rfl | rfl | rfl | rfl | rfl | rfl | rfl | rfl | rfl | rfl | rfl | rfl | rfl | rfl <;> rfl
theorem cellsE_take (L : List Ett) (k : Nat) : cellsE (L.take k) = (cellsE L).take (k * 14) := by
  by_cases hk : k ≤ L.length
  · have h : cellsE L = cellsE (L.take k) ++ cellsE (L.drop k) := by rw [← cellsE_append, List.take_append_drop]
    rw [h, List.take_left' (by rw [cellsE_length, List.length_take]; omega)]
  · rw [List.take_of_length_le (by omega), List.take_of_length_le (by rw [cellsE_length]; omega)]
theorem cellsE_drop (L : List Ett) (k : Nat) : cellsE (L.drop k) = (cellsE L).drop (k * 14) := by
  by_cases hk : k ≤ L.length
  · have h : cellsE L = cellsE (L.take k) ++ cellsE (L.drop k) := by rw [← cellsE_append, List.take_append_drop]
    rw [h, List.drop_left' (by rw [cellsE_length, List.length_take]; omega)]
  · rw [List.drop_of_length_le (by omega), List.drop_of_length_le (by rw [cellsE_length]; omega), cellsE_nil]
theorem cellsE_get {L : List Ett} {k j : Nat} {e : Ett} {v : Value} (hk : L[k]? = some e) (hj : (entC e)[j]? = some v) : (cellsE L)[k * 14 + j]? = some v := by
  have hkl := (List.getElem?_eq_some_iff.1 hk).1
  have hj14 : j < 14 := by have := (List.getElem?_eq_some_iff.1 hj).1; rwa [entC_length] at this
  have hd : L.drop k = e :: L.drop (k + 1) := by
    rw [List.drop_eq_getElem_cons hkl]
    congr 1
    exact (List.getElem?_eq_some_iff.1 hk).2
  have h : cellsE L = cellsE (L.take k) ++ (entC e ++ cellsE (L.drop (k + 1))) := by rw [← cellsE_cons, ← hd, ← cellsE_append, List.take_append_drop]
  have hl : (cellsE (L.take k)).length = k * 14 := by rw [cellsE_length, List.length_take]; congr 1; omega
  rw [h, List.getElem?_append_right (by omega), hl, Nat.add_sub_cancel_left, List.getElem?_append_left (by rw [entC_length]; exact hj14)]
  exact hj
section
variable {w w' : World} {S S' T : Nat → Prop}
theorem rdP_lt {B : Nat} {A : Option Addr} {l : List Pr} (h : RdP w B A l) {a : Addr} (ha : A = some a) (h0 : 0 < l.length) : a.block < B := by
  obtain ⟨b, o, e, hb, _⟩ := h h0
  rw [ha] at e
  injection e with e
  rw [e]; exact hb
theorem Only.rdP {A : Option Addr} {l : List Pr} (ho : Only T w w') (h : RdP w w.heap.size A l) (hT : ∀ a, A = some a → 0 < l.length → ¬ T a.block) : RdP w' w'.heap.size A l := fun h0 => by
  obtain ⟨b, o, e, hb, hc⟩ := h h0
  refine ⟨b, o, e, Nat.lt_of_lt_of_le hb ho.size, fun i p hp => ?_⟩
  have hne := hT _ e h0
  exact ⟨(ho.cell (p := ⟨b, o + i * 2, none⟩) hb hne).trans (hc i p hp).1, (ho.cell (p := ⟨b, o + i * 2 + 1, none⟩) hb hne).trans (hc i p hp).2⟩
end
theorem exec_load_row {P : Program} {o : Oper} {ev : Operand → Value} {w : World} (ty : TypeId) (x : Operand) (ho : o.op = .load ty x)
    (g : Nat) (hx : ev x = .pointer (some ⟨g, 0, none⟩)) (t : TypeId) (cs : Array Value) (fr : Nat × Nat) (d : TypeDesc) (hg : w.heap[g]? = some (.cells cs t fr))
    (hu : P.underlying ty = some d) (hd : (match d with | .struct _ | .array _ _ => true | _ => false) = true) (hi : (P.info? ty).map (·.size) = some cs.size) :
    (execOp ev o).run P w = .ok (.value (.agg cs)) w := by
  unfold execOp
  simp only [ho, hx, Instr.loadAt, Instr.sureAddr, Sem.run_bind, Sem.run_pure, Result.andThen_ok, run_loadVar_row w g t ty cs fr d hg hu hd hi]
theorem exec_load_mid {P : Program} {o : Oper} {ev : Operand → Value} {w : World} (ty : TypeId) (x : Operand) (ho : o.op = .load ty x)
    (b off : Nat) (hx : ev x = .pointer (some ⟨b, off, none⟩)) (cs : List Value) (d : TypeDesc) (hc : w.rangeAt b off cs)
    (hu : P.underlying ty = some d) (hd : d.isRow = true) (hi : (P.info? ty).map (·.size) = some cs.length) :
    (execOp ev o).run P w = .ok (.value (.agg cs.toArray)) w := by
  unfold execOp
  simp only [ho, hx, Instr.loadAt, Instr.sureAddr, Sem.run_bind, Sem.run_pure, Result.andThen_ok, run_loadVar_mid w b off ty cs d hc hu hd hi]
theorem boxI (W : World) (Z cs : Array Value) : ∃ V, V = (W.alloc (.cells Z 30)).setRow W.heap.size cs ∧ V.heap[W.heap.size]? = some (.cells cs 30 (0, 0)) ∧ Below W.heap.size W V ∧ W.heap.size < V.heap.size := by
  have h := setRow_heap (W.alloc (.cells Z 30)) W.heap.size Z cs _ _ (heap_alloc_new _ _)
  exact ⟨_, rfl, h, below_setRow ((Below.refl _ _).alloc (Nat.le_refl _) _) (Nat.le_refl _) _, (Array.getElem?_eq_some_iff.1 h).1⟩
theorem act_put_no (a : Act) (v : Value) : a.put none v = a := rfl
theorem wpList_at8 {P : Program} {ops : Array Oper} {rest : List Oper} {op : Oper} {a : Act} {w : World} {Q : Exit → Act → World → Prop} (h : wpList P ops Q (op :: rest) a w) : wpList P ops Q (op :: rest) a w := h
theorem wpList_load_wanted8 {P : Program} {ops : Array Oper} {rest : List Oper} {op : Oper} {a : Act} {w : World} {Q : Exit → Act → World → Prop} (hw : Region.wanted op (yielded ops a.tmps) = true) (ty : TypeId) (x : Operand) (ho : op.op = .load ty x)
    (b o : Nat) (hx : a.eval x = .pointer (some ⟨b, o, none⟩)) (cs : List Value) (d : TypeDesc) (hc : w.rangeAt b o cs)
    (hu : P.underlying ty = some d) (hd : d.isRow = true) (hi : (P.info? ty).map (·.size) = some cs.length)
    (h : wpList P ops Q rest (a.put op.dst (.agg cs.toArray)) w) : wpList P ops Q (op :: rest) a w :=
  BigFrame.wpList_want hw fun _ hK => wp_load_mid ty x ho b o hx cs d hc hu hd hi (hK _ _ h)
theorem rdP_keep8 {w w' : World} {A : Option Addr} {l : List Pr} (h : RdP w w.heap.size A l) (hb : Below w.heap.size w w') : RdP w' w'.heap.size A l := (Only.of_below hb fun _ => False).rdP h (fun _ _ _ h => h)
theorem range_of_row {w : World} {g : Nat} {cs : List Value} {t : TypeId} {fr : Nat × Nat} (h : w.heap[g]? = some (.cells cs.toArray t fr)) : w.rangeAt g 0 cs := fun j u hj => by
  rw [Nat.zero_add, cell_of_row _ _ j _ _ _ h]
  simpa using hj
theorem Try.infoIt : (Try.prog.info? 30).map (·.size) = some 13 := by kernel_rfl
end Go.Proofs.Ytocdhnlffemnhaa
/- Layer 12: frames in memory. -/
namespace Go.Proofs.Ytocdhnlffemnhaa
open Go.RowKit

/-- a frame: its kind, from, to; epoch, number; its item, and where the labels lie; up to which all came, the bits, the life -/
structure Fm where
  k : Nat
  f : Nat
  t : Nat
  e : Nat
  q : Nat
  x : It
  A : Option Addr
  z : Nat
  c : Nat
  b : Nat
  l : Nat
def frmC (f : Fm) : List Value := [.int .u8 f.k, .int .u8 f.f, .int .u8 f.t, .int .u64 f.e, .int .u64 f.q] ++ (itC f.x f.A f.z ++ [.int .u64 f.c, .int .u64 f.b, .int .u64 f.l])
def cellsM (L : List Fm) : List Value := L.flatMap frmC
theorem frmC_length (f : Fm) : (frmC f).length = 21 := rfl
theorem cellsM_nil : cellsM [] = [] := rfl
theorem cellsM_cons (e : Fm) (L : List Fm) : cellsM (e :: L) = frmC e ++ cellsM L := by simp [cellsM]
theorem cellsM_append (a b : List Fm) : cellsM (a ++ b) = cellsM a ++ cellsM b := by simp [cellsM]
theorem cellsM_length : ∀ L : List Fm, (cellsM L).length = L.length * 21
  | [] => rfl
  | e :: L => by rw [cellsM_cons, List.length_append, frmC_length, cellsM_length L, List.length_cons]; omega
theorem frmC_one (e : Fm) : ∀ u ∈ frmC e, u.oneCell' = true := by
  intro u hu
  simp only [frmC, itC, List.mem_cons, List.mem_append, List.not_mem_nil, or_false] at hu
  rcases hu with (rfl | rfl | rfl | rfl | rfl) | (rfl | rfl | rfl | rfl | rfl | rfl | rfl | rfl | rfl | rfl | rfl | rfl | rfl) | rfl | rfl | rfl <;> rfl
theorem cellsM_one (L : List Fm) : ∀ u ∈ cellsM L, u.oneCell' = true := by
  intro u hu
  obtain ⟨e, _, hu⟩ := List.mem_flatMap.1 hu
  exact frmC_one e u hu
theorem cellsM_take (L : List Fm) (k : Nat) : cellsM (L.take k) = (cellsM L).take (k * 21) := by
  by_cases hk : k ≤ L.length
  · have h : cellsM L = cellsM (L.take k) ++ cellsM (L.drop k) := by rw [← cellsM_append, List.take_append_drop]
    rw [h, List.take_left' (by rw [cellsM_length, List.length_take]; omega)]
  · rw [List.take_of_length_le (by omega), List.take_of_length_le (by rw [cellsM_length]; omega)]
theorem cellsM_drop (L : List Fm) (k : Nat) : cellsM (L.drop k) = (cellsM L).drop (k * 21) := by
  by_cases hk : k ≤ L.length
  · have h : cellsM L = cellsM (L.take k) ++ cellsM (L.drop k) := by rw [← cellsM_append, List.take_append_drop]
    rw [h, List.drop_left' (by rw [cellsM_length, List.length_take]; omega)]
  · rw [List.drop_of_length_le (by omega), List.drop_of_length_le (by rw [cellsM_length]; omega)]; rfl
theorem cellsM_get {L : List Fm} {k j : Nat} {e : Fm} {v : Value} (hk : L[k]? = some e) (hj : (frmC e)[j]? = some v) : (cellsM L)[k * 21 + j]? = some v := by
  have hkl := (List.getElem?_eq_some_iff.1 hk).1
  have hj9 : j < 21 := by have := (List.getElem?_eq_some_iff.1 hj).1; rwa [frmC_length] at this
  have hd : L.drop k = e :: L.drop (k + 1) := by
    rw [List.drop_eq_getElem_cons hkl]
    congr 1
    exact (List.getElem?_eq_some_iff.1 hk).2
  have h : cellsM L = cellsM (L.take k) ++ (frmC e ++ cellsM (L.drop (k + 1))) := by rw [← cellsM_cons, ← hd, ← cellsM_append, List.take_append_drop]
  have hl : (cellsM (L.take k)).length = k * 21 := by rw [cellsM_length, List.length_take]; congr 1; omega
  rw [h, List.getElem?_append_right (by omega), hl, Nat.add_sub_cancel_left, List.getElem?_append_left (by rw [frmC_length]; exact hj9)]
  exact hj
/-- a frame's first error, at the end of a link -/
def wayE (me pe kd : Nat) (f : Fm) : Nat := if f.k ≠ kd then 12 else if f.f ≠ pe ∨ f.t ≠ me then 21 else 0
theorem Try.infoFr : (Try.prog.info? 32).map (·.size) = some 21 := by kernel_rfl
end Go.Proofs.Ytocdhnlffemnhaa
/- slices.Clone of pairs (the library's text, walked). -/
namespace Go.Proofs.Ytocdhnlffemnhaa
open Go.RowKit

theorem own_below {w w' : World} {base : Nat} {e : TypeId} {size n : Nat} {v : Value} {xs : List Value} (h : w.ownsRow base e size v n xs) (hb : Below w.heap.size w w') : w'.ownsRow base e size v n xs :=
  h.kept (row := none) ⟨hb.os, hb.tape, hb.output, hb.size, fun k hk _ => hb.block k hk⟩ (by
    rcases h.2 with ⟨rfl, _⟩ | ⟨g, cap, cur, rfl, _⟩
    · exact Or.inl rfl
    · exact Or.inr (by simp [Value.ownBlock]))

theorem own_slice {W : World} {base : Nat} {e : TypeId} {size n : Nat} {v : Value} {xs : List Value} (h : W.ownsRow base e size v n xs) : ∃ A c, v = .slice A n c := by
  rcases h.2 with ⟨rfl, rfl⟩ | ⟨g, cap, cur, rfl, _⟩
  · exact ⟨none, 0, rfl⟩
  · exact ⟨_, _, rfl⟩

def OkA (A : Option Addr) (n : Nat) : Prop := (A = none → n = 0) ∧ ∀ a, A = some a → ∃ b o, a = ⟨b, o, none⟩

theorem src_of_rd {w : World} {B : Nat} {A : Option Addr} {l : List Pr} {n : Nat} (h : RdP w B A l) (hn : n = l.length) : Src w A n 2 (cellsP l) := by
  subst hn
  refine ⟨cellsP_length l, fun h0 => ?_⟩
  obtain ⟨b, o, e, _, hc⟩ := h h0
  refine ⟨_, e, fun j u hj => ?_⟩
  have hjl : j < l.length * 2 := by
    have := (List.getElem?_eq_some_iff.1 hj).1
    rwa [cellsP_length] at this
  have hp : l[j / 2]? = some (l[j / 2]'(by omega)) := List.getElem?_eq_getElem (by omega)
  obtain ⟨c0, c1⟩ := cellsP_get l (j / 2) _ hp
  obtain ⟨d0, d1⟩ := hc _ _ hp
  rw [Addr.add_lit]
  rcases Nat.mod_two_eq_zero_or_one j with hm2 | hm2
  · rw [show j / 2 * 2 = j from by omega] at c0 d0
    rw [d0, ← c0, hj]
  · rw [show j / 2 * 2 + 1 = j from by omega] at c1
    rw [show o + j / 2 * 2 + 1 = o + j from by omega] at d1
    rw [d1, ← c1, hj]
theorem Try.infoP : (Try.prog.info? 116).map (fun i => (i.zero, i.size, i.bytes)) = some (some (.agg #[.string ⟨#[]⟩, .string ⟨#[]⟩]), 2, 32) := by kernel_rfl

set_option maxRecDepth 100000 in
set_option maxHeartbeats 400000 in
/-- a copy, nil or not -/
theorem clone_any (A : Option Addr) (n c : Nat) (l : List Pr) (w : World) (hn : n = l.length) (hA : A = none → n = 0) (hm : n * 32 ≤ 140737488351232) (hr : RdP w w.heap.size A l) :
    Calls Try.prog 49 #[.slice A n c] w fun e w' => ∃ v, e = .returned v ∧ w'.ownsRow w.heap.size 116 2 v n (cellsP l) ∧ Below w.heap.size w w' := by
  obtain ⟨i0, hi, hz0, hz1, hz2⟩ := info_parts Try.infoP
  have q22 : ∀ (w : World) (a : Option Addr) (n c n' c' : Nat), (binOp .eql 23 (.slice a n c) (.slice none n' c')).run Try.prog w = .ok (.bool a.isNone) w := fun w a n c n' c' => Lib.run_eql_slice_nil w _ _ a n c n' c' Try.underlying23
  cases A with
  | none =>
    obtain rfl := hA rfl
    obtain rfl : l = [] := List.eq_nil_of_length_eq_zero hn.symm
    clear hm hn hA hr
    go_enter Try.func49, Try.ntmps49
    go_wp2
    go_ret
    exact ⟨_, rfl, World.ownsRow_nil _ _ _ _, Below.refl _ _⟩
  | some a =>
    have hs1 : Src (w.alloc (.cells #[] 116)) (some a) n 2 (cellsP l) := src_of_rd (hr.below ((Below.refl _ w).alloc (Nat.le_refl _) _)) hn
    have HS := Lib.hid hs1
    have Hm := Lib.hid hm
    clear hs1 hr hA hn hm
    go_enter Try.func49, Try.ntmps49
    go_wp2_with (at_builtin; refine wpList_append_src (base := w.heap.size) rfl _ _ rfl Try.underlying23 hi hz0 hz1 hz2 rfl (by decide) rfl (World.ownsRow_made _ #[] 0 (Nat.le_refl _) (Nat.zero_le _) rfl) rfl HS.out (cellsP_one _) (by have := Hm.out; unfold maxLen; omega) (by have := Hm.out; omega) (by simp) ?_; intro v1 w1 hr1 hg1 hb1; replace hb1 : Below w.heap.size w w1 := ((Below.refl _ w).alloc (Nat.le_refl _) _).grown hg1 (by simp) (fun q hq => by cases hq; exact Nat.le_refl _); replace hr1 := Lib.hid hr1; clear hg1)
    go_ret
    have h := hr1.out
    rw [Nat.zero_add, List.nil_append] at h
    exact ⟨_, rfl, h, hb1⟩
end Go.Proofs.Ytocdhnlffemnhaa
