/- Several texts in one: ItSmall, ItGap, ItOf, Bcl, Held, ItSmallRun, PkRef, PkWtr. -/
import Derived.Laws.Rows
import Derived.Laws.Tables
import Derived.Laws.CopyOwn
import Derived.Deep.DeepCutAuto
import Derived.Test.YtocdhnlffemnhaaChecked
import Derived.WalkKit
import Derived.WalkSpells
import Derived.Lib.AppendZeros
import Derived.Lib.SliceRun
import Derived.Laws.IdiomStrings
import Derived.Deep.RegionHeld3
import Derived.Lib.AppendStr
import Derived.Laws.Shifts
import Derived.Laws.BitsAllLaws
import Derived.Test.YtocdhnlffemnhaaQa2
import Derived.Test.YtocdhnlffemnhaaQa3
import Derived.Test.YtocdhnlffemnhaaQa4
import Derived.Test.YtocdhnlffemnhaaQa6
/- Layer 4: the statements' own small item, as plain data; how it lies in memory. No program is named here. -/
namespace Go.Proofs.Ytocdhnlffemnhaa
open Go.RowKit

structure Sm where
  g : Bool
  o : Nat
  p : Nat
  w : Nat
  q : Nat
  m : Nat
  t : Nat
  r : Nat
  l : Nat
  v : Nat
  s : Bool
structure OkS (s : Sm) : Prop where
  o : s.o < 256
  p : s.p < 256
  w : s.w < 256
  q : s.q < 65536
  m : s.m < 65536
  t : s.t < 65536
  r : s.r < 256
  l : s.l < 256
  v : s.v < 256

def ruleS (r : Nat) : ByteArray := match r % 4 with
  | 0 => ⟨#[104, 111, 116]⟩
  | 1 => ⟨#[99, 111, 108, 100]⟩
  | 2 => ⟨#[100, 105, 115, 107, 46, 102, 117, 108, 108]⟩
  | _ => ⟨#[120]⟩
def ownX : ByteArray := ⟨#[111, 119, 110, 46, 120]⟩
/-- the i-th label of a small item -/
def labS (s : Sm) (i : Nat) : Pr := (⟨#[UInt8.ofNat (97 + i)]⟩, ⟨#[UInt8.ofNat (48 + s.l / 4 % 10)]⟩)
def labsS (s : Sm) (k : Nat) : List Pr := (List.range k).map (labS s)
theorem labsS_succ (s : Sm) (k : Nat) : labsS s (k + 1) = labsS s k ++ [labS s k] := by
  simp [labsS, List.range_succ]
theorem labsS_length (s : Sm) (k : Nat) : (labsS s k).length = k := by simp [labsS]
/-- the item that is made of small numbers -/
def smallI (s : Sm) : It :=
  if s.g then ⟨true, 0, 0, 0, ⟨#[]⟩, [], 0, 0, 0, 0, s.o % 32, 1 + s.q, 1 + s.q + s.m⟩
  else ⟨false, s.o % 32, 1 + s.q, s.t, if s.w % 8 = 7 then ownX else ruleS s.r, labsS s (s.l % 4), if s.s then 2 else 0, s.p % 8, (s.v : Int) - 100, if s.w % 8 = 7 then 1 + s.w / 8 % 2 else 0, 0, 0, 0⟩

/-- small numbers that lie at block g -/
structure SmAt (w : World) (g : Nat) (s : Sm) : Prop where
  lt : g < w.heap.size
  c1 : w.cell? ⟨g, 1, none⟩ = some (.int .u8 s.o)
  c2 : w.cell? ⟨g, 2, none⟩ = some (.int .u8 s.p)
  c3 : w.cell? ⟨g, 3, none⟩ = some (.int .u8 s.w)
  c4 : w.cell? ⟨g, 4, none⟩ = some (.int .u16 s.q)
  c5 : w.cell? ⟨g, 5, none⟩ = some (.int .u16 s.m)
  c6 : w.cell? ⟨g, 6, none⟩ = some (.int .u16 s.t)
  c7 : w.cell? ⟨g, 7, none⟩ = some (.int .u8 s.r)
  c8 : w.cell? ⟨g, 8, none⟩ = some (.int .u8 s.l)
  c9 : w.cell? ⟨g, 9, none⟩ = some (.int .u8 s.v)
  c10 : w.cell? ⟨g, 10, none⟩ = some (.bool s.s)
theorem SmAt.keep {w w1 : World} {g : Nat} {s : Sm} (h : SmAt w g s) (hs : w.heap.size ≤ w1.heap.size) (hk : w1.heap[g]? = w.heap[g]?) : SmAt w1 g s := by
  have k : ∀ o, w1.cell? ⟨g, o, none⟩ = w.cell? ⟨g, o, none⟩ := fun o => World.cell?_of_block hk
  exact ⟨Nat.lt_of_lt_of_le h.lt hs, (k 1).trans h.c1, (k 2).trans h.c2, (k 3).trans h.c3, (k 4).trans h.c4, (k 5).trans h.c5, (k 6).trans h.c6, (k 7).trans h.c7, (k 8).trans h.c8, (k 9).trans h.c9, (k 10).trans h.c10⟩

def zeroV : Array Value := #[.bool false, .int .u8 0, .int .u64 0, .int .u64 0, .string ⟨#[]⟩, .slice none 0 0, .int .u8 0, .int .u8 0, .int .i64 0, .int .u8 0, .int .u8 0, .int .u64 0, .int .u64 0]
/-- while a small item is made: its numbers at the call's first block, the result's block, the event's block E -/
structure SmSt (w0 w : World) (s : Sm) (E : Nat) (cs : Array Value) (tE tR : TypeId) : Prop where
  bl : Below w0.heap.size w0 w
  sm : SmAt w w0.heap.size s
  re : w.heap[w0.heap.size + 1]? = some (.cells zeroV tR (0, 0))
  ev : w.heap[E]? = some (.cells cs tE (0, 0))
  lo : w0.heap.size + 2 ≤ E
theorem SmSt.lt {w0 w : World} {s : Sm} {E : Nat} {cs : Array Value} {tE tR : TypeId} (h : SmSt w0 w s E cs tE tR) : E < w.heap.size := (Array.getElem?_eq_some_iff.1 h.ev).1
/-- a cell of the event's block is written -/
theorem SmSt.set {w0 w : World} {s : Sm} {E : Nat} {cs : Array Value} {tE tR : TypeId} (h : SmSt w0 w s E cs tE tR) (j : Nat) (v : Value) : SmSt w0 (w.setCell ⟨E, j, none⟩ v) s E (cs.setIfInBounds j v) tE tR := by
  have hl := h.lo
  exact ⟨h.bl.setCell (p := ⟨E, j, none⟩) (by simp; omega) v, h.sm.keep (by simp) (heap_setCell_other _ _ _ _ (by simp; omega)), (heap_setCell_other _ _ _ _ (by simp; omega)).trans h.re, heap_setCell_same _ _ _ _ _ _ h.ev, h.lo⟩
/-- new blocks, and writes to a row that is newer than the event -/
theorem SmSt.grown {w0 w w1 : World} {s : Sm} {E : Nat} {cs : Array Value} {tE tR : TypeId} {r : Option Nat} (h : SmSt w0 w s E cs tE tR) (hg : w.grownBy w1 r) (hr : ∀ k, r = some k → E < k) : SmSt w0 w1 s E cs tE tR := by
  have hl := h.lo
  have hlt := h.lt
  have hne : ∀ j, j ≤ E → some j ≠ r := fun j hj e => by have := hr j e.symm; omega
  exact ⟨h.bl.grown hg (by omega) (fun k hk => by have := hr k hk; omega), h.sm.keep hg.size (hg.block _ (by omega) (hne _ (by omega))), (hg.block _ (by omega) (hne _ (by omega))).trans h.re, (hg.block _ (by omega) (hne _ (by omega))).trans h.ev, h.lo⟩
theorem SmSt.below {w0 w w1 : World} {s : Sm} {E : Nat} {cs : Array Value} {tE tR : TypeId} (h : SmSt w0 w s E cs tE tR) (hb : Below w.heap.size w w1) : SmSt w0 w1 s E cs tE tR :=
  h.grown (r := none) ⟨hb.os, hb.tape, hb.output, hb.size, fun k hk _ => hb.block k hk⟩ (fun k e => by cases e)
/-- the four names of rules, as they lie -/
def namesV : Array Value := #[.string ⟨#[104, 111, 116]⟩, .string ⟨#[99, 111, 108, 100]⟩, .string ⟨#[100, 105, 115, 107, 46, 102, 117, 108, 108]⟩, .string ⟨#[120]⟩]
theorem names_at (r : Nat) : namesV[r % 4]? = some (.string (ruleS r)) := by
  have h : ∀ k, k < 4 → namesV[k]? = some (.string (match k with | 0 => (⟨#[104, 111, 116]⟩ : ByteArray) | 1 => ⟨#[99, 111, 108, 100]⟩ | 2 => ⟨#[100, 105, 115, 107, 46, 102, 117, 108, 108]⟩ | _ => ⟨#[120]⟩)) := fun k hk => by
    match k, hk with
    | 0, _ => rfl
    | 1, _ => rfl
    | 2, _ => rfl
    | 3, _ => rfl
  have h2 := h (r % 4) (by omega)
  rw [h2]
  unfold ruleS
  match r % 4 with
  | 0 => rfl
  | 1 => rfl
  | 2 => rfl
  | _ + 3 => rfl
theorem names_cell {w : World} {b : Nat} {t : TypeId} (h : w.heap[b]? = some (.cells namesV t (0, 0))) (r : Nat) : w.cell? ⟨b, r % 4, none⟩ = some (.string (ruleS r)) := (cell_of_row _ _ _ _ _ _ h).trans (names_at r)
theorem old_two (W : World) (A B : Obj) {i : Nat} (h : i < W.heap.size) : ((W.alloc A).alloc B).heap[i]? = W.heap[i]? := by
  have h2 : i < (W.alloc A).heap.size := by simp; omega
  exact (heap_alloc_old (W.alloc A) B h2).trans (heap_alloc_old W A h)
/-- where the event lies: ahead of the names, or behind them -/
theorem SmSt.start {w0 W : World} {R : Obj} {E : Nat} {W2 : World} {s : Sm} {cs : Array Value} {tE tR : TypeId} (h1 : Below w0.heap.size w0 W) (h2 : SmAt W w0.heap.size s) (h3 : W.heap[w0.heap.size + 1]? = some (.cells zeroV tR (0, 0))) (h4 : W.heap.size = w0.heap.size + 2)
    (h : (W2 = (W.alloc R).alloc (.cells cs tE) ∧ E = W.heap.size + 1) ∨ (W2 = (W.alloc (.cells cs tE)).alloc R ∧ E = W.heap.size)) : SmSt w0 W2 s E cs tE tR := by
  rcases h with ⟨rfl, rfl⟩ | ⟨rfl, rfl⟩
  · exact ⟨(h1.alloc h1.size _).alloc (by simp; omega) _, h2.keep (by simp; omega) (old_two _ _ _ (by omega)), (old_two _ _ _ (by omega)).trans h3, heap_alloc2_new _ _ _, by omega⟩
  · exact ⟨(h1.alloc h1.size _).alloc (by simp; omega) _, h2.keep (by simp; omega) (old_two _ _ _ (by omega)), (old_two _ _ _ (by omega)).trans h3, heap_alloc2_old _ _ _, by omega⟩
theorem ruleS_size (r : Nat) : (ruleS r).size ≤ 100 := by
  unfold ruleS
  split <;> decide
/-- one byte in a block of its own -/
theorem rdB_one (w : World) (t : TypeId) (x : Int) (k : Nat) (h : x = k) : RdB (w.alloc (.cells #[.int .u8 x] t)) (w.heap.size + 1) (some ⟨w.heap.size, 0, none⟩) [k] := fun _ => by
  subst h
  refine ⟨w.heap.size, 0, rfl, Nat.lt_succ_self _, fun i y hi => ?_⟩
  match i, hi with
  | 0, hi =>
    obtain rfl : k = y := by simpa using hi
    rw [World.cell?_alloc_at _ _ _ _ rfl]; rfl
/-- one pair in a block of its own -/
theorem src_pair {w : World} {g : Nat} {p : Pr} {t : TypeId} (h : w.heap[g]? = some (.cells #[.string p.1, .string p.2] t (0, 0))) : Src w (some ⟨g, 0, none⟩) 1 2 (cellsP [p]) :=
  ⟨rfl, fun _ => ⟨_, rfl, fun j u hj => by
    rw [Addr.add_lit, Nat.zero_add, cell_of_row _ _ j _ _ _ h]
    match j, hj with
    | 0, hj => exact hj
    | 1, hj => exact hj
    | i + 2, hj => simp [cellsP, encP] at hj⟩⟩
end Go.Proofs.Ytocdhnlffemnhaa
/- Layer 4: item.Gap. -/
namespace Go.Proofs.Ytocdhnlffemnhaa
open Go.RowKit

end Go.Proofs.Ytocdhnlffemnhaa
/- Layer 4: item.Of, item.Clone. -/
namespace Go.Proofs.Ytocdhnlffemnhaa
open Go.RowKit

theorem own_setRow {W : World} {base : Nat} {e : TypeId} {size n g : Nat} {v : Value} {xs : List Value} (h : W.ownsRow base e size v n xs) (hg : g < base) (cs : Array Value) : (W.setRow g cs).ownsRow base e size v n xs := by
  refine ⟨h.1, ?_⟩
  rcases h.2 with hn | ⟨k, cap, cur, rfl, hb, hgg, rest⟩
  · exact .inl hn
  · exact .inr ⟨k, cap, cur, rfl, hb, (setRow_other W g k cs (by omega)).trans hgg, rest⟩
theorem Try.infoI : (Try.prog.info? 30).map (·.size) = some 13 := by kernel_rfl

end Go.Proofs.Ytocdhnlffemnhaa
/- bytes.Clone; bytes as a text. -/
namespace Go.Proofs.Ytocdhnlffemnhaa
open Go.RowKit

theorem Try.infoB : (Try.prog.info? 5).map (fun i => (i.zero, i.size, i.bytes)) = some (some (.int .u8 0), 1, 1) := by kernel_rfl
theorem conv_any {w : World} {B : Nat} {A : Option Addr} {n c : Nat} {l : List Nat} (hr : RdB w B A l) (hn : n = l.length) (hA : A = none → n = 0) :
    (convert 33 9 (.slice A n c)).run Try.prog w = .ok (.string (strB l)) w := by
  rw [run_convert_bytes_string w _ _ _ _ _ _ Try.underlying33 Try.underlying5 Try.underlying9]
  cases A with
  | none =>
    obtain rfl := hA rfl
    obtain rfl : l = [] := List.eq_nil_of_length_eq_zero hn.symm
    rfl
  | some a =>
    have hl := run_loadCells_list (P := Try.prog) w a ((l.map (fun x : Nat => (x : Int))).map (Value.int .u8)) (fun j v hj => by
      have hjl : j < l.length := by have := (List.getElem?_eq_some_iff.1 hj).1; simpa using this
      obtain ⟨b, o, e, _, hc⟩ := hr (by omega)
      injection e with e
      subst e
      rw [Addr.add_lit, hc j _ (List.getElem?_eq_getElem hjl), ← hj]
      simp [List.getElem?_eq_getElem hjl])
    rw [List.length_map, List.length_map, ← hn] at hl
    rw [run_bytesToString w a n c _ hl, foldl_push_ints]
    have he0 : ByteArray.empty.data = #[] := rfl
    rw [he0]
    simp [strB]
end Go.Proofs.Ytocdhnlffemnhaa
/- A region that draws its order, walked under one condition on the world: the laws of Derived/OrdersHeld.lean with the operation read out of the list. No program is named here. -/
namespace Go.Proofs.Ytocdhnlffemnhaa

section
variable {P : Program} {md : Region.Mode} {ops : Array Oper} {Q : Exit → Act → World → Prop} {S : World → Prop}

theorem heldTake {i : Nat} {oi : Oper} {v : Value} {fuel : Nat} {listed : Array Bool} {a : Act} {w : World} (hi : ops.toList[i]? = some oi)
    (hs : Region.noSelect ops = true) (hf : Region.free md ops listed i = true) (hr : (Region.ready md ops listed).contains i = true)
    (hQ : ∀ c a w, Q (.panic c) (a.put oi.dst v) w → Q (.panic c) a w) (hy : YieldsIf P ops S oi v a) (hS : S w)
    (h : wpAnyH P md ops Q S fuel (listed.setIfInBounds i true) (a.put oi.dst v) w) : wpAnyH P md ops Q S (fuel + 1) listed a w :=
  wpAnyH_take (by rw [← Array.getElem?_toList]; exact hi) hs hf hr hQ hy hS h

theorem heldOne {i : Nat} {o : Oper} {fuel : Nat} {listed : Array Bool} {a : Act} {w : World} (ho : ops.toList[i]? = some o) (hr : Region.ready md ops listed = [i])
    (h : ∀ K' : Act → World → Prop, Shut (∀ a w, S w → (S w → wpAnyH P md ops Q S fuel (listed.setIfInBounds i true) a w) → K' a w) → if Region.wanted o (yielded ops a.tmps) = true then Oper.wp P o a w K' Q else K' (a.put o.dst undef) w) :
    wpAnyH P md ops Q S (fuel + 1) listed a w :=
  wpAnyH_ready hr (by simp) (AllReadyH.cons (by rw [← Array.getElem?_toList]; exact ho) h AllReadyH.nil)

theorem heldTwo {i j : Nat} {o o' : Oper} {fuel : Nat} {listed : Array Bool} {a : Act} {w : World} (ho : ops.toList[i]? = some o) (ho' : ops.toList[j]? = some o') (hr : Region.ready md ops listed = [i, j])
    (h : ∀ K' : Act → World → Prop, Shut (∀ a w, S w → (S w → wpAnyH P md ops Q S fuel (listed.setIfInBounds i true) a w) → K' a w) → if Region.wanted o (yielded ops a.tmps) = true then Oper.wp P o a w K' Q else K' (a.put o.dst undef) w)
    (h' : ∀ K' : Act → World → Prop, Shut (∀ a w, S w → (S w → wpAnyH P md ops Q S fuel (listed.setIfInBounds j true) a w) → K' a w) → if Region.wanted o' (yielded ops a.tmps) = true then Oper.wp P o' a w K' Q else K' (a.put o'.dst undef) w) :
    wpAnyH P md ops Q S (fuel + 1) listed a w :=
  wpAnyH_ready hr (by simp) (AllReadyH.cons (by rw [← Array.getElem?_toList]; exact ho) h (AllReadyH.cons (by rw [← Array.getElem?_toList]; exact ho') h' AllReadyH.nil))

theorem heldThree {i j k : Nat} {o o' o2 : Oper} {fuel : Nat} {listed : Array Bool} {a : Act} {w : World} (ho : ops.toList[i]? = some o) (ho' : ops.toList[j]? = some o') (ho2 : ops.toList[k]? = some o2) (hr : Region.ready md ops listed = [i, j, k])
    (h : ∀ K' : Act → World → Prop, Shut (∀ a w, S w → (S w → wpAnyH P md ops Q S fuel (listed.setIfInBounds i true) a w) → K' a w) → if Region.wanted o (yielded ops a.tmps) = true then Oper.wp P o a w K' Q else K' (a.put o.dst undef) w)
    (h' : ∀ K' : Act → World → Prop, Shut (∀ a w, S w → (S w → wpAnyH P md ops Q S fuel (listed.setIfInBounds j true) a w) → K' a w) → if Region.wanted o' (yielded ops a.tmps) = true then Oper.wp P o' a w K' Q else K' (a.put o'.dst undef) w)
    (h2 : ∀ K' : Act → World → Prop, Shut (∀ a w, S w → (S w → wpAnyH P md ops Q S fuel (listed.setIfInBounds k true) a w) → K' a w) → if Region.wanted o2 (yielded ops a.tmps) = true then Oper.wp P o2 a w K' Q else K' (a.put o2.dst undef) w) :
    wpAnyH P md ops Q S (fuel + 1) listed a w :=
  wpAnyH_ready hr (by simp) (AllReadyH.cons (by rw [← Array.getElem?_toList]; exact ho) h (AllReadyH.cons (by rw [← Array.getElem?_toList]; exact ho') h' (AllReadyH.cons (by rw [← Array.getElem?_toList]; exact ho2) h2 AllReadyH.nil)))

/-- the condition on the world may be turned into one that says more, wherever it holds -/
theorem heldMore {S2 : World → Prop} (himp : ∀ w, S2 w → S w) : ∀ {fuel : Nat} {listed : Array Bool} {a : Act} {w : World}, wpAnyH P md ops Q S2 fuel listed a w → wpAnyH P md ops Q S fuel listed a w
  | 0, _, _, _, h => h
  | _ + 1, _, _, _, h => ⟨h.1, fun i hi => wpOp_mono (fun _ _ h' => ⟨himp _ h'.1, heldMore himp h'.2⟩) (h.2 i hi)⟩

theorem heldPut (l : List Value) (ds : List Deferred) (d : Nat) (v : Value) : Act.put { tmps := l.toArray, defers := ds } (some d) v = { tmps := (l.set d v).toArray, defers := ds } := by
  simp [Act.put]
end
end Go.Proofs.Ytocdhnlffemnhaa
/- Layer 4: the statements' own small item: the walk. -/
namespace Go.Proofs.Ytocdhnlffemnhaa
open Go.RowKit

def evV (s : Sm) (R : ByteArray) (L : Value) (st own : Int) : Array Value := #[.int .u8 ((s.o : Int) % 32), .int .u64 (1 + (s.q : Int)), .int .u64 s.t, .string R, L, .int .u8 st, .int .u8 ((s.p : Int) % 8), .int .i64 ((s.v : Int) - 100), .int .u8 own]

theorem ownP_nil {W : World} {base : Nat} {e : TypeId} {n c : Nat} {xs : List Value} (h : W.ownsRow base e 2 (.slice none n c) n xs) : n = 0 ∧ c = 0 := by
  rcases h.2 with ⟨e, h0⟩ | ⟨g, cap, cur, e, _⟩
  · injection e with _ e1 e2
    exact ⟨e1, e2⟩
  · injection e with e1
    cases e1
/-- what the walk of a small event leaves -/
def SmRet (s : Sm) (b : Bool) (w : World) (e : Ending) (w' : World) : Prop :=
  ∃ A c, e = .returned (.agg #[.bool false, .int .u8 ((s.o : Int) % 32), .int .u64 (1 + (s.q : Int)), .int .u64 s.t, .string (if s.w % 8 = 7 then ownX else ruleS s.r), .slice A (s.l % 4) c, .int .u8 (if b then 2 else 0), .int .u8 ((s.p : Int) % 8), .int .i64 ((s.v : Int) - 100), .int .u8 (if s.w % 8 = 7 then 1 + (s.w : Int) / 8 % 2 else 0), .int .u8 0, .int .u64 0, .int .u64 0]) ∧
    w'.ownsRow w.heap.size 116 2 (.slice A (s.l % 4) c) (s.l % 4) (cellsP (labsS s (s.l % 4))) ∧ Below w.heap.size w w'

end Go.Proofs.Ytocdhnlffemnhaa
/- Layer 3: the document's numbers and texts as bytes: watchfireref01.Uint, Int, Long. -/
namespace Go.Proofs.Ytocdhnlffemnhaa
open Go.RowKit

end Go.Proofs.Ytocdhnlffemnhaa
/- Layer 3: pack.Writer: what it holds; each of its calls, and those of a nil one. -/
namespace Go.Proofs.Ytocdhnlffemnhaa
open Go.RowKit

/-- the Writer at block g: its slice v, the bytes that were put -/
structure Wtr (w : World) (g : Nat) (v : Value) (l : List Nat) : Prop where
  lt : g < w.heap.size
  c0 : w.cell? ⟨g, 0, none⟩ = some v
  own : w.ownsRow (g + 1) 5 1 v l.length (cellsB l)
  fz : w.frozen? ⟨g, 0, none⟩ = false
theorem Wtr.below {w w' : World} {g : Nat} {v : Value} {l : List Nat} (h : Wtr w g v l) (hb : Below w.heap.size w w') : Wtr w' g v l :=
  ⟨Nat.lt_of_lt_of_le h.lt hb.size, (hb.cell (p := ⟨g, 0, none⟩) h.lt).trans h.c0, ownB_below h.own hb, (hb.frozen (p := ⟨g, 0, none⟩) h.lt).trans h.fz⟩
/-- what a call of the Writer leaves -/
def Puts (w w' : World) (g : Nat) (v : Value) (l : List Nat) : Prop := ∃ v', Wtr w' g v' l ∧ Wrote w w' g v.ownBlock v'.ownBlock
theorem Wtr.ne {w : World} {g : Nat} {v : Value} {l : List Nat} (h : Wtr w g v l) : ∀ k, v.ownBlock = some k → g < k := fun k hk => (h.own.lt k hk).1
theorem Wtr.new (w : World) (t : TypeId) : Wtr (w.alloc (.cells #[.slice none 0 0] t)) w.heap.size (.slice none 0 0) [] :=
  ⟨by simp, by rw [World.cell?_alloc_at _ _ _ _ rfl]; rfl, World.ownsRow_nil _ _ _ _, World.frozen?_alloc_at _ _ _ _ rfl⟩

theorem or128 : ∀ a, a < 256 → a ||| 128 = a % 128 + 128 := by decide +kernel
theorem u8_or128 (m : Nat) : bits .or .u8 ((m : Int) % 256) 128 = ((m % 128 + 128 : Nat) : Int) := by
  have h := u8_or_nat (m % 256) 128 (by omega) (by decide)
  rw [or128 _ (by omega)] at h
  rw [show m % 128 + 128 = m % 256 % 128 + 128 by omega, ← h]
  congr 1

theorem u64_not (a : Nat) (ha : a < 18446744073709551616) : bits .xor .u64 IntKind.u64.max (a : Int) = ((18446744073709551615 - a : Nat) : Int) := by
  show IntKind.u64.wrap ((BitVec.ofInt 64 IntKind.u64.max ^^^ BitVec.ofInt 64 (a : Int)).toNat : Int) = _
  have h1 : BitVec.ofInt 64 IntKind.u64.max = BitVec.allOnes 64 := by decide
  rw [h1, BitVec.allOnes_xor, BitVec.toNat_not, ofInt_u64 a ha, IntKind.wrap_u64]
  omega
/-- what Int puts: a number's bits with the sign as the lowest one -/
theorem zigNeg {z : Int} (h1 : -9223372036854775808 ≤ z) (hz : z < 0) :
    bits .or .u64 (IntKind.u64.wrap (bits .xor .u64 IntKind.u64.max (IntKind.u64.wrap z) * 2)) 1 = ((zig z : Nat) : Int) := by
  obtain ⟨a, ha, ha2⟩ : ∃ a : Nat, z = -(a : Int) - 1 ∧ a < 9223372036854775808 := ⟨(-(z + 1)).toNat, by omega, by omega⟩
  have e1 : IntKind.u64.wrap z = ((18446744073709551615 - a : Nat) : Int) := by rw [IntKind.wrap_u64]; omega
  rw [e1, u64_not _ (by omega)]
  have e2 : IntKind.u64.wrap (((18446744073709551615 - (18446744073709551615 - a) : Nat) : Int) * 2) = ((2 * a : Nat) : Int) := by rw [IntKind.wrap_u64]; omega
  rw [e2]
  have h := u64_or_nat (2 * a) 1 (by omega) (by decide)
  have e3 : 2 * a ||| 1 = 2 * a + 1 := by
    have := Nat.two_pow_add_eq_or_of_lt (i := 1) (b := 1) (by decide) a
    simpa using this.symm
  rw [e3] at h
  have e4 : zig z = 2 * a + 1 := by unfold zig; rw [if_pos hz]; omega
  rw [e4]
  exact h
end Go.Proofs.Ytocdhnlffemnhaa
