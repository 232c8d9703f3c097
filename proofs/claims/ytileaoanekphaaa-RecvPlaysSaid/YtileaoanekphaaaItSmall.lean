/- Layer 4: the statements' own small item, as plain data; how it lies in memory. No program is named here. -/
import Derived.Test.YtileaoanekphaaaItPlain
import Derived.Test.YtileaoanekphaaaClone
import Derived.Laws.Rows
import Derived.Laws.Tables
namespace Go.Proofs.Ytileaoanekphaaa
open Go.RowKit

structure Sm where
  g : Bool
  o : Nat
  p : Nat
  w : Nat
  q : Nat
  m : Nat
  t : Nat
  r : Nat
  l : Nat
  v : Nat
  s : Bool
structure OkS (s : Sm) : Prop where
  o : s.o < 256
  p : s.p < 256
  w : s.w < 256
  q : s.q < 65536
  m : s.m < 65536
  t : s.t < 65536
  r : s.r < 256
  l : s.l < 256
  v : s.v < 256

def ruleS (r : Nat) : ByteArray := match r % 4 with
  | 0 => ⟨#[104, 111, 116]⟩
  | 1 => ⟨#[99, 111, 108, 100]⟩
  | 2 => ⟨#[100, 105, 115, 107, 46, 102, 117, 108, 108]⟩
  | _ => ⟨#[120]⟩
def ownX : ByteArray := ⟨#[111, 119, 110, 46, 120]⟩
/-- the i-th label of a small item -/
def labS (s : Sm) (i : Nat) : Pr := (⟨#[UInt8.ofNat (97 + i)]⟩, ⟨#[UInt8.ofNat (48 + s.l / 4 % 10)]⟩)
def labsS (s : Sm) (k : Nat) : List Pr := (List.range k).map (labS s)
theorem labsS_succ (s : Sm) (k : Nat) : labsS s (k + 1) = labsS s k ++ [labS s k] := by
  simp [labsS, List.range_succ]
theorem labsS_length (s : Sm) (k : Nat) : (labsS s k).length = k := by simp [labsS]
/-- the item that is made of small numbers -/
def smallI (s : Sm) : It :=
  if s.g then ⟨true, 0, 0, 0, ⟨#[]⟩, [], 0, 0, 0, 0, s.o % 32, 1 + s.q, 1 + s.q + s.m⟩
  else ⟨false, s.o % 32, 1 + s.q, s.t, if s.w % 8 = 7 then ownX else ruleS s.r, labsS s (s.l % 4), if s.s then 2 else 0, s.p % 8, (s.v : Int) - 100, if s.w % 8 = 7 then 1 + s.w / 8 % 2 else 0, 0, 0, 0⟩

/-- small numbers that lie at block g -/
structure SmAt (w : World) (g : Nat) (s : Sm) : Prop where
  lt : g < w.heap.size
  c1 : w.cell? ⟨g, 1, none⟩ = some (.int .u8 s.o)
  c2 : w.cell? ⟨g, 2, none⟩ = some (.int .u8 s.p)
  c3 : w.cell? ⟨g, 3, none⟩ = some (.int .u8 s.w)
  c4 : w.cell? ⟨g, 4, none⟩ = some (.int .u16 s.q)
  c5 : w.cell? ⟨g, 5, none⟩ = some (.int .u16 s.m)
  c6 : w.cell? ⟨g, 6, none⟩ = some (.int .u16 s.t)
  c7 : w.cell? ⟨g, 7, none⟩ = some (.int .u8 s.r)
  c8 : w.cell? ⟨g, 8, none⟩ = some (.int .u8 s.l)
  c9 : w.cell? ⟨g, 9, none⟩ = some (.int .u8 s.v)
  c10 : w.cell? ⟨g, 10, none⟩ = some (.bool s.s)
theorem SmAt.keep {w w1 : World} {g : Nat} {s : Sm} (h : SmAt w g s) (hs : w.heap.size ≤ w1.heap.size) (hk : w1.heap[g]? = w.heap[g]?) : SmAt w1 g s := by
  have k : ∀ o, w1.cell? ⟨g, o, none⟩ = w.cell? ⟨g, o, none⟩ := fun o => World.cell?_of_block hk
  exact ⟨Nat.lt_of_lt_of_le h.lt hs, (k 1).trans h.c1, (k 2).trans h.c2, (k 3).trans h.c3, (k 4).trans h.c4, (k 5).trans h.c5, (k 6).trans h.c6, (k 7).trans h.c7, (k 8).trans h.c8, (k 9).trans h.c9, (k 10).trans h.c10⟩

def zeroV : Array Value := #[.bool false, .int .u8 0, .int .u64 0, .int .u64 0, .string ⟨#[]⟩, .slice none 0 0, .int .u8 0, .int .u8 0, .int .i64 0, .int .u8 0, .int .u8 0, .int .u64 0, .int .u64 0]
/-- while a small item is made: its numbers at the call's first block, the result's block, the event's block E -/
structure SmSt (w0 w : World) (s : Sm) (E : Nat) (cs : Array Value) (tE tR : TypeId) : Prop where
  bl : Below w0.heap.size w0 w
  sm : SmAt w w0.heap.size s
  re : w.heap[w0.heap.size + 1]? = some (.cells zeroV tR (0, 0))
  ev : w.heap[E]? = some (.cells cs tE (0, 0))
  lo : w0.heap.size + 2 ≤ E
theorem SmSt.lt {w0 w : World} {s : Sm} {E : Nat} {cs : Array Value} {tE tR : TypeId} (h : SmSt w0 w s E cs tE tR) : E < w.heap.size := (Array.getElem?_eq_some_iff.1 h.ev).1
/-- a cell of the event's block is written -/
theorem SmSt.set {w0 w : World} {s : Sm} {E : Nat} {cs : Array Value} {tE tR : TypeId} (h : SmSt w0 w s E cs tE tR) (j : Nat) (v : Value) : SmSt w0 (w.setCell ⟨E, j, none⟩ v) s E (cs.setIfInBounds j v) tE tR := by
  have hl := h.lo
  exact ⟨h.bl.setCell (p := ⟨E, j, none⟩) (by simp; omega) v, h.sm.keep (by simp) (heap_setCell_other _ _ _ _ (by simp; omega)), (heap_setCell_other _ _ _ _ (by simp; omega)).trans h.re, heap_setCell_same _ _ _ _ _ _ h.ev, h.lo⟩
/-- new blocks, and writes to a row that is newer than the event -/
theorem SmSt.grown {w0 w w1 : World} {s : Sm} {E : Nat} {cs : Array Value} {tE tR : TypeId} {r : Option Nat} (h : SmSt w0 w s E cs tE tR) (hg : w.grownBy w1 r) (hr : ∀ k, r = some k → E < k) : SmSt w0 w1 s E cs tE tR := by
  have hl := h.lo
  have hlt := h.lt
  have hne : ∀ j, j ≤ E → some j ≠ r := fun j hj e => by have := hr j e.symm; omega
  exact ⟨h.bl.grown hg (by omega) (fun k hk => by have := hr k hk; omega), h.sm.keep hg.size (hg.block _ (by omega) (hne _ (by omega))), (hg.block _ (by omega) (hne _ (by omega))).trans h.re, (hg.block _ (by omega) (hne _ (by omega))).trans h.ev, h.lo⟩
theorem SmSt.below {w0 w w1 : World} {s : Sm} {E : Nat} {cs : Array Value} {tE tR : TypeId} (h : SmSt w0 w s E cs tE tR) (hb : Below w.heap.size w w1) : SmSt w0 w1 s E cs tE tR :=
  h.grown (r := none) ⟨hb.os, hb.tape, hb.output, hb.size, fun k hk _ => hb.block k hk⟩ (fun k e => by cases e)
/-- the four names of rules, as they lie -/
def namesV : Array Value := #[.string ⟨#[104, 111, 116]⟩, .string ⟨#[99, 111, 108, 100]⟩, .string ⟨#[100, 105, 115, 107, 46, 102, 117, 108, 108]⟩, .string ⟨#[120]⟩]
theorem names_at (r : Nat) : namesV[r % 4]? = some (.string (ruleS r)) := by
  have h : ∀ k, k < 4 → namesV[k]? = some (.string (match k with | 0 => (⟨#[104, 111, 116]⟩ : ByteArray) | 1 => ⟨#[99, 111, 108, 100]⟩ | 2 => ⟨#[100, 105, 115, 107, 46, 102, 117, 108, 108]⟩ | _ => ⟨#[120]⟩)) := fun k hk => by
    match k, hk with
    | 0, _ => rfl
    | 1, _ => rfl
    | 2, _ => rfl
    | 3, _ => rfl
  have h2 := h (r % 4) (by omega)
  rw [h2]
  unfold ruleS
  match r % 4 with
  | 0 => rfl
  | 1 => rfl
  | 2 => rfl
  | _ + 3 => rfl
theorem names_cell {w : World} {b : Nat} {t : TypeId} (h : w.heap[b]? = some (.cells namesV t (0, 0))) (r : Nat) : w.cell? ⟨b, r % 4, none⟩ = some (.string (ruleS r)) := (cell_of_row _ _ _ _ _ _ h).trans (names_at r)
theorem old_two (W : World) (A B : Obj) {i : Nat} (h : i < W.heap.size) : ((W.alloc A).alloc B).heap[i]? = W.heap[i]? := by
  have h2 : i < (W.alloc A).heap.size := by simp; omega
  exact (heap_alloc_old (W.alloc A) B h2).trans (heap_alloc_old W A h)
/-- where the event lies: ahead of the names, or behind them -/
theorem SmSt.start {w0 W : World} {R : Obj} {E : Nat} {W2 : World} {s : Sm} {cs : Array Value} {tE tR : TypeId} (h1 : Below w0.heap.size w0 W) (h2 : SmAt W w0.heap.size s) (h3 : W.heap[w0.heap.size + 1]? = some (.cells zeroV tR (0, 0))) (h4 : W.heap.size = w0.heap.size + 2)
    (h : (W2 = (W.alloc R).alloc (.cells cs tE) ∧ E = W.heap.size + 1) ∨ (W2 = (W.alloc (.cells cs tE)).alloc R ∧ E = W.heap.size)) : SmSt w0 W2 s E cs tE tR := by
  rcases h with ⟨rfl, rfl⟩ | ⟨rfl, rfl⟩
  · exact ⟨(h1.alloc h1.size _).alloc (by simp; omega) _, h2.keep (by simp; omega) (old_two _ _ _ (by omega)), (old_two _ _ _ (by omega)).trans h3, heap_alloc2_new _ _ _, by omega⟩
  · exact ⟨(h1.alloc h1.size _).alloc (by simp; omega) _, h2.keep (by simp; omega) (old_two _ _ _ (by omega)), (old_two _ _ _ (by omega)).trans h3, heap_alloc2_old _ _ _, by omega⟩
theorem ruleS_size (r : Nat) : (ruleS r).size ≤ 100 := by
  unfold ruleS
  split <;> decide
/-- one byte in a block of its own -/
theorem rdB_one (w : World) (t : TypeId) (x : Int) (k : Nat) (h : x = k) : RdB (w.alloc (.cells #[.int .u8 x] t)) (w.heap.size + 1) (some ⟨w.heap.size, 0, none⟩) [k] := fun _ => by
  subst h
  refine ⟨w.heap.size, 0, rfl, Nat.lt_succ_self _, fun i y hi => ?_⟩
  match i, hi with
  | 0, hi =>
    obtain rfl : k = y := by simpa using hi
    rw [World.cell?_alloc_at _ _ _ _ rfl]; rfl
/-- one pair in a block of its own -/
theorem src_pair {w : World} {g : Nat} {p : Pr} {t : TypeId} (h : w.heap[g]? = some (.cells #[.string p.1, .string p.2] t (0, 0))) : Src w (some ⟨g, 0, none⟩) 1 2 (cellsP [p]) :=
  ⟨rfl, fun _ => ⟨_, rfl, fun j u hj => by
    rw [Addr.add_lit, Nat.zero_add, cell_of_row _ _ j _ _ _ h]
    match j, hj with
    | 0, hj => exact hj
    | 1, hj => exact hj
    | i + 2, hj => simp [cellsP, encP] at hj⟩⟩
end Go.Proofs.Ytileaoanekphaaa
