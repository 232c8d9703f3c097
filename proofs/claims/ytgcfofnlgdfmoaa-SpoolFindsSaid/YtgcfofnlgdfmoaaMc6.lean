/- Several texts in one: ItSmall, ItGap, ItOf, Bcl. -/
import Derived.Laws.Rows
import Derived.Laws.Tables
import Derived.Laws.CopyOwn
import Derived.Deep.DeepCutAuto
import Derived.Test.YtgcfofnlgdfmoaaChecked
import Derived.WalkKit
import Derived.WalkSpells
import Derived.Lib.AppendZeros
import Derived.Lib.SliceRun
import Derived.Laws.IdiomStrings
import Derived.Test.YtgcfofnlgdfmoaaMc4
import Derived.Test.YtgcfofnlgdfmoaaMc5
/- Layer 4: the statements' own small item, as plain data; how it lies in memory. No program is named here. -/
namespace Go.Proofs.Ytgcfofnlgdfmoaa
open Go.RowKit

structure Sm where
  g : Bool
  o : Nat
  p : Nat
  w : Nat
  q : Nat
  m : Nat
  t : Nat
  r : Nat
  l : Nat
  v : Nat
  s : Bool
structure OkS (s : Sm) : Prop where
  o : s.o < 256
  p : s.p < 256
  w : s.w < 256
  q : s.q < 65536
  m : s.m < 65536
  t : s.t < 65536
  r : s.r < 256
  l : s.l < 256
  v : s.v < 256

def ruleS (r : Nat) : ByteArray := match r % 4 with
  | 0 => ⟨#[104, 111, 116]⟩
  | 1 => ⟨#[99, 111, 108, 100]⟩
  | 2 => ⟨#[100, 105, 115, 107, 46, 102, 117, 108, 108]⟩
  | _ => ⟨#[120]⟩
def ownX : ByteArray := ⟨#[111, 119, 110, 46, 120]⟩
/-- the i-th label of a small item -/
def labS (s : Sm) (i : Nat) : Pr := (⟨#[UInt8.ofNat (97 + i)]⟩, ⟨#[UInt8.ofNat (48 + s.l / 4 % 10)]⟩)
def labsS (s : Sm) (k : Nat) : List Pr := (List.range k).map (labS s)
theorem labsS_succ (s : Sm) (k : Nat) : labsS s (k + 1) = labsS s k ++ [labS s k] := by
  simp [labsS, List.range_succ]
theorem labsS_length (s : Sm) (k : Nat) : (labsS s k).length = k := by simp [labsS]
/-- the item that is made of small numbers -/
def smallI (s : Sm) : It :=
  if s.g then ⟨true, 0, 0, 0, ⟨#[]⟩, [], 0, 0, 0, 0, s.o % 32, 1 + s.q, 1 + s.q + s.m⟩
  else ⟨false, s.o % 32, 1 + s.q, s.t, if s.w % 8 = 7 then ownX else ruleS s.r, labsS s (s.l % 4), if s.s then 2 else 0, s.p % 8, (s.v : Int) - 100, if s.w % 8 = 7 then 1 + s.w / 8 % 2 else 0, 0, 0, 0⟩

/-- small numbers that lie at block g -/
structure SmAt (w : World) (g : Nat) (s : Sm) : Prop where
  lt : g < w.heap.size
  c1 : w.cell? ⟨g, 1, none⟩ = some (.int .u8 s.o)
  c2 : w.cell? ⟨g, 2, none⟩ = some (.int .u8 s.p)
  c3 : w.cell? ⟨g, 3, none⟩ = some (.int .u8 s.w)
  c4 : w.cell? ⟨g, 4, none⟩ = some (.int .u16 s.q)
  c5 : w.cell? ⟨g, 5, none⟩ = some (.int .u16 s.m)
  c6 : w.cell? ⟨g, 6, none⟩ = some (.int .u16 s.t)
  c7 : w.cell? ⟨g, 7, none⟩ = some (.int .u8 s.r)
  c8 : w.cell? ⟨g, 8, none⟩ = some (.int .u8 s.l)
  c9 : w.cell? ⟨g, 9, none⟩ = some (.int .u8 s.v)
  c10 : w.cell? ⟨g, 10, none⟩ = some (.bool s.s)
theorem SmAt.keep {w w1 : World} {g : Nat} {s : Sm} (h : SmAt w g s) (hs : w.heap.size ≤ w1.heap.size) (hk : w1.heap[g]? = w.heap[g]?) : SmAt w1 g s := by
  have k : ∀ o, w1.cell? ⟨g, o, none⟩ = w.cell? ⟨g, o, none⟩ := fun o => World.cell?_of_block hk
  exact ⟨Nat.lt_of_lt_of_le h.lt hs, (k 1).trans h.c1, (k 2).trans h.c2, (k 3).trans h.c3, (k 4).trans h.c4, (k 5).trans h.c5, (k 6).trans h.c6, (k 7).trans h.c7, (k 8).trans h.c8, (k 9).trans h.c9, (k 10).trans h.c10⟩

def zeroV : Array Value := #[.bool false, .int .u8 0, .int .u64 0, .int .u64 0, .string ⟨#[]⟩, .slice none 0 0, .int .u8 0, .int .u8 0, .int .i64 0, .int .u8 0, .int .u8 0, .int .u64 0, .int .u64 0]
/-- while a small item is made: its numbers at the call's first block, the result's block, the event's block E -/
structure SmSt (w0 w : World) (s : Sm) (E : Nat) (cs : Array Value) (tE tR : TypeId) : Prop where
  bl : Below w0.heap.size w0 w
  sm : SmAt w w0.heap.size s
  re : w.heap[w0.heap.size + 1]? = some (.cells zeroV tR (0, 0))
  ev : w.heap[E]? = some (.cells cs tE (0, 0))
  lo : w0.heap.size + 2 ≤ E
theorem SmSt.lt {w0 w : World} {s : Sm} {E : Nat} {cs : Array Value} {tE tR : TypeId} (h : SmSt w0 w s E cs tE tR) : E < w.heap.size := (Array.getElem?_eq_some_iff.1 h.ev).1
/-- a cell of the event's block is written -/
theorem SmSt.set {w0 w : World} {s : Sm} {E : Nat} {cs : Array Value} {tE tR : TypeId} (h : SmSt w0 w s E cs tE tR) (j : Nat) (v : Value) : SmSt w0 (w.setCell ⟨E, j, none⟩ v) s E (cs.setIfInBounds j v) tE tR := by
  have hl := h.lo
  exact ⟨h.bl.setCell (p := ⟨E, j, none⟩) (by simp; omega) v, h.sm.keep (by simp) (heap_setCell_other _ _ _ _ (by simp; omega)), (heap_setCell_other _ _ _ _ (by simp; omega)).trans h.re, heap_setCell_same _ _ _ _ _ _ h.ev, h.lo⟩
/-- new blocks, and writes to a row that is newer than the event -/
theorem SmSt.grown {w0 w w1 : World} {s : Sm} {E : Nat} {cs : Array Value} {tE tR : TypeId} {r : Option Nat} (h : SmSt w0 w s E cs tE tR) (hg : w.grownBy w1 r) (hr : ∀ k, r = some k → E < k) : SmSt w0 w1 s E cs tE tR := by
  have hl := h.lo
  have hlt := h.lt
  have hne : ∀ j, j ≤ E → some j ≠ r := fun j hj e => by have := hr j e.symm; omega
  exact ⟨h.bl.grown hg (by omega) (fun k hk => by have := hr k hk; omega), h.sm.keep hg.size (hg.block _ (by omega) (hne _ (by omega))), (hg.block _ (by omega) (hne _ (by omega))).trans h.re, (hg.block _ (by omega) (hne _ (by omega))).trans h.ev, h.lo⟩
theorem SmSt.below {w0 w w1 : World} {s : Sm} {E : Nat} {cs : Array Value} {tE tR : TypeId} (h : SmSt w0 w s E cs tE tR) (hb : Below w.heap.size w w1) : SmSt w0 w1 s E cs tE tR :=
  h.grown (r := none) ⟨hb.os, hb.tape, hb.output, hb.size, fun k hk _ => hb.block k hk⟩ (fun k e => by cases e)
/-- the four names of rules, as they lie -/
def namesV : Array Value := #[.string ⟨#[104, 111, 116]⟩, .string ⟨#[99, 111, 108, 100]⟩, .string ⟨#[100, 105, 115, 107, 46, 102, 117, 108, 108]⟩, .string ⟨#[120]⟩]
theorem names_at (r : Nat) : namesV[r % 4]? = some (.string (ruleS r)) := by
  have h : ∀ k, k < 4 → namesV[k]? = some (.string (match k with | 0 => (⟨#[104, 111, 116]⟩ : ByteArray) | 1 => ⟨#[99, 111, 108, 100]⟩ | 2 => ⟨#[100, 105, 115, 107, 46, 102, 117, 108, 108]⟩ | _ => ⟨#[120]⟩)) := fun k hk => by
    match k, hk with
    | 0, _ => rfl
    | 1, _ => rfl
    | 2, _ => rfl
    | 3, _ => rfl
  have h2 := h (r % 4) (by omega)
  rw [h2]
  unfold ruleS
  match r % 4 with
  | 0 => rfl
  | 1 => rfl
  | 2 => rfl
  | _ + 3 => rfl
theorem names_cell {w : World} {b : Nat} {t : TypeId} (h : w.heap[b]? = some (.cells namesV t (0, 0))) (r : Nat) : w.cell? ⟨b, r % 4, none⟩ = some (.string (ruleS r)) := (cell_of_row _ _ _ _ _ _ h).trans (names_at r)
theorem old_two (W : World) (A B : Obj) {i : Nat} (h : i < W.heap.size) : ((W.alloc A).alloc B).heap[i]? = W.heap[i]? := by
  have h2 : i < (W.alloc A).heap.size := by simp; omega
  exact (heap_alloc_old (W.alloc A) B h2).trans (heap_alloc_old W A h)
/-- where the event lies: ahead of the names, or behind them -/
theorem SmSt.start {w0 W : World} {R : Obj} {E : Nat} {W2 : World} {s : Sm} {cs : Array Value} {tE tR : TypeId} (h1 : Below w0.heap.size w0 W) (h2 : SmAt W w0.heap.size s) (h3 : W.heap[w0.heap.size + 1]? = some (.cells zeroV tR (0, 0))) (h4 : W.heap.size = w0.heap.size + 2)
    (h : (W2 = (W.alloc R).alloc (.cells cs tE) ∧ E = W.heap.size + 1) ∨ (W2 = (W.alloc (.cells cs tE)).alloc R ∧ E = W.heap.size)) : SmSt w0 W2 s E cs tE tR := by
  rcases h with ⟨rfl, rfl⟩ | ⟨rfl, rfl⟩
  · exact ⟨(h1.alloc h1.size _).alloc (by simp; omega) _, h2.keep (by simp; omega) (old_two _ _ _ (by omega)), (old_two _ _ _ (by omega)).trans h3, heap_alloc2_new _ _ _, by omega⟩
  · exact ⟨(h1.alloc h1.size _).alloc (by simp; omega) _, h2.keep (by simp; omega) (old_two _ _ _ (by omega)), (old_two _ _ _ (by omega)).trans h3, heap_alloc2_old _ _ _, by omega⟩
theorem ruleS_size (r : Nat) : (ruleS r).size ≤ 100 := by
  unfold ruleS
  split <;> decide
/-- one byte in a block of its own -/
theorem rdB_one (w : World) (t : TypeId) (x : Int) (k : Nat) (h : x = k) : RdB (w.alloc (.cells #[.int .u8 x] t)) (w.heap.size + 1) (some ⟨w.heap.size, 0, none⟩) [k] := fun _ => by
  subst h
  refine ⟨w.heap.size, 0, rfl, Nat.lt_succ_self _, fun i y hi => ?_⟩
  match i, hi with
  | 0, hi =>
    obtain rfl : k = y := by simpa using hi
    rw [World.cell?_alloc_at _ _ _ _ rfl]; rfl
/-- one pair in a block of its own -/
theorem src_pair {w : World} {g : Nat} {p : Pr} {t : TypeId} (h : w.heap[g]? = some (.cells #[.string p.1, .string p.2] t (0, 0))) : Src w (some ⟨g, 0, none⟩) 1 2 (cellsP [p]) :=
  ⟨rfl, fun _ => ⟨_, rfl, fun j u hj => by
    rw [Addr.add_lit, Nat.zero_add, cell_of_row _ _ j _ _ _ h]
    match j, hj with
    | 0, hj => exact hj
    | 1, hj => exact hj
    | i + 2, hj => simp [cellsP, encP] at hj⟩⟩
end Go.Proofs.Ytgcfofnlgdfmoaa
/- Layer 4: item.Gap. -/
namespace Go.Proofs.Ytgcfofnlgdfmoaa
open Go.RowKit

set_option maxRecDepth 100000 in
set_option maxHeartbeats 400000 in
theorem gap_any (o f t : Int) (w : World) :
    Calls Try.prog 62 #[.int .u8 o, .int .u64 f, .int .u64 t] w fun e w' => e = .returned (.agg #[.bool true, .int .u8 0, .int .u64 0, .int .u64 0, .string ⟨#[]⟩, .slice none 0 0, .int .u8 0, .int .u8 0, .int .i64 0, .int .u8 0, .int .u8 o, .int .u64 f, .int .u64 t]) ∧ Below w.heap.size w w' := by
  go_enter Try.func62, Try.ntmps62
  go_wp2
  refine bodyPost_ret (v := .agg #[.bool true, .int .u8 0, .int .u64 0, .int .u64 0, .string ⟨#[]⟩, .slice none 0 0, .int .u8 0, .int .u8 0, .int .i64 0, .int .u8 0, .int .u8 o, .int .u64 f, .int .u64 t]) (by simp [results, Try.results62, go_sem]) rfl ⟨rfl, (Below.refl _ _).alloc (Nat.le_refl _) _⟩
end Go.Proofs.Ytgcfofnlgdfmoaa
/- Layer 4: item.Of, item.Clone. -/
namespace Go.Proofs.Ytgcfofnlgdfmoaa
open Go.RowKit

theorem own_setRow {W : World} {base : Nat} {e : TypeId} {size n g : Nat} {v : Value} {xs : List Value} (h : W.ownsRow base e size v n xs) (hg : g < base) (cs : Array Value) : (W.setRow g cs).ownsRow base e size v n xs := by
  refine ⟨h.1, ?_⟩
  rcases h.2 with hn | ⟨k, cap, cur, rfl, hb, hgg, rest⟩
  · exact .inl hn
  · exact .inr ⟨k, cap, cur, rfl, hb, (setRow_other W g k cs (by omega)).trans hgg, rest⟩
theorem Try.infoI : (Try.prog.info? 60).map (·.size) = some 13 := by kernel_rfl

set_option maxRecDepth 100000 in
set_option maxHeartbeats 1000000 in
theorem of_any (o q t : Int) (r : ByteArray) (A : Option Addr) (n c : Nat) (l : List Pr) (st p v ow : Int) (w : World) (hn : n = l.length) (hA : A = none → n = 0) (hm : n * 32 ≤ 140737488351232) (hr : RdP w w.heap.size A l) :
    Calls Try.prog 46 #[.agg #[.int .u8 o, .int .u64 q, .int .u64 t, .string r, .slice A n c, .int .u8 st, .int .u8 p, .int .i64 v, .int .u8 ow]] w fun e w' => ∃ L, e = .returned (.agg #[.bool false, .int .u8 o, .int .u64 q, .int .u64 t, .string r, L, .int .u8 st, .int .u8 p, .int .i64 v, .int .u8 ow, .int .u8 0, .int .u64 0, .int .u64 0]) ∧ w'.ownsRow w.heap.size 151 2 L n (cellsP l) ∧ Below w.heap.size w w' := by
  obtain ⟨W, hW⟩ : ∃ W, W = ((w.alloc (.cells #[.int .u8 o, .int .u64 q, .int .u64 t, .string r, .slice A n c, .int .u8 st, .int .u8 p, .int .i64 v, .int .u8 ow] 56)).alloc (.cells #[.bool false, .int .u8 0, .int .u64 0, .int .u64 0, .string ⟨#[]⟩, .slice none 0 0, .int .u8 0, .int .u8 0, .int .i64 0, .int .u8 0, .int .u8 0, .int .u64 0, .int .u64 0] 60)) := ⟨_, rfl⟩
  have hb : Below w.heap.size w W := by rw [hW]; exact ((Below.refl _ _).alloc (Nat.le_refl _) _).alloc (by simp) _
  have hz : W.heap.size = w.heap.size + 2 := by rw [hW]; simp
  have h0 : W.heap[w.heap.size]? = some (.cells #[.int .u8 o, .int .u64 q, .int .u64 t, .string r, .slice A n c, .int .u8 st, .int .u8 p, .int .i64 v, .int .u8 ow] 56 (0, 0)) := by rw [hW]; exact heap_alloc2_old _ _ _
  have h1 : W.heap[w.heap.size + 1]? = some (.cells #[.bool false, .int .u8 0, .int .u64 0, .int .u64 0, .string ⟨#[]⟩, .slice none 0 0, .int .u8 0, .int .u8 0, .int .i64 0, .int .u8 0, .int .u8 0, .int .u64 0, .int .u64 0] 60 (0, 0)) := by rw [hW]; exact heap_alloc2_new _ _ _
  have hc := clone_any A n c l W hn hA hm ((hr.below hb).more (by omega))
  have c4 : W.cell? ⟨w.heap.size, 4, none⟩ = some (.slice A n c) := cell_of_row _ _ 4 _ _ _ h0
  have HC := Lib.hid hc
  have HB := Lib.hid hb
  have HZ := Lib.hid hz
  have H0 := Lib.hid h0
  have H1 := Lib.hid h1
  have HW := Lib.hid hW
  clear hn hA hr hb hz h0 h1 hc hW
  go_enter Try.func46, Try.ntmps46
  go_upto_region 1 with fail
  rw [← HW.out]
  go_wp2_with fail
  refine HC.out.mono ?_
  rintro e w1 ⟨L, rfl, ho, hb⟩
  obtain ⟨A2, c2, rfl⟩ := own_slice ho
  have hz := HZ.out
  have g0 := (hb.block w.heap.size (by omega)).trans H0.out
  have g1 := (hb.block (w.heap.size + 1) (by omega)).trans H1.out
  have hs := hb.size
  have G1 := Lib.hid ((heap_setCell_other w1 ⟨w.heap.size, 4, none⟩ (w.heap.size + 1) (.slice A2 n c2) (by simp)).trans g1)
  have G0 := Lib.hid (heap_setCell_same w1 w.heap.size 4 _ _ (.slice A2 n c2) g0)
  have d4 := cell_of_row _ _ 4 _ _ _ g0
  have f4 := frozen_of_row _ _ 4 _ _ g0
  simp at d4
  have HO := Lib.hid ho
  have HB1 := Lib.hid (HB.out.trans (hb.mono (by omega)))
  clear g0 g1 ho hb c4 hz hs
  go_wp2_with (first
    | (refine wpList_load_row rfl _ _ rfl w.heap.size rfl _ _ _ _ G0.out Try.underlying56 rfl (by kernel_rfl) ?_)
    | (refine wpList_store_row rfl _ _ _ rfl (w.heap.size + 1) _ rfl rfl _ _ G1.out Try.infoI rfl (by simp [Value.oneCell']) ?_))
  refine bodyPost_ret (v := .agg #[.bool false, .int .u8 o, .int .u64 q, .int .u64 t, .string r, .slice A2 n c2, .int .u8 st, .int .u8 p, .int .i64 v, .int .u8 ow, .int .u8 0, .int .u64 0, .int .u64 0]) ?_ rfl ⟨_, rfl, ?_, ?_⟩
  · exact results_cell_row rfl _ _ (w.heap.size + 1) _ _ _ _ rfl (setRow_heap _ _ _ _ _ _ G1.out) Try.underlying60 rfl (by kernel_rfl)
  · exact ownB_mono (own_setRow (ownsRow_setCell_below HO.out (by have := HZ.out; simp; omega) _) (by have := HZ.out; omega) _) (by have := HZ.out; omega)
  · exact below_setRow (HB1.out.setCell (p := ⟨w.heap.size, 4, none⟩) (Nat.le_refl _) _) (by omega) _
end Go.Proofs.Ytgcfofnlgdfmoaa
/- bytes.Clone; bytes as a text. -/
namespace Go.Proofs.Ytgcfofnlgdfmoaa
open Go.RowKit

theorem Try.infoB : (Try.prog.info? 5).map (fun i => (i.zero, i.size, i.bytes)) = some (some (.int .u8 0), 1, 1) := by kernel_rfl
set_option maxRecDepth 100000 in
set_option maxHeartbeats 400000 in
theorem bclone_any (A : Option Addr) (n c : Nat) (l : List Nat) (w : World) (B : Nat) (hn : n = l.length) (hA : A = none → n = 0) (hm : n ≤ 140737488351232) (hr : RdB w B A l) (hB : B ≤ w.heap.size) :
    Calls Try.prog 87 #[.slice A n c] w fun e w' => ∃ v, e = .returned v ∧ w'.ownsRow w.heap.size 5 1 v n (cellsB l) ∧ Below w.heap.size w w' := by
  obtain ⟨i0, hi, hz0, hz1, hz2⟩ := info_parts Try.infoB
  have q22 : ∀ (w : World) (a : Option Addr) (n c n' c' : Nat), (binOp .eql 37 (.slice a n c) (.slice none n' c')).run Try.prog w = .ok (.bool a.isNone) w := fun w a n c n' c' => Lib.run_eql_slice_nil w _ _ a n c n' c' Try.underlying37
  cases A with
  | none =>
    obtain rfl := hA rfl
    obtain rfl : l = [] := List.eq_nil_of_length_eq_zero hn.symm
    clear hm hn hA hr
    go_enter Try.func87, Try.ntmps87
    go_wp2
    go_ret
    exact ⟨_, rfl, World.ownsRow_nil _ _ _ _, Below.refl _ _⟩
  | some a =>
    have hs1 : Src (w.alloc (.cells #[] 5)) (some a) n 1 (cellsB l) := src_of_rdB (hr.below (((Below.refl _ w).alloc (Nat.le_refl _) _).mono hB)) hn
    have HS := Lib.hid hs1
    have Hm := Lib.hid hm
    clear hs1 hr hA hn hm
    go_enter Try.func87, Try.ntmps87
    go_wp2_with (at_builtin; refine wpList_append_src (base := w.heap.size) rfl _ _ rfl Try.underlying37 hi hz0 hz1 hz2 rfl (by decide) rfl (World.ownsRow_made _ #[] 0 (Nat.le_refl _) (Nat.zero_le _) rfl) rfl HS.out (cellsB_one _) (by have := Hm.out; unfold maxLen; omega) (by have := Hm.out; omega) (by simp) ?_; intro v1 w1 hr1 hg1 hb1; replace hb1 : Below w.heap.size w w1 := ((Below.refl _ w).alloc (Nat.le_refl _) _).grown hg1 (by simp) (fun q hq => by cases hq; exact Nat.le_refl _); replace hr1 := Lib.hid hr1; clear hg1)
    go_ret
    have h := hr1.out
    rw [Nat.zero_add, List.nil_append] at h
    exact ⟨_, rfl, h, hb1⟩

theorem conv_any {w : World} {B : Nat} {A : Option Addr} {n c : Nat} {l : List Nat} (hr : RdB w B A l) (hn : n = l.length) (hA : A = none → n = 0) :
    (convert 37 9 (.slice A n c)).run Try.prog w = .ok (.string (strB l)) w := by
  rw [run_convert_bytes_string w _ _ _ _ _ _ Try.underlying37 Try.underlying5 Try.underlying9]
  cases A with
  | none =>
    obtain rfl := hA rfl
    obtain rfl : l = [] := List.eq_nil_of_length_eq_zero hn.symm
    rfl
  | some a =>
    have hl := run_loadCells_list (P := Try.prog) w a ((l.map (fun x : Nat => (x : Int))).map (Value.int .u8)) (fun j v hj => by
      have hjl : j < l.length := by have := (List.getElem?_eq_some_iff.1 hj).1; simpa using this
      obtain ⟨b, o, e, _, hc⟩ := hr (by omega)
      injection e with e
      subst e
      rw [Addr.add_lit, hc j _ (List.getElem?_eq_getElem hjl), ← hj]
      simp [List.getElem?_eq_getElem hjl])
    rw [List.length_map, List.length_map, ← hn] at hl
    rw [run_bytesToString w a n c _ hl, foldl_push_ints]
    have he0 : ByteArray.empty.data = #[] := rfl
    rw [he0]
    simp [strB]
end Go.Proofs.Ytgcfofnlgdfmoaa
