/- Several texts in one: RvMem, RvNew, ItSpan. -/
import Derived.Maps.OwnOps
import Derived.Maps.RangeWalk
import Derived.Maps.OwnSet
import Derived.Lib.Hide
import Derived.WalkKit
import Derived.WalkSpells
import Derived.StillTailTactics
import Derived.RegionTactic
import Derived.BigRegion
import Derived.Deep.QuietTactic
import Derived.BigQuiet
import Derived.Deep.DeepCutAuto
import Derived.Test.YtocdhnlffemnhaaQa4
import Derived.Test.YtocdhnlffemnhaaQa6
import Derived.Test.YtocdhnlffemnhaaQa7
/- Layer 11: a receiver in memory: its block, its map of items by number, their labels; the map's operations. -/
namespace Go.Proofs.Ytocdhnlffemnhaa
open Go.RowKit Go.Maps

/-- an item that is held: where its labels lie -/
structure Hd where
  x : It
  A : Option Addr
  c : Nat
abbrev Hs := Nat → Option Hd
def Hd.val (h : Hd) : Value := .agg #[.bool (h.x).g, .int .u8 (h.x).o, .int .u64 (h.x).q, .int .u64 (h.x).t, .string (h.x).r, .slice h.A h.x.l.length h.c, .int .u8 (h.x).s, .int .u8 (h.x).p, .int .i64 (h.x).v, .int .u8 (h.x).w, .int .u8 (h.x).ga, .int .u64 (h.x).gf, .int .u64 (h.x).gt]
def zItem : Value := .agg #[.bool false, .int .u8 0, .int .u64 0, .int .u64 0, .string ⟨#[]⟩, .slice none 0 0, .int .u8 0, .int .u8 0, .int .i64 0, .int .u8 0, .int .u8 0, .int .u64 0, .int .u64 0]
open Classical in
/-- an element of the map reads as itself -/
noncomputable def rawI (v : Value) : Option (DataW Value × List MemPlace) :=
  if ∃ (x : It) (A : Option Addr) (n c : Nat), v = .agg #[.bool x.g, .int .u8 x.o, .int .u64 x.q, .int .u64 x.t, .string x.r, .slice A n c, .int .u8 x.s, .int .u8 x.p, .int .i64 x.v, .int .u8 x.w, .int .u8 x.ga, .int .u64 x.gf, .int .u64 x.gt] then some (.held v, []) else none
theorem rawI_val (h : Hd) : rawI h.val = some (.held h.val, []) := by
  unfold rawI; exact if_pos ⟨h.x, h.A, h.x.l.length, h.c, rfl⟩
theorem rawI_zero : rawI zItem = some (.held zItem, []) := by
  unfold rawI; exact if_pos ⟨⟨false, 0, 0, 0, ⟨#[]⟩, [], 0, 0, 0, 0, 0, 0, 0⟩, none, 0, 0, rfl⟩
theorem rawI_held {v : Value} {d : DataW Value} {ps : List MemPlace} (h : rawI v = some (d, ps)) : d = .held v := by
  unfold rawI at h
  split at h
  · injection h with h
    injection h with h _
    exact h.symm
  · cases h

theorem lawU64 : Keyed Try.prog 22 := int_keyed Try.underlying22
theorem zeroItm (w : World) : (zeroValue 30).run Try.prog w = .ok zItem w := by kernel_rfl
def keyQ (q : Nat) : Lit := .int .u64 q
theorem keyQ_wf {q : Nat} (h : q < 18446744073709551616) : (Lit.int .u64 (q : Int)).wf = true := WalkArith.wf_u64 (by omega)
theorem keyQ_ne {a b : Nat} (h : a ≠ b) : keyQ a ≠ keyQ b := fun e => by
  unfold keyQ at e
  injection e with _ e
  omega
theorem keyQ_of {q : Nat} (h : q < 18446744073709551616) : keyOf Try.prog 22 (.int .u64 (q : Int)) = some (keyQ q) := keyOf_int_mk Try.underlying22 (keyQ_wf h)
theorem heldV_inj {a b : Value} (h : (DataW.held a : DataW Value) = .held b) : a = b := by cases h; rfl

/-- what the map answers for each number -/
structure RdsI (D : DataW Value) (F : Hs) : Prop where
  no : ∀ q, F q = none → Maps.has D (keyQ q) = false
  yes : ∀ q h, F q = some h → Maps.has D (keyQ q) = true ∧ ∀ z, D.atKey (keyQ q) z = .held h.val
/-- the map at block b holds k items -/
structure MI (w : World) (b : Nat) (F : Hs) (k : Nat) : Prop where
  own : ∃ D, w.ownsMap Try.prog 22 rawI b k D ∧ RdsI D F ∧ Maps.size D = k
def lookI (F : Hs) (q : Nat) : Value := match F q with | some h => h.val | none => zItem
theorem lookI_some {F : Hs} {q : Nat} {h : Hd} (e : F q = some h) : lookI F q = h.val := by unfold lookI; rw [e]
theorem lookI_none {F : Hs} {q : Nat} (e : F q = none) : lookI F q = zItem := by unfold lookI; rw [e]
def putF (F : Hs) (q : Nat) (h : Hd) : Hs := fun i => if i = q then some h else F i
def delF (F : Hs) (q : Nat) : Hs := fun i => if i = q then none else F i
section
variable {w w' : World} {b k q : Nat} {F : Hs} {D : DataW Value}
theorem RdsI.has_eq (h : RdsI D F) (q : Nat) : Maps.has D (keyQ q) = (F q).isSome := by
  cases e : F q with
  | none => rw [h.no q e]; rfl
  | some x => rw [(h.yes q x e).1]; rfl
theorem RdsI.at_eq (h : RdsI D F) (q : Nat) : D.atKey (keyQ q) (.held zItem) = .held (lookI F q) := by
  cases e : F q with
  | none => rw [Maps.atKey_of_not_has (h.no q e), lookI_none e]
  | some x => rw [(h.yes q x e).2, lookI_some e]
theorem RdsI.put (h : RdsI D F) (hm : IsMap D) (q : Nat) (x : Hd) : RdsI (D.put (keyQ q) (.held x.val)) (putF F q x) := by
  refine ⟨fun i hi => ?_, fun i y hi => ?_⟩
  · unfold putF at hi
    by_cases e : i = q
    · rw [if_pos e] at hi; cases hi
    · rw [if_neg e] at hi
      rw [Maps.has_put_other (keyQ_ne e)]
      exact h.no i hi
  · unfold putF at hi
    by_cases e : i = q
    · rw [if_pos e] at hi
      injection hi with hi
      subst hi; subst e
      exact ⟨Maps.has_put_same hm (by unfold keyQ; trivial) _, fun z => Maps.atKey_put_same hm (by unfold keyQ; trivial) _ _⟩
    · rw [if_neg e] at hi
      rw [Maps.has_put_other (keyQ_ne e)]
      exact ⟨(h.yes i y hi).1, fun z => by rw [Maps.atKey_put_other (keyQ_ne e)]; exact (h.yes i y hi).2 z⟩
theorem RdsI.del (h : RdsI D F) (q : Nat) : RdsI (D.del (keyQ q)) (delF F q) := by
  refine ⟨fun i hi => ?_, fun i y hi => ?_⟩
  · unfold delF at hi
    by_cases e : i = q
    · rw [e]; exact Maps.has_del_same
    · rw [if_neg e] at hi
      rw [Maps.has_del_other (keyQ_ne e)]
      exact h.no i hi
  · unfold delF at hi
    by_cases e : i = q
    · rw [if_pos e] at hi; cases hi
    · rw [if_neg e] at hi
      rw [Maps.has_del_other (keyQ_ne e)]
      exact ⟨(h.yes i y hi).1, fun z => by rw [Maps.atKey_del_other (keyQ_ne e)]; exact (h.yes i y hi).2 z⟩
theorem ownsMap_to {H : Type} {P : Program} {t : TypeId} {R : Value → Option (DataW H × List MemPlace)} {n m : Nat} {D : DataW H} (h : w.ownsMap P t R b n D) (hm : Maps.size D = m) : w.ownsMap P t R b m D := by
  obtain ⟨es, clock, hb, F, hs, rfl⟩ := h
  exact ⟨es, clock, hb, F, by rw [← hm]; simp [Maps.size, length_sorted], rfl⟩
theorem MI.made (w : World) : MI (w.alloc (.map #[] 0)) w.heap.size (fun _ => none) 0 := ⟨_, World.ownsMap_made _ _ _ _, ⟨fun _ _ => rfl, fun _ _ h => by cases h⟩, rfl⟩
theorem MI.block (h : MI w b F k) : ∃ es ck, w.heap[b]? = some (.map es ck) := by
  obtain ⟨D, ⟨es, ck, hb, _⟩, _⟩ := h.own
  exact ⟨es, ck, hb⟩
theorem MI.lt (h : MI w b F k) : b < w.heap.size := by
  obtain ⟨es, ck, h⟩ := h.block
  exact (Array.getElem?_eq_some_iff.1 h).1
theorem MI.as (h : MI w b F k) (he : w'.heap[b]? = w.heap[b]?) : MI w' b F k := by
  obtain ⟨D, ⟨es, ck, hb, h1⟩, h2⟩ := h.own
  exact ⟨D, ⟨es, ck, he.trans hb, h1⟩, h2⟩
theorem MI.look_ok (h : MI w b F k) (hq : q < 18446744073709551616) : (Instr.lookup 76 (.map (some b)) (.int .u64 q) true).run Try.prog w = .ok (.tuple #[lookI F q, .bool (F q).isSome]) w := by
  obtain ⟨D, h1, h2, _⟩ := h.own
  obtain ⟨v, ps, hrun, hv⟩ := h1.look_ok lawU64 Try.underlying76 (zeroItm w) rawI_zero (keyQ_of hq)
  rw [hrun, h2.has_eq]
  have := rawI_held hv
  rw [h2.at_eq] at this
  rw [heldV_inj this]
theorem MI.look (h : MI w b F k) (hq : q < 18446744073709551616) : (Instr.lookup 76 (.map (some b)) (.int .u64 q) false).run Try.prog w = .ok (lookI F q) w := by
  obtain ⟨D, h1, h2, _⟩ := h.own
  obtain ⟨v, ps, hrun, hv⟩ := h1.lookup lawU64 Try.underlying76 (zeroItm w) rawI_zero (keyQ_of hq)
  rw [hrun]
  have := rawI_held hv
  rw [h2.at_eq] at this
  rw [heldV_inj this]
theorem MI.len (h : MI w b F k) (ty : TypeId) : (Builtin.len_ #[76] ty #[.map (some b)]).run Try.prog w = .ok (.int .i64 k) w := by
  obtain ⟨D, h1, _, h3⟩ := h.own
  rw [h1.len Try.underlying76 ty, h3]
theorem MI.drop (h : MI w b F k) (hq : q < 18446744073709551616) {x : Hd} (hx : F q = some x) (ty : TypeId) :
    ∃ w', (Builtin.delete_ #[76, 22] ty #[.map (some b), .int .u64 q]).run Try.prog w = .ok (.tuple #[]) w' ∧ MI w' b (delF F q) (k - 1) ∧ w.grownBy w' (some b) := by
  obtain ⟨D, h1, h2, h3⟩ := h.own
  obtain ⟨w', hrun, ho, ht⟩ := h1.drop lawU64 Try.underlying76 (keyQ_of hq) ty
  have hs := Maps.size_del (k := keyQ q) (h1.tidy lawU64)
  rw [(h2.yes q x hx).1, if_pos rfl, h3] at hs
  have hs2 : Maps.size (D.del (keyQ q)) = k - 1 := by omega
  exact ⟨w', hrun, ⟨_, ownsMap_to ho hs2, h2.del q, hs2⟩, ht.grown⟩
theorem MI.store (h : MI w b F k) (hk : k ≤ 100000) (hq : q < 18446744073709551616) (x : Hd) (hx : F q = none) :
    ∃ w', (Instr.mapUpdate 76 (.map (some b)) (.int .u64 q) x.val).run Try.prog w = .ok () w' ∧ MI w' b (putF F q x) (k + 1) ∧ w.grownBy w' (some b) := by
  obtain ⟨D, h1, h2, h3⟩ := h.own
  obtain ⟨w', hrun, ho, ht⟩ := h1.store lawU64 Try.underlying76 (by unfold maxLen; omega) (keyQ_of hq) (rawI_val x)
  have hs := Maps.size_put (k := keyQ q) (h1.tidy lawU64) (.held x.val)
  rw [h2.no q hx, if_neg (by decide), h3] at hs
  exact ⟨w', hrun, ⟨_, ownsMap_to ho hs, h2.put h1.isMap q x, hs⟩, ht.grown⟩
end

/-- the window, the number up to which all is taken, how many came that were there -/
structure Rv where
  W : Nat
  t : Nat
  o : Nat
structure HdOk (w : World) (s m : Nat) (h : Hd) : Prop where
  ln : h.x.l.length ≤ 1000
  nil : h.A = none → h.x.l.length = 0
  rd : RdP w w.heap.size h.A h.x.l
  ap : ∀ a, h.A = some a → 0 < h.x.l.length → a.block ≠ s ∧ a.block ≠ m
def rvC (X : Rv) (m : Nat) : Array Value := #[.int .i64 X.W, .int .u64 X.t, .map (some m), .int .u64 X.o]
structure RvAt (w : World) (s m : Nat) (X : Rv) (F : Hs) (k : Nat) : Prop where
  blk : w.heap[s]? = some (.cells (rvC X m) 78 (0, 0))
  mi : MI w m F k
  ent : ∀ q h, F q = some h → HdOk w s m h
section
variable {w w' : World} {s m k : Nat} {X : Rv} {F : Hs} {T : Nat → Prop}
theorem RvAt.slt (h : RvAt w s m X F k) : s < w.heap.size := (Array.getElem?_eq_some_iff.1 h.blk).1
theorem RvAt.ne (h : RvAt w s m X F k) : s ≠ m := fun e => by
  obtain ⟨es, ck, h1⟩ := h.mi.block
  rw [← e, h.blk] at h1
  cases h1
theorem HdOk.only {h : Hd} (hh : HdOk w s m h) (ho : Only T w w') (hT : ∀ a, h.A = some a → 0 < h.x.l.length → ¬ T a.block) : HdOk w' s m h :=
  ⟨hh.ln, hh.nil, ho.rdP hh.rd hT, hh.ap⟩
theorem RvAt.keep (h : RvAt w s m X F k) (ho : Only T w w') (hs : ¬ T s) (hm : ¬ T m) (hE : ∀ q h, F q = some h → ∀ a, h.A = some a → 0 < h.x.l.length → ¬ T a.block) : RvAt w' s m X F k :=
  ⟨(ho.block s h.slt hs).trans h.blk, h.mi.as (ho.block m h.mi.lt hm), fun q x hq => (h.ent q x hq).only ho (hE q x hq)⟩
theorem RvAt.below (h : RvAt w s m X F k) (hb : Below w.heap.size w w') : RvAt w' s m X F k := h.keep (T := fun _ => False) (Only.of_below hb _) (fun h => h) (fun h => h) (fun _ _ _ _ _ _ h => h)
theorem RvAt.c0 (h : RvAt w s m X F k) : w.cell? ⟨s, 0, none⟩ = some (.int .i64 X.W) := cell_of_row _ _ 0 _ _ _ h.blk
theorem RvAt.c1 (h : RvAt w s m X F k) : w.cell? ⟨s, 1, none⟩ = some (.int .u64 X.t) := cell_of_row _ _ 1 _ _ _ h.blk
theorem RvAt.c2 (h : RvAt w s m X F k) : w.cell? ⟨s, 2, none⟩ = some (.map (some m)) := cell_of_row _ _ 2 _ _ _ h.blk
theorem RvAt.c3 (h : RvAt w s m X F k) : w.cell? ⟨s, 3, none⟩ = some (.int .u64 X.o) := cell_of_row _ _ 3 _ _ _ h.blk
theorem RvAt.fz (h : RvAt w s m X F k) (j : Nat) : w.frozen? ⟨s, j, none⟩ = false := frozen_of_row _ _ j _ _ h.blk
/-- a cell of the block is set -/
theorem RvAt.set {X' : Rv} (h : RvAt w s m X F k) (j : Nat) (u : Value) (hX : (rvC X m).setIfInBounds j u = rvC X' m) : RvAt (w.setCell ⟨s, j, none⟩ u) s m X' F k := by
  have ho : Only (fun i => i = s) w (w.setCell ⟨s, j, none⟩ u) := Only.setCell _ _ _ rfl
  refine ⟨?_, h.mi.as (ho.block m h.mi.lt (fun e => h.ne e.symm)), fun q x hq => (h.ent q x hq).only ho (fun a ha h0 => ((h.ent q x hq).ap a ha h0).1)⟩
  rw [← hX]
  exact heap_setCell_same _ s j _ _ u h.blk
/-- no labels lie in a map -/
theorem lab_no_map {b : Nat} {es : Array MapEntry} {ck : Nat} {A : Option Addr} {l : List Pr} (h : RdP w w.heap.size A l) (hb : w.heap[b]? = some (.map es ck)) : ∀ a, A = some a → 0 < l.length → a.block ≠ b := fun a ha h0 e => by
  obtain ⟨b', o, e1, _, hc⟩ := h h0
  rw [ha] at e1
  injection e1 with e1
  subst e1
  have c0 := (hc 0 _ (List.getElem?_eq_getElem h0)).1
  have e : b' = b := e
  subst e
  simp [World.cell?, hb] at c0
theorem only_of_grown {b : Nat} (h : w.grownBy w' (some b)) : Only (fun k => k = b) w w' := ⟨h.os, h.tape, h.output, h.size, fun k hk hn => h.block k hk (fun e => hn (by injection e))⟩
/-- behind an item more or less -/
theorem RvAt.turn {F' : Hs} {k' : Nat} (h : RvAt w s m X F k) (hg : w.grownBy w' (some m)) (hm : MI w' m F' k') (hF : ∀ q x, F' q = some x → F q = some x ∨ HdOk w s m x) : RvAt w' s m X F' k' := by
  have ho := only_of_grown hg
  obtain ⟨es, ck, hb⟩ := h.mi.block
  refine ⟨(ho.block s h.slt h.ne).trans h.blk, hm, fun q x hq => ?_⟩
  rcases hF q x hq with h1 | h1
  · exact (h.ent q x h1).only ho (lab_no_map (h.ent q x h1).rd hb)
  · exact h1.only ho (lab_no_map h1.rd hb)
end
theorem Try.infoRv : (Try.prog.info? 78).map (·.size) = some 4 := by kernel_rfl
end Go.Proofs.Ytocdhnlffemnhaa
/- Layer 11: New, want, has, Counts of a receiver; a nil one. -/
namespace Go.Proofs.Ytocdhnlffemnhaa
open Go.RowKit

section
variable {w : World} {ops : Array Oper} {rest : List Oper} {o : Oper} {a : Go.Act} {Q : Exit → Go.Act → World → Prop} {b k q : Nat} {F : Hs}
theorem wpList_lookQ_ok (hg : o.guard = none) (m x : Operand) (hop : o.op = Op.lookup 76 m x true) (hm : a.eval m = .map (some b)) (hx : a.eval x = .int .u64 q)
    (h : MI w b F k) (hq : q < 18446744073709551616) {v : Value} {c : Bool} (hv : lookI F q = v) (hc : (F q).isSome = c)
    (hK : wpList Try.prog ops Q rest (a.put o.dst (.tuple #[v, .bool c])) w) : wpList Try.prog ops Q (o :: rest) a w := by
  refine wpList_plain hg fun K' hK' => ?_
  have hrun := h.look_ok hq
  unfold Oper.wp
  simp [execOp, hop, hm, hx, hrun, Result.andThen]
  rw [hv, hc]
  exact hK' _ _ hK
end
theorem results_tmp3 {fn : Func} {t u v : Tmp} (h : fn.results = #[.tmp t, .tmp u, .tmp v]) (tmps : Array Value) (P : Program) (w : World) :
    (results fn tmps).run P w = .ok (.tuple #[tmps.getD t undef, tmps.getD u undef, tmps.getD v undef]) w := by
  simp [results, h]

set_option maxRecDepth 100000 in
set_option maxHeartbeats 400000 in
theorem rnew_wrong (z : Int) (hz : z < 1 ∨ 64 < z) (w : World) :
    Calls Try.prog 10 #[.int .i64 z] w fun e w' => e = .returned (.tuple #[.pointer none, .int .i64 19]) ∧ w = w' := by
  go_enter Try.func10, Try.ntmps10
  by_cases h : z < 1
  · have d1 : decide (z < 1) = true := decide_eq_true h
    go_wp2
    go_ret2
    exact ⟨rfl, rfl⟩
  · have d1 : decide (z < 1) = false := decide_eq_false h
    have d2 : decide (64 < z) = true := decide_eq_true (by omega)
    go_wp2
    go_ret2
    exact ⟨rfl, rfl⟩
set_option maxRecDepth 100000 in
set_option maxHeartbeats 400000 in
theorem rnew_any (z : Nat) (h1 : 1 ≤ z) (h2 : z ≤ 64) (w : World) :
    Calls Try.prog 10 #[.int .i64 z] w fun e w' => e = .returned (.tuple #[.pointer (some ⟨w.heap.size + 1, 0, none⟩), .int .i64 0]) ∧ RvAt w' (w.heap.size + 1) w.heap.size ⟨z, 0, 0⟩ (fun _ => none) 0 ∧ Below w.heap.size w w' := by
  have d1 : decide ((z : Int) < 1) = false := decide_eq_false (by omega)
  have d2 : decide ((64 : Int) < z) = false := decide_eq_false (by omega)
  have hmm := @run_makeMap Try.prog
  have hsz : (w.alloc (.map #[] 0)).heap.size = w.heap.size + 1 := by simp
  go_enter Try.func10, Try.ntmps10
  go_wp2
  go_ret2
  refine ⟨rfl, ⟨?_, ?_, fun _ _ h => by cases h⟩, ((Below.refl _ _).alloc (Nat.le_refl _) _).alloc (by simp) _⟩
  · have := heap_alloc_new (w.alloc (.map #[] 0)) (.cells (rvC ⟨z, 0, 0⟩ w.heap.size) 78)
    rw [hsz] at this
    exact this
  · exact (MI.made w).as (Below.block (B := w.heap.size + 1) ((Below.refl _ _).alloc (by simp) _) _ (by omega))
section
variable {s m k : Nat} {X : Rv} {F : Hs}
set_option maxRecDepth 100000 in
set_option maxHeartbeats 400000 in
theorem rwant_any {n : Nat} (w : World) (h : RvAt w s m X F k) (hn : n = X.t + 1) (ht : X.t ≤ 1099511627776) :
    Calls Try.prog 40 #[.pointer (some ⟨s, 0, none⟩)] w fun e w' => e = .returned (.int .u64 n) ∧ w' = w := by
  have c1 := h.c1
  have e1 : (X.t : Int) + 1 = (n : Int) := by omega
  have e2 : IntKind.u64.wrap ((X.t : Int) + 1) = (n : Int) := by rw [IntKind.wrap_u64]; omega
  clear h hn
  go_enter Try.func40, Try.ntmps40
  go_wp2
  go_ret
  exact ⟨by first | rfl | rw [e1], rfl⟩
set_option maxRecDepth 100000 in
set_option maxHeartbeats 400000 in
theorem rhas_any (q : Nat) {b : Bool} (w : World) (h : RvAt w s m X F k) (hq : q < 18446744073709551616) (hb : (F q).isSome = b) :
    Calls Try.prog 39 #[.pointer (some ⟨s, 0, none⟩), .int .u64 q] w fun e w' => e = .returned (.bool b) ∧ Below w.heap.size w w' := by
  have c2 := h.c2
  have HM := Lib.hid h.mi
  have HQ := Lib.hid hq
  clear hq
  cases e : F q with
  | none =>
    rw [e] at hb
    have HL := Lib.hid (lookI_none e)
    have HE := Lib.hid e
    subst hb
    unfold zItem at HL
    clear h e
    go_enter Try.func39, Try.ntmps39
    go_wp2_with (at_lookup; refine wpList_lookQ_ok rfl _ _ rfl rfl rfl HM.out HQ.out HL.out (c := false) (by rw [HE.out]; rfl) ?_)
    go_ret
    exact ⟨rfl, (Below.refl _ _).alloc (Nat.le_refl _) _⟩
  | some x =>
    rw [e] at hb
    have HL := Lib.hid (lookI_some e)
    have HE := Lib.hid e
    subst hb
    unfold Hd.val at HL
    clear h e
    go_enter Try.func39, Try.ntmps39
    go_wp2_with (at_lookup; refine wpList_lookQ_ok rfl _ _ rfl rfl rfl HM.out HQ.out HL.out (c := true) (by rw [HE.out]; rfl) ?_)
    go_ret
    exact ⟨rfl, (Below.refl _ _).alloc (Nat.le_refl _) _⟩
end
set_option maxRecDepth 100000 in
set_option maxHeartbeats 400000 in
theorem rack_nil (w : World) : Calls Try.prog 28 #[.pointer none] w fun e w' => e = .returned (.tuple #[.int .u64 0, .int .u64 0]) ∧ w = w' := by
  go_enter Try.func28, Try.ntmps28
  go_wp2
  go_ret2
  exact ⟨rfl, rfl⟩
set_option maxRecDepth 100000 in
set_option maxHeartbeats 400000 in
theorem rtake_nil (q : Nat) (x : It) (A : Option Addr) (n c : Nat) (w : World) : Calls Try.prog 29 #[.pointer none, .int .u64 q, .agg #[.bool x.g, .int .u8 x.o, .int .u64 x.q, .int .u64 x.t, .string x.r, .slice A n c, .int .u8 x.s, .int .u8 x.p, .int .i64 x.v, .int .u8 x.w, .int .u8 x.ga, .int .u64 x.gf, .int .u64 x.gt]] w fun e w' => e = .returned (.int .i64 1) ∧ Below w.heap.size w w' := by
  go_enter Try.func29, Try.ntmps29
  go_wp2
  go_ret
  exact ⟨rfl, (Below.refl _ _).alloc (Nat.le_refl _) _⟩
end Go.Proofs.Ytocdhnlffemnhaa
/- Layer 4: item.Span, item.Lasts; the document's Span. -/
namespace Go.Proofs.Ytocdhnlffemnhaa
open Go.RowKit

def spO (x : It) : Nat := if x.g then x.ga else x.o
def spF (x : It) : Nat := if x.g then x.gf else x.q
def spT (x : It) : Nat := if x.g then x.gt else x.q

def lastB (x : It) : Bool := x.g || decide (0 < x.w)
end Go.Proofs.Ytocdhnlffemnhaa
