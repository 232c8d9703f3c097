/- Several texts in one: Byt, ItPlain, Bcl, PkRef, PkWtr. -/
import Derived.Laws.NewBlocks
import Derived.Lib.AppendStr
import Derived.WalkSpells
import Derived.Lib.AppendZeros
import Derived.Lib.SliceRun
import Derived.Laws.IdiomStrings
import Derived.Laws.Shifts
import Derived.Laws.BitsAllLaws
import Derived.Test.YtholdcgkhicdmaaGreatDoorZq1
namespace Go.Proofs.YtholdcgkhicdmaaGreatDoor
open Go.RowKit
def RdB (w : World) (B : Nat) (A : Option Addr) (l : List Nat) : Prop :=
 0 < l.length → ∃ b o, A = some ⟨b, o, none⟩ ∧ b < B ∧ ∀ (i x : Nat), l[i]? = some x → w.cell? ⟨b, o + i, none⟩ = some (.int .u8 x)
def OkB (l : List Nat) : Prop := ∀ x ∈ l, x < 256
def encB (x : Nat) : Value := .int .u8 x
def cellsB (l : List Nat) : List Value := l.map encB
theorem cellsB_length (l : List Nat) : (cellsB l).length = l.length := by simp [cellsB]
theorem cellsB_append (a b : List Nat) : cellsB (a ++ b) = cellsB a ++ cellsB b := by simp [cellsB]
theorem cellsB_get {l : List Nat} {i x : Nat} (h : l[i]? = some x) : (cellsB l)[i]? = some (.int .u8 x) := by simp [cellsB, h, encB]
theorem cellsB_one (l : List Nat) : ∀ u ∈ cellsB l, u.oneCell' = true := by
 intro u hu
 simp only [cellsB, List.mem_map] at hu
 obtain ⟨x, _, rfl⟩ := hu
 rfl
section
variable {w w' : World} {B B' : Nat} {A : Option Addr} {l : List Nat}
theorem OkB.at_ (h : OkB l) {i x : Nat} (hx : l[i]? = some x) : x < 256 := h x (List.mem_iff_getElem?.2 ⟨i, hx⟩)
theorem OkB.append {a b : List Nat} (h : OkB a) (k : OkB b) : OkB (a ++ b) := fun x hx => (List.mem_append.1 hx).elim (h x) (k x)
theorem RdB.keep (h : RdB w B A l) (hk : ∀ p : Addr, p.block < B → w'.cell? p = w.cell? p) : RdB w' B A l := fun h0 => by
 obtain ⟨b, o, e, hb, hc⟩ := h h0
 exact ⟨b, o, e, hb, fun i x hx => (hk ⟨b, _, none⟩ hb).trans (hc i x hx)⟩
theorem RdB.more (h : RdB w B A l) (hB : B ≤ B') : RdB w B' A l := fun h0 => by
 obtain ⟨b, o, e, hb, hc⟩ := h h0
 exact ⟨b, o, e, by omega, hc⟩
theorem RdB.below (h : RdB w B A l) (hb : Below B w w') : RdB w' B A l := h.keep fun _ hp => hb.cell hp
theorem RdB.at_ {k : Nat} (h : RdB w B A l) (hk : k < l.length) : ∃ b o x, A = some ⟨b, o, none⟩ ∧ b < B ∧ l[k]? = some x ∧ w.cell? ⟨b, o + k, none⟩ = some (.int .u8 x) := by
 obtain ⟨b, o, e, hb, hc⟩ := h (by omega)
 exact ⟨b, o, _, e, hb, List.getElem?_eq_getElem hk, hc k _ (List.getElem?_eq_getElem hk)⟩
theorem RdB.of_own {base : Nat} {e : TypeId} {n c : Nat} (h : w.ownsRow base e 1 (.slice A n c) n (cellsB l)) : RdB w w.heap.size A l := fun h0 => by
 have hn : n = l.length := by have := h.1; rw [cellsB_length] at this; omega
 obtain ⟨g, cap, hv, _, hlt⟩ := h.form (by omega)
 have hA : A = some ⟨g, 0, none⟩ := by injection hv
 subst hA
 have hcs := h.cells (g := g) rfl
 refine ⟨g, 0, rfl, hlt, fun i x hx => ?_⟩
 have c1 := hcs _ _ (cellsB_get hx)
 rw [Addr.add_lit] at c1
 exact c1
end
theorem RdB.grown {w w' : World} {B : Nat} {A : Option Addr} {l : List Nat} {row : Option Nat} (h : RdB w B A l) (hg : w.grownBy w' row) (hr : ∀ k, row = some k → ∀ a, A = some a → a.block ≠ k) : RdB w' B A l := fun h0 => by
 obtain ⟨b, o, e, hb, hc⟩ := h h0
 exact ⟨b, o, e, hb, fun i x hx => hg.cell (hc i x hx) fun e' => hr b e'.symm _ e rfl⟩
theorem src_of_rdB {w : World} {B : Nat} {A : Option Addr} {l : List Nat} {n : Nat} (h : RdB w B A l) (hn : n = l.length) : Src w A n 1 (cellsB l) := by
 subst hn
 refine ⟨by rw [cellsB_length, Nat.mul_one], fun h0 => ?_⟩
 obtain ⟨b, o, e, _, hc⟩ := h h0
 refine ⟨_, e, fun j u hj => ?_⟩
 have hjl : j < l.length := by
  have := (List.getElem?_eq_some_iff.1 hj).1
  rwa [cellsB_length] at this
 have hp : l[j]? = some l[j] := List.getElem?_eq_getElem hjl
 rw [Addr.add_lit]
 rw [hc _ _ hp, ← hj, cellsB_get hp]
theorem ownB_slice {W : World} {base : Nat} {e : TypeId} {size n : Nat} {v : Value} {xs : List Value} (h : W.ownsRow base e size v n xs) : ∃ A c, v = .slice A n c := by
 rcases h.2 with ⟨rfl, rfl⟩ | ⟨g, cap, cur, rfl, _⟩
 ·exact ⟨none, 0, rfl⟩
 ·exact ⟨_, _, rfl⟩
theorem ownB_below {w w' : World} {base : Nat} {e : TypeId} {size n : Nat} {v : Value} {xs : List Value} (h : w.ownsRow base e size v n xs) (hb : Below w.heap.size w w') : w'.ownsRow base e size v n xs :=
 h.kept (row := none) ⟨hb.os, hb.tape, hb.output, hb.size, fun k hk _ => hb.block k hk⟩ (by
  rcases h.2 with ⟨rfl, _⟩ | ⟨g, cap, cur, rfl, _⟩
  ·exact Or.inl rfl
  ·exact Or.inr (by simp [Value.ownBlock]))
theorem ownB_mono {W : World} {base base' : Nat} {e : TypeId} {size n : Nat} {v : Value} {xs : List Value} (h : W.ownsRow base e size v n xs) (hb : base' ≤ base) : W.ownsRow base' e size v n xs := by
 refine ⟨h.1, ?_⟩
 rcases h.2 with h0 | ⟨g, cap, cur, rfl, hg, rest⟩
 ·exact .inl h0
 ·exact .inr ⟨g, cap, cur, rfl, by omega, rest⟩
theorem grownBy_trans {w w1 w2 : World} {row : Option Nat} (h : w.grownBy w1 row) (k : w1.grownBy w2 row) : w.grownBy w2 row :=
 ⟨k.os.trans h.os, k.tape.trans h.tape, k.output.trans h.output, Nat.le_trans h.size k.size, fun i hi hne => (k.block i (Nat.lt_of_lt_of_le hi h.size) hne).trans (h.block i hi hne)⟩
theorem cbelow_drewN {B : Nat} {a w : World} (h : Below B a w) (n : Nat) : Below B a (w.drewN n) := ⟨h.os, h.tape, h.output, h.size, h.block⟩
def strB (l : List Nat) : ByteArray := ⟨(l.map UInt8.ofNat).toArray⟩
theorem foldl_push_ints : ∀ (l : List Nat) (r : ByteArray), (l.map (fun x : Nat => (x : Int))).foldl (fun r n => r.push (UInt8.ofNat n.toNat)) r = ⟨r.data ++ (l.map UInt8.ofNat).toArray⟩
 | [], r => by simp
 | x :: l, r => by
   simp only [List.map_cons, List.foldl_cons]
   rw [foldl_push_ints l]
   simp [ByteArray.push]
theorem OkB.take {l : List Nat} (h : OkB l) (k : Nat) : OkB (l.take k) := fun x hx => h x (List.mem_of_mem_take hx)
theorem OkB.drop {l : List Nat} (h : OkB l) (k : Nat) : OkB (l.drop k) := fun x hx => h x (List.mem_of_mem_drop hx)
theorem OkB.nil : OkB [] := fun x h => (by cases h)
theorem RdB.drop {w : World} {B b o : Nat} {l : List Nat} (h : RdB w B (some ⟨b, o, none⟩) l) (k : Nat) : RdB w B (some ⟨b, o + k, none⟩) (l.drop k) := fun h0 => by
 obtain ⟨b', o', e, hb, hc⟩ := h (by simp at h0; omega)
 obtain ⟨rfl, rfl⟩ : b = b' ∧ o = o' := by injection e with e; injection e with e1 e2; exact ⟨e1, e2⟩
 exact ⟨b, o + k, rfl, hb, fun i x hx => by rw [List.getElem?_drop] at hx; have := hc _ _ hx; rwa [← Nat.add_assoc] at this⟩
theorem RdB.take {w : World} {B : Nat} {A : Option Addr} {l : List Nat} (h : RdB w B A l) (k : Nat) : RdB w B A (l.take k) := fun h0 => by
 obtain ⟨b, o, e, hb, hc⟩ := h (by simp at h0; omega)
 refine ⟨b, o, e, hb, fun i x hx => hc i x ?_⟩
 rw [List.getElem?_take] at hx
 split at hx
 ·exact hx
 ·cases hx
theorem RdB.empty {w : World} {B : Nat} {A : Option Addr} : RdB w B A [] := fun h => absurd h (by simp)
theorem src_one (w : World) (t : TypeId) (x : Int) (k : Nat) (h : x = k) : Src (w.alloc (.cells #[.int .u8 x] t)) (some ⟨w.heap.size, 0, none⟩) 1 1 (cellsB [k]) := by
 subst h
 refine ⟨rfl, fun _ => ⟨_, rfl, fun j u hj => ?_⟩⟩
 rw [Addr.add_lit, World.cell?_alloc_at _ _ _ _ rfl]
 match j, hj with
 | 0, hj => simpa [cellsB, encB] using hj
structure Wrote (w w' : World) (g : Nat) (r r' : Option Nat) : Prop where
 os : w'.os = w.os
 tape : w'.tape = w.tape
 output : w'.output = w.output
 size : w.heap.size ≤ w'.heap.size
 block : ∀ k, k < w.heap.size → k ≠ g → some k ≠ r → w'.heap[k]? = w.heap[k]?
 row : r' = r ∨ ∃ k, r' = some k ∧ w.heap.size ≤ k
section
variable {w w1 w2 : World} {g : Nat} {r r1 r2 : Option Nat}
theorem Wrote.refl (w : World) (g : Nat) (r : Option Nat) : Wrote w w g r r := ⟨rfl, rfl, rfl, Nat.le_refl _, fun _ _ _ _ => rfl, .inl rfl⟩
theorem Wrote.trans (h : Wrote w w1 g r r1) (k : Wrote w1 w2 g r1 r2) : Wrote w w2 g r r2 :=
 ⟨k.os.trans h.os, k.tape.trans h.tape, k.output.trans h.output, Nat.le_trans h.size k.size, fun i hi hg hr => (k.block i (Nat.lt_of_lt_of_le hi h.size) hg (by
   rcases h.row with h1 | ⟨j, h1, h2⟩
   ·rw [h1]; exact hr
   ·rw [h1]; intro e; injection e with e; omega)).trans (h.block i hi hg hr),
  by
   rcases k.row with k1 | ⟨j, k1, k2⟩
   ·rw [k1]; exact h.row
   ·exact .inr ⟨j, k1, Nat.le_trans h.size k2⟩⟩
theorem Wrote.below (h : Wrote w w1 g r r1) {B : Nat} (hB : B ≤ w.heap.size) (hg : B ≤ g) (hr : ∀ k, r = some k → B ≤ k) : Below B w w1 :=
 ⟨h.os, h.tape, h.output, h.size, fun k hk => h.block k (by omega) (by omega) (fun e => by have := hr k e.symm; omega)⟩
theorem Wrote.cell (h : Wrote w w1 g r r1) {p : Addr} (hp : p.block < w.heap.size) (hg : p.block ≠ g) (hr : some p.block ≠ r) : w1.cell? p = w.cell? p := World.cell?_of_block (h.block _ hp hg hr)
theorem Wrote.of_below (h : Below w.heap.size w w1) (g : Nat) (r : Option Nat) : Wrote w w1 g r r := ⟨h.os, h.tape, h.output, h.size, fun k hk _ _ => h.block k hk, .inl rfl⟩
theorem Wrote.of_grown (h : w.grownBy w1 r) (hr : r1 = r ∨ ∃ k, r1 = some k ∧ w.heap.size ≤ k) (g o : Nat) (u : Value) : Wrote w (w1.setCell ⟨g, o, none⟩ u) g r r1 :=
 ⟨h.os, h.tape, h.output, by simpa using h.size, fun k hk hg hne => (Below.heap_setCell _ _ _ _ hg).trans (h.block k hk hne), hr⟩
end
def bytesN (s : ByteArray) : List Nat := s.data.toList.map UInt8.toNat
theorem bytesN_length (s : ByteArray) : (bytesN s).length = s.size := by simp [bytesN]
theorem bytesN_ok (s : ByteArray) : OkB (bytesN s) := fun x hx => by
 simp only [bytesN, List.mem_map] at hx
 obtain ⟨b, _, rfl⟩ := hx
 exact b.toNat_lt
theorem strCells_bytesN (s : ByteArray) : Lib.strCells s = cellsB (bytesN s) := by simp [Lib.strCells, cellsB, bytesN, encB]
theorem strB_bytesN (s : ByteArray) : strB (bytesN s) = s := by
 have h : ∀ l : List UInt8, (l.map UInt8.toNat).map UInt8.ofNat = l := fun l => by
  rw [List.map_map]
  conv => rhs; rw [← List.map_id l]
  congr 1
  funext b
  simp
 simp [strB, bytesN, h]
section
variable {P : Program} {w : World}
theorem run_append_str {base : Nat} {t u ty e : TypeId} {i : TypeInfo} (ht : P.underlying t = some (.slice e)) (hu : P.underlying u = some .string) (hi : P.info? e = some i) (hz : i.zero = some (.int .u8 0))
  (hsize : i.size = 1) (hby : i.bytes = 1) {v : Value} {n : Nat} {xs : List Value} (hown : w.ownsRow base e 1 v n xs) {s : ByteArray}
  (h63 : n + s.size ≤ maxLen) (hbytes : n + s.size ≤ 140737488355328) (hbase : base ≤ w.heap.size) :
  ∃ v' w', (Builtin.append_ #[t, u] ty #[v, .string s]).run P w = .ok v' w' ∧ w'.ownsRow base e 1 v' (n + s.size) (xs ++ cellsB (bytesN s)) ∧ w.grownBy w' v.ownBlock ∧ (v'.ownBlock = v.ownBlock ∨ ∃ k, v'.ownBlock = some k ∧ w.heap.size ≤ k) := by
 obtain ⟨v', w', hr, h2, h3, _⟩ := Lib.run_append_own_string (P := P) w base t u ty e i ht hu hi hz hsize hby v n xs hown s h63 hbytes hbase
 rw [strCells_bytesN] at h2
 refine ⟨v', w', hr, h2, h3, ?_⟩
 unfold maxLen at h63
 rcases hown.2 with ⟨rfl, rfl⟩ | ⟨g, cap, cur, rfl, hbg, hg, hnc, hcm, hcs, htake⟩
 ·have hx : xs = [] := List.eq_nil_of_length_eq_zero (by simpa using hown.1)
  subst hx
  obtain ⟨v2, w2, hr2, ho2, _⟩ := Lib.run_append_own_string (P := P) w w.heap.size t u ty e i ht hu hi hz hsize hby _ 0 [] (World.ownsRow_nil w _ _ _) s (by unfold maxLen; omega) hbytes (Nat.le_refl _)
  rw [hr] at hr2
  obtain ⟨rfl, rfl⟩ : v' = v2 ∧ w' = w2 := by injection hr2 with a b; exact ⟨a, b⟩
  cases hv : v'.ownBlock with
  | none => exact .inl rfl
  | some k => exact .inr ⟨k, rfl, (ho2.lt k hv).1⟩
 ·by_cases hroom : n + s.size ≤ cap
  ·have hr2 := Lib.run_append_room_string (P := P) w t u ty e i ht hu hi hsize g n cap cur hg s hroom (by omega)
   rw [hr] at hr2
   obtain ⟨rfl, _⟩ : v' = _ ∧ w' = _ := by injection hr2 with a b; exact ⟨a, b⟩
   exact .inl rfl
  ·have holds : ∀ j u, xs[j]? = some u → w.cell? ((⟨g, 0, none⟩ : Addr).add j) = some u := hown.cells (g := g) rfl
   have hr2 := Lib.run_append_grow_string (P := P) w t u ty e i (.int .u8 0) ht hu hi hz ⟨g, 0, none⟩ n cap xs (by rw [hsize]; simpa using hown.1) holds s (by omega) (by omega) (by rw [hby]; exact growslice_fits (by omega) (by omega))
   rw [hr] at hr2
   obtain ⟨rfl, _⟩ : v' = _ ∧ w' = _ := by injection hr2 with a b; exact ⟨a, b⟩
   exact .inr ⟨_, rfl, Nat.le_refl _⟩
theorem wpList_append_str {ops : Array Oper} {rest : List Oper} {o : Oper} {a : Act} {Q : Exit → Act → World → Prop} (hgd : o.guard = none) (sl x : Operand) {t u : TypeId}
  (ho : o.op = .call { callee := .builtin .append, args := #[sl, x], argTypes := #[t, u] })
  {base : Nat} {e : TypeId} {i : TypeInfo} (ht : P.underlying t = some (.slice e)) (hu : P.underlying u = some .string) (hi : P.info? e = some i) (hz : i.zero = some (.int .u8 0))
  (hsize : i.size = 1) (hby : i.bytes = 1)
  {v : Value} {n : Nat} {xs : List Value} (hs : a.eval sl = v) (hown : w.ownsRow base e 1 v n xs) {s : ByteArray} (hx : a.eval x = .string s)
  (h63 : n + s.size ≤ maxLen) (hbytes : n + s.size ≤ 140737488355328) (hbase : base ≤ w.heap.size)
  (h : ∀ v' w', w'.ownsRow base e 1 v' (n + s.size) (xs ++ cellsB (bytesN s)) → w.grownBy w' v.ownBlock → (v'.ownBlock = v.ownBlock ∨ ∃ k, v'.ownBlock = some k ∧ w.heap.size ≤ k) → wpList P ops Q rest (a.put o.dst v') w') : wpList P ops Q (o :: rest) a w := by
 refine wpList_plain hgd fun K hK => ?_
 obtain ⟨v', w', hr, h2, h3, h4⟩ := run_append_str (P := P) (ty := o.type) ht hu hi hz hsize hby hown (s := s) h63 hbytes hbase
 unfold Oper.wp execOp
 simp only [ho, resolve, invoke, builtin, Sem.run_bind, Sem.run_pure, Result.andThen_ok, List.map_toArray, List.map_cons, List.map_nil, hs, hx, hr]
 exact hK _ _ (h v' w' h2 h3 h4)
end
structure It where
 g : Bool
 o : Nat
 q : Nat
 t : Nat
 r : ByteArray
 l : List Pr
 s : Nat
 p : Nat
 v : Int
 w : Nat
 ga : Nat
 gf : Nat
 gt : Nat
structure OkI (x : It) : Prop where
 o : x.o < 256
 q : x.q < 18446744073709551616
 t : x.t < 18446744073709551616
 r : x.r.size ≤ maxLen
 l : OkP x.l
 s : x.s < 256
 p : x.p < 256
 v0 : -9223372036854775808 ≤ x.v
 v1 : x.v < 9223372036854775808
 w : x.w < 256
 ga : x.ga < 256
 gf : x.gf < 18446744073709551616
 gt : x.gt < 18446744073709551616
def ownB (s : ByteArray) : Bool := decide (s.data.toList.take 4 = [111, 119, 110, 46])
def gapN (x : It) : Nat := if 31 < x.ga ∨ x.gf = 0 ∨ x.gt < x.gf ∨ 1099511627776 < x.gt then 6 else 0
def evN (x : It) : Nat :=
 if 31 < x.o ∨ x.q = 0 ∨ 1099511627776 < x.q ∨ 1099511627776 < x.t ∨ 7 < x.p then 6
 else if nameB x.r = false then 8
 else if (x.s ≠ 0 ∧ x.s ≠ 2) ∨ 2 < x.w then 12
 else if decide (x.w ≠ 0) ≠ ownB x.r then 27
 else check x.l
def itemN (x : It) : Nat := if x.g then gapN x else evN x
structure EvAt (w : World) (g : Nat) (x : It) (A : Option Addr) (n c : Nat) : Prop where
 lt : g < w.heap.size
 c0 : w.cell? ⟨g, 0, none⟩ = some (.int .u8 x.o)
 c1 : w.cell? ⟨g, 1, none⟩ = some (.int .u64 x.q)
 c2 : w.cell? ⟨g, 2, none⟩ = some (.int .u64 x.t)
 c3 : w.cell? ⟨g, 3, none⟩ = some (.string x.r)
 c4 : w.cell? ⟨g, 4, none⟩ = some (.slice A n c)
 c5 : w.cell? ⟨g, 5, none⟩ = some (.int .u8 x.s)
 c6 : w.cell? ⟨g, 6, none⟩ = some (.int .u8 x.p)
 c7 : w.cell? ⟨g, 7, none⟩ = some (.int .i64 x.v)
 c8 : w.cell? ⟨g, 8, none⟩ = some (.int .u8 x.w)
theorem EvAt.below {w w1 : World} {g : Nat} {x : It} {A : Option Addr} {n c : Nat} (h : EvAt w g x A n c) (hb : Below w.heap.size w w1) : EvAt w1 g x A n c :=
 ⟨Nat.lt_of_lt_of_le h.lt hb.size, (hb.cell (p := ⟨g, 0, none⟩) h.lt).trans h.c0, (hb.cell (p := ⟨g, 1, none⟩) h.lt).trans h.c1, (hb.cell (p := ⟨g, 2, none⟩) h.lt).trans h.c2, (hb.cell (p := ⟨g, 3, none⟩) h.lt).trans h.c3, (hb.cell (p := ⟨g, 4, none⟩) h.lt).trans h.c4, (hb.cell (p := ⟨g, 5, none⟩) h.lt).trans h.c5, (hb.cell (p := ⟨g, 6, none⟩) h.lt).trans h.c6, (hb.cell (p := ⟨g, 7, none⟩) h.lt).trans h.c7, (hb.cell (p := ⟨g, 8, none⟩) h.lt).trans h.c8⟩
theorem EvAt.new (w : World) (x : It) (A : Option Addr) (n c : Nat) (t : TypeId) : EvAt (w.alloc (.cells #[.int .u8 x.o, .int .u64 x.q, .int .u64 x.t, .string x.r, .slice A n c, .int .u8 x.s, .int .u8 x.p, .int .i64 x.v, .int .u8 x.w] t)) w.heap.size x A n c :=
 ⟨by simp, by rw [World.cell?_alloc_at _ _ _ _ rfl]; rfl, by rw [World.cell?_alloc_at _ _ _ _ rfl]; rfl, by rw [World.cell?_alloc_at _ _ _ _ rfl]; rfl, by rw [World.cell?_alloc_at _ _ _ _ rfl]; rfl, by rw [World.cell?_alloc_at _ _ _ _ rfl]; rfl, by rw [World.cell?_alloc_at _ _ _ _ rfl]; rfl, by rw [World.cell?_alloc_at _ _ _ _ rfl]; rfl, by rw [World.cell?_alloc_at _ _ _ _ rfl]; rfl, by rw [World.cell?_alloc_at _ _ _ _ rfl]; rfl⟩
theorem Tryz.infoB : (Tryz.prog.info? 5).map (fun i => (i.zero, i.size, i.bytes)) = some (some (.int .u8 0), 1, 1) := by kernel_rfl
set_option maxRecDepth 100000 in
set_option maxHeartbeats 400000 in
theorem bclone_any (A : Option Addr) (n c : Nat) (l : List Nat) (w : World) (B : Nat) (hn : n = l.length) (hA : A = none → n = 0) (hm : n ≤ 140737488351232) (hr : RdB w B A l) (hB : B ≤ w.heap.size) :
  Calls Tryz.prog 146 #[.slice A n c] w fun e w' => ∃ v, e = .returned v ∧ w'.ownsRow w.heap.size 5 1 v n (cellsB l) ∧ Below w.heap.size w w' := by
 obtain ⟨i0, hi, hz0, hz1, hz2⟩ := info_parts Tryz.infoB
 have q22 : ∀ (w : World) (a : Option Addr) (n c n' c' : Nat), (binOp .eql 77 (.slice a n c) (.slice none n' c')).run Tryz.prog w = .ok (.bool a.isNone) w := fun w a n c n' c' => Lib.run_eql_slice_nil w _ _ a n c n' c' Tryz.underlying77
 cases A with
 | none =>
   obtain rfl := hA rfl
   obtain rfl : l = [] := List.eq_nil_of_length_eq_zero hn.symm
   clear hm hn hA hr
   go_enter Tryz.func146, Tryz.ntmps146
   go_wp2
   go_ret
   exact ⟨_, rfl, World.ownsRow_nil _ _ _ _, Below.refl _ _⟩
 | some a =>
   have hs1 : Src (w.alloc (.cells #[] 5)) (some a) n 1 (cellsB l) := src_of_rdB (hr.below (((Below.refl _ w).alloc (Nat.le_refl _) _).mono hB)) hn
   have HS := Lib.hid hs1
   have Hm := Lib.hid hm
   clear hs1 hr hA hn hm
   go_enter Tryz.func146, Tryz.ntmps146
   go_wp2_with (at_builtin; refine wpList_append_src (base := w.heap.size) rfl _ _ rfl Tryz.underlying77 hi hz0 hz1 hz2 rfl (by decide) rfl (World.ownsRow_made _ #[] 0 (Nat.le_refl _) (Nat.zero_le _) rfl) rfl HS.out (cellsB_one _) (by have := Hm.out; unfold maxLen; omega) (by have := Hm.out; omega) (by simp) ?_; intro v1 w1 hr1 hg1 hb1; replace hb1 : Below w.heap.size w w1 := ((Below.refl _ w).alloc (Nat.le_refl _) _).grown hg1 (by simp) (fun q hq => by cases hq; exact Nat.le_refl _); replace hr1 := Lib.hid hr1; clear hg1)
   go_ret
   have h := hr1.out
   rw [Nat.zero_add, List.nil_append] at h
   exact ⟨_, rfl, h, hb1⟩
theorem conv_any {w : World} {B : Nat} {A : Option Addr} {n c : Nat} {l : List Nat} (hr : RdB w B A l) (hn : n = l.length) (hA : A = none → n = 0) :
  (convert 77 9 (.slice A n c)).run Tryz.prog w = .ok (.string (strB l)) w := by
 rw [run_convert_bytes_string w _ _ _ _ _ _ Tryz.underlying77 Tryz.underlying5 Tryz.underlying9]
 cases A with
 | none =>
   obtain rfl := hA rfl
   obtain rfl : l = [] := List.eq_nil_of_length_eq_zero hn.symm
   rfl
 | some a =>
   have hl := run_loadCells_list (P := Tryz.prog) w a ((l.map (fun x : Nat => (x : Int))).map (Value.int .u8)) (fun j v hj => by
    have hjl : j < l.length := by have := (List.getElem?_eq_some_iff.1 hj).1; simpa using this
    obtain ⟨b, o, e, _, hc⟩ := hr (by omega)
    injection e with e
    subst e
    rw [Addr.add_lit, hc j _ (List.getElem?_eq_getElem hjl), ← hj]
    simp [List.getElem?_eq_getElem hjl])
   rw [List.length_map, List.length_map, ← hn] at hl
   rw [run_bytesToString w a n c _ hl, foldl_push_ints]
   have he0 : ByteArray.empty.data = #[] := rfl
   rw [he0]
   simp [strB]
structure Wtr (w : World) (g : Nat) (v : Value) (l : List Nat) : Prop where
 lt : g < w.heap.size
 c0 : w.cell? ⟨g, 0, none⟩ = some v
 own : w.ownsRow (g + 1) 5 1 v l.length (cellsB l)
 fz : w.frozen? ⟨g, 0, none⟩ = false
theorem Wtr.below {w w' : World} {g : Nat} {v : Value} {l : List Nat} (h : Wtr w g v l) (hb : Below w.heap.size w w') : Wtr w' g v l :=
 ⟨Nat.lt_of_lt_of_le h.lt hb.size, (hb.cell (p := ⟨g, 0, none⟩) h.lt).trans h.c0, ownB_below h.own hb, (hb.frozen (p := ⟨g, 0, none⟩) h.lt).trans h.fz⟩
def Puts (w w' : World) (g : Nat) (v : Value) (l : List Nat) : Prop := ∃ v', Wtr w' g v' l ∧ Wrote w w' g v.ownBlock v'.ownBlock
theorem Wtr.ne {w : World} {g : Nat} {v : Value} {l : List Nat} (h : Wtr w g v l) : ∀ k, v.ownBlock = some k → g < k := fun k hk => (h.own.lt k hk).1
theorem Wtr.new (w : World) (t : TypeId) : Wtr (w.alloc (.cells #[.slice none 0 0] t)) w.heap.size (.slice none 0 0) [] :=
 ⟨by simp, by rw [World.cell?_alloc_at _ _ _ _ rfl]; rfl, World.ownsRow_nil _ _ _ _, World.frozen?_alloc_at _ _ _ _ rfl⟩
set_option maxRecDepth 100000 in
set_option maxHeartbeats 400000 in
theorem wbyte_any (g : Nat) (v : Value) (l : List Nat) (x : Nat) (w : World) (h : Wtr w g v l) (hl : l.length ≤ 2097152) :
  Calls Tryz.prog 94 #[.pointer (some ⟨g, 0, none⟩), .int .u8 x] w fun e w' => e = .returned (.tuple #[]) ∧ Puts w w' g v (l ++ [x]) := by
 obtain ⟨i0, hi, hz0, hz1, hz2⟩ := info_parts Tryz.infoB
 obtain ⟨A, c, rfl⟩ := ownB_slice h.own
 have HW := Lib.hid h
 have c0 := h.c0
 have hgl := h.lt
 clear h
 go_enter Tryz.func94, Tryz.ntmps94
 go_wp2_with (at_builtin; refine wpList_append_src (base := g + 1) rfl _ _ rfl Tryz.underlying77 hi hz0 hz1 hz2 rfl (by decide) rfl (HW.out.own.alloc _) rfl (src_one _ _ _ x rfl) (cellsB_one [x]) (by unfold maxLen; omega) (by omega) (by simp; omega) ?_; intro v2 w2 hr2 hg2 hb2; obtain ⟨A2, c2, rfl⟩ := ownB_slice hr2; replace hb2 := Lib.hid hb2; have k0 := (hg2.cell_far ⟨g, 0, none⟩ (by simp; omega) (fun e => by have := (HW.out.own.lt g e.symm).1; omega)).trans ((World.cell?_alloc_past _ _ _ hgl).trans c0); have f0 := (hg2.frozen_far ⟨g, 0, none⟩ (by simp; omega) (fun e => by have := (HW.out.own.lt g e.symm).1; omega)).trans ((World.frozen?_alloc_past _ _ _ hgl).trans HW.out.fz); replace hg2 : Hid (w.grownBy w2 (Value.slice A l.length c).ownBlock) := Lib.hid (grownBy_trans (World.grownBy_alloc _ _ _) hg2); replace hr2 := Lib.hid hr2)
 go_end0
 have ho := hr2.out
 rw [← cellsB_append] at ho
 refine ⟨rfl, _, ⟨?_, World.cell?_setCell_same _ _ _ k0, ?_, ?_⟩, Wrote.of_grown hg2.out (hb2.out.imp id fun e => ⟨_, e, by simp⟩) _ _ _⟩
 ·simpa using Nat.lt_of_lt_of_le hgl hg2.out.size
 ·rw [List.length_append]
  exact ownsRow_setCell_below ho (by simp) _
 ·simpa using f0
theorem wbyte_at (g : Nat) (v : Value) (l : List Nat) {z : Int} (x : Nat) (hz : z = x) (w : World) (h : Wtr w g v l) (hl : l.length ≤ 2097152) :
  Calls Tryz.prog 94 #[.pointer (some ⟨g, 0, none⟩), .int .u8 z] w fun e w' => e = .returned (.tuple #[]) ∧ Puts w w' g v (l ++ [x]) := by
 subst hz; exact wbyte_any g v l x w h hl
theorem or128 : ∀ a, a < 256 → a ||| 128 = a % 128 + 128 := by decide +kernel
theorem u8_or128 (m : Nat) : bits .or .u8 ((m : Int) % 256) 128 = ((m % 128 + 128 : Nat) : Int) := by
 have h := u8_or_nat (m % 256) 128 (by omega) (by decide)
 rw [or128 _ (by omega)] at h
 rw [show m % 128 + 128 = m % 256 % 128 + 128 by omega, ← h]
 congr 1
set_option maxRecDepth 100000 in
set_option maxHeartbeats 400000 in
theorem wuint_any (g : Nat) (v : Value) (l : List Nat) (n : Nat) (hn : n < 18446744073709551616) (w : World) (h : Wtr w g v l) (hl : l.length ≤ 2097000) :
  Calls Tryz.prog 48 #[.pointer (some ⟨g, 0, none⟩), .int .u64 n] w fun e w' => e = .returned (.tuple #[]) ∧ Puts w w' g v (l ++ leb n) := by
 have hL := leb_le10 hn
 have HW := Lib.hid h
 clear h
 go_enter Tryz.func48, Tryz.ntmps48
 go_wp2
 go_loopw [1] (fun nv wr => ∃ (m : Nat) (pre : List Nat), nv = .int .u64 m ∧ m < 18446744073709551616 ∧ Hid (pre ++ leb m = leb n) ∧ Hid (Puts w wr g v (l ++ pre))) (fun nv _ => (intOf nv).toNat)
 case atStart => exact ⟨n, [], rfl, hn, rfl, v, by rw [List.append_nil]; exact HW.out, Wrote.refl _ _ _⟩
 case round =>
  obtain ⟨m, pre, rfl, hm, Hp, Ho⟩ := hrel
  have hpl : pre.length ≤ 10 := by have := congrArg List.length Hp.out; rw [List.length_append] at this; omega
  have hll : (l ++ pre).length ≤ 2097152 := by rw [List.length_append]; omega
  have Hll := Lib.hid hll
  have Ho' := Ho.out
  obtain ⟨v1, h1, h2⟩ := Ho'
  have H1 := Lib.hid h1
  have H2 := Lib.hid h2
  clear h1 h2 Ho hll
  by_cases hlt : m < 128
  ·have h1 : ¬ (128 ≤ (m : Int)) := by omega
   go_wp2_with fail
   refine (wbyte_at g v1 (l ++ pre) m (by omega) wr H1.out Hll.out).mono ?_
   rintro e w2 ⟨rfl, v2, h3, h4⟩
   have H3 := Lib.hid h3
   have H4 := Lib.hid h4
   clear h3 h4
   go_wp2
   go_end0
   refine ⟨rfl, v2, ?_, H2.out.trans H4.out⟩
   rw [← Hp.out, leb_lt hlt, ← List.append_assoc]
   exact H3.out
  ·have h1 : (128 ≤ (m : Int)) := by omega
   go_wp2_with fail
   refine (wbyte_at g v1 (l ++ pre) (m % 128 + 128) (u8_or128 m) wr H1.out Hll.out).mono ?_
   rintro e w2 ⟨rfl, v2, h3, h4⟩
   have H3 := Lib.hid h3
   have H4 := Lib.hid h4
   clear h3 h4
   go_wp2
   refine ⟨⟨m / 128, pre ++ [m % 128 + 128], by go_num, by omega, ?_, ?_⟩, by simp [intOf]; omega⟩
   ·show _ = _
    rw [List.append_assoc, List.singleton_append, ← leb_ge hlt, Hp.out]
   ·exact ⟨v2, by rw [← List.append_assoc]; exact H3.out, H2.out.trans H4.out⟩
theorem wuint_at (g : Nat) (v : Value) (l : List Nat) {z : Int} (n : Nat) (hz : z = n) (hn : n < 18446744073709551616) (w : World) (h : Wtr w g v l) (hl : l.length ≤ 2097000) :
  Calls Tryz.prog 48 #[.pointer (some ⟨g, 0, none⟩), .int .u64 z] w fun e w' => e = .returned (.tuple #[]) ∧ Puts w w' g v (l ++ leb n) := by
 subst hz; exact wuint_any g v l n hn w h hl
set_option maxRecDepth 100000 in
set_option maxHeartbeats 400000 in
theorem wbool_any (g : Nat) (v : Value) (l : List Nat) (b : Bool) (w : World) (h : Wtr w g v l) (hl : l.length ≤ 2097000) :
  Calls Tryz.prog 76 #[.pointer (some ⟨g, 0, none⟩), .bool b] w fun e w' => e = .returned (.tuple #[]) ∧ Puts w w' g v (l ++ [if b then 1 else 0]) := by
 have HW := Lib.hid h
 clear h
 cases b with
 | true =>
   go_enter Tryz.func76, Tryz.ntmps76
   go_wp2_with fail
   refine (wbyte_at g v l 1 rfl w HW.out (by omega)).mono ?_
   rintro e w2 ⟨rfl, h3⟩
   have H3 := Lib.hid h3
   clear h3
   go_wp2
   refine bodyPost_ret (results_none rfl _ _ _) rfl ?_
   exact ⟨rfl, H3.out⟩
 | false =>
   go_enter Tryz.func76, Tryz.ntmps76
   go_wp2_with fail
   refine (wbyte_at g v l 0 rfl w HW.out (by omega)).mono ?_
   rintro e w2 ⟨rfl, h3⟩
   have H3 := Lib.hid h3
   clear h3
   go_wp2
   go_end0
   exact ⟨rfl, H3.out⟩
set_option maxRecDepth 100000 in
set_option maxHeartbeats 400000 in
theorem wtext_any (g : Nat) (v : Value) (l : List Nat) (s : ByteArray) (hs : s.size ≤ 1048576) (w : World) (h : Wtr w g v l) (hl : l.length ≤ 2097000) :
  Calls Tryz.prog 117 #[.pointer (some ⟨g, 0, none⟩), .string s] w fun e w' => e = .returned (.tuple #[]) ∧ Puts w w' g v (l ++ (leb s.size ++ bytesN s)) := by
 obtain ⟨i0, hi, hz0, hz1, hz2⟩ := info_parts Tryz.infoB
 have hL := leb_le10 (n := s.size) (by omega)
 have HW := Lib.hid h
 clear h
 go_enter Tryz.func117, Tryz.ntmps117
 go_wp2_with fail
 refine (wuint_at g v l s.size (by omega) (by omega) w HW.out (by omega)).mono ?_
 rintro e w1 ⟨rfl, v1, h1, h2⟩
 have how := h1.own
 rw [List.length_append] at how
 obtain ⟨A, c, rfl⟩ := ownB_slice how
 have How := Lib.hid how
 clear how
 have H1 := Lib.hid h1
 have H2 := Lib.hid h2
 have c0 := h1.c0
 have hgl := h1.lt
 have Hll : Hid ((l ++ leb s.size).length = l.length + (leb s.size).length) := List.length_append
 clear h1 h2
 go_wp2_with (at_builtin; refine wpList_append_str (base := g + 1) rfl _ _ rfl Tryz.underlying77 Tryz.underlying9 hi hz0 hz1 hz2 rfl How.out rfl (by unfold maxLen; omega) (by omega) (by omega) ?_; intro v2 w2 hr2 hg2 hb2; obtain ⟨A2, c2, rfl⟩ := ownB_slice hr2; replace hb2 := Lib.hid hb2; have k0 := (hg2.cell_far ⟨g, 0, none⟩ hgl (fun e => by have := (H1.out.own.lt g e.symm).1; omega)).trans c0; have f0 := (hg2.frozen_far ⟨g, 0, none⟩ hgl (fun e => by have := (H1.out.own.lt g e.symm).1; omega)).trans H1.out.fz; replace hg2 : Hid (w1.grownBy w2 (Value.slice A (l.length + (leb s.size).length) c).ownBlock) := Lib.hid hg2; replace hr2 := Lib.hid hr2)
 go_end0
 have ho := hr2.out
 rw [← cellsB_append] at ho
 refine ⟨rfl, _, ⟨?_, World.cell?_setCell_same _ _ _ k0, ?_, ?_⟩, H2.out.trans (Wrote.of_grown hg2.out hb2.out _ _ _)⟩
 ·simpa using Nat.lt_of_lt_of_le hgl hg2.out.size
 ·rw [← List.append_assoc, List.length_append, bytesN_length, List.length_append]
  exact ownsRow_setCell_below ho (by simp) _
 ·simpa using f0
set_option maxRecDepth 100000 in
set_option maxHeartbeats 400000 in
theorem wbytes_any (g : Nat) (v : Value) (l : List Nat) (w : World) (h : Wtr w g v l) (hl : l.length ≤ 4194304) :
  Calls Tryz.prog 116 #[.pointer (some ⟨g, 0, none⟩)] w fun e w' => ∃ v', e = .returned v' ∧ w'.ownsRow w.heap.size 5 1 v' l.length (cellsB l) ∧ Below w.heap.size w w' := by
 obtain ⟨A, c, rfl⟩ := ownB_slice h.own
 have c0 := h.c0
 have Hb := Lib.hid (bclone_any A l.length c l w w.heap.size rfl (fun e => by
  subst e
  rcases h.own.2 with ⟨e, _⟩ | ⟨_, _, _, e, _⟩
  ·injection e
  ·injection e with e; cases e) (by omega) (RdB.of_own h.own) (Nat.le_refl _))
 clear h
 go_enter Tryz.func116, Tryz.ntmps116
 go_wp2_with fail
 refine Hb.out.mono ?_
 rintro e w2 ⟨v2, rfl, ho, hb⟩
 have Ho := Lib.hid ho
 clear ho
 go_wp2
 go_ret
 exact ⟨_, rfl, Ho.out, hb⟩
theorem u64_not (a : Nat) (ha : a < 18446744073709551616) : bits .xor .u64 IntKind.u64.max (a : Int) = ((18446744073709551615 - a : Nat) : Int) := by
 show IntKind.u64.wrap ((BitVec.ofInt 64 IntKind.u64.max ^^^ BitVec.ofInt 64 (a : Int)).toNat : Int) = _
 have h1 : BitVec.ofInt 64 IntKind.u64.max = BitVec.allOnes 64 := by decide
 rw [h1, BitVec.allOnes_xor, BitVec.toNat_not, ofInt_u64 a ha, IntKind.wrap_u64]
 omega
theorem zigNeg {z : Int} (h1 : -9223372036854775808 ≤ z) (hz : z < 0) :
  bits .or .u64 (IntKind.u64.wrap (bits .xor .u64 IntKind.u64.max (IntKind.u64.wrap z) * 2)) 1 = ((zig z : Nat) : Int) := by
 obtain ⟨a, ha, ha2⟩ : ∃ a : Nat, z = -(a : Int) - 1 ∧ a < 9223372036854775808 := ⟨(-(z + 1)).toNat, by omega, by omega⟩
 have e1 : IntKind.u64.wrap z = ((18446744073709551615 - a : Nat) : Int) := by rw [IntKind.wrap_u64]; omega
 rw [e1, u64_not _ (by omega)]
 have e2 : IntKind.u64.wrap (((18446744073709551615 - (18446744073709551615 - a) : Nat) : Int) * 2) = ((2 * a : Nat) : Int) := by rw [IntKind.wrap_u64]; omega
 rw [e2]
 have h := u64_or_nat (2 * a) 1 (by omega) (by decide)
 have e3 : 2 * a ||| 1 = 2 * a + 1 := by
  have := Nat.two_pow_add_eq_or_of_lt (i := 1) (b := 1) (by decide) a
  simpa using this.symm
 rw [e3] at h
 have e4 : zig z = 2 * a + 1 := by unfold zig; rw [if_pos hz]; omega
 rw [e4]
 exact h
set_option maxRecDepth 100000 in
set_option maxHeartbeats 400000 in
theorem wint_any (g : Nat) (v : Value) (l : List Nat) (z : Int) (h1 : -9223372036854775808 ≤ z) (h2 : z < 9223372036854775808) (w : World) (h : Wtr w g v l) (hl : l.length ≤ 2097000) :
  Calls Tryz.prog 118 #[.pointer (some ⟨g, 0, none⟩), .int .i64 z] w fun e w' => e = .returned (.tuple #[]) ∧ Puts w w' g v (l ++ leb (zig z)) := by
 have HW := Lib.hid h
 have hlt := zig_lt h1 h2
 clear h
 by_cases hz : z < 0
 ·have Hz := Lib.hid (zigNeg h1 hz)
  go_enter Tryz.func118, Tryz.ntmps118
  go_wp2_with fail
  refine (wuint_at g v l (zig z) Hz.out hlt w HW.out hl).mono ?_
  rintro e w2 ⟨rfl, h3⟩
  have H3 := Lib.hid h3
  clear h3
  go_wp2
  refine bodyPost_ret (results_none rfl _ _ _) rfl ?_
  exact ⟨rfl, H3.out⟩
 ·have hzz : Hid (zig z = 2 * z.toNat) := by show _ = _; unfold zig; rw [if_neg hz]
  go_enter Tryz.func118, Tryz.ntmps118
  go_wp2_with fail
  refine (wuint_at g v l (zig z) (by rw [hzz.out]; omega) hlt w HW.out hl).mono ?_
  rintro e w2 ⟨rfl, h3⟩
  have H3 := Lib.hid h3
  clear h3
  go_wp2
  go_end0
  exact ⟨rfl, H3.out⟩
end Go.Proofs.YtholdcgkhicdmaaGreatDoor