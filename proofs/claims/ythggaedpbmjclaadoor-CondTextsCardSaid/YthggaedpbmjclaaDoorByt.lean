/- How a slice of bytes lies in memory; a text's bytes; what a call that writes to one block of a fixed place and to a row leaves. No program is named here. -/
import Derived.Test.YthggaedpbmjclaaDoorApp
import Derived.Below
import Derived.OneCell
import Derived.Laws.OwnMore
import Derived.Lib.Hide
import Derived.Deep.AppendLies
import Derived.Deep.Draws
import Derived.Laws.Strings
import Derived.Laws.NewBlocks
import Derived.Lib.AppendStr
namespace Go.Proofs.YthggaedpbmjclaaDoor
open Go.RowKit

/-- The slice at A reads as these bytes; it lies below block B. -/
def RdB (w : World) (B : Nat) (A : Option Addr) (l : List Nat) : Prop :=
  0 < l.length → ∃ b o, A = some ⟨b, o, none⟩ ∧ b < B ∧ ∀ (i x : Nat), l[i]? = some x → w.cell? ⟨b, o + i, none⟩ = some (.int .u8 x)
/-- each is a byte -/
def OkB (l : List Nat) : Prop := ∀ x ∈ l, x < 256
def encB (x : Nat) : Value := .int .u8 x
def cellsB (l : List Nat) : List Value := l.map encB
theorem cellsB_length (l : List Nat) : (cellsB l).length = l.length := by simp [cellsB]
theorem cellsB_append (a b : List Nat) : cellsB (a ++ b) = cellsB a ++ cellsB b := by simp [cellsB]
theorem cellsB_get {l : List Nat} {i x : Nat} (h : l[i]? = some x) : (cellsB l)[i]? = some (.int .u8 x) := by simp [cellsB, h, encB]
theorem cellsB_one (l : List Nat) : ∀ u ∈ cellsB l, u.oneCell' = true := by
  intro u hu
  simp only [cellsB, List.mem_map] at hu
  obtain ⟨x, _, rfl⟩ := hu
  rfl
section
variable {w w' : World} {B B' : Nat} {A : Option Addr} {l : List Nat}
theorem OkB.at_ (h : OkB l) {i x : Nat} (hx : l[i]? = some x) : x < 256 := h x (List.mem_iff_getElem?.2 ⟨i, hx⟩)
theorem OkB.append {a b : List Nat} (h : OkB a) (k : OkB b) : OkB (a ++ b) := fun x hx => (List.mem_append.1 hx).elim (h x) (k x)
theorem RdB.keep (h : RdB w B A l) (hk : ∀ p : Addr, p.block < B → w'.cell? p = w.cell? p) : RdB w' B A l := fun h0 => by
  obtain ⟨b, o, e, hb, hc⟩ := h h0
  exact ⟨b, o, e, hb, fun i x hx => (hk ⟨b, _, none⟩ hb).trans (hc i x hx)⟩
theorem RdB.more (h : RdB w B A l) (hB : B ≤ B') : RdB w B' A l := fun h0 => by
  obtain ⟨b, o, e, hb, hc⟩ := h h0
  exact ⟨b, o, e, by omega, hc⟩
theorem RdB.below (h : RdB w B A l) (hb : Below B w w') : RdB w' B A l := h.keep fun _ hp => hb.cell hp
theorem RdB.at_ {k : Nat} (h : RdB w B A l) (hk : k < l.length) : ∃ b o x, A = some ⟨b, o, none⟩ ∧ b < B ∧ l[k]? = some x ∧ w.cell? ⟨b, o + k, none⟩ = some (.int .u8 x) := by
  obtain ⟨b, o, e, hb, hc⟩ := h (by omega)
  exact ⟨b, o, _, e, hb, List.getElem?_eq_getElem hk, hc k _ (List.getElem?_eq_getElem hk)⟩
theorem RdB.of_own {base : Nat} {e : TypeId} {n c : Nat} (h : w.ownsRow base e 1 (.slice A n c) n (cellsB l)) : RdB w w.heap.size A l := fun h0 => by
  have hn : n = l.length := by have := h.1; rw [cellsB_length] at this; omega
  obtain ⟨g, cap, hv, _, hlt⟩ := h.form (by omega)
  have hA : A = some ⟨g, 0, none⟩ := by injection hv
  subst hA
  have hcs := h.cells (g := g) rfl
  refine ⟨g, 0, rfl, hlt, fun i x hx => ?_⟩
  have c1 := hcs _ _ (cellsB_get hx)
  rw [Addr.add_lit] at c1
  exact c1
end
theorem RdB.grown {w w' : World} {B : Nat} {A : Option Addr} {l : List Nat} {row : Option Nat} (h : RdB w B A l) (hg : w.grownBy w' row) (hr : ∀ k, row = some k → ∀ a, A = some a → a.block ≠ k) : RdB w' B A l := fun h0 => by
  obtain ⟨b, o, e, hb, hc⟩ := h h0
  exact ⟨b, o, e, hb, fun i x hx => hg.cell (hc i x hx) fun e' => hr b e'.symm _ e rfl⟩
theorem src_of_rdB {w : World} {B : Nat} {A : Option Addr} {l : List Nat} {n : Nat} (h : RdB w B A l) (hn : n = l.length) : Src w A n 1 (cellsB l) := by
  subst hn
  refine ⟨by rw [cellsB_length, Nat.mul_one], fun h0 => ?_⟩
  obtain ⟨b, o, e, _, hc⟩ := h h0
  refine ⟨_, e, fun j u hj => ?_⟩
  have hjl : j < l.length := by
    have := (List.getElem?_eq_some_iff.1 hj).1
    rwa [cellsB_length] at this
  have hp : l[j]? = some l[j] := List.getElem?_eq_getElem hjl
  rw [Addr.add_lit]
  rw [hc _ _ hp, ← hj, cellsB_get hp]
theorem ownB_slice {W : World} {base : Nat} {e : TypeId} {size n : Nat} {v : Value} {xs : List Value} (h : W.ownsRow base e size v n xs) : ∃ A c, v = .slice A n c := by
  rcases h.2 with ⟨rfl, rfl⟩ | ⟨g, cap, cur, rfl, _⟩
  · exact ⟨none, 0, rfl⟩
  · exact ⟨_, _, rfl⟩
theorem ownB_below {w w' : World} {base : Nat} {e : TypeId} {size n : Nat} {v : Value} {xs : List Value} (h : w.ownsRow base e size v n xs) (hb : Below w.heap.size w w') : w'.ownsRow base e size v n xs :=
  h.kept (row := none) ⟨hb.os, hb.tape, hb.output, hb.size, fun k hk _ => hb.block k hk⟩ (by
    rcases h.2 with ⟨rfl, _⟩ | ⟨g, cap, cur, rfl, _⟩
    · exact Or.inl rfl
    · exact Or.inr (by simp [Value.ownBlock]))
theorem ownB_mono {W : World} {base base' : Nat} {e : TypeId} {size n : Nat} {v : Value} {xs : List Value} (h : W.ownsRow base e size v n xs) (hb : base' ≤ base) : W.ownsRow base' e size v n xs := by
  refine ⟨h.1, ?_⟩
  rcases h.2 with h0 | ⟨g, cap, cur, rfl, hg, rest⟩
  · exact .inl h0
  · exact .inr ⟨g, cap, cur, rfl, by omega, rest⟩

theorem grownBy_trans {w w1 w2 : World} {row : Option Nat} (h : w.grownBy w1 row) (k : w1.grownBy w2 row) : w.grownBy w2 row :=
  ⟨k.os.trans h.os, k.tape.trans h.tape, k.output.trans h.output, Nat.le_trans h.size k.size, fun i hi hne => (k.block i (Nat.lt_of_lt_of_le hi h.size) hne).trans (h.block i hi hne)⟩
theorem grownBy_weak {w w1 : World} {row : Option Nat} (h : w.grownBy w1 none) : w.grownBy w1 row :=
  ⟨h.os, h.tape, h.output, h.size, fun i hi _ => h.block i hi (by simp)⟩
theorem cbelow_drewN {B : Nat} {a w : World} (h : Below B a w) (n : Nat) : Below B a (w.drewN n) := ⟨h.os, h.tape, h.output, h.size, h.block⟩
def strB (l : List Nat) : ByteArray := ⟨(l.map UInt8.ofNat).toArray⟩
theorem foldl_push_ints : ∀ (l : List Nat) (r : ByteArray), (l.map (fun x : Nat => (x : Int))).foldl (fun r n => r.push (UInt8.ofNat n.toNat)) r = ⟨r.data ++ (l.map UInt8.ofNat).toArray⟩
  | [], r => by simp
  | x :: l, r => by
    simp only [List.map_cons, List.foldl_cons]
    rw [foldl_push_ints l]
    simp [ByteArray.push]
theorem ofNat_inj : ∀ {a b : List Nat}, OkB a → OkB b → a.map UInt8.ofNat = b.map UInt8.ofNat → a = b
  | [], [], _, _, _ => rfl
  | [], _ :: _, _, _, h => by simp at h
  | _ :: _, [], _, _, h => by simp at h
  | x :: a, y :: b, ha, hb, h => by
    simp only [List.map_cons, List.cons.injEq] at h
    have hx := ha x (by simp)
    have hy := hb y (by simp)
    have e : x = y := by
      have := congrArg UInt8.toNat h.1
      simp only [UInt8.toNat_ofNat'] at this
      omega
    rw [e, ofNat_inj (fun z hz => ha z (by simp [hz])) (fun z hz => hb z (by simp [hz])) h.2]
theorem strB_eq {a b : List Nat} (ha : OkB a) (hb : OkB b) : ((strB a).toList == (strB b).toList) = decide (a = b) := by
  rw [Bool.eq_iff_iff, beq_iff_eq, decide_eq_true_iff, ByteArray.toList_eq, ByteArray.toList_eq]
  constructor
  · intro h
    exact ofNat_inj ha hb (by simpa [strB] using h)
  · rintro rfl; rfl

theorem OkB.take {l : List Nat} (h : OkB l) (k : Nat) : OkB (l.take k) := fun x hx => h x (List.mem_of_mem_take hx)
theorem OkB.drop {l : List Nat} (h : OkB l) (k : Nat) : OkB (l.drop k) := fun x hx => h x (List.mem_of_mem_drop hx)
theorem OkB.nil : OkB [] := fun x h => (by cases h)
/-- from its k-th byte on -/
theorem RdB.drop {w : World} {B b o : Nat} {l : List Nat} (h : RdB w B (some ⟨b, o, none⟩) l) (k : Nat) : RdB w B (some ⟨b, o + k, none⟩) (l.drop k) := fun h0 => by
  obtain ⟨b', o', e, hb, hc⟩ := h (by simp at h0; omega)
  obtain ⟨rfl, rfl⟩ : b = b' ∧ o = o' := by injection e with e; injection e with e1 e2; exact ⟨e1, e2⟩
  exact ⟨b, o + k, rfl, hb, fun i x hx => by rw [List.getElem?_drop] at hx; have := hc _ _ hx; rwa [← Nat.add_assoc] at this⟩
theorem RdB.take {w : World} {B : Nat} {A : Option Addr} {l : List Nat} (h : RdB w B A l) (k : Nat) : RdB w B A (l.take k) := fun h0 => by
  obtain ⟨b, o, e, hb, hc⟩ := h (by simp at h0; omega)
  refine ⟨b, o, e, hb, fun i x hx => hc i x ?_⟩
  rw [List.getElem?_take] at hx
  split at hx
  · exact hx
  · cases hx
theorem RdB.empty {w : World} {B : Nat} {A : Option Addr} : RdB w B A [] := fun h => absurd h (by simp)

/-- a literal of one byte, about to be appended -/
theorem src_one (w : World) (t : TypeId) (x : Int) (k : Nat) (h : x = k) : Src (w.alloc (.cells #[.int .u8 x] t)) (some ⟨w.heap.size, 0, none⟩) 1 1 (cellsB [k]) := by
  subst h
  refine ⟨rfl, fun _ => ⟨_, rfl, fun j u hj => ?_⟩⟩
  rw [Addr.add_lit, World.cell?_alloc_at _ _ _ _ rfl]
  match j, hj with
  | 0, hj => simpa [cellsB, encB] using hj

/-- a call that writes to block g, to the row r, and to new blocks; the row behind it is r' -/
structure Wrote (w w' : World) (g : Nat) (r r' : Option Nat) : Prop where
  os : w'.os = w.os
  tape : w'.tape = w.tape
  output : w'.output = w.output
  size : w.heap.size ≤ w'.heap.size
  block : ∀ k, k < w.heap.size → k ≠ g → some k ≠ r → w'.heap[k]? = w.heap[k]?
  row : r' = r ∨ ∃ k, r' = some k ∧ w.heap.size ≤ k
section
variable {w w1 w2 : World} {g : Nat} {r r1 r2 : Option Nat}
theorem Wrote.refl (w : World) (g : Nat) (r : Option Nat) : Wrote w w g r r := ⟨rfl, rfl, rfl, Nat.le_refl _, fun _ _ _ _ => rfl, .inl rfl⟩
theorem Wrote.trans (h : Wrote w w1 g r r1) (k : Wrote w1 w2 g r1 r2) : Wrote w w2 g r r2 :=
  ⟨k.os.trans h.os, k.tape.trans h.tape, k.output.trans h.output, Nat.le_trans h.size k.size, fun i hi hg hr => (k.block i (Nat.lt_of_lt_of_le hi h.size) hg (by
      rcases h.row with h1 | ⟨j, h1, h2⟩
      · rw [h1]; exact hr
      · rw [h1]; intro e; injection e with e; omega)).trans (h.block i hi hg hr),
    by
      rcases k.row with k1 | ⟨j, k1, k2⟩
      · rw [k1]; exact h.row
      · exact .inr ⟨j, k1, Nat.le_trans h.size k2⟩⟩
theorem Wrote.below (h : Wrote w w1 g r r1) {B : Nat} (hB : B ≤ w.heap.size) (hg : B ≤ g) (hr : ∀ k, r = some k → B ≤ k) : Below B w w1 :=
  ⟨h.os, h.tape, h.output, h.size, fun k hk => h.block k (by omega) (by omega) (fun e => by have := hr k e.symm; omega)⟩
theorem Wrote.cell (h : Wrote w w1 g r r1) {p : Addr} (hp : p.block < w.heap.size) (hg : p.block ≠ g) (hr : some p.block ≠ r) : w1.cell? p = w.cell? p := World.cell?_of_block (h.block _ hp hg hr)
theorem Wrote.frozen (h : Wrote w w1 g r r1) {p : Addr} (hp : p.block < w.heap.size) (hg : p.block ≠ g) (hr : some p.block ≠ r) : w1.frozen? p = w.frozen? p := World.frozen?_of_block (h.block _ hp hg hr)
theorem Wrote.own (h : Wrote w w1 g r r1) {base : Nat} {e : TypeId} {size n : Nat} {v : Value} {xs : List Value} (ho : w.ownsRow base e size v n xs) (hg : v.ownBlock ≠ some g) (hr : v.ownBlock = none ∨ v.ownBlock ≠ r) : w1.ownsRow base e size v n xs := by
  refine ⟨ho.1, ?_⟩
  rcases ho.2 with hn | ⟨k, cap, cur, rfl, hb, hgg, rest⟩
  · exact .inl hn
  · refine .inr ⟨k, cap, cur, rfl, hb, ?_, rest⟩
    rw [h.block k (Array.getElem?_eq_some_iff.1 hgg).1 (fun e => hg (by simp [Value.ownBlock, e])) (by simpa [Value.ownBlock] using hr)]
    exact hgg
theorem Wrote.of_below (h : Below w.heap.size w w1) (g : Nat) (r : Option Nat) : Wrote w w1 g r r := ⟨h.os, h.tape, h.output, h.size, fun k hk _ _ => h.block k hk, .inl rfl⟩
/-- an append to the row, then a store into block g -/
theorem Wrote.of_grown (h : w.grownBy w1 r) (hr : r1 = r ∨ ∃ k, r1 = some k ∧ w.heap.size ≤ k) (g o : Nat) (u : Value) : Wrote w (w1.setCell ⟨g, o, none⟩ u) g r r1 :=
  ⟨h.os, h.tape, h.output, by simpa using h.size, fun k hk hg hne => (Below.heap_setCell _ _ _ _ hg).trans (h.block k hk hne), hr⟩
end

/-- a text's bytes -/
def bytesN (s : ByteArray) : List Nat := s.data.toList.map UInt8.toNat
theorem bytesN_length (s : ByteArray) : (bytesN s).length = s.size := by simp [bytesN]
theorem bytesN_ok (s : ByteArray) : OkB (bytesN s) := fun x hx => by
  simp only [bytesN, List.mem_map] at hx
  obtain ⟨b, _, rfl⟩ := hx
  exact b.toNat_lt
theorem strCells_bytesN (s : ByteArray) : Lib.strCells s = cellsB (bytesN s) := by simp [Lib.strCells, cellsB, bytesN, encB]
theorem strB_bytesN (s : ByteArray) : strB (bytesN s) = s := by
  have h : ∀ l : List UInt8, (l.map UInt8.toNat).map UInt8.ofNat = l := fun l => by
    rw [List.map_map]
    conv => rhs; rw [← List.map_id l]
    congr 1
    funext b
    simp
  simp [strB, bytesN, h]

section
variable {P : Program} {w : World}
/-- a text's bytes appended to a row of the call's own: where the row lies behind it -/
theorem run_append_str {base : Nat} {t u ty e : TypeId} {i : TypeInfo} (ht : P.underlying t = some (.slice e)) (hu : P.underlying u = some .string) (hi : P.info? e = some i) (hz : i.zero = some (.int .u8 0))
    (hsize : i.size = 1) (hby : i.bytes = 1) {v : Value} {n : Nat} {xs : List Value} (hown : w.ownsRow base e 1 v n xs) {s : ByteArray}
    (h63 : n + s.size ≤ maxLen) (hbytes : n + s.size ≤ 140737488355328) (hbase : base ≤ w.heap.size) :
    ∃ v' w', (Builtin.append_ #[t, u] ty #[v, .string s]).run P w = .ok v' w' ∧ w'.ownsRow base e 1 v' (n + s.size) (xs ++ cellsB (bytesN s)) ∧ w.grownBy w' v.ownBlock ∧ (v'.ownBlock = v.ownBlock ∨ ∃ k, v'.ownBlock = some k ∧ w.heap.size ≤ k) := by
  obtain ⟨v', w', hr, h2, h3, _⟩ := Lib.run_append_own_string (P := P) w base t u ty e i ht hu hi hz hsize hby v n xs hown s h63 hbytes hbase
  rw [strCells_bytesN] at h2
  refine ⟨v', w', hr, h2, h3, ?_⟩
  unfold maxLen at h63
  rcases hown.2 with ⟨rfl, rfl⟩ | ⟨g, cap, cur, rfl, hbg, hg, hnc, hcm, hcs, htake⟩
  · have hx : xs = [] := List.eq_nil_of_length_eq_zero (by simpa using hown.1)
    subst hx
    obtain ⟨v2, w2, hr2, ho2, _⟩ := Lib.run_append_own_string (P := P) w w.heap.size t u ty e i ht hu hi hz hsize hby _ 0 [] (World.ownsRow_nil w _ _ _) s (by unfold maxLen; omega) hbytes (Nat.le_refl _)
    rw [hr] at hr2
    obtain ⟨rfl, rfl⟩ : v' = v2 ∧ w' = w2 := by injection hr2 with a b; exact ⟨a, b⟩
    cases hv : v'.ownBlock with
    | none => exact .inl rfl
    | some k => exact .inr ⟨k, rfl, (ho2.lt k hv).1⟩
  · by_cases hroom : n + s.size ≤ cap
    · have hr2 := Lib.run_append_room_string (P := P) w t u ty e i ht hu hi hsize g n cap cur hg s hroom (by omega)
      rw [hr] at hr2
      obtain ⟨rfl, _⟩ : v' = _ ∧ w' = _ := by injection hr2 with a b; exact ⟨a, b⟩
      exact .inl rfl
    · have holds : ∀ j u, xs[j]? = some u → w.cell? ((⟨g, 0, none⟩ : Addr).add j) = some u := hown.cells (g := g) rfl
      have hr2 := Lib.run_append_grow_string (P := P) w t u ty e i (.int .u8 0) ht hu hi hz ⟨g, 0, none⟩ n cap xs (by rw [hsize]; simpa using hown.1) holds s (by omega) (by omega) (by rw [hby]; exact growslice_fits (by omega) (by omega))
      rw [hr] at hr2
      obtain ⟨rfl, _⟩ : v' = _ ∧ w' = _ := by injection hr2 with a b; exact ⟨a, b⟩
      exact .inr ⟨_, rfl, Nat.le_refl _⟩
theorem wpList_append_str {ops : Array Oper} {rest : List Oper} {o : Oper} {a : Act} {Q : Exit → Act → World → Prop} (hgd : o.guard = none) (sl x : Operand) {t u : TypeId}
    (ho : o.op = .call { callee := .builtin .append, args := #[sl, x], argTypes := #[t, u] })
    {base : Nat} {e : TypeId} {i : TypeInfo} (ht : P.underlying t = some (.slice e)) (hu : P.underlying u = some .string) (hi : P.info? e = some i) (hz : i.zero = some (.int .u8 0))
    (hsize : i.size = 1) (hby : i.bytes = 1)
    {v : Value} {n : Nat} {xs : List Value} (hs : a.eval sl = v) (hown : w.ownsRow base e 1 v n xs) {s : ByteArray} (hx : a.eval x = .string s)
    (h63 : n + s.size ≤ maxLen) (hbytes : n + s.size ≤ 140737488355328) (hbase : base ≤ w.heap.size)
    (h : ∀ v' w', w'.ownsRow base e 1 v' (n + s.size) (xs ++ cellsB (bytesN s)) → w.grownBy w' v.ownBlock → (v'.ownBlock = v.ownBlock ∨ ∃ k, v'.ownBlock = some k ∧ w.heap.size ≤ k) → wpList P ops Q rest (a.put o.dst v') w') : wpList P ops Q (o :: rest) a w := by
  refine wpList_plain hgd fun K hK => ?_
  obtain ⟨v', w', hr, h2, h3, h4⟩ := run_append_str (P := P) (ty := o.type) ht hu hi hz hsize hby hown (s := s) h63 hbytes hbase
  unfold Oper.wp execOp
  simp only [ho, resolve, invoke, builtin, Sem.run_bind, Sem.run_pure, Result.andThen_ok, List.map_toArray, List.map_cons, List.map_nil, hs, hx, hr]
  exact hK _ _ (h v' w' h2 h3 h4)
end
end Go.Proofs.YthggaedpbmjclaaDoor
