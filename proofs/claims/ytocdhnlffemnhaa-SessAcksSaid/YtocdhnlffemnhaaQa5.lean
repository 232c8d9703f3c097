/- Several texts in one: DkMem. -/
import Derived.Test.YtocdhnlffemnhaaChecked
import Derived.Maps.RangeWalk
import Derived.Maps.OwnSet
import Derived.StringKeys
import Derived.Test.YtocdhnlffemnhaaQa3
import Derived.Test.YtocdhnlffemnhaaQa4
/- Layer 6: how a disk lies in memory: its block, its map, each file's row. -/
namespace Go.Proofs.Ytocdhnlffemnhaa
open Go.RowKit Go.Maps

theorem before_str (a b : ByteArray) : (Lit.string a.data.toList).before (.string b.data.toList) = ltS a b := by
  show bytesBefore a.data.toList b.data.toList = _
  rw [ltS_eq]
  generalize a.data.toList = x
  generalize b.data.toList = y
  induction x generalizing y with
  | nil => cases y <;> simp [bytesBefore]
  | cons c r ih =>
    cases y with
    | nil => simp [bytesBefore]
    | cons d t =>
      rw [bytesBefore, ih, Bool.eq_iff_iff]
      simp only [Bool.or_eq_true, Bool.and_eq_true, decide_eq_true_eq, beq_iff_eq, List.cons_lt_cons_iff]
theorem same_str (a b : ByteArray) : (Lit.string a.data.toList).sameKey (.string b.data.toList) = eqS a b := by
  show (a.data.toList == b.data.toList) = _
  unfold eqS
  rw [ByteArray.toList_eq, ByteArray.toList_eq]

/-- a file as it lies in the map -/
def fileV (v : Value) (k : Int) : Value := .agg #[v, .int .i64 k]
open Classical in
/-- an element of the map reads as itself -/
noncomputable def rawR (v : Value) : Option (DataW Value × List MemPlace) :=
  if ∃ (a : Option Addr) (n c : Nat) (k : Int), v = fileV (.slice a n c) k then some (.held v, []) else none
theorem rawR_mk (a : Option Addr) (n c : Nat) (k : Int) : rawR (fileV (.slice a n c) k) = some (.held (fileV (.slice a n c) k), []) := by
  unfold rawR; exact if_pos ⟨a, n, c, k, rfl⟩
theorem rawR_inv {v : Value} {y : DataW Value × List MemPlace} (h : rawR v = some y) : (∃ (a : Option Addr) (n c : Nat) (k : Int), v = fileV (.slice a n c) k) ∧ y = (.held v, []) := by
  unfold rawR at h
  by_cases e : ∃ (a : Option Addr) (n c : Nat) (k : Int), v = fileV (.slice a n c) k
  · rw [if_pos e] at h; injection h with h; exact ⟨e, h.symm⟩
  · rw [if_neg e] at h; cases h

/-- an entry: its slice; the bytes that it reads as; how many are synced -/
structure Ent where
  v : Value
  by_ : List Nat
  syn : Nat
def Ent.fl (x : Ent) : Fl := ⟨x.by_, x.syn⟩
def Ent.val (x : Ent) : Value := fileV x.v x.syn
abbrev Ents := List (ByteArray × Ent)
def datE (E : Ents) : List (Lit × DataW Value) := E.map fun p => (.string p.1.data.toList, .held p.2.val)
def datum (E : Ents) : DataW Value := .map (datE E)

theorem datE_ins (x : ByteArray × Ent) : ∀ E : Ents, datE (insP x E) = DataW.insert (.string x.1.data.toList, .held x.2.val) (datE E)
  | [] => rfl
  | y :: r => by
    have ih := datE_ins x r
    unfold datE at ih
    unfold insP datE DataW.insert
    by_cases h : ltS x.1 y.1 = true
    · simp [h, before_str]
    · simp [h, before_str, ih]
theorem datE_del (E : Ents) (s : ByteArray) : datE (delP E s) = (datE E).filter fun p => !p.1.sameKey (.string s.data.toList) := by
  unfold datE delP
  rw [List.filter_map]
  congr 1
  apply List.filter_congr
  intro p _
  simp [same_str]
theorem datum_put (E : Ents) (s : ByteArray) (x : Ent) : (datum E).put (.string s.data.toList) (.held x.val) = datum (putP E s x) := by
  show DataW.map (DataW.insert _ _) = DataW.map _
  unfold putP
  rw [datE_ins, datE_del]
theorem datum_del (E : Ents) (s : ByteArray) : (datum E).del (.string s.data.toList) = datum (delP E s) := by
  show DataW.map _ = DataW.map _
  rw [datE_del]
theorem datum_find (E : Ents) (s : ByteArray) : (datE E).find? (fun p => p.1.sameKey (.string s.data.toList)) = (E.find? fun p => eqS p.1 s).map fun p => (.string p.1.data.toList, .held p.2.val) := by
  unfold datE
  rw [List.find?_map]
  congr 2
  funext p
  simp [same_str]
theorem datum_some {E : Ents} {s : ByteArray} {x : Ent} (h : findP E s = some x) (z : DataW Value) : (datum E).atKey (.string s.data.toList) z = .held x.val := by
  unfold findP at h
  simp only [datum, DataW.atKey, datum_find]
  cases e : E.find? fun p => eqS p.1 s with
  | none => rw [e] at h; cases h
  | some p => rw [e] at h; injection h with h; subst h; rfl
theorem datum_none {E : Ents} {s : ByteArray} (h : findP E s = none) (z : DataW Value) : (datum E).atKey (.string s.data.toList) z = z := by
  unfold findP at h
  rw [Option.map_eq_none_iff] at h
  simp only [datum, DataW.atKey, datum_find, h]
  rfl
theorem datum_has (E : Ents) (s : ByteArray) : Maps.has (datum E) (.string s.data.toList) = (findP E s).isSome := by
  cases e : findP E s with
  | none => exact has_false_of_atKey (datum_none e)
  | some x => exact has_true_of_atKey (datum_some e)
theorem datum_size (E : Ents) : Maps.size (datum E) = E.length := by simp [Maps.size, datum, datE]

/-- a call that writes to the blocks of T and to new ones -/
structure Only (T : Nat → Prop) (w w' : World) : Prop where
  os : w'.os = w.os
  tape : w'.tape = w.tape
  output : w'.output = w.output
  size : w.heap.size ≤ w'.heap.size
  block : ∀ k, k < w.heap.size → ¬ T k → w'.heap[k]? = w.heap[k]?
section
variable {T T' : Nat → Prop} {w w1 w2 : World}
theorem Only.refl (T : Nat → Prop) (w : World) : Only T w w := ⟨rfl, rfl, rfl, Nat.le_refl _, fun _ _ _ => rfl⟩
theorem Only.trans (h : Only T w w1) (k : Only T' w1 w2) (hT : ∀ i, T' i → T i ∨ w.heap.size ≤ i) : Only T w w2 :=
  ⟨k.os.trans h.os, k.tape.trans h.tape, k.output.trans h.output, Nat.le_trans h.size k.size, fun i hi hn => (k.block i (Nat.lt_of_lt_of_le hi h.size) (fun ht => by
    rcases hT i ht with h' | h'
    · exact hn h'
    · omega)).trans (h.block i hi hn)⟩
theorem Only.mono (h : Only T w w1) (hT : ∀ i, T i → T' i) : Only T' w w1 := ⟨h.os, h.tape, h.output, h.size, fun i hi hn => h.block i hi (fun ht => hn (hT i ht))⟩
theorem Only.of_below (h : Below w.heap.size w w1) (T : Nat → Prop) : Only T w w1 := ⟨h.os, h.tape, h.output, h.size, fun i hi _ => h.block i hi⟩
theorem Only.of_grown {row : Option Nat} (h : w.grownBy w1 row) (hT : ∀ k, row = some k → T k) : Only T w w1 := ⟨h.os, h.tape, h.output, h.size, fun i hi hn => h.block i hi (fun e => hn (hT i e.symm))⟩
theorem Only.setCell (w : World) (a : Addr) (u : Value) (hT : T a.block) : Only T w (w.setCell a u) :=
  ⟨rfl, rfl, rfl, by simp [World.setCell], fun i _ hn => Below.heap_setCell _ _ _ _ (fun e => hn (by rw [e]; exact hT))⟩
theorem Only.below (h : Only T w w1) {B : Nat} (hB : B ≤ w.heap.size) (hT : ∀ k, T k → B ≤ k) : Below B w w1 :=
  ⟨h.os, h.tape, h.output, h.size, fun i hi => h.block i (by omega) (fun ht => by have := hT i ht; omega)⟩
theorem Only.cell (h : Only T w w1) {p : Addr} (hp : p.block < w.heap.size) (hn : ¬ T p.block) : w1.cell? p = w.cell? p := World.cell?_of_block (h.block _ hp hn)
theorem Only.frozen (h : Only T w w1) {p : Addr} (hp : p.block < w.heap.size) (hn : ¬ T p.block) : w1.frozen? p = w.frozen? p := World.frozen?_of_block (h.block _ hp hn)
theorem Only.own (h : Only T w w1) {base : Nat} {e : TypeId} {size n : Nat} {v : Value} {xs : List Value} (ho : w.ownsRow base e size v n xs) (hn : ∀ k, v.ownBlock = some k → ¬ T k) : w1.ownsRow base e size v n xs := by
  refine ⟨ho.1, ?_⟩
  rcases ho.2 with h0 | ⟨k, cap, cur, rfl, hb, hgg, rest⟩
  · exact .inl h0
  · refine .inr ⟨k, cap, cur, rfl, hb, ?_, rest⟩
    rw [h.block k (Array.getElem?_eq_some_iff.1 hgg).1 (hn k rfl)]
    exact hgg
theorem Only.rdB (h : Only T w w1) {B : Nat} {A : Option Addr} {l : List Nat} (hr : RdB w B A l) (hB : B ≤ w.heap.size) (hn : ∀ a, A = some a → 0 < l.length → ¬ T a.block) : RdB w1 B A l := fun h0 => by
  obtain ⟨b, o, e, hb, hc⟩ := hr h0
  exact ⟨b, o, e, hb, fun i x hx => (h.cell (p := ⟨b, o + i, none⟩) (Nat.lt_of_lt_of_le hb hB) (hn ⟨b, o, none⟩ e h0 : ¬ T b)).trans (hc i x hx)⟩
theorem Only.ownsMap (h : Only T w w1) {H : Type} {P : Program} {k : TypeId} {R : Value → Option (DataW H × List MemPlace)} {b n : Nat} {D : DataW H} (ho : w.ownsMap P k R b n D) (hn : ¬ T b) : w1.ownsMap P k R b n D := by
  have hlt := ho.lt
  obtain ⟨es, clock, hb, r⟩ := ho
  exact ⟨es, clock, by rw [h.block b hlt hn]; exact hb, r⟩
end

/-- the map of a disk -/
def MapIs (w : World) (S : Nat → Prop) (g : Nat) (mo : Option Nat) (E : Ents) : Prop :=
  (mo = none ∧ E = []) ∨ ∃ b, mo = some b ∧ S b ∧ b ≠ g ∧ w.ownsMap Try.prog 9 rawR b E.length (datum E)
/-- a file: its row is the disk's alone -/
structure FileIs (w : World) (S : Nat → Prop) (g : Nat) (mo : Option Nat) (x : Ent) : Prop where
  own : w.ownsRow 0 5 1 x.v x.by_.length (cellsB x.by_)
  syn : x.syn ≤ x.by_.length
  ok : OkB x.by_
  max : x.by_.length ≤ 1048576
  S : ∀ k, x.v.ownBlock = some k → S k ∧ k ≠ g ∧ some k ≠ mo
/-- no row is of two files -/
def Far (x y : Ent) : Prop := x.v.ownBlock = none ∨ x.v.ownBlock ≠ y.v.ownBlock
theorem Far.symm {x y : Ent} (h : Far x y) : Far y x := by
  rcases h with h | h
  · by_cases e : y.v.ownBlock = none
    · exact .inl e
    · exact .inr (by rw [h]; exact e)
  · exact .inr (Ne.symm h)
structure Files (w : World) (S : Nat → Prop) (g : Nat) (mo : Option Nat) (E : Ents) : Prop where
  each : ∀ p ∈ E, FileIs w S g mo p.2
  apart : ∀ p ∈ E, ∀ q ∈ E, p.1 ≠ q.1 → Far p.2 q.2
/-- a disk's block and its map -/
structure DkM (w : World) (S : Nat → Prop) (g : Nat) (mo : Option Nat) (E : Ents) (wr sy : Nat) : Prop where
  gS : S g
  lt : ∀ k, S k → k < w.heap.size
  c0 : w.cell? ⟨g, 0, none⟩ = some (.map mo)
  c1 : w.cell? ⟨g, 1, none⟩ = some (.int .i64 wr)
  c2 : w.cell? ⟨g, 2, none⟩ = some (.int .i64 sy)
  fz : ∀ o, w.frozen? ⟨g, o, none⟩ = false
  mp : MapIs w S g mo E
  rise : Rising E
  few : E.length ≤ 64

section
variable {S S' T : Nat → Prop} {w w' : World} {g : Nat} {mo : Option Nat} {E : Ents} {wr sy : Nat} {x : Ent}
theorem FileIs.keep (h : FileIs w S g mo x) (ho : Only T w w') (hT : ∀ k, S k → ¬ T k) : FileIs w' S g mo x :=
  ⟨ho.own h.own (fun k hk => hT k (h.S k hk).1), h.syn, h.ok, h.max, h.S⟩
theorem FileIs.more (h : FileIs w S g mo x) (hS : ∀ k, S k → S' k) : FileIs w S' g mo x :=
  ⟨h.own, h.syn, h.ok, h.max, fun k hk => ⟨hS _ (h.S k hk).1, (h.S k hk).2⟩⟩
theorem Files.keep (h : Files w S g mo E) (ho : Only T w w') (hT : ∀ k, S k → ¬ T k) : Files w' S g mo E :=
  ⟨fun p hp => (h.each p hp).keep ho hT, h.apart⟩
theorem Files.more (h : Files w S g mo E) (hS : ∀ k, S k → S' k) : Files w S' g mo E :=
  ⟨fun p hp => (h.each p hp).more hS, h.apart⟩
theorem Files.sub (h : Files w S g mo E) {E' : Ents} (hE : ∀ p ∈ E', p ∈ E) : Files w S g mo E' :=
  ⟨fun p hp => h.each p (hE p hp), fun p hp q hq => h.apart p (hE p hp) q (hE q hq)⟩
theorem Files.put {E : Ents} {s : ByteArray} (h : Files w S g mo (delP E s)) (hx : FileIs w S g mo x) (hf : ∀ p ∈ delP E s, Far x p.2) : Files w S g mo (putP E s x) := by
  refine ⟨fun p hp => ?_, fun p hp q hq hne => ?_⟩
  · rcases mem_putP.1 hp with rfl | hp
    · exact hx
    · exact h.each p (mem_delP.2 hp)
  · rcases mem_putP.1 hp with rfl | hp
    · rcases mem_putP.1 hq with rfl | hq
      · exact absurd rfl hne
      · exact hf q (mem_delP.2 hq)
    · rcases mem_putP.1 hq with rfl | hq
      · exact (hf p (mem_delP.2 hp)).symm
      · exact h.apart p (mem_delP.2 hp) q (mem_delP.2 hq) hne
theorem MapIs.keep (h : MapIs w S g mo E) (ho : Only T w w') (hT : ∀ k, S k → ¬ T k) : MapIs w' S g mo E := by
  rcases h with h | ⟨b, h1, h2, h3, h4⟩
  · exact .inl h
  · exact .inr ⟨b, h1, h2, h3, ho.ownsMap h4 (hT b h2)⟩
theorem DkM.keep (h : DkM w S g mo E wr sy) (ho : Only T w w') (hT : ∀ k, S k → ¬ T k) : DkM w' S g mo E wr sy :=
  ⟨h.gS, fun k hk => Nat.lt_of_lt_of_le (h.lt k hk) ho.size, (ho.cell (p := ⟨g, 0, none⟩) (h.lt g h.gS) (hT g h.gS)).trans h.c0, (ho.cell (p := ⟨g, 1, none⟩) (h.lt g h.gS) (hT g h.gS)).trans h.c1,
    (ho.cell (p := ⟨g, 2, none⟩) (h.lt g h.gS) (hT g h.gS)).trans h.c2, fun o => (ho.frozen (p := ⟨g, o, none⟩) (h.lt g h.gS) (hT g h.gS)).trans (h.fz o), h.mp.keep ho hT, h.rise, h.few⟩
theorem DkM.below (h : DkM w S g mo E wr sy) (hb : Below w.heap.size w w') : DkM w' S g mo E wr sy := h.keep (Only.of_below hb fun _ => False) (fun _ _ h => h)
theorem Files.below (h : Files w S g mo E) (hb : Below w.heap.size w w') : Files w' S g mo E := h.keep (Only.of_below hb fun _ => False) (fun _ _ h => h)
theorem FileIs.below (h : FileIs w S g mo x) (hb : Below w.heap.size w w') : FileIs w' S g mo x := h.keep (Only.of_below hb fun _ => False) (fun _ _ h => h)
theorem DkM.more (h : DkM w S g mo E wr sy) (hS : ∀ k, S k → S' k) (hlt : ∀ k, S' k → k < w.heap.size) : DkM w S' g mo E wr sy :=
  ⟨hS _ h.gS, hlt, h.c0, h.c1, h.c2, h.fz, by
    rcases h.mp with h' | ⟨b, h1, h2, h3, h4⟩
    · exact .inl h'
    · exact .inr ⟨b, h1, hS b h2, h3, h4⟩, h.rise, h.few⟩
end
/-- the blocks of S, and those made since -/
def Since (S : Nat → Prop) (w w' : World) : Nat → Prop := fun k => S k ∨ (w.heap.size ≤ k ∧ k < w'.heap.size)
/-- a step of a disk: from S to S' -/
structure Step (w : World) (S : Nat → Prop) (w' : World) (S' : Nat → Prop) : Prop where
  only : Only S w w'
  new : ∀ k, S' k → S k ∨ w.heap.size ≤ k
theorem Step.trans {w w1 w2 : World} {S S1 S2 : Nat → Prop} (h : Step w S w1 S1) (k : Step w1 S1 w2 S2) : Step w S w2 S2 :=
  ⟨h.only.trans k.only h.new, fun i hi => by
    rcases k.new i hi with h' | h'
    · exact h.new i h'
    · exact .inr (Nat.le_trans h.only.size h')⟩
theorem Step.refl (w : World) (S : Nat → Prop) : Step w S w S := ⟨Only.refl S w, fun _ h => .inl h⟩
theorem Step.of_below {w w' : World} (S : Nat → Prop) (h : Below w.heap.size w w') : Step w S w' S := ⟨Only.of_below h S, fun _ h => .inl h⟩
/-- a disk -/
def HasDk (w : World) (S : Nat → Prop) (g : Nat) (E : Ents) (wr sy : Nat) : Prop := ∃ mo, DkM w S g mo E wr sy ∧ Files w S g mo E
theorem HasDk.keep {w w' : World} {S T : Nat → Prop} {g wr sy : Nat} {E : Ents} (h : HasDk w S g E wr sy) (ho : Only T w w') (hT : ∀ k, S k → ¬ T k) : HasDk w' S g E wr sy :=
  let ⟨mo, h1, h2⟩ := h; ⟨mo, h1.keep ho hT, h2.keep ho hT⟩
theorem HasDk.below {w w' : World} {S : Nat → Prop} {g wr sy : Nat} {E : Ents} (h : HasDk w S g E wr sy) (hb : Below w.heap.size w w') : HasDk w' S g E wr sy :=
  let ⟨mo, h1, h2⟩ := h; ⟨mo, h1.below hb, h2.below hb⟩

/-! ### the map's operations -/
theorem keyS : Keyed Try.prog 9 := string_keyed Try.underlying9
theorem held_inj {a b : Value} (h : (DataW.held a : DataW Value) = .held b) : a = b := by cases h; rfl
/-- what a look-up answers -/
def lookE (E : Ents) (s : ByteArray) : Value := match findP E s with | some x => x.val | none => fileV (.slice none 0 0) 0
section
variable {S : Nat → Prop} {w : World} {g : Nat} {mo : Option Nat} {E : Ents} {s : ByteArray}
end
end Go.Proofs.Ytocdhnlffemnhaa
