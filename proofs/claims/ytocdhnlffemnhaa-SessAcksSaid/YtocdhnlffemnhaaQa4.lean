/- Several texts in one: ItPlain, DkPlain. -/
import Derived.Maps.Ext
import Derived.Test.YtocdhnlffemnhaaQa1
import Derived.Test.YtocdhnlffemnhaaQa2
import Derived.Test.YtocdhnlffemnhaaQa3
/- Layer 4: items as plain data: what they are, whether one may be. No program is named here. -/
namespace Go.Proofs.Ytocdhnlffemnhaa
open Go.RowKit

/-- an item: is it a gap; an event's origin, count, time, rule, labels, state, priority, value, own kind; a gap's origin, first and last count -/
structure It where
  g : Bool
  o : Nat
  q : Nat
  t : Nat
  r : ByteArray
  l : List Pr
  s : Nat
  p : Nat
  v : Int
  w : Nat
  ga : Nat
  gf : Nat
  gt : Nat
/-- its parts fit into their kinds -/
structure OkI (x : It) : Prop where
  o : x.o < 256
  q : x.q < 18446744073709551616
  t : x.t < 18446744073709551616
  r : x.r.size ≤ maxLen
  l : OkP x.l
  s : x.s < 256
  p : x.p < 256
  v0 : -9223372036854775808 ≤ x.v
  v1 : x.v < 9223372036854775808
  w : x.w < 256
  ga : x.ga < 256
  gf : x.gf < 18446744073709551616
  gt : x.gt < 18446744073709551616

def ownB (s : ByteArray) : Bool := decide (s.data.toList.take 4 = [111, 119, 110, 46])

def gapN (x : It) : Nat := if 31 < x.ga ∨ x.gf = 0 ∨ x.gt < x.gf ∨ 1099511627776 < x.gt then 6 else 0
def evN (x : It) : Nat :=
  if 31 < x.o ∨ x.q = 0 ∨ 1099511627776 < x.q ∨ 1099511627776 < x.t ∨ 7 < x.p then 6
  else if nameB x.r = false then 8
  else if (x.s ≠ 0 ∧ x.s ≠ 2) ∨ 2 < x.w then 12
  else if decide (x.w ≠ 0) ≠ ownB x.r then 27
  else check x.l
/-- an item's first error -/
def itemN (x : It) : Nat := if x.g then gapN x else evN x
/-- the event of x lies at block g -/
structure EvAt (w : World) (g : Nat) (x : It) (A : Option Addr) (n c : Nat) : Prop where
  lt : g < w.heap.size
  c0 : w.cell? ⟨g, 0, none⟩ = some (.int .u8 x.o)
  c1 : w.cell? ⟨g, 1, none⟩ = some (.int .u64 x.q)
  c2 : w.cell? ⟨g, 2, none⟩ = some (.int .u64 x.t)
  c3 : w.cell? ⟨g, 3, none⟩ = some (.string x.r)
  c4 : w.cell? ⟨g, 4, none⟩ = some (.slice A n c)
  c5 : w.cell? ⟨g, 5, none⟩ = some (.int .u8 x.s)
  c6 : w.cell? ⟨g, 6, none⟩ = some (.int .u8 x.p)
  c7 : w.cell? ⟨g, 7, none⟩ = some (.int .i64 x.v)
  c8 : w.cell? ⟨g, 8, none⟩ = some (.int .u8 x.w)
theorem EvAt.below {w w1 : World} {g : Nat} {x : It} {A : Option Addr} {n c : Nat} (h : EvAt w g x A n c) (hb : Below w.heap.size w w1) : EvAt w1 g x A n c :=
  ⟨Nat.lt_of_lt_of_le h.lt hb.size, (hb.cell (p := ⟨g, 0, none⟩) h.lt).trans h.c0, (hb.cell (p := ⟨g, 1, none⟩) h.lt).trans h.c1, (hb.cell (p := ⟨g, 2, none⟩) h.lt).trans h.c2, (hb.cell (p := ⟨g, 3, none⟩) h.lt).trans h.c3, (hb.cell (p := ⟨g, 4, none⟩) h.lt).trans h.c4, (hb.cell (p := ⟨g, 5, none⟩) h.lt).trans h.c5, (hb.cell (p := ⟨g, 6, none⟩) h.lt).trans h.c6, (hb.cell (p := ⟨g, 7, none⟩) h.lt).trans h.c7, (hb.cell (p := ⟨g, 8, none⟩) h.lt).trans h.c8⟩
theorem EvAt.grown {w w1 : World} {g : Nat} {x : It} {A : Option Addr} {n c k : Nat} (h : EvAt w g x A n c) (hb : w.grownBy w1 (some k)) (hk : g ≠ k) : EvAt w1 g x A n c :=
  ⟨Nat.lt_of_lt_of_le h.lt hb.size, (hb.cell_far ⟨g, 0, none⟩ h.lt (fun e => hk (Option.some.inj e))).trans h.c0, (hb.cell_far ⟨g, 1, none⟩ h.lt (fun e => hk (Option.some.inj e))).trans h.c1, (hb.cell_far ⟨g, 2, none⟩ h.lt (fun e => hk (Option.some.inj e))).trans h.c2, (hb.cell_far ⟨g, 3, none⟩ h.lt (fun e => hk (Option.some.inj e))).trans h.c3, (hb.cell_far ⟨g, 4, none⟩ h.lt (fun e => hk (Option.some.inj e))).trans h.c4, (hb.cell_far ⟨g, 5, none⟩ h.lt (fun e => hk (Option.some.inj e))).trans h.c5, (hb.cell_far ⟨g, 6, none⟩ h.lt (fun e => hk (Option.some.inj e))).trans h.c6, (hb.cell_far ⟨g, 7, none⟩ h.lt (fun e => hk (Option.some.inj e))).trans h.c7, (hb.cell_far ⟨g, 8, none⟩ h.lt (fun e => hk (Option.some.inj e))).trans h.c8⟩
theorem EvAt.new (w : World) (x : It) (A : Option Addr) (n c : Nat) (t : TypeId) : EvAt (w.alloc (.cells #[.int .u8 x.o, .int .u64 x.q, .int .u64 x.t, .string x.r, .slice A n c, .int .u8 x.s, .int .u8 x.p, .int .i64 x.v, .int .u8 x.w] t)) w.heap.size x A n c :=
  ⟨by simp, by rw [World.cell?_alloc_at _ _ _ _ rfl]; rfl, by rw [World.cell?_alloc_at _ _ _ _ rfl]; rfl, by rw [World.cell?_alloc_at _ _ _ _ rfl]; rfl, by rw [World.cell?_alloc_at _ _ _ _ rfl]; rfl, by rw [World.cell?_alloc_at _ _ _ _ rfl]; rfl, by rw [World.cell?_alloc_at _ _ _ _ rfl]; rfl, by rw [World.cell?_alloc_at _ _ _ _ rfl]; rfl, by rw [World.cell?_alloc_at _ _ _ _ rfl]; rfl, by rw [World.cell?_alloc_at _ _ _ _ rfl]; rfl⟩
/-- the item x lies at block g -/
structure ItAt (w : World) (g : Nat) (x : It) (A : Option Addr) (n c : Nat) : Prop where
  lt : g < w.heap.size
  c0 : w.cell? ⟨g, 0, none⟩ = some (.bool x.g)
  c1 : w.cell? ⟨g, 1, none⟩ = some (.int .u8 x.o)
  c2 : w.cell? ⟨g, 2, none⟩ = some (.int .u64 x.q)
  c3 : w.cell? ⟨g, 3, none⟩ = some (.int .u64 x.t)
  c4 : w.cell? ⟨g, 4, none⟩ = some (.string x.r)
  c5 : w.cell? ⟨g, 5, none⟩ = some (.slice A n c)
  c6 : w.cell? ⟨g, 6, none⟩ = some (.int .u8 x.s)
  c7 : w.cell? ⟨g, 7, none⟩ = some (.int .u8 x.p)
  c8 : w.cell? ⟨g, 8, none⟩ = some (.int .i64 x.v)
  c9 : w.cell? ⟨g, 9, none⟩ = some (.int .u8 x.w)
  c10 : w.cell? ⟨g, 10, none⟩ = some (.int .u8 x.ga)
  c11 : w.cell? ⟨g, 11, none⟩ = some (.int .u64 x.gf)
  c12 : w.cell? ⟨g, 12, none⟩ = some (.int .u64 x.gt)
theorem ItAt.below {w w1 : World} {g : Nat} {x : It} {A : Option Addr} {n c : Nat} (h : ItAt w g x A n c) (hb : Below w.heap.size w w1) : ItAt w1 g x A n c :=
  ⟨Nat.lt_of_lt_of_le h.lt hb.size, (hb.cell (p := ⟨g, 0, none⟩) h.lt).trans h.c0, (hb.cell (p := ⟨g, 1, none⟩) h.lt).trans h.c1, (hb.cell (p := ⟨g, 2, none⟩) h.lt).trans h.c2, (hb.cell (p := ⟨g, 3, none⟩) h.lt).trans h.c3, (hb.cell (p := ⟨g, 4, none⟩) h.lt).trans h.c4, (hb.cell (p := ⟨g, 5, none⟩) h.lt).trans h.c5, (hb.cell (p := ⟨g, 6, none⟩) h.lt).trans h.c6, (hb.cell (p := ⟨g, 7, none⟩) h.lt).trans h.c7, (hb.cell (p := ⟨g, 8, none⟩) h.lt).trans h.c8, (hb.cell (p := ⟨g, 9, none⟩) h.lt).trans h.c9, (hb.cell (p := ⟨g, 10, none⟩) h.lt).trans h.c10, (hb.cell (p := ⟨g, 11, none⟩) h.lt).trans h.c11, (hb.cell (p := ⟨g, 12, none⟩) h.lt).trans h.c12⟩
theorem ItAt.grown {w w1 : World} {g : Nat} {x : It} {A : Option Addr} {n c k : Nat} (h : ItAt w g x A n c) (hb : w.grownBy w1 (some k)) (hk : g ≠ k) : ItAt w1 g x A n c :=
  ⟨Nat.lt_of_lt_of_le h.lt hb.size, (hb.cell_far ⟨g, 0, none⟩ h.lt (fun e => hk (Option.some.inj e))).trans h.c0, (hb.cell_far ⟨g, 1, none⟩ h.lt (fun e => hk (Option.some.inj e))).trans h.c1, (hb.cell_far ⟨g, 2, none⟩ h.lt (fun e => hk (Option.some.inj e))).trans h.c2, (hb.cell_far ⟨g, 3, none⟩ h.lt (fun e => hk (Option.some.inj e))).trans h.c3, (hb.cell_far ⟨g, 4, none⟩ h.lt (fun e => hk (Option.some.inj e))).trans h.c4, (hb.cell_far ⟨g, 5, none⟩ h.lt (fun e => hk (Option.some.inj e))).trans h.c5, (hb.cell_far ⟨g, 6, none⟩ h.lt (fun e => hk (Option.some.inj e))).trans h.c6, (hb.cell_far ⟨g, 7, none⟩ h.lt (fun e => hk (Option.some.inj e))).trans h.c7, (hb.cell_far ⟨g, 8, none⟩ h.lt (fun e => hk (Option.some.inj e))).trans h.c8, (hb.cell_far ⟨g, 9, none⟩ h.lt (fun e => hk (Option.some.inj e))).trans h.c9, (hb.cell_far ⟨g, 10, none⟩ h.lt (fun e => hk (Option.some.inj e))).trans h.c10, (hb.cell_far ⟨g, 11, none⟩ h.lt (fun e => hk (Option.some.inj e))).trans h.c11, (hb.cell_far ⟨g, 12, none⟩ h.lt (fun e => hk (Option.some.inj e))).trans h.c12⟩
theorem ItAt.new (w : World) (x : It) (A : Option Addr) (n c : Nat) (t : TypeId) : ItAt (w.alloc (.cells #[.bool x.g, .int .u8 x.o, .int .u64 x.q, .int .u64 x.t, .string x.r, .slice A n c, .int .u8 x.s, .int .u8 x.p, .int .i64 x.v, .int .u8 x.w, .int .u8 x.ga, .int .u64 x.gf, .int .u64 x.gt] t)) w.heap.size x A n c :=
  ⟨by simp, by rw [World.cell?_alloc_at _ _ _ _ rfl]; rfl, by rw [World.cell?_alloc_at _ _ _ _ rfl]; rfl, by rw [World.cell?_alloc_at _ _ _ _ rfl]; rfl, by rw [World.cell?_alloc_at _ _ _ _ rfl]; rfl, by rw [World.cell?_alloc_at _ _ _ _ rfl]; rfl, by rw [World.cell?_alloc_at _ _ _ _ rfl]; rfl, by rw [World.cell?_alloc_at _ _ _ _ rfl]; rfl, by rw [World.cell?_alloc_at _ _ _ _ rfl]; rfl, by rw [World.cell?_alloc_at _ _ _ _ rfl]; rfl, by rw [World.cell?_alloc_at _ _ _ _ rfl]; rfl, by rw [World.cell?_alloc_at _ _ _ _ rfl]; rfl, by rw [World.cell?_alloc_at _ _ _ _ rfl]; rfl, by rw [World.cell?_alloc_at _ _ _ _ rfl]; rfl⟩
end Go.Proofs.Ytocdhnlffemnhaa
/- Layer 6: a disk's files as a list in the order of their names. No program is named here. -/
namespace Go.Proofs.Ytocdhnlffemnhaa
open Go.RowKit Go.Maps

section
variable {α β : Type}
/-- where a name's file is put -/
def insP (x : ByteArray × α) : List (ByteArray × α) → List (ByteArray × α)
  | [] => [x]
  | y :: r => if ltS x.1 y.1 then x :: y :: r else y :: insP x r
def delP (l : List (ByteArray × α)) (s : ByteArray) : List (ByteArray × α) := l.filter fun p => !eqS p.1 s
def putP (l : List (ByteArray × α)) (s : ByteArray) (x : α) : List (ByteArray × α) := insP (s, x) (delP l s)
def findP (l : List (ByteArray × α)) (s : ByteArray) : Option α := (l.find? fun p => eqS p.1 s).map (·.2)
def mapS (g : α → β) (l : List (ByteArray × α)) : List (ByteArray × β) := l.map fun p => (p.1, g p.2)
/-- the names rise -/
def Rising (l : List (ByteArray × α)) : Prop := l.Pairwise fun p q => ltS p.1 q.1 = true

theorem mapS_ins (g : α → β) (x : ByteArray × α) : ∀ l, mapS g (insP x l) = insP (x.1, g x.2) (mapS g l)
  | [] => rfl
  | y :: r => by
    unfold insP mapS
    by_cases h : ltS x.1 y.1 = true
    · simp [h]
    · have ih := mapS_ins g x r
      unfold mapS at ih
      simp [h, ih]
theorem mapS_del (g : α → β) (s : ByteArray) (l : List (ByteArray × α)) : mapS g (delP l s) = delP (mapS g l) s := by
  unfold mapS delP
  rw [List.filter_map]
  rfl
theorem mapS_put (g : α → β) (s : ByteArray) (x : α) (l : List (ByteArray × α)) : mapS g (putP l s x) = putP (mapS g l) s (g x) := by
  unfold putP; rw [mapS_ins, mapS_del]
theorem mapS_find (g : α → β) (s : ByteArray) (l : List (ByteArray × α)) : findP (mapS g l) s = (findP l s).map g := by
  unfold findP mapS
  rw [List.find?_map, Option.map_map, Option.map_map]
  rfl
theorem mapS_length (g : α → β) (l : List (ByteArray × α)) : (mapS g l).length = l.length := by simp [mapS]

theorem eqS_comm (a b : ByteArray) : eqS a b = eqS b a := by
  rw [Bool.eq_iff_iff, eqS_iff, eqS_iff]; exact ⟨Eq.symm, Eq.symm⟩
theorem eqS_no {a b : ByteArray} (h : a ≠ b) : eqS a b = false := by
  cases e : eqS a b
  · rfl
  · exact absurd ((eqS_iff _ _).1 e) h
theorem ltS_ne {a b : ByteArray} (h : ltS a b = true) : a ≠ b := fun e => by subst e; rw [ltS_irrefl] at h; cases h
theorem ltS_asymm {a b : ByteArray} (h : ltS a b = true) : ltS b a = false := by
  cases e : ltS b a
  · rfl
  · have := ltS_trans h e; rw [ltS_irrefl] at this; cases this
theorem ltS_of {a b : ByteArray} (h : ltS a b = false) (hne : a ≠ b) : ltS b a = true := by
  cases e : ltS b a
  · exact absurd (ltS_total h e) hne
  · rfl

theorem mem_insP {x p : ByteArray × α} : ∀ {l : List (ByteArray × α)}, p ∈ insP x l ↔ p = x ∨ p ∈ l
  | [] => by simp [insP]
  | y :: r => by
    unfold insP
    by_cases h : ltS x.1 y.1 = true
    · simp [h]
    · simp only [h, Bool.false_eq_true, if_false, List.mem_cons, mem_insP (l := r)]
      constructor
      · rintro (h | h | h)
        · exact .inr (.inl h)
        · exact .inl h
        · exact .inr (.inr h)
      · rintro (h | h | h)
        · exact .inr (.inl h)
        · exact .inl h
        · exact .inr (.inr h)
theorem mem_delP {s : ByteArray} {p : ByteArray × α} {l : List (ByteArray × α)} : p ∈ delP l s ↔ p ∈ l ∧ p.1 ≠ s := by
  unfold delP
  rw [List.mem_filter]
  constructor
  · rintro ⟨h1, h2⟩
    exact ⟨h1, fun e => by rw [(eqS_iff _ _).2 e] at h2; cases h2⟩
  · rintro ⟨h1, h2⟩
    exact ⟨h1, by rw [eqS_no h2]; rfl⟩
theorem mem_putP {s : ByteArray} {x : α} {p : ByteArray × α} {l : List (ByteArray × α)} : p ∈ putP l s x ↔ p = (s, x) ∨ (p ∈ l ∧ p.1 ≠ s) := by
  unfold putP; rw [mem_insP, mem_delP]

theorem rising_ins {x : ByteArray × α} : ∀ {l : List (ByteArray × α)}, Rising l → (∀ p ∈ l, p.1 ≠ x.1) → Rising (insP x l)
  | [], _, _ => by simp [insP, Rising]
  | y :: r, h, hn => by
    obtain ⟨h1, h2⟩ := List.pairwise_cons.1 h
    unfold insP
    by_cases hl : ltS x.1 y.1 = true
    · rw [if_pos hl]
      refine List.pairwise_cons.2 ⟨fun p hp => ?_, h⟩
      rcases List.mem_cons.1 hp with rfl | hp
      · exact hl
      · exact ltS_trans hl (h1 p hp)
    · rw [if_neg hl]
      refine List.pairwise_cons.2 ⟨fun p hp => ?_, rising_ins h2 (fun p hp => hn p (by simp [hp]))⟩
      rcases mem_insP.1 hp with rfl | hp
      · exact ltS_of (by simpa using hl) (fun e => hn y (by simp) e.symm)
      · exact h1 p hp
theorem rising_del {l : List (ByteArray × α)} (h : Rising l) (s : ByteArray) : Rising (delP l s) := List.Pairwise.filter _ h
theorem rising_put {l : List (ByteArray × α)} (h : Rising l) (s : ByteArray) (x : α) : Rising (putP l s x) :=
  rising_ins (rising_del h s) fun _ hp => (mem_delP.1 hp).2

theorem findP_some {l : List (ByteArray × α)} {s : ByteArray} {x : α} (h : findP l s = some x) : (s, x) ∈ l := by
  unfold findP at h
  cases e : l.find? fun p => eqS p.1 s with
  | none => rw [e] at h; cases h
  | some p =>
    rw [e] at h
    injection h with h
    have h1 := List.find?_some e
    have h2 := List.mem_of_find?_eq_some e
    rw [← (eqS_iff _ _).1 h1, ← h]
    exact h2
theorem findP_none {l : List (ByteArray × α)} {s : ByteArray} (h : findP l s = none) : ∀ p ∈ l, p.1 ≠ s := by
  unfold findP at h
  rw [Option.map_eq_none_iff, List.find?_eq_none] at h
  exact fun _ hp e => h _ hp ((eqS_iff _ _).2 e)
theorem rising_apart {l : List (ByteArray × α)} (h : Rising l) : l.Pairwise fun p q => p.1 ≠ q.1 := List.Pairwise.imp (fun h => ltS_ne h) h
theorem rising_one : ∀ {l : List (ByteArray × α)}, Rising l → ∀ {s : ByteArray} {x y : α}, (s, x) ∈ l → (s, y) ∈ l → x = y
  | [], _, _, _, _, h, _ => by cases h
  | p :: r, h, s, x, y, h1, h2 => by
    obtain ⟨a, b⟩ := List.pairwise_cons.1 h
    rcases List.mem_cons.1 h1 with e1 | e1
    · rcases List.mem_cons.1 h2 with e2 | e2
      · rw [← e1] at e2; injection e2 with _ e2; exact e2.symm
      · have := a _ e2; rw [← e1] at this; exact absurd rfl (ltS_ne this)
    · rcases List.mem_cons.1 h2 with e2 | e2
      · have := a _ e1; rw [← e2] at this; exact absurd rfl (ltS_ne this)
      · exact rising_one b e1 e2
theorem findP_mem {l : List (ByteArray × α)} (hr : Rising l) {s : ByteArray} {x : α} (h : (s, x) ∈ l) : findP l s = some x := by
  cases e : findP l s with
  | none => exact absurd rfl (findP_none e _ h)
  | some y => rw [rising_one hr (findP_some e) h]
theorem delP_none {l : List (ByteArray × α)} {s : ByteArray} (h : findP l s = none) : delP l s = l := by
  unfold delP
  exact List.filter_eq_self.2 fun p hp => by rw [eqS_no (findP_none h p hp)]; rfl
theorem insP_length (x : ByteArray × α) : ∀ l, (insP x l).length = l.length + 1
  | [] => rfl
  | y :: r => by
    unfold insP
    by_cases h : ltS x.1 y.1 = true
    · simp [h]
    · simp [h, insP_length x r]
theorem delP_length_le (l : List (ByteArray × α)) (s : ByteArray) : (delP l s).length ≤ l.length := List.length_filter_le _ _
theorem delP_length_lt {l : List (ByteArray × α)} {s : ByteArray} {x : α} (h : findP l s = some x) : (delP l s).length < l.length := by
  have hm := findP_some h
  unfold delP
  rcases Nat.lt_or_ge (l.filter fun p => !eqS p.1 s).length l.length with h' | h'
  · exact h'
  · have := List.filter_eq_self.1 (List.Sublist.eq_of_length_le List.filter_sublist h') _ hm
    rw [eqS_refl] at this
    cases this
theorem putP_length_none {l : List (ByteArray × α)} {s : ByteArray} (h : findP l s = none) (x : α) : (putP l s x).length = l.length + 1 := by
  unfold putP; rw [insP_length, delP_none h]
theorem putP_length_le (l : List (ByteArray × α)) (s : ByteArray) (x : α) : (putP l s x).length ≤ l.length + 1 := by
  unfold putP; rw [insP_length]; have := delP_length_le l s; omega
theorem putP_length_some {l : List (ByteArray × α)} {s : ByteArray} {y : α} (h : findP l s = some y) (x : α) : (putP l s x).length ≤ l.length := by
  unfold putP; rw [insP_length]; exact delP_length_lt h
/-- two rising lists with the same members are one -/
theorem rising_ext : ∀ {l m : List (ByteArray × α)}, Rising l → Rising m → (∀ p, p ∈ l ↔ p ∈ m) → l = m
  | [], [], _, _, _ => rfl
  | [], b :: s, _, _, h => by have := (h b).2 (by simp); simp at this
  | a :: r, [], _, _, h => by have := (h a).1 (by simp); simp at this
  | a :: r, b :: s, h1, h2, h => by
    obtain ⟨a1, a2⟩ := List.pairwise_cons.1 h1
    obtain ⟨b1, b2⟩ := List.pairwise_cons.1 h2
    have hab : a = b := by
      rcases List.mem_cons.1 ((h a).1 (by simp)) with e | ha
      · exact e
      · rcases List.mem_cons.1 ((h b).2 (by simp)) with e | hb
        · exact e.symm
        · have := ltS_trans (b1 a ha) (a1 b hb)
          rw [ltS_irrefl] at this
          cases this
    subst hab
    rw [rising_ext a2 b2 (fun p => ⟨fun hp => by
      rcases List.mem_cons.1 ((h p).1 (by simp [hp])) with e | hp'
      · have := a1 p hp
        rw [e, ltS_irrefl] at this
        cases this
      · exact hp', fun hp => by
      rcases List.mem_cons.1 ((h p).2 (by simp [hp])) with e | hp'
      · have := b1 p hp
        rw [e, ltS_irrefl] at this
        cases this
      · exact hp'⟩)]
end

/-- what a file is: its bytes, how many of them are synced -/
structure Fl where
  by_ : List Nat
  syn : Nat
end Go.Proofs.Ytocdhnlffemnhaa
