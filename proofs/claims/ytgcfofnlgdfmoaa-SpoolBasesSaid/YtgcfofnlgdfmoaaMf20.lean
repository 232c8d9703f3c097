/- Several texts in one: SpMem, SpNew. -/
import Derived.Deep.MidRow
import Derived.Deep.QuietTactic
import Derived.BigQuiet
import Derived.Test.YtgcfofnlgdfmoaaMf12
import Derived.Test.YtgcfofnlgdfmoaaMf16
import Derived.Test.YtgcfofnlgdfmoaaMf17
import Derived.Test.YtgcfofnlgdfmoaaMf18
import Derived.Test.YtgcfofnlgdfmoaaMf19
/- Layer 8: a spool in memory: its block, its row of entries, their labels. -/
namespace Go.Proofs.Ytgcfofnlgdfmoaa
open Go.RowKit

/-- an entry: its index, its item, where its labels lie -/
structure Ett where
  i : Nat
  x : It
  A : Option Addr
  c : Nat
def itC (x : It) (A : Option Addr) (c : Nat) : List Value := [.bool x.g, .int .u8 x.o, .int .u64 x.q, .int .u64 x.t, .string x.r, .slice A x.l.length c, .int .u8 x.s, .int .u8 x.p, .int .i64 x.v, .int .u8 x.w, .int .u8 x.ga, .int .u64 x.gf, .int .u64 x.gt]
def entC (e : Ett) : List Value := .int .u64 e.i :: itC e.x e.A e.c
def cellsE (L : List Ett) : List Value := L.flatMap entC
theorem entC_length (e : Ett) : (entC e).length = 14 := rfl
theorem cellsE_nil : cellsE [] = [] := rfl
theorem cellsE_cons (e : Ett) (L : List Ett) : cellsE (e :: L) = entC e ++ cellsE L := by simp [cellsE]
theorem cellsE_append (a b : List Ett) : cellsE (a ++ b) = cellsE a ++ cellsE b := by simp [cellsE]
theorem cellsE_length : ∀ L : List Ett, (cellsE L).length = L.length * 14
  | [] => rfl
  | e :: L => by rw [cellsE_cons, List.length_append, entC_length, cellsE_length L, List.length_cons]; omega
theorem cellsE_one (L : List Ett) : ∀ u ∈ cellsE L, u.oneCell' = true := by
  intro u hu
  obtain ⟨e, _, hu⟩ := List.mem_flatMap.1 hu
  simp only [entC, itC, List.mem_cons, List.not_mem_nil, or_false] at hu
  rcases hu with rfl | rfl | rfl | rfl | rfl | rfl | rfl | rfl | rfl | rfl | rfl | rfl | rfl | rfl <;> rfl
theorem cellsE_take (L : List Ett) (k : Nat) : cellsE (L.take k) = (cellsE L).take (k * 14) := by
  by_cases hk : k ≤ L.length
  · have h : cellsE L = cellsE (L.take k) ++ cellsE (L.drop k) := by rw [← cellsE_append, List.take_append_drop]
    rw [h, List.take_left' (by rw [cellsE_length, List.length_take]; omega)]
  · rw [List.take_of_length_le (by omega), List.take_of_length_le (by rw [cellsE_length]; omega)]
theorem cellsE_drop (L : List Ett) (k : Nat) : cellsE (L.drop k) = (cellsE L).drop (k * 14) := by
  by_cases hk : k ≤ L.length
  · have h : cellsE L = cellsE (L.take k) ++ cellsE (L.drop k) := by rw [← cellsE_append, List.take_append_drop]
    rw [h, List.drop_left' (by rw [cellsE_length, List.length_take]; omega)]
  · rw [List.drop_of_length_le (by omega), List.drop_of_length_le (by rw [cellsE_length]; omega), cellsE_nil]
theorem cellsE_get {L : List Ett} {k j : Nat} {e : Ett} {v : Value} (hk : L[k]? = some e) (hj : (entC e)[j]? = some v) : (cellsE L)[k * 14 + j]? = some v := by
  have hkl := (List.getElem?_eq_some_iff.1 hk).1
  have hj14 : j < 14 := by have := (List.getElem?_eq_some_iff.1 hj).1; rwa [entC_length] at this
  have hd : L.drop k = e :: L.drop (k + 1) := by
    rw [List.drop_eq_getElem_cons hkl]
    congr 1
    exact (List.getElem?_eq_some_iff.1 hk).2
  have h : cellsE L = cellsE (L.take k) ++ (entC e ++ cellsE (L.drop (k + 1))) := by rw [← cellsE_cons, ← hd, ← cellsE_append, List.take_append_drop]
  have hl : (cellsE (L.take k)).length = k * 14 := by rw [cellsE_length, List.length_take]; congr 1; omega
  rw [h, List.getElem?_append_right (by omega), hl, Nat.add_sub_cancel_left, List.getElem?_append_left (by rw [entC_length]; exact hj14)]
  exact hj
def sumE (L : List Ett) : Nat := (L.map fun e => (itemB e.x).length).sum
theorem sumE_append (a b : List Ett) : sumE (a ++ b) = sumE a + sumE b := by simp [sumE]
theorem sumE_cons (e : Ett) (L : List Ett) : sumE (e :: L) = (itemB e.x).length + sumE L := by simp [sumE]

/-- quota, next index, acknowledged, evicted, the highs -/
structure Sp where
  q : Nat
  n : Nat
  a : Nat
  v : Nat
  h : Nat → Nat
structure EntOk (w : World) (S : Nat → Prop) (e : Ett) : Prop where
  ok : OkI e.x
  sh : ShortI e.x
  ln : e.x.l.length ≤ 1000
  lb : (itemB e.x).length ≤ 100000
  ix : e.i < 18446744073709551616
  nil : e.A = none → e.x.l.length = 0
  rd : RdP w w.heap.size e.A e.x.l
  ap : ∀ a, e.A = some a → 0 < e.x.l.length → ¬ S a.block
structure SpC (w : World) (s : Nat) (X : Sp) (u : Nat) (v : Value) : Prop where
  blk : ∃ cs, w.heap[s]? = some (.cells cs 130 (0, 0)) ∧ cs.size = 38
  c0 : w.cell? ⟨s, 0, none⟩ = some (.int .i64 X.q)
  c1 : w.cell? ⟨s, 1, none⟩ = some (.int .i64 u)
  c2 : w.cell? ⟨s, 2, none⟩ = some (.int .u64 X.n)
  c3 : w.cell? ⟨s, 3, none⟩ = some (.int .u64 X.a)
  c4 : w.cell? ⟨s, 4, none⟩ = some (.int .u64 X.v)
  hi : ∀ i, i < 32 → w.cell? ⟨s, 5 + i, none⟩ = some (.int .u64 (X.h i))
  c37 : w.cell? ⟨s, 37, none⟩ = some v
structure SpR (w : World) (S : Nat → Prop) (s : Nat) (v : Value) (L : List Ett) : Prop where
  own : w.ownsRow 0 68 14 v L.length (cellsE L)
  vs : v.ownBlock ≠ some s
  vS : ∀ i, v.ownBlock = some i → S i
structure SpAt (w : World) (S : Nat → Prop) (s : Nat) (X : Sp) (L : List Ett) : Prop where
  sp : ∃ v, SpC w s X (sumE L) v ∧ SpR w S s v L
  sS : S s
  lt : ∀ k, S k → k < w.heap.size
  few : L.length ≤ 100000
  ent : ∀ e ∈ L, EntOk w S e
  q : X.q ≤ 65536
section
variable {w w' : World} {S S' T : Nat → Prop} {s u : Nat} {X : Sp} {v : Value} {L : List Ett} {e : Ett}
theorem SpC.only (h : SpC w s X u v) (ho : Only T w w') (hs : s < w.heap.size) (hT : ¬ T s) : SpC w' s X u v := by
  obtain ⟨cs, hc, hz⟩ := h.blk
  exact ⟨⟨cs, (ho.block s hs hT).trans hc, hz⟩, (ho.cell (p := ⟨s, 0, none⟩) hs hT).trans h.c0, (ho.cell (p := ⟨s, 1, none⟩) hs hT).trans h.c1, (ho.cell (p := ⟨s, 2, none⟩) hs hT).trans h.c2, (ho.cell (p := ⟨s, 3, none⟩) hs hT).trans h.c3, (ho.cell (p := ⟨s, 4, none⟩) hs hT).trans h.c4, fun i hi => (ho.cell (p := ⟨s, 5 + i, none⟩) hs hT).trans (h.hi i hi), (ho.cell (p := ⟨s, 37, none⟩) hs hT).trans h.c37⟩
theorem SpC.slt (h : SpC w s X u v) : s < w.heap.size := by
  obtain ⟨cs, hc, _⟩ := h.blk
  exact (Array.getElem?_eq_some_iff.1 hc).1
theorem SpC.fz (h : SpC w s X u v) (k : Nat) : w.frozen? ⟨s, k, none⟩ = false := by
  obtain ⟨cs, hc, _⟩ := h.blk
  simp [World.frozen?, hc]
theorem rdP_lt {B : Nat} {A : Option Addr} {l : List Pr} (h : RdP w B A l) {a : Addr} (ha : A = some a) (h0 : 0 < l.length) : a.block < B := by
  obtain ⟨b, o, e, hb, _⟩ := h h0
  rw [ha] at e
  injection e with e
  rw [e]; exact hb
theorem Only.rdP {A : Option Addr} {l : List Pr} (ho : Only T w w') (h : RdP w w.heap.size A l) (hT : ∀ a, A = some a → 0 < l.length → ¬ T a.block) : RdP w' w'.heap.size A l := fun h0 => by
  obtain ⟨b, o, e, hb, hc⟩ := h h0
  refine ⟨b, o, e, Nat.lt_of_lt_of_le hb ho.size, fun i p hp => ?_⟩
  have hne := hT _ e h0
  exact ⟨(ho.cell (p := ⟨b, o + i * 2, none⟩) hb hne).trans (hc i p hp).1, (ho.cell (p := ⟨b, o + i * 2 + 1, none⟩) hb hne).trans (hc i p hp).2⟩
theorem EntOk.only (h : EntOk w S e) (ho : Only T w w') (hT : ∀ a, e.A = some a → 0 < e.x.l.length → ¬ T a.block) (hS : ∀ k, S' k → S k ∨ w.heap.size ≤ k) : EntOk w' S' e :=
  ⟨h.ok, h.sh, h.ln, h.lb, h.ix, h.nil, ho.rdP h.rd hT, fun a ha h0 hs => (hS _ hs).elim (h.ap a ha h0) (fun h' => by have := rdP_lt h.rd ha h0; omega)⟩
theorem EntOk.step (h : EntOk w S e) (hs : Step w S w' S') : EntOk w' S' e := h.only hs.only h.ap hs.new
theorem EntOk.below (h : EntOk w S e) (hb : Below w.heap.size w w') : EntOk w' S e := h.only (T := fun _ => False) (Only.of_below hb _) (fun _ _ _ h => h) (fun _ h => .inl h)
theorem SpR.only (h : SpR w S s v L) (ho : Only T w w') (hT : ∀ k, S k → ¬ T k) : SpR w' S s v L := ⟨ho.own h.own (fun k hk => hT k (h.vS k hk)), h.vs, h.vS⟩
theorem SpR.below (h : SpR w S s v L) (hb : Below w.heap.size w w') : SpR w' S s v L := h.only (T := fun _ => False) (Only.of_below hb _) (fun _ _ h => h)
theorem SpC.below (h : SpC w s X u v) (hb : Below w.heap.size w w') : SpC w' s X u v := h.only (T := fun _ => False) (Only.of_below hb _) h.slt (fun h => h)
theorem SpAt.keep (h : SpAt w S s X L) (ho : Only T w w') (hT : ∀ k, S k → ¬ T k) (hE : ∀ e ∈ L, ∀ a, e.A = some a → 0 < e.x.l.length → ¬ T a.block) : SpAt w' S s X L := by
  obtain ⟨v, h1, h2⟩ := h.sp
  exact ⟨⟨v, h1.only ho h1.slt (hT s h.sS), h2.only ho hT⟩, h.sS, fun k hk => Nat.lt_of_lt_of_le (h.lt k hk) ho.size, h.few, fun e he => (h.ent e he).only ho (hE e he) (fun _ h => .inl h), h.q⟩
theorem SpAt.below (h : SpAt w S s X L) (hb : Below w.heap.size w w') : SpAt w' S s X L := h.keep (T := fun _ => False) (Only.of_below hb _) (fun _ _ h => h) (fun _ _ _ _ _ h => h)
/-- an entry of a row, as its cells -/
theorem SpR.at_ {k : Nat} (h : SpR w S s v L) (hk : L[k]? = some e) : ∃ b c, v = .slice (some ⟨b, 0, none⟩) L.length c ∧ b < w.heap.size ∧ b ≠ s ∧ S b ∧ w.rangeAt b (k * 14) (entC e) ∧ w.rangeAt b (k * 14 + 1) (itC e.x e.A e.c) := by
  have hkl := (List.getElem?_eq_some_iff.1 hk).1
  obtain ⟨b, c, hv, _, hlt⟩ := h.own.form (by omega)
  subst hv
  have hc : ∀ (j : Nat) u, (entC e)[j]? = some u → w.cell? ⟨b, k * 14 + j, none⟩ = some u := fun j u hj => by
    have := h.own.cells (g := b) rfl _ _ (cellsE_get hk hj)
    rw [Addr.add_lit, Nat.zero_add] at this
    exact this
  refine ⟨b, c, rfl, hlt, fun e => h.vs (by rw [e]; rfl), h.vS b rfl, hc, fun j u hj => ?_⟩
  have := hc (j + 1) u hj
  rw [show k * 14 + 1 + j = k * 14 + (j + 1) by omega]
  exact this
end
theorem sumE_bound : ∀ {L : List Ett}, (∀ e ∈ L, (itemB e.x).length ≤ 100000) → sumE L ≤ 100000 * L.length
  | [], _ => by simp [sumE]
  | e :: L, h => by
    have h1 := h e List.mem_cons_self
    have h2 := sumE_bound (L := L) fun x hx => h x (List.mem_cons_of_mem _ hx)
    rw [sumE_cons, List.length_cons]
    omega
theorem sumE_le {w : World} {S : Nat → Prop} {s : Nat} {X : Sp} {L : List Ett} (h : SpAt w S s X L) : sumE L ≤ 10000000000 := by
  have := sumE_bound fun e he => (h.ent e he).lb
  have := h.few
  omega
theorem Try.infoEn : (Try.prog.info? 68).map (·.size) = some 14 := by kernel_rfl
theorem Try.infoIt : (Try.prog.info? 60).map (·.size) = some 13 := by kernel_rfl
theorem Try.infoSp : (Try.prog.info? 130).map (·.size) = some 38 := by kernel_rfl
end Go.Proofs.Ytgcfofnlgdfmoaa
/- Layer 8: New, High, Quota, Counts of a spool, and small helpers. -/
namespace Go.Proofs.Ytgcfofnlgdfmoaa
open Go.RowKit

set_option maxRecDepth 100000 in
set_option maxHeartbeats 400000 in
theorem snew_wrong (z : Int) (hz : z < 64 ∨ 65536 < z) (w : World) :
    Calls Try.prog 20 #[.int .i64 z] w fun e w' => e = .returned (.tuple #[.pointer none, .int .i64 26]) ∧ w = w' := by
  go_enter Try.func20, Try.ntmps20
  by_cases h : z < 64
  · have d1 : decide (z < 64) = true := decide_eq_true h
    go_wp2
    go_ret2
    exact ⟨rfl, rfl⟩
  · have d1 : decide (z < 64) = false := decide_eq_false h
    have d2 : decide (65536 < z) = true := decide_eq_true (by omega)
    go_wp2
    go_ret2
    exact ⟨rfl, rfl⟩
set_option maxRecDepth 100000 in
set_option maxHeartbeats 400000 in
theorem snew_any (z : Nat) (h1 : 64 ≤ z) (h2 : z ≤ 65536) (w : World) :
    Calls Try.prog 20 #[.int .i64 z] w fun e w' => e = .returned (.tuple #[.pointer (some ⟨w.heap.size, 0, none⟩), .int .i64 0]) ∧ SpAt w' (fun k => k = w.heap.size) w.heap.size ⟨z, 1, 0, 0, fun _ => 0⟩ [] ∧ Below w.heap.size w w' := by
  go_enter Try.func20, Try.ntmps20
  have d1 : decide ((z : Int) < 64) = false := decide_eq_false (by omega)
  have d2 : decide ((65536 : Int) < z) = false := decide_eq_false (by omega)
  go_wp2
  go_ret2
  refine ⟨rfl, ⟨⟨_, ⟨⟨_, heap_alloc_new _ _, rfl⟩, by rw [World.cell?_alloc_at _ _ _ _ rfl]; rfl, by rw [World.cell?_alloc_at _ _ _ _ rfl]; rfl, by rw [World.cell?_alloc_at _ _ _ _ rfl]; rfl, by rw [World.cell?_alloc_at _ _ _ _ rfl]; rfl, by rw [World.cell?_alloc_at _ _ _ _ rfl]; rfl, fun i hi => match i, hi with
      | 0, _ => by rw [World.cell?_alloc_at _ _ _ _ rfl]; rfl
      | 1, _ => by rw [World.cell?_alloc_at _ _ _ _ rfl]; rfl
      | 2, _ => by rw [World.cell?_alloc_at _ _ _ _ rfl]; rfl
      | 3, _ => by rw [World.cell?_alloc_at _ _ _ _ rfl]; rfl
      | 4, _ => by rw [World.cell?_alloc_at _ _ _ _ rfl]; rfl
      | 5, _ => by rw [World.cell?_alloc_at _ _ _ _ rfl]; rfl
      | 6, _ => by rw [World.cell?_alloc_at _ _ _ _ rfl]; rfl
      | 7, _ => by rw [World.cell?_alloc_at _ _ _ _ rfl]; rfl
      | 8, _ => by rw [World.cell?_alloc_at _ _ _ _ rfl]; rfl
      | 9, _ => by rw [World.cell?_alloc_at _ _ _ _ rfl]; rfl
      | 10, _ => by rw [World.cell?_alloc_at _ _ _ _ rfl]; rfl
      | 11, _ => by rw [World.cell?_alloc_at _ _ _ _ rfl]; rfl
      | 12, _ => by rw [World.cell?_alloc_at _ _ _ _ rfl]; rfl
      | 13, _ => by rw [World.cell?_alloc_at _ _ _ _ rfl]; rfl
      | 14, _ => by rw [World.cell?_alloc_at _ _ _ _ rfl]; rfl
      | 15, _ => by rw [World.cell?_alloc_at _ _ _ _ rfl]; rfl
      | 16, _ => by rw [World.cell?_alloc_at _ _ _ _ rfl]; rfl
      | 17, _ => by rw [World.cell?_alloc_at _ _ _ _ rfl]; rfl
      | 18, _ => by rw [World.cell?_alloc_at _ _ _ _ rfl]; rfl
      | 19, _ => by rw [World.cell?_alloc_at _ _ _ _ rfl]; rfl
      | 20, _ => by rw [World.cell?_alloc_at _ _ _ _ rfl]; rfl
      | 21, _ => by rw [World.cell?_alloc_at _ _ _ _ rfl]; rfl
      | 22, _ => by rw [World.cell?_alloc_at _ _ _ _ rfl]; rfl
      | 23, _ => by rw [World.cell?_alloc_at _ _ _ _ rfl]; rfl
      | 24, _ => by rw [World.cell?_alloc_at _ _ _ _ rfl]; rfl
      | 25, _ => by rw [World.cell?_alloc_at _ _ _ _ rfl]; rfl
      | 26, _ => by rw [World.cell?_alloc_at _ _ _ _ rfl]; rfl
      | 27, _ => by rw [World.cell?_alloc_at _ _ _ _ rfl]; rfl
      | 28, _ => by rw [World.cell?_alloc_at _ _ _ _ rfl]; rfl
      | 29, _ => by rw [World.cell?_alloc_at _ _ _ _ rfl]; rfl
      | 30, _ => by rw [World.cell?_alloc_at _ _ _ _ rfl]; rfl
      | 31, _ => by rw [World.cell?_alloc_at _ _ _ _ rfl]; rfl
      | n + 32, h => absurd h (by omega), by rw [World.cell?_alloc_at _ _ _ _ rfl]; rfl⟩, World.ownsRow_nil _ _ _ _, by simp [Value.ownBlock], fun i hi => by simp [Value.ownBlock] at hi⟩, rfl, fun k hk => by rw [hk]; simp, by decide, fun e he => (by cases he), h2⟩, (Below.refl _ _).alloc (Nat.le_refl _) _⟩
set_option maxRecDepth 100000 in
set_option maxHeartbeats 400000 in
theorem sfits_any {S : Nat → Prop} {s : Nat} {X : Sp} {L : List Ett} (k : Nat) (hk : k ≤ 1000000) (w : World) (h : SpAt w S s X L) :
    Calls Try.prog 51 #[.pointer (some ⟨s, 0, none⟩), .int .i64 k] w fun e w' => e = .returned (.bool (decide (sumE L + k ≤ X.q))) ∧ Below w.heap.size w w' := by
  obtain ⟨v, h1, h2⟩ := h.sp
  have c0 := h1.c0
  have c1 := h1.c1
  go_enter Try.func51, Try.ntmps51
  have hq := h.q
  have hs := sumE_le h
  obtain ⟨u, hu⟩ : ∃ u, u = sumE L := ⟨_, rfl⟩
  obtain ⟨q, hqq⟩ : ∃ q, q = X.q := ⟨_, rfl⟩
  rw [← hu] at c1 hs ⊢
  rw [← hqq] at c0 hq ⊢
  have hw1 : IntKind.i64.wrap ((u : Int) + (k : Int)) = ((u + k : Nat) : Int) := by rw [IntKind.wrap_i64]; omega
  have hd : decide ((u : Int) + (k : Int) ≤ (q : Int)) = decide (u + k ≤ q) := by congr 1; exact propext ⟨fun h => by omega, fun h => by omega⟩
  clear hu hqq hs h h1 h2
  go_wp2
  go_quiet (fail)
  go_wp2
  go_ret
  exact ⟨rfl, cbelow_drewN (Below.refl _ _) _⟩
set_option maxRecDepth 100000 in
set_option maxHeartbeats 400000 in
theorem lowest_any (a b : Nat) (w : World) :
    Calls Try.prog 55 #[.int .u64 a, .int .u64 b] w fun e w' => e = .returned (.int .u64 ((if a = 0 ∨ b = 0 then max a b else min a b : Nat) : Int)) ∧ w = w' := by
  go_enter Try.func55, Try.ntmps55
  by_cases ha : a = 0
  · subst ha
    go_wp2
    go_ret
    exact ⟨by simp, rfl⟩
  · by_cases hb : b = 0
    · subst hb
      have d1 : ((a : Int) == 0) = false := by simp; omega
      go_wp2
      go_ret
      exact ⟨by simp, rfl⟩
    · have d1 : ((a : Int) == 0) = false := by simp; omega
      have d2 : ((b : Int) == 0) = false := by simp; omega
      go_wp2
      go_ret
      exact ⟨by simp; omega, rfl⟩
set_option maxRecDepth 100000 in
set_option maxHeartbeats 400000 in
theorem high_any {S : Nat → Prop} {s : Nat} {X : Sp} {L : List Ett} (o : Nat) (ho : o < 32) (w : World) (h : SpAt w S s X L) :
    Calls Try.prog 22 #[.pointer (some ⟨s, 0, none⟩), .int .u8 o] w fun e w' => e = .returned (.int .u64 (X.h o)) ∧ w = w' := by
  obtain ⟨v, h1, h2⟩ := h.sp
  have c5 := h1.hi o ho
  go_enter Try.func22, Try.ntmps22
  have d1 : decide ((32 : Int) ≤ o) = false := decide_eq_false (by omega)
  go_wp2
  go_ret
  exact ⟨rfl, rfl⟩
end Go.Proofs.Ytgcfofnlgdfmoaa
