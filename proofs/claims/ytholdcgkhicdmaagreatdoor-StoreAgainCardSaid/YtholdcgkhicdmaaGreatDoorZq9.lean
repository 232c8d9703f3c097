/- Several texts in one: SpMem, SpNew, SpLoop, SpLeast. -/
import Derived.Deep.MidRow
import Derived.Test.YtholdcgkhicdmaaGreatDoorZq8
namespace Go.Proofs.YtholdcgkhicdmaaGreatDoor
open Go.RowKit
structure Ett where
 i : Nat
 x : It
 A : Option Addr
 c : Nat
def itC (x : It) (A : Option Addr) (c : Nat) : List Value := [.bool x.g, .int .u8 x.o, .int .u64 x.q, .int .u64 x.t, .string x.r, .slice A x.l.length c, .int .u8 x.s, .int .u8 x.p, .int .i64 x.v, .int .u8 x.w, .int .u8 x.ga, .int .u64 x.gf, .int .u64 x.gt]
def entC (e : Ett) : List Value := .int .u64 e.i :: itC e.x e.A e.c
def cellsE (L : List Ett) : List Value := L.flatMap entC
theorem entC_length (e : Ett) : (entC e).length = 14 := rfl
theorem cellsE_nil : cellsE [] = [] := rfl
theorem cellsE_cons (e : Ett) (L : List Ett) : cellsE (e :: L) = entC e ++ cellsE L := by simp [cellsE]
theorem cellsE_append (a b : List Ett) : cellsE (a ++ b) = cellsE a ++ cellsE b := by simp [cellsE]
theorem cellsE_length : ∀ L : List Ett, (cellsE L).length = L.length * 14
 | [] => rfl
 | e :: L => by rw [cellsE_cons, List.length_append, entC_length, cellsE_length L, List.length_cons]; omega
theorem cellsE_one (L : List Ett) : ∀ u ∈ cellsE L, u.oneCell' = true := by
 intro u hu
 obtain ⟨e, _, hu⟩ := List.mem_flatMap.1 hu
 simp only [entC, itC, List.mem_cons, List.not_mem_nil, or_false] at hu
 rcases hu with rfl | rfl | rfl | rfl | rfl | rfl | rfl | rfl | rfl | rfl | rfl | rfl | rfl | rfl <;> rfl
theorem cellsE_take (L : List Ett) (k : Nat) : cellsE (L.take k) = (cellsE L).take (k * 14) := by
 by_cases hk : k ≤ L.length
 ·have h : cellsE L = cellsE (L.take k) ++ cellsE (L.drop k) := by rw [← cellsE_append, List.take_append_drop]
  rw [h, List.take_left' (by rw [cellsE_length, List.length_take]; omega)]
 ·rw [List.take_of_length_le (by omega), List.take_of_length_le (by rw [cellsE_length]; omega)]
theorem cellsE_drop (L : List Ett) (k : Nat) : cellsE (L.drop k) = (cellsE L).drop (k * 14) := by
 by_cases hk : k ≤ L.length
 ·have h : cellsE L = cellsE (L.take k) ++ cellsE (L.drop k) := by rw [← cellsE_append, List.take_append_drop]
  rw [h, List.drop_left' (by rw [cellsE_length, List.length_take]; omega)]
 ·rw [List.drop_of_length_le (by omega), List.drop_of_length_le (by rw [cellsE_length]; omega), cellsE_nil]
theorem cellsE_get {L : List Ett} {k j : Nat} {e : Ett} {v : Value} (hk : L[k]? = some e) (hj : (entC e)[j]? = some v) : (cellsE L)[k * 14 + j]? = some v := by
 have hkl := (List.getElem?_eq_some_iff.1 hk).1
 have hj14 : j < 14 := by have := (List.getElem?_eq_some_iff.1 hj).1; rwa [entC_length] at this
 have hd : L.drop k = e :: L.drop (k + 1) := by
  rw [List.drop_eq_getElem_cons hkl]
  congr 1
  exact (List.getElem?_eq_some_iff.1 hk).2
 have h : cellsE L = cellsE (L.take k) ++ (entC e ++ cellsE (L.drop (k + 1))) := by rw [← cellsE_cons, ← hd, ← cellsE_append, List.take_append_drop]
 have hl : (cellsE (L.take k)).length = k * 14 := by rw [cellsE_length, List.length_take]; congr 1; omega
 rw [h, List.getElem?_append_right (by omega), hl, Nat.add_sub_cancel_left, List.getElem?_append_left (by rw [entC_length]; exact hj14)]
 exact hj
def sumE (L : List Ett) : Nat := (L.map fun e => (itemB e.x).length).sum
theorem sumE_append (a b : List Ett) : sumE (a ++ b) = sumE a + sumE b := by simp [sumE]
theorem sumE_cons (e : Ett) (L : List Ett) : sumE (e :: L) = (itemB e.x).length + sumE L := by simp [sumE]
structure Sp where
 q : Nat
 n : Nat
 a : Nat
 v : Nat
 h : Nat → Nat
structure EntOk (w : World) (S : Nat → Prop) (e : Ett) : Prop where
 ok : OkI e.x
 sh : ShortI e.x
 ln : e.x.l.length ≤ 1000
 lb : (itemB e.x).length ≤ 100000
 ix : e.i < 18446744073709551616
 nil : e.A = none → e.x.l.length = 0
 rd : RdP w w.heap.size e.A e.x.l
 ap : ∀ a, e.A = some a → 0 < e.x.l.length → ¬ S a.block
structure SpC (w : World) (s : Nat) (X : Sp) (u : Nat) (v : Value) : Prop where
 blk : ∃ cs, w.heap[s]? = some (.cells cs 121 (0, 0)) ∧ cs.size = 38
 c0 : w.cell? ⟨s, 0, none⟩ = some (.int .i64 X.q)
 c1 : w.cell? ⟨s, 1, none⟩ = some (.int .i64 u)
 c2 : w.cell? ⟨s, 2, none⟩ = some (.int .u64 X.n)
 c3 : w.cell? ⟨s, 3, none⟩ = some (.int .u64 X.a)
 c4 : w.cell? ⟨s, 4, none⟩ = some (.int .u64 X.v)
 hi : ∀ i, i < 32 → w.cell? ⟨s, 5 + i, none⟩ = some (.int .u64 (X.h i))
 c37 : w.cell? ⟨s, 37, none⟩ = some v
structure SpR (w : World) (S : Nat → Prop) (s : Nat) (v : Value) (L : List Ett) : Prop where
 own : w.ownsRow 0 74 14 v L.length (cellsE L)
 vs : v.ownBlock ≠ some s
 vS : ∀ i, v.ownBlock = some i → S i
structure SpAt (w : World) (S : Nat → Prop) (s : Nat) (X : Sp) (L : List Ett) : Prop where
 sp : ∃ v, SpC w s X (sumE L) v ∧ SpR w S s v L
 sS : S s
 lt : ∀ k, S k → k < w.heap.size
 few : L.length ≤ 100000
 ent : ∀ e ∈ L, EntOk w S e
 q : X.q ≤ 65536
section
variable {w w' : World} {S S' T : Nat → Prop} {s u : Nat} {X : Sp} {v : Value} {L : List Ett} {e : Ett}
theorem SpC.only (h : SpC w s X u v) (ho : Only T w w') (hs : s < w.heap.size) (hT : ¬ T s) : SpC w' s X u v := by
 obtain ⟨cs, hc, hz⟩ := h.blk
 exact ⟨⟨cs, (ho.block s hs hT).trans hc, hz⟩, (ho.cell (p := ⟨s, 0, none⟩) hs hT).trans h.c0, (ho.cell (p := ⟨s, 1, none⟩) hs hT).trans h.c1, (ho.cell (p := ⟨s, 2, none⟩) hs hT).trans h.c2, (ho.cell (p := ⟨s, 3, none⟩) hs hT).trans h.c3, (ho.cell (p := ⟨s, 4, none⟩) hs hT).trans h.c4, fun i hi => (ho.cell (p := ⟨s, 5 + i, none⟩) hs hT).trans (h.hi i hi), (ho.cell (p := ⟨s, 37, none⟩) hs hT).trans h.c37⟩
theorem SpC.slt (h : SpC w s X u v) : s < w.heap.size := by
 obtain ⟨cs, hc, _⟩ := h.blk
 exact (Array.getElem?_eq_some_iff.1 hc).1
theorem SpC.fz (h : SpC w s X u v) (k : Nat) : w.frozen? ⟨s, k, none⟩ = false := by
 obtain ⟨cs, hc, _⟩ := h.blk
 simp [World.frozen?, hc]
theorem rdP_lt {B : Nat} {A : Option Addr} {l : List Pr} (h : RdP w B A l) {a : Addr} (ha : A = some a) (h0 : 0 < l.length) : a.block < B := by
 obtain ⟨b, o, e, hb, _⟩ := h h0
 rw [ha] at e
 injection e with e
 rw [e]; exact hb
theorem Only.rdP {A : Option Addr} {l : List Pr} (ho : Only T w w') (h : RdP w w.heap.size A l) (hT : ∀ a, A = some a → 0 < l.length → ¬ T a.block) : RdP w' w'.heap.size A l := fun h0 => by
 obtain ⟨b, o, e, hb, hc⟩ := h h0
 refine ⟨b, o, e, Nat.lt_of_lt_of_le hb ho.size, fun i p hp => ?_⟩
 have hne := hT _ e h0
 exact ⟨(ho.cell (p := ⟨b, o + i * 2, none⟩) hb hne).trans (hc i p hp).1, (ho.cell (p := ⟨b, o + i * 2 + 1, none⟩) hb hne).trans (hc i p hp).2⟩
theorem EntOk.only (h : EntOk w S e) (ho : Only T w w') (hT : ∀ a, e.A = some a → 0 < e.x.l.length → ¬ T a.block) (hS : ∀ k, S' k → S k ∨ w.heap.size ≤ k) : EntOk w' S' e :=
 ⟨h.ok, h.sh, h.ln, h.lb, h.ix, h.nil, ho.rdP h.rd hT, fun a ha h0 hs => (hS _ hs).elim (h.ap a ha h0) (fun h' => by have := rdP_lt h.rd ha h0; omega)⟩
theorem EntOk.step (h : EntOk w S e) (hs : Step w S w' S') : EntOk w' S' e := h.only hs.only h.ap hs.new
theorem EntOk.below (h : EntOk w S e) (hb : Below w.heap.size w w') : EntOk w' S e := h.only (T := fun _ => False) (Only.of_below hb _) (fun _ _ _ h => h) (fun _ h => .inl h)
theorem SpR.only (h : SpR w S s v L) (ho : Only T w w') (hT : ∀ k, S k → ¬ T k) : SpR w' S s v L := ⟨ho.own h.own (fun k hk => hT k (h.vS k hk)), h.vs, h.vS⟩
theorem SpR.below (h : SpR w S s v L) (hb : Below w.heap.size w w') : SpR w' S s v L := h.only (T := fun _ => False) (Only.of_below hb _) (fun _ _ h => h)
theorem SpC.below (h : SpC w s X u v) (hb : Below w.heap.size w w') : SpC w' s X u v := h.only (T := fun _ => False) (Only.of_below hb _) h.slt (fun h => h)
theorem SpAt.keep (h : SpAt w S s X L) (ho : Only T w w') (hT : ∀ k, S k → ¬ T k) (hE : ∀ e ∈ L, ∀ a, e.A = some a → 0 < e.x.l.length → ¬ T a.block) : SpAt w' S s X L := by
 obtain ⟨v, h1, h2⟩ := h.sp
 exact ⟨⟨v, h1.only ho h1.slt (hT s h.sS), h2.only ho hT⟩, h.sS, fun k hk => Nat.lt_of_lt_of_le (h.lt k hk) ho.size, h.few, fun e he => (h.ent e he).only ho (hE e he) (fun _ h => .inl h), h.q⟩
theorem SpAt.below (h : SpAt w S s X L) (hb : Below w.heap.size w w') : SpAt w' S s X L := h.keep (T := fun _ => False) (Only.of_below hb _) (fun _ _ h => h) (fun _ _ _ _ _ h => h)
theorem SpR.at_ {k : Nat} (h : SpR w S s v L) (hk : L[k]? = some e) : ∃ b c, v = .slice (some ⟨b, 0, none⟩) L.length c ∧ b < w.heap.size ∧ b ≠ s ∧ S b ∧ w.rangeAt b (k * 14) (entC e) ∧ w.rangeAt b (k * 14 + 1) (itC e.x e.A e.c) := by
 have hkl := (List.getElem?_eq_some_iff.1 hk).1
 obtain ⟨b, c, hv, _, hlt⟩ := h.own.form (by omega)
 subst hv
 have hc : ∀ (j : Nat) u, (entC e)[j]? = some u → w.cell? ⟨b, k * 14 + j, none⟩ = some u := fun j u hj => by
  have := h.own.cells (g := b) rfl _ _ (cellsE_get hk hj)
  rw [Addr.add_lit, Nat.zero_add] at this
  exact this
 refine ⟨b, c, rfl, hlt, fun e => h.vs (by rw [e]; rfl), h.vS b rfl, hc, fun j u hj => ?_⟩
 have := hc (j + 1) u hj
 rw [show k * 14 + 1 + j = k * 14 + (j + 1) by omega]
 exact this
end
theorem sumE_bound : ∀ {L : List Ett}, (∀ e ∈ L, (itemB e.x).length ≤ 100000) → sumE L ≤ 100000 * L.length
 | [], _ => by simp [sumE]
 | e :: L, h => by
   have h1 := h e List.mem_cons_self
   have h2 := sumE_bound (L := L) fun x hx => h x (List.mem_cons_of_mem _ hx)
   rw [sumE_cons, List.length_cons]
   omega
theorem sumE_le {w : World} {S : Nat → Prop} {s : Nat} {X : Sp} {L : List Ett} (h : SpAt w S s X L) : sumE L ≤ 10000000000 := by
 have := sumE_bound fun e he => (h.ent e he).lb
 have := h.few
 omega
theorem Tryz.infoEn : (Tryz.prog.info? 74).map (·.size) = some 14 := by kernel_rfl
theorem Tryz.infoIt : (Tryz.prog.info? 47).map (·.size) = some 13 := by kernel_rfl
theorem Tryz.infoSp : (Tryz.prog.info? 121).map (·.size) = some 38 := by kernel_rfl
set_option maxRecDepth 100000 in
set_option maxHeartbeats 400000 in
theorem snew_any (z : Nat) (h1 : 64 ≤ z) (h2 : z ≤ 65536) (w : World) :
  Calls Tryz.prog 31 #[.int .i64 z] w fun e w' => e = .returned (.tuple #[.pointer (some ⟨w.heap.size, 0, none⟩), .int .i64 0]) ∧ SpAt w' (fun k => k = w.heap.size) w.heap.size ⟨z, 1, 0, 0, fun _ => 0⟩ [] ∧ Below w.heap.size w w' := by
 go_enter Tryz.func31, Tryz.ntmps31
 have d1 : decide ((z : Int) < 64) = false := decide_eq_false (by omega)
 have d2 : decide ((65536 : Int) < z) = false := decide_eq_false (by omega)
 go_wp2
 go_ret2
 refine ⟨rfl, ⟨⟨_, ⟨⟨_, heap_alloc_new _ _, rfl⟩, by rw [World.cell?_alloc_at _ _ _ _ rfl]; rfl, by rw [World.cell?_alloc_at _ _ _ _ rfl]; rfl, by rw [World.cell?_alloc_at _ _ _ _ rfl]; rfl, by rw [World.cell?_alloc_at _ _ _ _ rfl]; rfl, by rw [World.cell?_alloc_at _ _ _ _ rfl]; rfl, fun i hi => match i, hi with
   | 0, _ => by rw [World.cell?_alloc_at _ _ _ _ rfl]; rfl
   | 1, _ => by rw [World.cell?_alloc_at _ _ _ _ rfl]; rfl
   | 2, _ => by rw [World.cell?_alloc_at _ _ _ _ rfl]; rfl
   | 3, _ => by rw [World.cell?_alloc_at _ _ _ _ rfl]; rfl
   | 4, _ => by rw [World.cell?_alloc_at _ _ _ _ rfl]; rfl
   | 5, _ => by rw [World.cell?_alloc_at _ _ _ _ rfl]; rfl
   | 6, _ => by rw [World.cell?_alloc_at _ _ _ _ rfl]; rfl
   | 7, _ => by rw [World.cell?_alloc_at _ _ _ _ rfl]; rfl
   | 8, _ => by rw [World.cell?_alloc_at _ _ _ _ rfl]; rfl
   | 9, _ => by rw [World.cell?_alloc_at _ _ _ _ rfl]; rfl
   | 10, _ => by rw [World.cell?_alloc_at _ _ _ _ rfl]; rfl
   | 11, _ => by rw [World.cell?_alloc_at _ _ _ _ rfl]; rfl
   | 12, _ => by rw [World.cell?_alloc_at _ _ _ _ rfl]; rfl
   | 13, _ => by rw [World.cell?_alloc_at _ _ _ _ rfl]; rfl
   | 14, _ => by rw [World.cell?_alloc_at _ _ _ _ rfl]; rfl
   | 15, _ => by rw [World.cell?_alloc_at _ _ _ _ rfl]; rfl
   | 16, _ => by rw [World.cell?_alloc_at _ _ _ _ rfl]; rfl
   | 17, _ => by rw [World.cell?_alloc_at _ _ _ _ rfl]; rfl
   | 18, _ => by rw [World.cell?_alloc_at _ _ _ _ rfl]; rfl
   | 19, _ => by rw [World.cell?_alloc_at _ _ _ _ rfl]; rfl
   | 20, _ => by rw [World.cell?_alloc_at _ _ _ _ rfl]; rfl
   | 21, _ => by rw [World.cell?_alloc_at _ _ _ _ rfl]; rfl
   | 22, _ => by rw [World.cell?_alloc_at _ _ _ _ rfl]; rfl
   | 23, _ => by rw [World.cell?_alloc_at _ _ _ _ rfl]; rfl
   | 24, _ => by rw [World.cell?_alloc_at _ _ _ _ rfl]; rfl
   | 25, _ => by rw [World.cell?_alloc_at _ _ _ _ rfl]; rfl
   | 26, _ => by rw [World.cell?_alloc_at _ _ _ _ rfl]; rfl
   | 27, _ => by rw [World.cell?_alloc_at _ _ _ _ rfl]; rfl
   | 28, _ => by rw [World.cell?_alloc_at _ _ _ _ rfl]; rfl
   | 29, _ => by rw [World.cell?_alloc_at _ _ _ _ rfl]; rfl
   | 30, _ => by rw [World.cell?_alloc_at _ _ _ _ rfl]; rfl
   | 31, _ => by rw [World.cell?_alloc_at _ _ _ _ rfl]; rfl
   | n + 32, h => absurd h (by omega), by rw [World.cell?_alloc_at _ _ _ _ rfl]; rfl⟩, World.ownsRow_nil _ _ _ _, by simp [Value.ownBlock], fun i hi => by simp [Value.ownBlock] at hi⟩, rfl, fun k hk => by rw [hk]; simp, by decide, fun e he => (by cases he), h2⟩, (Below.refl _ _).alloc (Nat.le_refl _) _⟩
set_option maxRecDepth 100000 in
set_option maxHeartbeats 400000 in
theorem sfits_any {S : Nat → Prop} {s : Nat} {X : Sp} {L : List Ett} (k : Nat) (hk : k ≤ 1000000) (w : World) (h : SpAt w S s X L) :
  Calls Tryz.prog 69 #[.pointer (some ⟨s, 0, none⟩), .int .i64 k] w fun e w' => e = .returned (.bool (decide (sumE L + k ≤ X.q))) ∧ Below w.heap.size w w' := by
 obtain ⟨v, h1, h2⟩ := h.sp
 have c0 := h1.c0
 have c1 := h1.c1
 go_enter Tryz.func69, Tryz.ntmps69
 have hq := h.q
 have hs := sumE_le h
 obtain ⟨u, hu⟩ : ∃ u, u = sumE L := ⟨_, rfl⟩
 obtain ⟨q, hqq⟩ : ∃ q, q = X.q := ⟨_, rfl⟩
 rw [← hu] at c1 hs ⊢
 rw [← hqq] at c0 hq ⊢
 have hw1 : IntKind.i64.wrap ((u : Int) + (k : Int)) = ((u + k : Nat) : Int) := by rw [IntKind.wrap_i64]; omega
 have hd : decide ((u : Int) + (k : Int) ≤ (q : Int)) = decide (u + k ≤ q) := by congr 1; exact propext ⟨fun h => by omega, fun h => by omega⟩
 clear hu hqq hs h h1 h2
 go_wp2
 go_quiet (fail)
 go_wp2
 go_ret
 exact ⟨rfl, cbelow_drewN (Below.refl _ _) _⟩
set_option maxRecDepth 100000 in
set_option maxHeartbeats 400000 in
theorem lowest_any (a b : Nat) (w : World) :
  Calls Tryz.prog 73 #[.int .u64 a, .int .u64 b] w fun e w' => e = .returned (.int .u64 ((if a = 0 ∨ b = 0 then max a b else min a b : Nat) : Int)) ∧ w = w' := by
 go_enter Tryz.func73, Tryz.ntmps73
 by_cases ha : a = 0
 ·subst ha
  go_wp2
  go_ret
  exact ⟨by simp, rfl⟩
 ·by_cases hb : b = 0
  ·subst hb
   have d1 : ((a : Int) == 0) = false := by simp; omega
   go_wp2
   go_ret
   exact ⟨by simp, rfl⟩
  ·have d1 : ((a : Int) == 0) = false := by simp; omega
   have d2 : ((b : Int) == 0) = false := by simp; omega
   go_wp2
   go_ret
   exact ⟨by simp; omega, rfl⟩
set_option maxRecDepth 100000 in
set_option maxHeartbeats 400000 in
theorem high_any {S : Nat → Prop} {s : Nat} {X : Sp} {L : List Ett} (o : Nat) (ho : o < 32) (w : World) (h : SpAt w S s X L) :
  Calls Tryz.prog 24 #[.pointer (some ⟨s, 0, none⟩), .int .u8 o] w fun e w' => e = .returned (.int .u64 (X.h o)) ∧ w = w' := by
 obtain ⟨v, h1, h2⟩ := h.sp
 have c5 := h1.hi o ho
 go_enter Tryz.func24, Tryz.ntmps24
 have d1 : decide ((32 : Int) ≤ o) = false := decide_eq_false (by omega)
 go_wp2
 go_ret
 exact ⟨rfl, rfl⟩
def RdE (w : World) (A : Option Addr) (L : List Ett) : Prop :=
 0 < L.length → ∃ b o, A = some ⟨b, o, none⟩ ∧ b < w.heap.size ∧ ∀ (k : Nat) e, L[k]? = some e → w.rangeAt b (o + k * 14) (entC e) ∧ w.rangeAt b (o + k * 14 + 1) (itC e.x e.A e.c)
def OkE (w : World) (L : List Ett) : Prop := ∀ e ∈ L, EntOk w (fun _ => False) e
theorem rangeAt_below {w w' : World} {b o : Nat} {cs : List Value} (h : w.rangeAt b o cs) (hb : b < w.heap.size) (hw : Below w.heap.size w w') : w'.rangeAt b o cs := fun j v hv => (hw.cell (p := ⟨b, o + j, none⟩) hb).trans (h j v hv)
theorem RdE.below {w w' : World} {A : Option Addr} {L : List Ett} (h : RdE w A L) (hb : Below w.heap.size w w') : RdE w' A L := fun h0 => by
 obtain ⟨b, o, e, hl, hc⟩ := h h0
 exact ⟨b, o, e, Nat.lt_of_lt_of_le hl hb.size, fun k x hx => ⟨rangeAt_below (hc k x hx).1 hl hb, rangeAt_below (hc k x hx).2 hl hb⟩⟩
theorem OkE.below {w w' : World} {L : List Ett} (h : OkE w L) (hb : Below w.heap.size w w') : OkE w' L := fun e he => (h e he).below hb
theorem act_put_no (a : Act) (v : Value) : a.put none v = a := rfl
theorem rangeAt_row {w : World} {g : Nat} {cs : List Value} {t : TypeId} {fr : Nat × Nat} (h : w.heap[g]? = some (.cells cs.toArray t fr)) (o : Nat) : w.rangeAt g o (cs.drop o) := fun j v hv => by
 rw [List.getElem?_drop] at hv
 simp [World.cell?, h, hv]
theorem boxE (W : World) (Z : Array Value) (e : Ett) : ∃ V, V = (W.alloc (.cells Z 74)).setRow W.heap.size (entC e).toArray ∧ V.heap[W.heap.size]? = some (.cells (entC e).toArray 74 (0, 0)) ∧ Below W.heap.size W V ∧
  V.rangeAt W.heap.size 1 (itC e.x e.A e.c) ∧ W.heap.size < V.heap.size := by
 have h := setRow_heap (W.alloc (.cells Z 74)) W.heap.size Z (entC e).toArray _ _ (heap_alloc_new _ _)
 refine ⟨_, rfl, h, below_setRow ((Below.refl _ _).alloc (Nat.le_refl _) _) (Nat.le_refl _) _, rangeAt_row h 1, (Array.getElem?_eq_some_iff.1 h).1⟩
set_option maxRecDepth 100000 in
set_option maxHeartbeats 1000000 in
theorem sizes_any (A : Option Addr) (n c : Nat) (L : List Ett) (w : World) (hn : n = L.length) (hm : n ≤ 100000) (hr : RdE w A L) (hok : OkE w L) :
  Calls Tryz.prog 137 #[.slice A n c] w fun e w' => e = .returned (.int .i64 (sumE L)) ∧ Below w.heap.size w w' := by
 have HN := Lib.hid hn
 have HR := Lib.hid hr
 have HO := Lib.hid hok
 clear hn hr hok
 go_enter Tryz.func137, Tryz.ntmps137
 go_wp2
 go_loopw [3, 8] (fun nv iv wx => ∃ k : Nat, k ≤ n ∧ iv = .int .i64 k ∧ nv = .int .i64 ((sumE (L.take k) : Nat) : Int) ∧ Hid (Below w.heap.size w wx)) (fun _ iv _ => n - (intOf iv).toNat)
 case atStart => exact ⟨0, Nat.zero_le _, rfl, rfl, Below.refl _ _⟩
 case round =>
  obtain ⟨k, hk, rfl, rfl, HB⟩ := hrel
  by_cases hlt : k < n
  ·obtain ⟨e, he⟩ : ∃ e, L[k]? = some e := ⟨L[k]'(by rw [← HN.out]; exact hlt), List.getElem?_eq_getElem _⟩
   obtain ⟨b, o, rfl, hb, hc⟩ := HR.out (by rw [← HN.out]; omega)
   have hrg := rangeAt_below (hc k e he).1 hb HB.out
   have hq := (HO.out e (List.mem_iff_getElem?.2 ⟨k, he⟩)).below HB.out
   have He := Lib.hid he
   have HQ := Lib.hid hq
   clear hc he hq
   go_upto_region 5 with (first
    | (refine wpList_load_mid rfl _ _ rfl b (o + k * 14) rfl (entC e) _ hrg Tryz.underlying74 rfl Tryz.infoEn ?_)
    | (refine wpList_store_row rfl _ _ _ rfl wr.heap.size _ rfl rfl _ _ (heap_alloc_new _ _) Tryz.infoEn rfl (by simp [Value.oneCell', entC, itC]) ?_)
    | fail)
   obtain ⟨V, hV, -, hbV, hrV, -⟩ := boxE wr _ e
   rw [← hV, act_put_no]
   have hq2 := HQ.out.below hbV
   have HB2 := Lib.hid (HB.out.trans (hbV.mono HB.out.size))
   have hT := size_any e.x e.A e.x.l.length e.c hq2.ok hq2.sh rfl (by have := hq2.ln; omega) V (by have := hq2.lb; omega) hq2.rd
   have HT := Lib.hid hT
   have hs1 : sumE (L.take (k + 1)) = sumE (L.take k) + (itemB e.x).length := by
    rw [List.take_add_one, He.out, sumE_append]
    simp [sumE]
   have hs2 : sumE (L.take k) ≤ 100000 * k := by
    have := sumE_bound (L := L.take k) fun x hx => (HO.out x (List.mem_of_mem_take hx)).lb
    rw [List.length_take] at this
    omega
   obtain ⟨s0, hs0⟩ : ∃ s0, s0 = sumE (L.take k) := ⟨_, rfl⟩
   obtain ⟨z, hz⟩ : ∃ z, z = (itemB e.x).length := ⟨_, rfl⟩
   have hz2 := hq2.lb
   rw [← hs0] at hs1 hs2 ⊢
   rw [← hz] at hs1 hz2 HT
   have Hs1 := Lib.hid hs1
   have hw : IntKind.i64.wrap ((s0 : Int) + (z : Int)) = ((s0 + z : Nat) : Int) := by rw [IntKind.wrap_i64]; omega
   clear hV hbV hq2 hT hs0 hz hrg HQ HB hs1
   go_wp2_with (first | (refine wpList_load_mid rfl _ _ rfl wr.heap.size 1 rfl (itC e.x e.A e.c) _ hrV Tryz.underlying47 rfl Tryz.infoIt ?_) | fail)
   refine HT.out.mono ?_
   rintro e' w4 ⟨rfl, hb4⟩
   have HB4 := Lib.hid (HB2.out.trans (hb4.mono HB2.out.size))
   clear hb4 hrV HT
   go_wp2
   go_roundw
   case rel => exact ⟨k + 1, by omega, by go_num, by rw [Hs1.out, Int.natCast_add], HB4.out⟩
   case measure => simp [intOf]; omega
  ·obtain rfl : k = n := by omega
   rw [List.take_of_length_le (by rw [← HN.out]; exact Nat.le_refl _)]
   go_wp2
   go_ret
   exact ⟨rfl, HB.out⟩
def prioE (L : List Ett) (f : Nat) : Nat := (L[f]?.map fun e => e.x.p).getD 0
def leastK (L : List Ett) : Nat → Option Nat
 | 0 => none
 | k + 1 => match L[k]? with
   | none => leastK L k
   | some e => if lastB e.x then leastK L k else match leastK L k with
     | none => some k
     | some f => if e.x.p < prioE L f then some k else some f
def idxV : Option Nat → Value
 | none => .int .i64 (-1)
 | some k => .int .i64 k
theorem leastK_some {L : List Ett} : ∀ {k f : Nat}, leastK L k = some f → f < k ∧ ∃ e, L[f]? = some e ∧ lastB e.x = false
 | 0, f, h => by simp [leastK] at h
 | k + 1, f, h => by
   unfold leastK at h
   cases he : L[k]? with
   | none => rw [he] at h; have := leastK_some (k := k) h; exact ⟨by omega, this.2⟩
   | some e =>
     rw [he] at h
     simp only at h
     by_cases hl : lastB e.x = true
     ·rw [if_pos hl] at h; have := leastK_some (k := k) h; exact ⟨by omega, this.2⟩
     ·rw [if_neg hl] at h
      have hl : lastB e.x = false := by simpa using hl
      cases hf : leastK L k with
      | none => rw [hf] at h; simp at h; subst h; exact ⟨by omega, e, he, hl⟩
      | some f' =>
        rw [hf] at h
        simp only at h
        by_cases hp : e.x.p < prioE L f'
        ·rw [if_pos hp] at h; simp at h; subst h; exact ⟨by omega, e, he, hl⟩
        ·rw [if_neg hp] at h; simp at h; subst h; have := leastK_some (k := k) hf; exact ⟨by omega, this.2⟩
theorem SpAt.rows {w : World} {S : Nat → Prop} {s : Nat} {X : Sp} {L : List Ett} (_ : SpAt w S s X L) {v : Value} (h2 : SpR w S s v L) : ∃ A c, v = .slice A L.length c ∧ (0 < L.length → ∃ b, A = some ⟨b, 0, none⟩ ∧ b < w.heap.size ∧ ∀ (k : Nat) e, L[k]? = some e → w.rangeAt b (k * 14) (entC e) ∧ w.rangeAt b (k * 14 + 1) (itC e.x e.A e.c)) := by
 by_cases h0 : 0 < L.length
 ·obtain ⟨b, c, hv, hb, _⟩ := h2.at_ (List.getElem?_eq_getElem h0)
  refine ⟨_, c, hv, fun _ => ⟨b, rfl, hb, fun k e hk => ?_⟩⟩
  obtain ⟨b', c', hv', _, _, _, q1, q2⟩ := h2.at_ hk
  rw [hv] at hv'
  injection hv' with hv'
  injection hv' with hv'
  have e : b = b' := congrArg Addr.block hv'
  subst e
  exact ⟨q1, q2⟩
 ·have hl : L.length = 0 := by omega
  obtain ⟨A, c, hv⟩ := own_slice h2.own
  exact ⟨A, c, hv, fun h => absurd h h0⟩
set_option maxRecDepth 100000 in
set_option maxHeartbeats 1000000 in
theorem least_any {S : Nat → Prop} {s : Nat} {X : Sp} {L : List Ett} (w : World) (h : SpAt w S s X L) :
  Calls Tryz.prog 112 #[.pointer (some ⟨s, 0, none⟩)] w fun e w' => e = .returned (idxV (leastK L L.length)) ∧ Below w.heap.size w w' := by
 obtain ⟨v, h1, h2⟩ := h.sp
 obtain ⟨A, c, rfl, hrow⟩ := h.rows h2
 obtain ⟨n, hn⟩ : ∃ n, n = L.length := ⟨_, rfl⟩
 have hfew := h.few
 rw [← hn] at h1 hrow hfew ⊢
 have c37 := h1.c37
 have HN := Lib.hid hn
 have HR := Lib.hid hrow
 have HC : Hid (∀ W, Below w.heap.size w W → W.cell? ⟨s, 37, none⟩ = some (.slice A n c)) := fun W hW => (hW.cell (p := ⟨s, 37, none⟩) h1.slt).trans h1.c37
 have HE : Hid (∀ e ∈ L, e.x.p < 256) := fun e he => (h.ent e he).ok.p
 clear hn hrow h1 h2 h
 go_enter Tryz.func112, Tryz.ntmps112
 go_wp2
 clear c37
 go_loopw [3, 12] (fun fv iv wx => ∃ k : Nat, k ≤ n ∧ iv = .int .i64 k ∧ fv = idxV (leastK L k) ∧ Hid (Below w.heap.size w wx)) (fun _ iv _ => n - (intOf iv).toNat)
 case atStart => exact ⟨0, Nat.zero_le _, rfl, rfl, Below.refl _ _⟩
 case round =>
  obtain ⟨k, hk, rfl, rfl, HB⟩ := hrel
  by_cases hlt : k < n
  ·obtain ⟨e, he⟩ : ∃ e, L[k]? = some e := ⟨L[k]'(by rw [← HN.out]; exact hlt), List.getElem?_eq_getElem _⟩
   obtain ⟨b, rfl, hb, hc⟩ := HR.out (by omega)
   have hrg := rangeAt_below (hc k e he).1 hb HB.out
   have He := Lib.hid he
   have hnext : leastK L (k + 1) = if lastB e.x then leastK L k else match leastK L k with
    | none => some k
    | some f => if e.x.p < prioE L f then some k else some f := by rw [leastK, he]
   have Hnext := Lib.hid hnext
   clear he hnext
   go_upto_region 5 with (first
    | (refine wpList_load_mid rfl _ _ rfl b (k * 14) rfl (entC e) _ hrg Tryz.underlying74 rfl Tryz.infoEn ?_)
    | (refine wpList_store_row rfl _ _ _ rfl wr.heap.size _ rfl rfl _ _ (heap_alloc_new _ _) Tryz.infoEn rfl (by simp [Value.oneCell', entC, itC]) ?_)
    | fail)
   obtain ⟨V, hV, -, hbV, hrV, -⟩ := boxE wr _ e
   rw [← hV, act_put_no]
   have HB2 := Lib.hid (HB.out.trans (hbV.mono HB.out.size))
   have x8 : V.cell? ⟨wr.heap.size, 8, none⟩ = some (.int .u8 e.x.p) := hrV 7 _ rfl
   have X8 := Lib.hid x8
   clear hV hbV hrg x8
   go_wp2_with (first | (refine wpList_load_mid rfl _ _ rfl wr.heap.size 1 rfl (itC e.x e.A e.c) _ hrV Tryz.underlying47 rfl Tryz.infoIt ?_) | fail)
   refine (lasts_any e.x e.A e.x.l.length e.c V).mono ?_
   rintro e' w4 ⟨rfl, hb4⟩
   have hV0 : wr.heap.size < V.heap.size := World.block_lt_of_cell? V _ X8.out
   have x8 := (hb4.cell (p := ⟨wr.heap.size, 8, none⟩) hV0).trans X8.out
   have HB4 := Lib.hid (HB2.out.trans (hb4.mono HB2.out.size))
   clear hb4 hrV hV0
   by_cases hl : lastB e.x = true
   ·rw [hl]
    go_wp2
    go_roundw
    case rel => exact ⟨k + 1, by omega, by go_num, by rw [Hnext.out, if_pos hl], HB4.out⟩
    case measure => simp [intOf]; omega
   ·have hl : lastB e.x = false := by simpa using hl
    have hl2 : ¬ lastB e.x = true := by rw [hl]; decide
    rw [hl]
    cases hf : leastK L k with
    | none =>
      rw [hf] at Hnext
      unfold idxV
      go_wp2
      go_quiet (fail)
      go_wp2
      go_roundw
      case rel => exact ⟨k + 1, by omega, by go_num, by rw [Hnext.out, if_neg hl2]; rfl, cbelow_drewN HB4.out _⟩
      case measure => simp [intOf]; omega
    | some f =>
      obtain ⟨hfk, ef, hef, -⟩ := leastK_some hf
      obtain ⟨b2, hb2, -, hc2⟩ := HR.out (by omega)
      injection hb2 with hb2
      have hb2 : b = b2 := congrArg Addr.block hb2
      subst hb2
      have y8 := (HB4.out.cell (p := ⟨b, f * 14 + 8, none⟩) hb).trans ((hc2 f ef hef).1 8 _ rfl)
      have c37 := HC.out w4 HB4.out
      have hp : prioE L f = ef.x.p := by unfold prioE; rw [hef]; rfl
      have Hn2 : Hid (leastK L (k + 1) = if e.x.p < ef.x.p then some k else some f) := by
       show _ = _
       rw [Hnext.out, if_neg hl2, hf]
       simp only
       rw [hp]
      have d1 : decide ((f : Int) < 0) = false := decide_eq_false (by omega)
      clear hc2 hef hp hf
      by_cases hlt2 : e.x.p < ef.x.p
      ·have d2 : decide ((e.x.p : Int) < (ef.x.p : Int)) = true := decide_eq_true (by omega)
       unfold idxV
       go_wp2
       go_quiet (fail)
       go_wp2
       go_roundw
       case rel => exact ⟨k + 1, by omega, by go_num, by rw [Hn2.out, if_pos hlt2]; rfl, cbelow_drewN HB4.out _⟩
       case measure => simp [intOf]; omega
      ·have d2 : decide ((e.x.p : Int) < (ef.x.p : Int)) = false := decide_eq_false (by omega)
       unfold idxV
       go_wp2
       go_quiet (fail)
       go_wp2
       go_roundw
       case rel => exact ⟨k + 1, by omega, by go_num, by rw [Hn2.out, if_neg hlt2]; rfl, cbelow_drewN HB4.out _⟩
       case measure => simp [intOf]; omega
  ·obtain rfl : k = n := by omega
   go_wp2
   go_ret
   exact ⟨rfl, HB.out⟩
def nextK (L : List Ett) (o k : Nat) : Option Nat := if h : k < L.length then (if spO L[k].x = o then some k else nextK L o (k + 1)) else none
termination_by L.length - k
def prevK (L : List Ett) (o : Nat) : Nat → Option Nat
 | 0 => none
 | k + 1 => if (L[k]?.map fun e => spO e.x) = some o then some k else prevK L o k
theorem nextK_end {L : List Ett} {o k : Nat} (h : L.length ≤ k) : nextK L o k = none := by
 unfold nextK
 rw [dif_neg (by omega)]
theorem nextK_at {L : List Ett} {o k : Nat} {e : Ett} (h : L[k]? = some e) : nextK L o k = if spO e.x = o then some k else nextK L o (k + 1) := by
 obtain ⟨h1, h2⟩ := List.getElem?_eq_some_iff.1 h
 conv => lhs; unfold nextK
 rw [dif_pos h1, h2]
theorem prevK_at {L : List Ett} {o k : Nat} {e : Ett} (h : L[k]? = some e) : prevK L o (k + 1) = if spO e.x = o then some k else prevK L o k := by
 conv => lhs; unfold prevK
 rw [h]
 simp
set_option maxRecDepth 100000 in
set_option maxHeartbeats 1000000 in
theorem near_up {S : Nat → Prop} {s p : Nat} {X : Sp} {L : List Ett} {e0 : Ett} (w : World) (h : SpAt w S s X L) (hp : L[p]? = some e0) :
  Calls Tryz.prog 115 #[.pointer (some ⟨s, 0, none⟩), .int .i64 p, .int .i64 1] w fun e w' => e = .returned (idxV (nextK L (spO e0.x) (p + 1))) ∧ Below w.heap.size w w' := by
 obtain ⟨v, h1, h2⟩ := h.sp
 obtain ⟨A, c, rfl, hrow⟩ := h.rows h2
 obtain ⟨n, hn⟩ : ∃ n, n = L.length := ⟨_, rfl⟩
 have hpl := (List.getElem?_eq_some_iff.1 hp).1
 have hfew := h.few
 rw [← hn] at h1 hrow hfew hpl
 obtain ⟨b, rfl, hb, hc⟩ := hrow (by omega)
 have c37 := h1.c37
 have hrg := (hc p e0 hp).2
 have HN := Lib.hid hn
 have HR := Lib.hid hc
 have HC : Hid (∀ W, Below w.heap.size w W → W.cell? ⟨s, 37, none⟩ = some (.slice (some ⟨b, 0, none⟩) n c)) := fun W hW => (hW.cell (p := ⟨s, 37, none⟩) h1.slt).trans h1.c37
 have hw1 : IntKind.i64.wrap ((p : Int) + 1) = ((p + 1 : Nat) : Int) := by rw [IntKind.wrap_i64]; omega
 clear hn hrow h1 h2 h hc hp
 go_enter Tryz.func115, Tryz.ntmps115
 go_wp2_with (first | (refine wpList_load_mid rfl _ _ rfl b (p * 14 + 1) rfl (itC e0.x e0.A e0.c) _ hrg Tryz.underlying47 rfl Tryz.infoIt ?_) | fail)
 refine (span_any e0.x e0.A e0.x.l.length e0.c w).mono ?_
 rintro e w1 ⟨rfl, hb1⟩
 have HB1 := Lib.hid hb1
 clear hb1 hrg c37
 go_wp2
 go_loopw [10] (fun av wx => ∃ k : Nat, p + 1 ≤ k ∧ k ≤ n ∧ av = .int .i64 k ∧ nextK L (spO e0.x) (p + 1) = nextK L (spO e0.x) k ∧ Hid (Below w.heap.size w wx)) (fun av _ => n - (intOf av).toNat)
 case atStart => exact ⟨p + 1, Nat.le_refl _, by omega, rfl, rfl, HB1.out⟩
 case round =>
  obtain ⟨k, hpk, hk, rfl, hnx, HB⟩ := hrel
  have Hnx := Lib.hid hnx
  have c37 := HC.out _ HB.out
  have d0 : decide ((0 : Int) ≤ (k : Int)) = true := decide_eq_true (by omega)
  clear hnx
  by_cases hlt : k < n
  ·obtain ⟨e, he⟩ : ∃ e, L[k]? = some e := ⟨L[k]'(by rw [← HN.out]; exact hlt), List.getElem?_eq_getElem _⟩
   have hrg := rangeAt_below (HR.out k e he).2 hb HB.out
   have Hat := Lib.hid (nextK_at (o := spO e0.x) he)
   have d1 : decide ((k : Int) < (n : Int)) = true := decide_eq_true (by omega)
   clear he
   go_wp2_with (first | (refine wpList_load_mid rfl _ _ rfl b (k * 14 + 1) rfl (itC e.x e.A e.c) _ hrg Tryz.underlying47 rfl Tryz.infoIt ?_) | fail)
   refine (span_any e.x e.A e.x.l.length e.c wr).mono ?_
   rintro e' w4 ⟨rfl, hb4⟩
   have HB4 := Lib.hid (HB.out.trans (hb4.mono HB.out.size))
   clear hb4 hrg c37
   by_cases ho : spO e.x = spO e0.x
   ·have d2 : ((spO e.x : Int) == (spO e0.x : Int)) = true := by simp [ho]
    go_wp2
    go_ret
    exact ⟨by rw [Hnx.out, Hat.out, if_pos ho]; rfl, HB4.out⟩
   ·have d2 : ((spO e.x : Int) == (spO e0.x : Int)) = false := by simp; omega
    go_wp2
    go_roundw
    case rel => exact ⟨k + 1, by omega, by omega, by go_num, by rw [Hnx.out, Hat.out, if_neg ho], HB4.out⟩
    case measure => simp [intOf]; omega
  ·obtain rfl : k = n := by omega
   have d1 : decide ((k : Int) < (k : Int)) = false := decide_eq_false (by omega)
   go_wp2
   go_ret
   exact ⟨by rw [Hnx.out, nextK_end (by rw [← HN.out]; exact Nat.le_refl _)]; rfl, HB.out⟩
set_option maxRecDepth 100000 in
set_option maxHeartbeats 1000000 in
theorem near_down {S : Nat → Prop} {s p : Nat} {X : Sp} {L : List Ett} {e0 : Ett} (w : World) (h : SpAt w S s X L) (hp : L[p]? = some e0) :
  Calls Tryz.prog 115 #[.pointer (some ⟨s, 0, none⟩), .int .i64 p, .int .i64 (-1)] w fun e w' => e = .returned (idxV (prevK L (spO e0.x) p)) ∧ Below w.heap.size w w' := by
 obtain ⟨v, h1, h2⟩ := h.sp
 obtain ⟨A, c, rfl, hrow⟩ := h.rows h2
 obtain ⟨n, hn⟩ : ∃ n, n = L.length := ⟨_, rfl⟩
 have hpl := (List.getElem?_eq_some_iff.1 hp).1
 have hfew := h.few
 rw [← hn] at h1 hrow hfew hpl
 obtain ⟨b, rfl, hb, hc⟩ := hrow (by omega)
 have c37 := h1.c37
 have hrg := (hc p e0 hp).2
 have HN := Lib.hid hn
 have HR := Lib.hid hc
 have HC : Hid (∀ W, Below w.heap.size w W → W.cell? ⟨s, 37, none⟩ = some (.slice (some ⟨b, 0, none⟩) n c)) := fun W hW => (hW.cell (p := ⟨s, 37, none⟩) h1.slt).trans h1.c37
 have hw1 : IntKind.i64.wrap ((p : Int) + -1) = (p : Int) - 1 := by rw [IntKind.wrap_i64]; omega
 clear hn hrow h1 h2 h hc hp
 go_enter Tryz.func115, Tryz.ntmps115
 go_wp2_with (first | (refine wpList_load_mid rfl _ _ rfl b (p * 14 + 1) rfl (itC e0.x e0.A e0.c) _ hrg Tryz.underlying47 rfl Tryz.infoIt ?_) | fail)
 refine (span_any e0.x e0.A e0.x.l.length e0.c w).mono ?_
 rintro e w1 ⟨rfl, hb1⟩
 have HB1 := Lib.hid hb1
 clear hb1 hrg c37
 go_wp2
 go_loopw [10] (fun av wx => ∃ k : Nat, k ≤ p ∧ av = .int .i64 ((k : Int) - 1) ∧ prevK L (spO e0.x) p = prevK L (spO e0.x) k ∧ Hid (Below w.heap.size w wx)) (fun av _ => (intOf av + 1).toNat)
 case atStart => exact ⟨p, Nat.le_refl _, rfl, rfl, HB1.out⟩
 case round =>
  obtain ⟨k, hpk, rfl, hnx, HB⟩ := hrel
  have Hnx := Lib.hid hnx
  have c37 := HC.out _ HB.out
  clear hnx
  cases k with
  | succ k =>
    have d0 : decide ((0 : Int) ≤ (k : Int)) = true := decide_eq_true (by omega)
    have hk1 : ((k + 1 : Nat) : Int) - 1 = (k : Int) := by omega
    rw [hk1]
    obtain ⟨e, he⟩ : ∃ e, L[k]? = some e := ⟨L[k]'(by rw [← HN.out]; omega), List.getElem?_eq_getElem _⟩
    have hrg := rangeAt_below (HR.out k e he).2 hb HB.out
    have Hat := Lib.hid (prevK_at (o := spO e0.x) he)
    have d1 : decide ((k : Int) < (n : Int)) = true := decide_eq_true (by omega)
    have hw2 : IntKind.i64.wrap ((k : Int) + -1) = (k : Int) - 1 := by rw [IntKind.wrap_i64]; omega
    clear he hk1
    go_wp2_with (first | (refine wpList_load_mid rfl _ _ rfl b (k * 14 + 1) rfl (itC e.x e.A e.c) _ hrg Tryz.underlying47 rfl Tryz.infoIt ?_) | fail)
    refine (span_any e.x e.A e.x.l.length e.c wr).mono ?_
    rintro e' w4 ⟨rfl, hb4⟩
    have HB4 := Lib.hid (HB.out.trans (hb4.mono HB.out.size))
    clear hb4 hrg c37
    by_cases ho : spO e.x = spO e0.x
    ·have d2 : ((spO e.x : Int) == (spO e0.x : Int)) = true := by simp [ho]
     go_wp2
     go_ret
     exact ⟨by rw [Hnx.out, Hat.out, if_pos ho]; rfl, HB4.out⟩
    ·have d2 : ((spO e.x : Int) == (spO e0.x : Int)) = false := by simp; omega
     go_wp2
     go_roundw
     case rel => exact ⟨k, by omega, by go_num, by rw [Hnx.out, Hat.out, if_neg ho], HB4.out⟩
     case measure => simp [intOf]
  | zero =>
    have d0 : decide ((0 : Int) ≤ ((0 : Nat) : Int) - 1) = false := by decide
    go_wp2
    go_ret
    exact ⟨by rw [Hnx.out]; rfl, HB.out⟩
end Go.Proofs.YtholdcgkhicdmaaGreatDoor