/- Several texts in one: SdMem, SdNew, Parts. -/
import Derived.Deep.MidRow
import Derived.Laws.Rows
import Derived.ArgAppend
import Derived.WalkKit
import Derived.WalkSpells
import Derived.Lib.Hide
import Derived.StillTailTactics
import Derived.RegionTactic
import Derived.BigRegion
import Derived.Deep.QuietTactic
import Derived.BigQuiet
import Derived.Test.YtocdhnlffemnhaaQa3
import Derived.Test.YtocdhnlffemnhaaQa5
import Derived.Test.YtocdhnlffemnhaaQa6
import Derived.Test.YtocdhnlffemnhaaQa7
import Derived.Test.YtocdhnlffemnhaaQa17
/- Layer 10: a sender in memory: its block, its row of flights. -/
namespace Go.Proofs.Ytocdhnlffemnhaa
open Go.RowKit

/-- a flight: its number, its index, when it is due, how long is waited; sent, came -/
structure Fg where
  q : Nat
  i : Nat
  d : Nat
  v : Nat
  s : Bool
  c : Bool
def flC (f : Fg) : List Value := [.int .u64 f.q, .int .u64 f.i, .int .u64 f.d, .int .u64 f.v, .bool f.s, .bool f.c]
def cellsF (L : List Fg) : List Value := L.flatMap flC
theorem flC_length (f : Fg) : (flC f).length = 6 := rfl
theorem cellsF_nil : cellsF [] = [] := rfl
theorem cellsF_cons (f : Fg) (L : List Fg) : cellsF (f :: L) = flC f ++ cellsF L := by simp [cellsF]
theorem cellsF_append (a b : List Fg) : cellsF (a ++ b) = cellsF a ++ cellsF b := by simp [cellsF]
theorem cellsF_length : ∀ L : List Fg, (cellsF L).length = L.length * 6
  | [] => rfl
  | f :: L => by rw [cellsF_cons, List.length_append, flC_length, cellsF_length L, List.length_cons]; omega
theorem cellsF_one (L : List Fg) : ∀ u ∈ cellsF L, u.oneCell' = true := by
  intro u hu
  obtain ⟨e, _, hu⟩ := List.mem_flatMap.1 hu
  simp only [flC, List.mem_cons, List.not_mem_nil, or_false] at hu
  rcases hu with rfl | rfl | rfl | rfl | rfl | rfl <;> rfl
theorem cellsF_split {L : List Fg} {k : Nat} {f : Fg} (h : L[k]? = some f) : cellsF L = cellsF (L.take k) ++ (flC f ++ cellsF (L.drop (k + 1))) := by
  have hk := (List.getElem?_eq_some_iff.1 h).1
  have hd : L.drop k = f :: L.drop (k + 1) := by
    rw [List.drop_eq_getElem_cons hk, (List.getElem?_eq_some_iff.1 h).2]
  rw [← cellsF_cons, ← hd, ← cellsF_append, List.take_append_drop]
theorem cellsF_get {L : List Fg} {k j : Nat} {f : Fg} {v : Value} (hk : L[k]? = some f) (hj : (flC f)[j]? = some v) : (cellsF L)[k * 6 + j]? = some v := by
  have hkl := (List.getElem?_eq_some_iff.1 hk).1
  have hj6 : j < 6 := by have := (List.getElem?_eq_some_iff.1 hj).1; rwa [flC_length] at this
  have hl : (cellsF (L.take k)).length = k * 6 := by rw [cellsF_length, List.length_take]; congr 1; omega
  rw [cellsF_split hk, List.getElem?_append_right (by omega), hl, Nat.add_sub_cancel_left, List.getElem?_append_left (by rw [flC_length]; exact hj6)]
  exact hj
/-- one cell of a flight is set -/
theorem cellsF_set {L : List Fg} {k j : Nat} {f f' : Fg} {u : Value} (hk : L[k]? = some f) (hj : j < 6) (hf : flC f' = (flC f).set j u) : cellsF (L.set k f') = (cellsF L).set (k * 6 + j) u := by
  have hkl := (List.getElem?_eq_some_iff.1 hk).1
  have hl : (cellsF (L.take k)).length = k * 6 := by rw [cellsF_length, List.length_take]; congr 1; omega
  have h1 : cellsF (L.set k f') = cellsF (L.take k) ++ (flC f' ++ cellsF (L.drop (k + 1))) := by
    rw [List.set_eq_take_append_cons_drop, if_pos hkl, cellsF_append, cellsF_cons]
  rw [h1, hf, cellsF_split hk, List.set_append_right _ _ (by omega), hl, Nat.add_sub_cancel_left, List.set_append_left _ _ (by rw [flC_length]; exact hj)]
/-- the window, how long is waited at first and at most, the base, how many were sent, and again -/
structure Sd where
  W : Nat
  f : Nat
  m : Nat
  b : Nat
  t : Nat
  a : Nat
def sdC (X : Sd) (v : Value) : Array Value := #[.int .i64 X.W, .int .u64 X.f, .int .u64 X.m, .int .u64 X.b, v, .int .u64 X.t, .int .u64 X.a]
/-- the row of flights, which may begin in the midst of its block -/
structure SdR (w : World) (S : Nat → Prop) (s : Nat) (v : Value) (L : List Fg) : Prop where
  few : L.length ≤ 100000
  row : (v = .slice none 0 0 ∧ L = []) ∨ ∃ g o c cur, v = .slice (some ⟨g, o, none⟩) L.length c ∧ S g ∧ g ≠ s ∧ w.heap[g]? = some (.cells cur 93 (0, 0)) ∧
    (w.ownsRow 0 93 6 v L.length (cellsF L) ∨ c = L.length) ∧ ∀ (j : Nat) u, (cellsF L)[j]? = some u → cur[o + j]? = some u
structure SdAt (w : World) (S : Nat → Prop) (s : Nat) (X : Sd) (L : List Fg) : Prop where
  row : ∃ v, w.heap[s]? = some (.cells (sdC X v) 75 (0, 0)) ∧ SdR w S s v L
  sS : S s
  lt : ∀ k, S k → k < w.heap.size
section
variable {w w' : World} {S S' T : Nat → Prop} {s : Nat} {X : Sd} {v : Value} {L : List Fg}
theorem SdR.only (h : SdR w S s v L) (hl : ∀ k, S k → k < w.heap.size) (ho : Only T w w') (hT : ∀ k, S k → ¬ T k) : SdR w' S s v L := by
  refine ⟨h.few, ?_⟩
  rcases h.row with h1 | ⟨g, o, c, cur, rfl, h2, h3, h4, h5, h6⟩
  · exact .inl h1
  · exact .inr ⟨g, o, c, cur, rfl, h2, h3, (ho.block g (hl g h2) (hT g h2)).trans h4, h5.imp (fun h => ho.own h (fun k hk => by
      have hk : some g = some k := hk
      injection hk with hk
      rw [← hk]
      exact hT g h2)) id, h6⟩
theorem SdR.more (h : SdR w S s v L) (hS : ∀ k, S k → S' k) : SdR w S' s v L := by
  refine ⟨h.few, ?_⟩
  rcases h.row with h1 | ⟨g, o, c, cur, e, h2, h3⟩
  · exact .inl h1
  · exact .inr ⟨g, o, c, cur, e, hS g h2, h3⟩
theorem SdAt.keep (h : SdAt w S s X L) (ho : Only T w w') (hT : ∀ k, S k → ¬ T k) : SdAt w' S s X L := by
  obtain ⟨v, h1, h2⟩ := h.row
  exact ⟨⟨v, (ho.block s (h.lt s h.sS) (hT s h.sS)).trans h1, h2.only h.lt ho hT⟩, h.sS, fun k hk => Nat.lt_of_lt_of_le (h.lt k hk) ho.size⟩
theorem SdAt.below (h : SdAt w S s X L) (hb : Below w.heap.size w w') : SdAt w' S s X L := h.keep (T := fun _ => False) (Only.of_below hb _) (fun _ _ h => h)
theorem SdAt.few (h : SdAt w S s X L) : L.length ≤ 100000 := let ⟨_, _, h2⟩ := h.row; h2.few
theorem SdR.slice (h : SdR w S s v L) : ∃ A c, v = .slice A L.length c := by
  rcases h.row with ⟨rfl, rfl⟩ | ⟨g, o, c, cur, rfl, _⟩
  · exact ⟨none, 0, rfl⟩
  · exact ⟨_, _, rfl⟩
/-- a flight of the row -/
theorem SdR.at_ {k : Nat} {f : Fg} (h : SdR w S s v L) (hk : L[k]? = some f) : ∃ g o c, v = .slice (some ⟨g, o, none⟩) L.length c ∧ S g ∧ g ≠ s ∧ (∀ j, w.frozen? ⟨g, j, none⟩ = false) ∧ w.rangeAt g (o + k * 6) (flC f) := by
  have hkl := (List.getElem?_eq_some_iff.1 hk).1
  rcases h.row with ⟨_, rfl⟩ | ⟨g, o, c, cur, rfl, h2, h3, h4, h5, h6⟩
  · simp at hkl
  · refine ⟨g, o, c, rfl, h2, h3, fun j => frozen_of_row _ _ _ _ _ h4, fun j u hj => ?_⟩
    rw [cell_of_row _ _ _ _ _ _ h4, Nat.add_assoc]
    exact h6 _ _ (cellsF_get hk hj)
/-- a cell of the block is set -/
theorem SdAt.set {X' : Sd} (h : SdAt w S s X L) (j : Nat) (u : Value) (hX : ∀ v, (sdC X v).setIfInBounds j u = sdC X' v) : SdAt (w.setCell ⟨s, j, none⟩ u) S s X' L := by
  obtain ⟨v, h1, h2⟩ := h.row
  have ho : Only (fun k => k = s) w (w.setCell ⟨s, j, none⟩ u) := Only.setCell _ _ _ rfl
  refine ⟨⟨v, ?_, ?_⟩, h.sS, fun k hk => Nat.lt_of_lt_of_le (h.lt k hk) ho.size⟩
  · rw [← hX v]
    exact heap_setCell_same _ s j _ _ u h1
  · refine ⟨h2.few, ?_⟩
    rcases h2.row with h1 | ⟨g, o, c, cur, rfl, k2, k3, k4, k5, k6⟩
    · exact .inl h1
    · exact .inr ⟨g, o, c, cur, rfl, k2, k3, (ho.block g (h.lt g k2) k3).trans k4, k5.imp (fun h => ho.own h (fun k hk => by
        have hk : some g = some k := hk
        injection hk with hk
        rw [← hk]
        exact k3)) id, k6⟩
end
theorem own_setF {w : World} {base : Nat} {e : TypeId} {n c r o size : Nat} {xs : List Value} (h : w.ownsRow base e size (.slice (some ⟨r, o, none⟩) n c) n xs) (i : Nat) (u : Value) :
    o = 0 ∧ (w.setCell ⟨r, i, none⟩ u).ownsRow base e size (.slice (some ⟨r, o, none⟩) n c) n (xs.set i u) := by
  rcases h.2 with ⟨e1, _⟩ | ⟨g, cap, cur, e1, h1, h2, h3, h4, h5, h6⟩
  · injection e1 with e1; cases e1
  · injection e1 with e1 e2 e3
    injection e1 with e1
    have e0 : o = 0 := congrArg Addr.off e1
    have e1 : r = g := congrArg Addr.block e1
    subst e1
    subst e3
    subst e0
    refine ⟨rfl, by rw [List.length_set]; exact h.1, .inr ⟨r, c, cur.setIfInBounds i u, rfl, h1, ?_, h3, h4, by simpa using h5, ?_⟩⟩
    · show (w.heap.modify r _)[r]? = _
      rw [Array.getElem?_modify, if_pos rfl, h2]
      rfl
    · rw [← h6]
      simp [List.take_set]
/-- a cell of a flight is set -/
theorem SdAt.put {w : World} {S : Nat → Prop} {s g o c k j : Nat} {X : Sd} {u : Value} {L : List Fg} {f f' : Fg} (h : SdAt w S s X L) (hv : w.cell? ⟨s, 4, none⟩ = some (.slice (some ⟨g, o, none⟩) L.length c)) (hk : L[k]? = some f) (hj : j < 6) (hf : flC f' = (flC f).set j u) :
    SdAt (w.setCell ⟨g, o + k * 6 + j, none⟩ u) S s X (L.set k f') ∧ (w.setCell ⟨g, o + k * 6 + j, none⟩ u).cell? ⟨s, 4, none⟩ = some (.slice (some ⟨g, o, none⟩) (L.set k f').length c) := by
  obtain ⟨v, h1, h2⟩ := h.row
  have e : v = .slice (some ⟨g, o, none⟩) L.length c := by
    have h3 : w.cell? ⟨s, 4, none⟩ = some v := cell_of_row _ _ 4 _ _ _ h1
    rw [hv] at h3
    exact (Option.some.inj h3).symm
  subst e
  have hkl := (List.getElem?_eq_some_iff.1 hk).1
  rcases h2.row with ⟨h1, _⟩ | ⟨g', o', c', cur, e1, k2, k3, k4, k5, k6⟩
  · injection h1 with h1; cases h1
  · injection e1 with e1 e2 e3
    injection e1 with e1
    have e0 : o = o' := congrArg Addr.off e1
    have e9 : g = g' := congrArg Addr.block e1
    clear e1
    subst e0; subst e9; subst e3
    have ho : Only (fun i => i = g) w (w.setCell ⟨g, o + k * 6 + j, none⟩ u) := Only.setCell _ _ _ rfl
    have hsg : s ≠ g := Ne.symm k3
    have hb := (ho.block s (h.lt s h.sS) hsg).trans h1
    refine ⟨⟨⟨_, hb, ⟨by rw [List.length_set]; exact h2.few, .inr ⟨g, o, c, cur.setIfInBounds (o + k * 6 + j) u, by rw [List.length_set], k2, k3, heap_setCell_same _ g _ _ _ u k4, ?_, fun i x hi => ?_⟩⟩⟩, h.sS, fun i hi => Nat.lt_of_lt_of_le (h.lt i hi) ho.size⟩, ?_⟩
    · rcases k5 with k5 | k5
      · obtain ⟨e0, h5⟩ := own_setF k5 (o + k * 6 + j) u
        left
        rw [List.length_set, cellsF_set hk hj hf]
        rw [e0, Nat.zero_add] at h5 ⊢
        exact h5
      · right
        rw [List.length_set]; exact k5
    · rw [cellsF_set hk hj hf, List.getElem?_set] at hi
      by_cases hij : k * 6 + j = i
      · rw [if_pos hij] at hi
        split at hi
        · rename_i hlt
          have hx := Option.some.inj hi
          subst hx
          have h7 := k6 (k * 6 + j) _ (List.getElem?_eq_getElem hlt)
          have h8 := (Array.getElem?_eq_some_iff.1 h7).1
          rw [← hij, ← Nat.add_assoc]
          rw [← Nat.add_assoc] at h8
          simp [Array.getElem?_setIfInBounds, h8]
        · cases hi
      · rw [if_neg hij] at hi
        have h7 := k6 i x hi
        rw [Array.getElem?_setIfInBounds_ne (by omega)]
        exact h7
    · rw [cell_of_row _ _ _ _ _ _ hb, List.length_set]
      rfl
theorem Try.infoFg : (Try.prog.info? 93).map (·.size) = some 6 := by kernel_rfl
theorem Try.infoFgZ : (Try.prog.info? 93).map (fun i => (i.zero, i.size, i.bytes)) = some (some (.agg #[.int .u64 0, .int .u64 0, .int .u64 0, .int .u64 0, .bool false, .bool false]), 6, 40) := by kernel_rfl
theorem Try.infoSd : (Try.prog.info? 75).map (·.size) = some 7 := by kernel_rfl
end Go.Proofs.Ytocdhnlffemnhaa
/- Layer 10: New, Room, next, Last, Counts of a sender, and of a nil one. -/
namespace Go.Proofs.Ytocdhnlffemnhaa
open Go.RowKit

set_option maxRecDepth 100000 in
set_option maxHeartbeats 400000 in
theorem sdnew_wrong (z : Int) (f m : Nat) (hz : z < 1 ∨ 64 < z) (w : World) :
    Calls Try.prog 9 #[.int .i64 z, .int .u64 f, .int .u64 m] w fun e w' => e = .returned (.tuple #[.pointer none, .int .i64 19]) ∧ w = w' := by
  go_enter Try.func9, Try.ntmps9
  by_cases h : z < 1
  · have d1 : decide (z < 1) = true := decide_eq_true h
    go_wp2
    go_ret2
    exact ⟨rfl, rfl⟩
  · have d1 : decide (z < 1) = false := decide_eq_false h
    have d2 : decide (64 < z) = true := decide_eq_true (by omega)
    go_wp2
    go_ret2
    exact ⟨rfl, rfl⟩
set_option maxRecDepth 100000 in
set_option maxHeartbeats 400000 in
theorem sdnew_range (z : Int) (f m : Nat) (h1 : 1 ≤ z) (h2 : z ≤ 64) (hf : f = 0 ∨ m < f ∨ 1048576 < m) (w : World) :
    Calls Try.prog 9 #[.int .i64 z, .int .u64 f, .int .u64 m] w fun e w' => e = .returned (.tuple #[.pointer none, .int .i64 6]) ∧ w = w' := by
  have d1 : decide (z < 1) = false := decide_eq_false (by omega)
  have d2 : decide (64 < z) = false := decide_eq_false (by omega)
  go_enter Try.func9, Try.ntmps9
  by_cases h0 : f = 0
  · have d3 : ((f : Int) == 0) = true := by rw [beq_iff_eq]; omega
    subst h0
    go_wp2
    go_ret2
    exact ⟨rfl, rfl⟩
  · have d3 : ((f : Int) == 0) = false := by rw [beq_eq_false_iff_ne]; omega
    by_cases h3 : m < f
    · have d4 : decide (m < f) = true := decide_eq_true h3
      go_wp2
      go_ret2
      exact ⟨rfl, rfl⟩
    · have d4 : decide (m < f) = false := decide_eq_false h3
      have h5 : 1048576 < m := by omega
      have d5 : decide (1048576 < m) = true := decide_eq_true h5
      have d6 : decide ((1048576 : Int) < (m : Int)) = true := decide_eq_true (by omega)
      clear hf
      go_wp2
      go_ret2
      exact ⟨rfl, rfl⟩
set_option maxRecDepth 100000 in
set_option maxHeartbeats 400000 in
theorem sdnew_any (z f m : Nat) (h1 : 1 ≤ z) (h2 : z ≤ 64) (hf : 0 < f) (hm : f ≤ m) (hmm : m ≤ 1048576) (w : World) :
    Calls Try.prog 9 #[.int .i64 z, .int .u64 f, .int .u64 m] w fun e w' => e = .returned (.tuple #[.pointer (some ⟨w.heap.size, 0, none⟩), .int .i64 0]) ∧ SdAt w' (fun k => k = w.heap.size) w.heap.size ⟨z, f, m, 0, 0, 0⟩ [] ∧ Below w.heap.size w w' := by
  have d1 : decide ((z : Int) < 1) = false := decide_eq_false (by omega)
  have d2 : decide ((64 : Int) < z) = false := decide_eq_false (by omega)
  have d3 : ((f : Int) == 0) = false := by rw [beq_eq_false_iff_ne]; omega
  have d4 : decide (m < f) = false := decide_eq_false (by omega)
  have d6 : decide ((1048576 : Int) < (m : Int)) = false := decide_eq_false (by omega)
  go_enter Try.func9, Try.ntmps9
  go_wp2
  go_ret2
  exact ⟨rfl, ⟨⟨_, heap_alloc_new _ _, by decide, .inl ⟨rfl, rfl⟩⟩, rfl, fun k hk => by rw [hk]; simp⟩, (Below.refl _ _).alloc (Nat.le_refl _) _⟩
section
variable {S : Nat → Prop} {s : Nat} {X : Sd} {L : List Fg}
set_option maxRecDepth 100000 in
set_option maxHeartbeats 400000 in
theorem sdroom_any (w : World) (h : SdAt w S s X L) (hW : X.W ≤ 1000) :
    Calls Try.prog 32 #[.pointer (some ⟨s, 0, none⟩)] w fun e w' => e = .returned (.int .i64 ((X.W : Int) - L.length)) ∧ Below w.heap.size w w' := by
  obtain ⟨v, h1, h2⟩ := h.row
  obtain ⟨A, c, rfl⟩ := h2.slice
  have c0 : w.cell? ⟨s, 0, none⟩ = some (.int .i64 X.W) := cell_of_row _ _ 0 _ _ _ h1
  have c4 : w.cell? ⟨s, 4, none⟩ = some (.slice A L.length c) := cell_of_row _ _ 4 _ _ _ h1
  have hfw := h.few
  obtain ⟨n, hn⟩ : ∃ n, n = L.length := ⟨_, rfl⟩
  rw [← hn] at c4 hfw ⊢
  have hw : IntKind.i64.wrap ((X.W : Int) - n) = (X.W : Int) - n := by rw [IntKind.wrap_i64]; omega
  clear h h1 h2 hn
  go_enter Try.func32, Try.ntmps32
  go_wp2
  go_quiet (fail)
  go_wp2
  go_ret
  exact ⟨by first | rfl | rw [hw], cbelow_drewN (Below.refl _ _) _⟩
set_option maxRecDepth 100000 in
set_option maxHeartbeats 400000 in
theorem sdroom_nil (w : World) : Calls Try.prog 32 #[.pointer none] w fun e w' => e = .returned (.int .i64 0) ∧ w = w' := by
  go_enter Try.func32, Try.ntmps32
  go_wp2
  go_ret
  exact ⟨rfl, rfl⟩
set_option maxRecDepth 100000 in
set_option maxHeartbeats 400000 in
theorem sdnext_any (w : World) (h : SdAt w S s X L) (hb : X.b ≤ 1099511627776000) :
    Calls Try.prog 36 #[.pointer (some ⟨s, 0, none⟩)] w fun e w' => e = .returned (.int .u64 ((X.b + L.length + 1 : Nat) : Int)) ∧ Below w.heap.size w w' := by
  obtain ⟨v, h1, h2⟩ := h.row
  obtain ⟨A, c, rfl⟩ := h2.slice
  have c3 : w.cell? ⟨s, 3, none⟩ = some (.int .u64 X.b) := cell_of_row _ _ 3 _ _ _ h1
  have c4 : w.cell? ⟨s, 4, none⟩ = some (.slice A L.length c) := cell_of_row _ _ 4 _ _ _ h1
  have hfw := h.few
  obtain ⟨n, hn⟩ : ∃ n, n = L.length := ⟨_, rfl⟩
  rw [← hn] at c4 hfw ⊢
  have hw0 : IntKind.u64.wrap ((n : Nat) : Int) = (n : Int) := by rw [IntKind.wrap_u64]; omega
  have hw1 : IntKind.u64.wrap ((X.b : Int) + n) = (X.b : Int) + n := by rw [IntKind.wrap_u64]; omega
  have hw2 : IntKind.u64.wrap ((X.b : Int) + n + 1) = (X.b : Int) + n + 1 := by rw [IntKind.wrap_u64]; omega
  clear h h1 h2 hn
  go_enter Try.func36, Try.ntmps36
  go_wp2
  go_quiet (fail)
  go_wp2
  go_ret
  exact ⟨by congr 2, cbelow_drewN (Below.refl _ _) _⟩
end
end Go.Proofs.Ytocdhnlffemnhaa
/- Blocks of several parts that share none: what a call on one part keeps of the others; labels that no part has. -/
namespace Go.Proofs.Ytocdhnlffemnhaa
open Go.RowKit

/-- whose blocks: of several parts, by their numbers; part i's blocks are others now -/
def upd (P : Nat → Nat → Prop) (i : Nat) (S : Nat → Prop) : Nat → Nat → Prop := fun j => if j = i then S else P j
def AnyP (P : Nat → Nat → Prop) : Nat → Prop := fun k => ∃ i, P i k
structure Own6 (w : World) (P : Nat → Nat → Prop) : Prop where
  sep : ∀ i j k, P i k → P j k → i = j
  lt : ∀ i k, P i k → k < w.heap.size
/-- what a call on a store changes -/
structure Mv6 (w : World) (P : Nat → Nat → Prop) (w' : World) (P' : Nat → Nat → Prop) : Prop where
  only : Only (AnyP P) w w'
  new : ∀ i k, P' i k → AnyP P k ∨ w.heap.size ≤ k
section
variable {w w' w'' : World} {P P' P'' : Nat → Nat → Prop} {S' : Nat → Prop} {i : Nat}
theorem Own6.step (h : Own6 w P) (hs : Step w (P i) w' S') (hl : ∀ k, S' k → k < w'.heap.size) : Own6 w' (upd P i S') := by
  refine ⟨fun a b k ha hb => ?_, fun a k ha => ?_⟩
  · unfold upd at ha hb
    by_cases h1 : a = i <;> by_cases h2 : b = i
    · rw [h1, h2]
    · rw [if_pos h1] at ha
      rw [if_neg h2] at hb
      rcases hs.new k ha with h' | h'
      · exact absurd (h.sep i b k h' hb).symm h2
      · have := h.lt b k hb; omega
    · rw [if_neg h1] at ha
      rw [if_pos h2] at hb
      rcases hs.new k hb with h' | h'
      · exact absurd (h.sep i a k h' ha).symm h1
      · have := h.lt a k ha; omega
    · rw [if_neg h1] at ha
      rw [if_neg h2] at hb
      exact h.sep a b k ha hb
  · unfold upd at ha
    by_cases h1 : a = i
    · rw [if_pos h1] at ha; exact hl k ha
    · rw [if_neg h1] at ha; exact Nat.lt_of_lt_of_le (h.lt a k ha) hs.only.size
theorem Own6.grow (h : Own6 w P) (hz : w.heap.size ≤ w'.heap.size) : Own6 w' P := ⟨h.sep, fun a k ha => Nat.lt_of_lt_of_le (h.lt a k ha) hz⟩
theorem Own6.not (h : Own6 w P) {i j k : Nat} (hi : P i k) (hj : i ≠ j) : ¬ P j k := fun h' => hj (h.sep i j k hi h')
theorem Mv6.refl (w : World) (P : Nat → Nat → Prop) : Mv6 w P w P := ⟨Only.refl _ _, fun i _ h => .inl ⟨i, h⟩⟩
theorem Mv6.trans (h : Mv6 w P w' P') (k : Mv6 w' P' w'' P'') : Mv6 w P w'' P'' :=
  ⟨h.only.trans k.only (fun j ⟨i, hj⟩ => h.new i j hj), fun i j hj => (k.new i j hj).elim (fun ⟨i', h'⟩ => h.new i' j h') (fun h' => .inr (Nat.le_trans h.only.size h'))⟩
theorem Mv6.of_step (hs : Step w (P i) w' S') : Mv6 w P w' (upd P i S') :=
  ⟨hs.only.mono fun k hk => ⟨i, hk⟩, fun j k hj => by
    unfold upd at hj
    by_cases h1 : j = i
    · rw [if_pos h1] at hj
      exact (hs.new k hj).imp (fun h => ⟨i, h⟩) id
    · rw [if_neg h1] at hj
      exact .inl ⟨j, hj⟩⟩
theorem Mv6.of_below (hb : Below w.heap.size w w') (P : Nat → Nat → Prop) : Mv6 w P w' P := ⟨Only.of_below hb _, fun i _ h => .inl ⟨i, h⟩⟩
end
/-- labels that no part of a store has -/
structure Lb (w : World) (P : Nat → Nat → Prop) (A : Option Addr) (l : List Pr) : Prop where
  rd : RdP w w.heap.size A l
  ap : ∀ a, A = some a → 0 < l.length → ∀ i, ¬ P i a.block
section
variable {w w' : World} {P P' : Nat → Nat → Prop} {A : Option Addr} {l : List Pr}
theorem Lb.mv (h : Lb w P A l) (hm : Mv6 w P w' P') : Lb w' P' A l :=
  ⟨hm.only.rdP h.rd (fun a ha h0 ⟨i, hi⟩ => h.ap a ha h0 i hi), fun a ha h0 i hi => (hm.new i _ hi).elim (fun ⟨j, hj⟩ => h.ap a ha h0 j hj) (fun h' => by have := rdP_lt h.rd ha h0; omega)⟩
theorem Lb.below (h : Lb w P A l) (hb : Below w.heap.size w w') : Lb w' P A l := h.mv (Mv6.of_below hb P)
end
end Go.Proofs.Ytocdhnlffemnhaa
