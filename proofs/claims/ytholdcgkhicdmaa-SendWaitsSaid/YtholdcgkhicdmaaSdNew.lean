/- Layer 10: New, Room, next, Last, Counts of a sender, and of a nil one. -/
import Derived.Test.YtholdcgkhicdmaaSdMem
import Derived.WalkKit
import Derived.WalkSpells
import Derived.Lib.Hide
import Derived.StillTailTactics
import Derived.RegionTactic
import Derived.BigRegion
import Derived.Deep.QuietTactic
import Derived.BigQuiet
namespace Go.Proofs.Ytholdcgkhicdmaa
open Go.RowKit

set_option maxRecDepth 100000 in
set_option maxHeartbeats 400000 in
theorem sdnew_wrong (z : Int) (f m : Nat) (hz : z < 1 ∨ 64 < z) (w : World) :
    Calls Try.prog 7 #[.int .i64 z, .int .u64 f, .int .u64 m] w fun e w' => e = .returned (.tuple #[.pointer none, .int .i64 19]) ∧ w = w' := by
  go_enter Try.func7, Try.ntmps7
  by_cases h : z < 1
  · have d1 : decide (z < 1) = true := decide_eq_true h
    go_wp2
    go_ret2
    exact ⟨rfl, rfl⟩
  · have d1 : decide (z < 1) = false := decide_eq_false h
    have d2 : decide (64 < z) = true := decide_eq_true (by omega)
    go_wp2
    go_ret2
    exact ⟨rfl, rfl⟩
set_option maxRecDepth 100000 in
set_option maxHeartbeats 400000 in
theorem sdnew_range (z : Int) (f m : Nat) (h1 : 1 ≤ z) (h2 : z ≤ 64) (hf : f = 0 ∨ m < f ∨ 1048576 < m) (w : World) :
    Calls Try.prog 7 #[.int .i64 z, .int .u64 f, .int .u64 m] w fun e w' => e = .returned (.tuple #[.pointer none, .int .i64 6]) ∧ w = w' := by
  have d1 : decide (z < 1) = false := decide_eq_false (by omega)
  have d2 : decide (64 < z) = false := decide_eq_false (by omega)
  go_enter Try.func7, Try.ntmps7
  by_cases h0 : f = 0
  · have d3 : ((f : Int) == 0) = true := by rw [beq_iff_eq]; omega
    subst h0
    go_wp2
    go_ret2
    exact ⟨rfl, rfl⟩
  · have d3 : ((f : Int) == 0) = false := by rw [beq_eq_false_iff_ne]; omega
    by_cases h3 : m < f
    · have d4 : decide (m < f) = true := decide_eq_true h3
      go_wp2
      go_ret2
      exact ⟨rfl, rfl⟩
    · have d4 : decide (m < f) = false := decide_eq_false h3
      have h5 : 1048576 < m := by omega
      have d5 : decide (1048576 < m) = true := decide_eq_true h5
      have d6 : decide ((1048576 : Int) < (m : Int)) = true := decide_eq_true (by omega)
      clear hf
      go_wp2
      go_ret2
      exact ⟨rfl, rfl⟩
set_option maxRecDepth 100000 in
set_option maxHeartbeats 400000 in
theorem sdnew_any (z f m : Nat) (h1 : 1 ≤ z) (h2 : z ≤ 64) (hf : 0 < f) (hm : f ≤ m) (hmm : m ≤ 1048576) (w : World) :
    Calls Try.prog 7 #[.int .i64 z, .int .u64 f, .int .u64 m] w fun e w' => e = .returned (.tuple #[.pointer (some ⟨w.heap.size, 0, none⟩), .int .i64 0]) ∧ SdAt w' (fun k => k = w.heap.size) w.heap.size ⟨z, f, m, 0, 0, 0⟩ [] ∧ Below w.heap.size w w' := by
  have d1 : decide ((z : Int) < 1) = false := decide_eq_false (by omega)
  have d2 : decide ((64 : Int) < z) = false := decide_eq_false (by omega)
  have d3 : ((f : Int) == 0) = false := by rw [beq_eq_false_iff_ne]; omega
  have d4 : decide (m < f) = false := decide_eq_false (by omega)
  have d6 : decide ((1048576 : Int) < (m : Int)) = false := decide_eq_false (by omega)
  go_enter Try.func7, Try.ntmps7
  go_wp2
  go_ret2
  exact ⟨rfl, ⟨⟨_, heap_alloc_new _ _, by decide, .inl ⟨rfl, rfl⟩⟩, rfl, fun k hk => by rw [hk]; simp⟩, (Below.refl _ _).alloc (Nat.le_refl _) _⟩
section
variable {S : Nat → Prop} {s : Nat} {X : Sd} {L : List Fg}
set_option maxRecDepth 100000 in
set_option maxHeartbeats 400000 in
theorem sdroom_any (w : World) (h : SdAt w S s X L) (hW : X.W ≤ 1000) :
    Calls Try.prog 12 #[.pointer (some ⟨s, 0, none⟩)] w fun e w' => e = .returned (.int .i64 ((X.W : Int) - L.length)) ∧ Below w.heap.size w w' := by
  obtain ⟨v, h1, h2⟩ := h.row
  obtain ⟨A, c, rfl⟩ := h2.slice
  have c0 : w.cell? ⟨s, 0, none⟩ = some (.int .i64 X.W) := cell_of_row _ _ 0 _ _ _ h1
  have c4 : w.cell? ⟨s, 4, none⟩ = some (.slice A L.length c) := cell_of_row _ _ 4 _ _ _ h1
  have hfw := h.few
  obtain ⟨n, hn⟩ : ∃ n, n = L.length := ⟨_, rfl⟩
  rw [← hn] at c4 hfw ⊢
  have hw : IntKind.i64.wrap ((X.W : Int) - n) = (X.W : Int) - n := by rw [IntKind.wrap_i64]; omega
  clear h h1 h2 hn
  go_enter Try.func12, Try.ntmps12
  go_wp2
  go_quiet (fail)
  go_wp2
  go_ret
  exact ⟨by first | rfl | rw [hw], cbelow_drewN (Below.refl _ _) _⟩
set_option maxRecDepth 100000 in
set_option maxHeartbeats 400000 in
theorem sdroom_nil (w : World) : Calls Try.prog 12 #[.pointer none] w fun e w' => e = .returned (.int .i64 0) ∧ w = w' := by
  go_enter Try.func12, Try.ntmps12
  go_wp2
  go_ret
  exact ⟨rfl, rfl⟩
set_option maxRecDepth 100000 in
set_option maxHeartbeats 400000 in
theorem sdnext_any (w : World) (h : SdAt w S s X L) (hb : X.b ≤ 1099511627776000) :
    Calls Try.prog 16 #[.pointer (some ⟨s, 0, none⟩)] w fun e w' => e = .returned (.int .u64 ((X.b + L.length + 1 : Nat) : Int)) ∧ Below w.heap.size w w' := by
  obtain ⟨v, h1, h2⟩ := h.row
  obtain ⟨A, c, rfl⟩ := h2.slice
  have c3 : w.cell? ⟨s, 3, none⟩ = some (.int .u64 X.b) := cell_of_row _ _ 3 _ _ _ h1
  have c4 : w.cell? ⟨s, 4, none⟩ = some (.slice A L.length c) := cell_of_row _ _ 4 _ _ _ h1
  have hfw := h.few
  obtain ⟨n, hn⟩ : ∃ n, n = L.length := ⟨_, rfl⟩
  rw [← hn] at c4 hfw ⊢
  have hw0 : IntKind.u64.wrap ((n : Nat) : Int) = (n : Int) := by rw [IntKind.wrap_u64]; omega
  have hw1 : IntKind.u64.wrap ((X.b : Int) + n) = (X.b : Int) + n := by rw [IntKind.wrap_u64]; omega
  have hw2 : IntKind.u64.wrap ((X.b : Int) + n + 1) = (X.b : Int) + n + 1 := by rw [IntKind.wrap_u64]; omega
  clear h h1 h2 hn
  go_enter Try.func16, Try.ntmps16
  go_wp2
  go_quiet (fail)
  go_wp2
  go_ret
  exact ⟨by congr 2, cbelow_drewN (Below.refl _ _) _⟩
end
end Go.Proofs.Ytholdcgkhicdmaa
