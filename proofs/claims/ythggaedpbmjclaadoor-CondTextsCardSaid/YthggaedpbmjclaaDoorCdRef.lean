/- Layer 13: the document's own: over, Check; the statements' small condition, and a condition as the document has it. -/
import Derived.Test.YthggaedpbmjclaaDoorCdAwk
namespace Go.Proofs.YthggaedpbmjclaaDoor
open Go.RowKit Go.Proofs

/-- may it be one? -/
def okC (k : Nat) (lim : Int) (tk : Nat) : Prop := (1 ≤ k ∧ k ≤ 2 ∧ tk = 0) ∨ (3 ≤ k ∧ k ≤ 5 ∧ 1 ≤ tk ∧ tk ≤ 1048576 ∧ 0 ≤ lim ∧ (k = 3 → lim = 0))
def checkC (k : Nat) (lim : Int) (tk : Nat) : Int := if k < 1 ∨ 5 < k then 12 else if (k ≤ 2 ∧ tk = 0) ∨ (3 ≤ k ∧ 1 ≤ tk ∧ tk ≤ 1048576 ∧ 0 ≤ lim ∧ (k = 3 → lim = 0)) then 0 else 6
theorem checkC_0 {k tk : Nat} {lim : Int} : checkC k lim tk = 0 ↔ okC k lim tk := by
  unfold checkC okC
  split
  · constructor <;> intro h <;> omega
  · split
    · constructor
      · intro _; omega
      · intro _; rfl
    · constructor <;> intro h <;> omega
set_option maxRecDepth 100000 in
set_option maxHeartbeats 2000000 in
theorem rccheck_any (k : Nat) (lim : Int) (tk : Nat) (w : World) :
    Calls Tryd.prog 10 #[.agg #[.int .i64 k, .int .i64 lim, .int .u64 tk]] w fun e w' => e = .returned (.int .i64 (checkC k lim tk)) ∧ Below w.heap.size w w' := by
  by_cases k1 : k < 1
  · have d1 : decide ((k : Int) < 1) = true := decide_eq_true (by omega)
    have d1' : decide (k < 1) = true := decide_eq_true k1
    have e1 : checkC k lim tk = 12 := by unfold checkC; rw [if_pos (.inl k1)]
    rw [e1]
    clear e1
    go_enter Tryd.func10, Tryd.ntmps10
    go_wp2
    go_ret
    exact ⟨rfl, (Below.refl _ _).alloc (Nat.le_refl _) _⟩
  have d1 : decide ((k : Int) < 1) = false := decide_eq_false (by omega)
  have d1' : decide (k < 1) = false := decide_eq_false k1
  by_cases k5 : 5 < k
  · have d2 : decide ((5 : Int) < (k : Int)) = true := decide_eq_true (by omega)
    have d2' : decide (5 < k) = true := decide_eq_true k5
    have e1 : checkC k lim tk = 12 := by unfold checkC; rw [if_pos (.inr k5)]
    rw [e1]
    clear e1
    go_enter Tryd.func10, Tryd.ntmps10
    go_wp2
    go_ret
    exact ⟨rfl, (Below.refl _ _).alloc (Nat.le_refl _) _⟩
  have d2 : decide ((5 : Int) < (k : Int)) = false := decide_eq_false (by omega)
  have d2' : decide (5 < k) = false := decide_eq_false k5
  have hk : k = 1 ∨ k = 2 ∨ k = 3 ∨ k = 4 ∨ k = 5 := by omega
  have HK : Hid (∀ z : Int, (okC k lim tk ↔ z = 0) → (z = 0 ∨ z = 6) → Ending.returned (.int .i64 z) = Ending.returned (.int .i64 (checkC k lim tk))) := fun z h1 h2 => by
    congr 2
    rcases h2 with rfl | rfl
    · exact (checkC_0.2 (h1.2 rfl)).symm
    · have : ¬ okC k lim tk := fun h => by have := h1.1 h; omega
      unfold checkC
      rw [if_neg (by omega), if_neg]
      intro h
      exact this (by unfold okC; omega)
  rcases hk with rfl | rfl | rfl | rfl | rfl
  all_goals (
    by_cases a1 : tk = 0
    · have f1 : decide ((1 : Int) ≤ (tk : Int)) = false := decide_eq_false (by omega)
      have f1' : decide (1 ≤ tk) = false := decide_eq_false (by omega)
      have f2 : ((tk : Int) == 0) = true := by rw [beq_iff_eq]; omega
      have f2' : (tk == 0) = true := by rw [beq_iff_eq]; omega
      by_cases a5 : lim = 0
      all_goals (
        first | (have f5 : (lim != 0) = true := by rw [bne_iff_ne]; exact a5) | (have f5 : (lim != 0) = false := by rw [bne_eq_false_iff_eq]; exact a5)
        go_enter Tryd.func10, Tryd.ntmps10
        go_wp2
        go_ret
        exact ⟨HK.out _ (by unfold okC; omega) (by omega), (Below.refl _ _).alloc (Nat.le_refl _) _⟩)
    · have f1 : decide ((1 : Int) ≤ (tk : Int)) = true := decide_eq_true (by omega)
      have f1' : decide (1 ≤ tk) = true := decide_eq_true (by omega)
      have f2 : ((tk : Int) == 0) = false := by rw [beq_eq_false_iff_ne]; omega
      have f2' : (tk == 0) = false := by rw [beq_eq_false_iff_ne]; omega
      by_cases a2 : tk ≤ 1048576 <;> by_cases a3 : 0 ≤ lim <;> by_cases a5 : lim = 0
      all_goals (first | (exfalso; omega) | skip)
      all_goals (
        first | (have f3 : decide ((tk : Int) ≤ 1048576) = true := decide_eq_true (by omega)) | (have f3 : decide ((tk : Int) ≤ 1048576) = false := decide_eq_false (by omega))
        first | (have f3' : decide (tk ≤ 1048576) = true := decide_eq_true (by omega)) | (have f3' : decide (tk ≤ 1048576) = false := decide_eq_false (by omega))
        first | (have f4 : decide (0 ≤ lim) = true := decide_eq_true (by omega)) | (have f4 : decide (0 ≤ lim) = false := decide_eq_false (by omega))
        first | (have f5 : (lim != 0) = true := by rw [bne_iff_ne]; exact a5) | (have f5 : (lim != 0) = false := by rw [bne_eq_false_iff_eq]; exact a5)
        go_enter Tryd.func10, Tryd.ntmps10
        go_wp2
        go_ret
        exact ⟨HK.out _ (by unfold okC; omega) (by omega), (Below.refl _ _).alloc (Nat.le_refl _) _⟩))
end Go.Proofs.YthggaedpbmjclaaDoor
