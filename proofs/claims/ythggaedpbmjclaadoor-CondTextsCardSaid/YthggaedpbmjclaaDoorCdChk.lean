/- Layer 13: the program's own Check. -/
import Derived.Test.YthggaedpbmjclaaDoorCdRef
namespace Go.Proofs.YthggaedpbmjclaaDoor
open Go.RowKit Go.Proofs

set_option maxRecDepth 100000 in
set_option maxHeartbeats 2000000 in
theorem ccheck_any (k : Nat) (lim : Int) (tk : Nat) (w : World) :
    Calls Tryd.prog 9 #[.agg #[.int .u8 k, .int .i64 lim, .int .u64 tk]] w fun e w' => e = .returned (.int .i64 (checkC k lim tk)) ∧ Below w.heap.size w w' := by
  have HK : Hid (1 ≤ k → k ≤ 5 → ∀ z : Int, (okC k lim tk ↔ z = 0) → (z = 0 ∨ z = 6) → Ending.returned (.int .i64 z) = Ending.returned (.int .i64 (checkC k lim tk))) := fun hk1 hk5 z h1 h2 => by
    congr 2
    rcases h2 with rfl | rfl
    · exact (checkC_0.2 (h1.2 rfl)).symm
    · have : ¬ okC k lim tk := fun h => by have := h1.1 h; omega
      unfold checkC
      rw [if_neg (by omega), if_neg]
      intro h
      exact this (by unfold okC; omega)
  have HB : Hid (k < 1 ∨ 5 < k → checkC k lim tk = 12) := fun h => by unfold checkC; rw [if_pos h]
  have core : ∀ (r : Int), r = checkC k lim tk → Calls Tryd.prog 9 #[.agg #[.int .u8 k, .int .i64 lim, .int .u64 tk]] w fun e w' => e = .returned (.int .i64 r) ∧ Below w.heap.size w w' := fun r hr => by
    have HR : Hid (r = checkC k lim tk) := hr
    clear hr
    by_cases a1 : tk = 0
    · have f1 : decide ((1 : Int) ≤ (tk : Int)) = false := decide_eq_false (by omega)
      have f1' : decide (1 ≤ tk) = false := decide_eq_false (by omega)
      have f2 : ((tk : Int) == 0) = true := by rw [beq_iff_eq]; omega
      have f2' : (tk == 0) = true := by rw [beq_iff_eq]; omega
      by_cases a3 : 0 ≤ lim <;> by_cases a5 : lim = 0
      all_goals (first | (exfalso; omega) | skip)
      all_goals (
        first | (have f4 : decide (0 ≤ lim) = true := decide_eq_true (by omega)) | (have f4 : decide (0 ≤ lim) = false := decide_eq_false (by omega))
        first | (have f5 : (lim == 0) = false := by rw [beq_eq_false_iff_ne]; exact a5) | (have f5 : (lim == 0) = true := by rw [beq_iff_eq]; exact a5)
        by_cases hk : k < 1 ∨ 5 < k
        · have g1 : ((k : Int) == 1) = false := by rw [beq_eq_false_iff_ne]; omega
          have g2 : ((k : Int) == 2) = false := by rw [beq_eq_false_iff_ne]; omega
          have g3 : ((k : Int) == 3) = false := by rw [beq_eq_false_iff_ne]; omega
          have g4 : ((k : Int) == 4) = false := by rw [beq_eq_false_iff_ne]; omega
          have g5 : ((k : Int) == 5) = false := by rw [beq_eq_false_iff_ne]; omega
          have j1 : (k == 1) = false := by rw [beq_eq_false_iff_ne]; omega
          have j2 : (k == 2) = false := by rw [beq_eq_false_iff_ne]; omega
          have j3 : (k == 3) = false := by rw [beq_eq_false_iff_ne]; omega
          have j4 : (k == 4) = false := by rw [beq_eq_false_iff_ne]; omega
          have j5 : (k == 5) = false := by rw [beq_eq_false_iff_ne]; omega
          go_enter Tryd.func9, Tryd.ntmps9
          go_wp2
          go_ret
          exact ⟨by rw [HR.out, HB.out hk]; rfl, (Below.refl _ _).alloc (Nat.le_refl _) _⟩
        · have hkk : k = 1 ∨ k = 2 ∨ k = 3 ∨ k = 4 ∨ k = 5 := by omega
          clear hk HB
          rcases hkk with rfl | rfl | rfl | rfl | rfl <;> (
            go_enter Tryd.func9, Tryd.ntmps9
            go_wp2
            go_ret
            exact ⟨by rw [HR.out]; exact HK.out (by decide) (by decide) _ (by unfold okC; omega) (by omega), (Below.refl _ _).alloc (Nat.le_refl _) _⟩))
    · have f1 : decide ((1 : Int) ≤ (tk : Int)) = true := decide_eq_true (by omega)
      have f1' : decide (1 ≤ tk) = true := decide_eq_true (by omega)
      have f2 : ((tk : Int) == 0) = false := by rw [beq_eq_false_iff_ne]; omega
      have f2' : (tk == 0) = false := by rw [beq_eq_false_iff_ne]; omega
      by_cases a2 : tk ≤ 1048576 <;> by_cases a3 : 0 ≤ lim <;> by_cases a5 : lim = 0
      all_goals (first | (exfalso; omega) | skip)
      all_goals (
        first | (have f3 : decide ((tk : Int) ≤ 1048576) = true := decide_eq_true (by omega)) | (have f3 : decide ((tk : Int) ≤ 1048576) = false := decide_eq_false (by omega))
        first | (have f3' : decide (tk ≤ 1048576) = true := decide_eq_true (by omega)) | (have f3' : decide (tk ≤ 1048576) = false := decide_eq_false (by omega))
        first | (have f4 : decide (0 ≤ lim) = true := decide_eq_true (by omega)) | (have f4 : decide (0 ≤ lim) = false := decide_eq_false (by omega))
        first | (have f5 : (lim == 0) = false := by rw [beq_eq_false_iff_ne]; exact a5) | (have f5 : (lim == 0) = true := by rw [beq_iff_eq]; exact a5)
        by_cases hk : k < 1 ∨ 5 < k
        · have g1 : ((k : Int) == 1) = false := by rw [beq_eq_false_iff_ne]; omega
          have g2 : ((k : Int) == 2) = false := by rw [beq_eq_false_iff_ne]; omega
          have g3 : ((k : Int) == 3) = false := by rw [beq_eq_false_iff_ne]; omega
          have g4 : ((k : Int) == 4) = false := by rw [beq_eq_false_iff_ne]; omega
          have g5 : ((k : Int) == 5) = false := by rw [beq_eq_false_iff_ne]; omega
          have j1 : (k == 1) = false := by rw [beq_eq_false_iff_ne]; omega
          have j2 : (k == 2) = false := by rw [beq_eq_false_iff_ne]; omega
          have j3 : (k == 3) = false := by rw [beq_eq_false_iff_ne]; omega
          have j4 : (k == 4) = false := by rw [beq_eq_false_iff_ne]; omega
          have j5 : (k == 5) = false := by rw [beq_eq_false_iff_ne]; omega
          go_enter Tryd.func9, Tryd.ntmps9
          go_wp2
          go_ret
          exact ⟨by rw [HR.out, HB.out hk]; rfl, (Below.refl _ _).alloc (Nat.le_refl _) _⟩
        · have hkk : k = 1 ∨ k = 2 ∨ k = 3 ∨ k = 4 ∨ k = 5 := by omega
          clear hk HB
          rcases hkk with rfl | rfl | rfl | rfl | rfl <;> (
            go_enter Tryd.func9, Tryd.ntmps9
            go_wp2
            go_ret
            exact ⟨by rw [HR.out]; exact HK.out (by decide) (by decide) _ (by unfold okC; omega) (by omega), (Below.refl _ _).alloc (Nat.le_refl _) _⟩))
  exact core _ rfl
end Go.Proofs.YthggaedpbmjclaaDoor
