/- Layer 13: CondTexts: conditions compared; what the law's walk begins with. -/
import Derived.Test.YthggaedpbmjclaaDoorCdRPar
import Derived.Test.YthggaedpbmjclaaDoorCdRnd
import Derived.Test.YthggaedpbmjclaaDoorCdAwk
import Derived.Laws.StructEq
import Derived.Test.YthggaedpbmjclaaDoorHeld
import Derived.Deep.RegionHeld3
import Derived.Deep.CutBlock
import Derived.Deep.DeepCutAuto
namespace Go.Proofs.YthggaedpbmjclaaDoor
open Go.RowKit Go.Proofs

theorem run_neqCc (a a' : Nat) (b b' : Int) (c c' : Nat) (w : World) : (binOp .neq 26 (.agg #[.int .u8 a, .int .i64 b, .int .u64 c]) (.agg #[.int .u8 a', .int .i64 b', .int .u64 c'])).run Tryd.prog w = .ok (.bool (!decide (a = a' ∧ b = b' ∧ c = c'))) w := by
  have u5 := Tryd.underlying24
  have u22 := Tryd.underlying2
  have u3 := Tryd.underlying23
  have hS : Tryd.prog.underlying 26 = some (.struct (Tryd.prog.fieldsOf 26)) := by kernel_rfl
  have hp : Tryd.prog.stoodInHeld 26 = false := by kernel_rfl
  rw [run_neq_struct, show (10000 : Nat) = 9999 + 1 from rfl, run_equalIn_struct w 9999 26 _ _ hS hp]
  simp only [Program.fieldsOf, Tryd.underlying26]
  go_simp
  have e1 : ((a : Int) = (a' : Int)) = (a = a') := propext (by omega)
  have e2 : ((c : Int) = (c' : Int)) = (c = c') := propext (by omega)
  simp only [e1, e2]
  by_cases h1 : a = a' <;> by_cases h2 : b = b' <;> by_cases h3 : c = c' <;> simp [h1, h2, h3]
theorem run_neqRc (a a' : Nat) (b b' : Int) (c c' : Nat) (w : World) : (binOp .neq 35 (.agg #[.int .i64 a, .int .i64 b, .int .u64 c]) (.agg #[.int .i64 a', .int .i64 b', .int .u64 c'])).run Tryd.prog w = .ok (.bool (!decide (a = a' ∧ b = b' ∧ c = c'))) w := by
  have u5 := Tryd.underlying24
  have u22 := Tryd.underlying2
  have u3 := Tryd.underlying3
  have hS : Tryd.prog.underlying 35 = some (.struct (Tryd.prog.fieldsOf 35)) := by kernel_rfl
  have hp : Tryd.prog.stoodInHeld 35 = false := by kernel_rfl
  rw [run_neq_struct, show (10000 : Nat) = 9999 + 1 from rfl, run_equalIn_struct w 9999 35 _ _ hS hp]
  simp only [Program.fieldsOf, Tryd.underlying35]
  go_simp
  have e1 : ((a : Int) = (a' : Int)) = (a = a') := propext (by omega)
  have e2 : ((c : Int) = (c' : Int)) = (c = c') := propext (by omega)
  simp only [e1, e2]
  by_cases h1 : a = a' <;> by_cases h2 : b = b' <;> by_cases h3 : c = c' <;> simp [h1, h2, h3]
theorem parsF_bounds (l : List ByteArray) : (parsF l).1 ≤ 5 ∧ -9223372036854775808 ≤ (parsF l).2.1 ∧ (parsF l).2.1 < 9223372036854775808 ∧ (parsF l).2.2.1 < 18446744073709551616 := by
  unfold parsF
  split
  · exact ⟨by decide, by decide, by decide, by decide⟩
  · generalize hk : kindN (l.headD ⟨#[]⟩) = k
    have h5 : k ≤ 5 := by rw [← hk]; exact kindN_le _
    unfold parsN
    split
    · rename_i z t hz ht
      have h1 : -9223372036854775808 ≤ z ∧ z < 9223372036854775808 := by
        unfold parsZ at hz
        split at hz
        · exact signF_bounds hz
        · injection hz with hz; omega
      have h2 : t < 18446744073709551616 := by
        unfold parsT at ht
        split at ht
        · have := numN_le ht; omega
        · injection ht with ht; omega
      unfold parsC
      split
      · exact ⟨h5, h1.1, h1.2, h2⟩
      · exact ⟨by simp, by simp, by simp, by simp⟩
    · exact ⟨by simp, by simp, by simp, by simp⟩
end Go.Proofs.YthggaedpbmjclaaDoor
