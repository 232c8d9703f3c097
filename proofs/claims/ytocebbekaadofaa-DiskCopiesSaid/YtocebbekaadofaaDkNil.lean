/- Layer 6: Crash and Copy of a nil disk; a name that may not be. -/
import Derived.Test.YtocebbekaadofaaDkAwake
namespace Go.Proofs.Ytocebbekaadofaa
open Go.RowKit Go.Maps

set_option maxRecDepth 100000 in
set_option maxHeartbeats 400000 in
theorem crash_nil (v : Value) (w : World) : Calls Try.prog 20 #[.pointer none, v] w fun e w' => e = .returned (.tuple #[]) ∧ Below w.heap.size w w' := by
  go_enter Try.func20, Try.ntmps20
  go_wp2_with fail
  refine (names_nil w).mono ?_
  rintro e w1 ⟨rfl, hb⟩
  have HB := Lib.hid hb
  clear hb
  go_wp2
  refine wp_loop_rounds 1 ?_
  rw [rounds_succ]
  go_wp2
  go_end0
  exact ⟨rfl, HB.out⟩
set_option maxHeartbeats 400000 in
theorem copy_nil (w : World) : Calls Try.prog 26 #[.pointer none] w fun e w' => e = .returned (.pointer (some ⟨w.heap.size, 0, none⟩)) ∧ w' = w.alloc (.cells #[.map none, .int .i64 0, .int .i64 0] 65) := by
  go_enter Try.func26, Try.ntmps26
  go_wp2_with fail
  refine (new_any w).mono ?_
  rintro e w1 ⟨rfl, h1⟩
  have H1 := Lib.hid h1
  clear h1
  go_wp2
  go_ret
  exact ⟨rfl, H1.out⟩
theorem value_bang (s : ByteArray) : valueB (s ++ ⟨#[33]⟩) = false := by
  have h : ((s ++ (⟨#[33]⟩ : ByteArray)).data.toList.all fun c => signN c.toNat) = false := by
    rw [ByteArray.data_append, Array.toList_append, List.all_append]
    have : (List.all (⟨#[33]⟩ : ByteArray).data.toList fun c => signN c.toNat) = false := by decide +kernel
    rw [this, Bool.and_false]
  unfold valueB fitsB
  rw [h, Bool.and_false]
end Go.Proofs.Ytocebbekaadofaa
