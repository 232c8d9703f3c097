/- Layer 6: Crash and Copy of a nil disk; a name that may not be. -/
import Derived.Test.YtheojokfgndheaaDkAwake
namespace Go.Proofs.Ytheojokfgndheaa
open Go.RowKit Go.Maps

set_option maxRecDepth 100000 in
set_option maxHeartbeats 400000 in
theorem crash_nil (v : Value) (w : World) : Calls Try.prog 22 #[.pointer none, v] w fun e w' => e = .returned (.tuple #[]) ∧ Below w.heap.size w w' := by
  go_enter Try.func22, Try.ntmps22
  go_wp2_with fail
  refine (names_nil w).mono ?_
  rintro e w1 ⟨rfl, hb⟩
  have HB := Lib.hid hb
  clear hb
  go_wp2
  refine wp_loop_rounds 1 ?_
  rw [rounds_succ]
  go_wp2
  go_end0
  exact ⟨rfl, HB.out⟩
theorem value_bang (s : ByteArray) : valueB (s ++ ⟨#[33]⟩) = false := by
  have h : ((s ++ (⟨#[33]⟩ : ByteArray)).data.toList.all fun c => signN c.toNat) = false := by
    rw [ByteArray.data_append, Array.toList_append, List.all_append]
    have : (List.all (⟨#[33]⟩ : ByteArray).data.toList fun c => signN c.toNat) = false := by decide +kernel
    rw [this, Bool.and_false]
  unfold valueB fitsB
  rw [h, Bool.and_false]
end Go.Proofs.Ytheojokfgndheaa
