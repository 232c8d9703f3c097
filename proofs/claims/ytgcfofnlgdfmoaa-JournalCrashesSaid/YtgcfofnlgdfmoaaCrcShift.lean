/- Layer 2: crc.shift; the document's own sum, bit by bit; a number's four bytes. -/
import Derived.Test.YtgcfofnlgdfmoaaCrcPlain
import Derived.Test.YtgcfofnlgdfmoaaChecked
import Derived.WalkKit
import Derived.Laws.BitsAllLaws
import Derived.Lib.Hide
import Derived.Below
namespace Go.Proofs.Ytgcfofnlgdfmoaa
open Go.RowKit

theorem ret_u32 {a b : Int} (h : a = b) : Ending.returned (.int .u32 a) = .returned (.int .u32 b) := by rw [h]
theorem stepN_succ (k n : Nat) : stepN (k + 1) n = step (stepN k n) := by
  rw [stepN_add]; rfl

theorem band1 (m : Nat) (hm : m < 4294967296) : bits .and .u32 (m : Int) 1 = (m % 2 : Nat) := by
  have h := u32_and_nat m 1 hm (by decide)
  rw [nat_mask1] at h
  exact h

set_option maxHeartbeats 400000 in
theorem shift_any (n : Nat) (w : World) (hn : n < 4294967296) :
    Calls Try.prog 124 #[.int .u32 n] w fun e w' => e = .returned (.int .u32 (stepN 8 n : Nat)) ∧ w = w' := by
  have Hn := Lib.hid hn
  go_enter Try.func124, Try.ntmps124
  go_wp2
  go_loop [0, 4] (fun r i => ∃ k : Nat, k ≤ 8 ∧ i = .int .i64 k ∧ ∃ m : Nat, Hid (m = stepN k n) ∧ m < 4294967296 ∧ r = .int .u32 m) (fun _ i => 8 - (intOf i).toNat)
  case atStart => exact ⟨0, by omega, rfl, n, rfl, hn, rfl⟩
  case round =>
    obtain ⟨k, hk, rfl, m, Hm, hm, rfl⟩ := hrel
    by_cases hlt : k < 8
    · by_cases ho : m % 2 = 1
      · have hb : (bits .and .u32 (m : Int) 1 == 1) = true := by rw [band1 m hm, ho]; rfl
        have hx : bits .xor .u32 ((m : Int) / 2) 3988292384 = (step m : Nat) := by
          rw [step, if_pos ho]; exact u32_xor_nat (m / 2) poly (by omega) (by decide)
        have hs := step_lt hm
        clear ho
        go_wp2
        refine ⟨⟨k + 1, by omega, by go_num, step m, ?_, hs, rfl⟩, by simp [intOf]; omega⟩
        show step m = stepN (k + 1) n
        rw [stepN_succ, ← Hm.out]
      · have hb : (bits .and .u32 (m : Int) 1 == 1) = false := by rw [band1 m hm, show m % 2 = 0 by omega]; rfl
        have hx : ((m : Int) / 2) = (step m : Nat) := by rw [step, if_neg ho]; rfl
        have Hx := Lib.hid hx
        have hs := step_lt hm
        clear ho hx
        go_wp2
        refine ⟨⟨k + 1, by omega, by go_num, step m, ?_, hs, by rw [Hx.out]⟩, by simp [intOf]; omega⟩
        show step m = stepN (k + 1) n
        rw [stepN_succ, ← Hm.out]
    · obtain rfl : k = 8 := by omega
      go_wp2
      go_ret
      exact ⟨ret_u32 (by rw [Hm.out]), rfl⟩
end Go.Proofs.Ytgcfofnlgdfmoaa
