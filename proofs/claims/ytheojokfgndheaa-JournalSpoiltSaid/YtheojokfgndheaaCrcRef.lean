/- Layer 2: the document's own sum, bit by bit; a number's four bytes. -/
import Derived.Test.YtheojokfgndheaaCrcShift
import Derived.Test.YtheojokfgndheaaCrcMem
namespace Go.Proofs.Ytheojokfgndheaa
open Go.RowKit

set_option maxRecDepth 100000 in
set_option maxHeartbeats 1000000 in
theorem rsum_any (A : Option Addr) (n c : Nat) (l : List Nat) (w : World) (B : Nat) (hn : n = l.length) (hm : n ≤ maxLen) (hr : RdB w B A l) (hok : OkB l) :
    Calls Try.prog 54 #[.slice A n c] w fun e w' => e = .returned (.int .u32 (sumN l : Nat)) ∧ w = w' := by
  have Hn := Lib.hid hn
  have Hr := Lib.hid hr
  have Hok := Lib.hid hok
  clear hn hr hok
  unfold maxLen at hm
  go_enter Try.func54, Try.ntmps54
  go_wp2
  go_loop [3, 4, 5, 6] (fun r i _ _ => ∃ k : Nat, k ≤ n ∧ i = .int .i64 k ∧ ∃ m : Nat, Hid (m = reg full (l.take k)) ∧ m < 4294967296 ∧ r = .int .u32 m) (fun _ i _ _ => n - (intOf i).toNat)
  case atStart => exact ⟨0, by omega, rfl, full, rfl, by decide, rfl⟩
  case round =>
    obtain ⟨k, hk, rfl, m, Hm, hm2, rfl⟩ := hrel
    by_cases hlt : k < n
    · obtain ⟨b, o, x, rfl, hb, hx, hc⟩ := Hr.out.at_ (k := k) (by have := Hn.out; omega)
      have Hx := Lib.hid hx
      have hx256 : x < 256 := Hok.out.at_ hx
      have hb1 : bits .xor .u32 (m : Int) (x : Int) = ((m ^^^ x : Nat) : Int) := u32_xor_nat m x hm2 (by omega)
      have hlt2 : m ^^^ x < 4294967296 := Nat.xor_lt_two_pow (n := 32) hm2 (by omega)
      clear hx
      go_wp2
      go_loop [3, 5, 6] (fun r i _ => ∃ j : Nat, j ≤ 8 ∧ i = .int .i64 j ∧ ∃ p : Nat, Hid (p = stepN j (m ^^^ x)) ∧ p < 4294967296 ∧ r = .int .u32 p) (fun _ i _ => 8 - (intOf i).toNat)
      case atStart => exact ⟨0, by omega, rfl, _, rfl, hlt2, rfl⟩
      case round =>
        obtain ⟨j, hj, rfl, p, Hp, hp, rfl⟩ := hrel
        clear hb1 hc
        by_cases hj8 : j < 8
        · by_cases ho : p % 2 = 1
          · have hb : (((p : Int) % 2) == 1) = true := by rw [beq_iff_eq]; omega
            have hx : bits .xor .u32 ((p : Int) / 2) 3988292384 = (step p : Nat) := by
              rw [step, if_pos ho]; exact u32_xor_nat (p / 2) poly (by omega) (by decide)
            have hs := step_lt hp
            clear ho
            go_wp2
            refine ⟨⟨j + 1, by omega, by go_num, step p, ?_, hs, rfl⟩, by simp [intOf]; omega⟩
            show step p = stepN (j + 1) (m ^^^ x)
            rw [stepN_succ, ← Hp.out]
          · have hb : (((p : Int) % 2) == 1) = false := by rw [beq_eq_false_iff_ne]; omega
            have hx : ((p : Int) / 2) = (step p : Nat) := by rw [step, if_neg ho]; rfl
            have Hx := Lib.hid hx
            have hs := step_lt hp
            clear ho hx
            go_wp2
            refine ⟨⟨j + 1, by omega, by go_num, step p, ?_, hs, by rw [Hx.out]⟩, by simp [intOf]; omega⟩
            show step p = stepN (j + 1) (m ^^^ x)
            rw [stepN_succ, ← Hp.out]
        · obtain rfl : j = 8 := by omega
          go_wp2
          refine ⟨⟨k + 1, by omega, by go_num, p, ?_, hp, rfl⟩, by simp [intOf]; omega⟩
          show p = reg full (l.take (k + 1))
          rw [reg_succ full Hx.out, ← Hm.out, Hp.out]; rfl
    · have hkn : k = n := by omega
      subst hkn
      have hb1 : bits .xor .u32 (m : Int) 4294967295 = ((m ^^^ full : Nat) : Int) := u32_xor_nat m full hm2 (by decide)
      have Hall : Hid (l.take k = l) := List.take_of_length_le (by have := Hn.out; omega)
      go_wp2
      go_ret
      exact ⟨ret_u32 (by rw [sumN, Hm.out, Hall.out]), rfl⟩
end Go.Proofs.Ytheojokfgndheaa
