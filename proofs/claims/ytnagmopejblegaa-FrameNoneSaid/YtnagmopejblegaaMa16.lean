/- Several texts in one: CrcBurst, CrcShift, CrcMem, CrcRef. -/
import Derived.Test.YtnagmopejblegaaChecked
import Derived.WalkKit
import Derived.Laws.BitsAllLaws
import Derived.Lib.Hide
import Derived.Below
import Derived.OneCell
import Derived.Laws.OwnMore
import Derived.Deep.AppendLies
import Derived.Deep.Draws
import Derived.Test.YtnagmopejblegaaMa5
import Derived.Test.YtnagmopejblegaaMa15
/- Layer 2, plain words: bits turned within 32 side by side. No program is named here. -/
namespace Go.Proofs.Ytnagmopejblegaa

/-- the bits below k that are turned, as a number -/
def mask (turn lim : Nat) : Nat → Nat
  | 0 => 0
  | k + 1 => if turn / 2 ^ k % 2 = 1 ∧ k < lim then mask turn lim k + 2 ^ k else mask turn lim k
theorem mask_lt (turn lim k : Nat) : mask turn lim k < 2 ^ k := by
  induction k with
  | zero => simp [mask]
  | succ k ih =>
    rw [mask, Nat.pow_succ]
    split <;> omega
theorem add_xor {a k : Nat} (h : a < 2 ^ k) : a + 2 ^ k = a ^^^ 2 ^ k := by
  have h1 := split_xor k (a + 2 ^ k)
  have h2 : (a + 2 ^ k) / 2 ^ k = 1 := by rw [Nat.add_div_right _ (Nat.two_pow_pos k), Nat.div_eq_of_lt h]
  have h3 : (a + 2 ^ k) % 2 ^ k = a := by rw [Nat.add_mod_right, Nat.mod_eq_of_lt h]
  rw [h2, h3, Nat.mul_one] at h1
  rw [h1, Nat.xor_comm]
/-- one bit more -/
theorem burst_step {s : Nat} {xs m : List Nat} {turn f k L c : Nat} (hl : m.length = L) (hp : f + k < 8 * L) (hc : m[(f + k) / 8]? = some c)
    (h : reg s m = reg s xs ^^^ stepN (8 * L - f) (mask turn (8 * L - f) k)) (hb : turn / 2 ^ k % 2 = 1) :
    reg s (m.set ((f + k) / 8) (c ^^^ 2 ^ ((f + k) % 8))) = reg s xs ^^^ stepN (8 * L - f) (mask turn (8 * L - f) (k + 1)) := by
  have h1 := reg_set s m ((f + k) / 8) (2 ^ ((f + k) % 8)) c hc
  rw [h1, h, hl, bit_moves _ _ (by omega), mask, if_pos ⟨hb, by omega⟩, add_xor (mask_lt _ _ _), stepN_xor, bit_moves (8 * L - f) k (by omega), Nat.xor_assoc, show 8 * (L - (f + k) / 8) - (f + k) % 8 = 8 * L - f - k by omega]
theorem burst_skip {s : Nat} {xs m : List Nat} {turn f k L : Nat} (h : reg s m = reg s xs ^^^ stepN (8 * L - f) (mask turn (8 * L - f) k)) (hb : ¬ (turn / 2 ^ k % 2 = 1 ∧ f + k < 8 * L)) :
    reg s m = reg s xs ^^^ stepN (8 * L - f) (mask turn (8 * L - f) (k + 1)) := by
  rw [h, mask, if_neg (fun hc => hb ⟨hc.1, by omega⟩)]
/-- sealed bytes with bits turned open, just if none was turned -/
theorem burst_opens {l e : List Nat} {n d : Nat} (hl : ∀ c ∈ l, c < 256) (hn : n < 4294967296) (he : e = four n) (hd : d < 4294967296) {j : Nat} (h : reg full (l ++ e) = opened ^^^ stepN j d) :
    (sumN l = n) ↔ d = 0 := by
  rw [opens_iff l n hl hn, ← he, h]
  constructor
  · intro h0
    have h1 : stepN j d = 0 := by
      have := congrArg (opened ^^^ ·) h0
      simpa [← Nat.xor_assoc] using this
    exact stepN_inj j hd h1
  · rintro rfl
    rw [stepN_zero, Nat.xor_zero]
theorem sealed_opens {l : List Nat} (hl : ∀ c ∈ l, c < 256) : reg full (l ++ four (sumN l)) = opened := (opens_iff l (sumN l) hl (sumN_lt hl)).1 rfl
end Go.Proofs.Ytnagmopejblegaa
/- Layer 2: crc.shift; the document's own sum, bit by bit; a number's four bytes. -/
namespace Go.Proofs.Ytnagmopejblegaa
open Go.RowKit

theorem ret_u32 {a b : Int} (h : a = b) : Ending.returned (.int .u32 a) = .returned (.int .u32 b) := by rw [h]
theorem stepN_succ (k n : Nat) : stepN (k + 1) n = step (stepN k n) := by
  rw [stepN_add]; rfl

theorem band1 (m : Nat) (hm : m < 4294967296) : bits .and .u32 (m : Int) 1 = (m % 2 : Nat) := by
  have h := u32_and_nat m 1 hm (by decide)
  rw [nat_mask1] at h
  exact h

set_option maxHeartbeats 400000 in
theorem shift_any (n : Nat) (w : World) (hn : n < 4294967296) :
    Calls Try.prog 77 #[.int .u32 n] w fun e w' => e = .returned (.int .u32 (stepN 8 n : Nat)) ∧ w = w' := by
  have Hn := Lib.hid hn
  go_enter Try.func77, Try.ntmps77
  go_wp2
  go_loop [0, 4] (fun r i => ∃ k : Nat, k ≤ 8 ∧ i = .int .i64 k ∧ ∃ m : Nat, Hid (m = stepN k n) ∧ m < 4294967296 ∧ r = .int .u32 m) (fun _ i => 8 - (intOf i).toNat)
  case atStart => exact ⟨0, by omega, rfl, n, rfl, hn, rfl⟩
  case round =>
    obtain ⟨k, hk, rfl, m, Hm, hm, rfl⟩ := hrel
    by_cases hlt : k < 8
    · by_cases ho : m % 2 = 1
      · have hb : (bits .and .u32 (m : Int) 1 == 1) = true := by rw [band1 m hm, ho]; rfl
        have hx : bits .xor .u32 ((m : Int) / 2) 3988292384 = (step m : Nat) := by
          rw [step, if_pos ho]; exact u32_xor_nat (m / 2) poly (by omega) (by decide)
        have hs := step_lt hm
        clear ho
        go_wp2
        refine ⟨⟨k + 1, by omega, by go_num, step m, ?_, hs, rfl⟩, by simp [intOf]; omega⟩
        show step m = stepN (k + 1) n
        rw [stepN_succ, ← Hm.out]
      · have hb : (bits .and .u32 (m : Int) 1 == 1) = false := by rw [band1 m hm, show m % 2 = 0 by omega]; rfl
        have hx : ((m : Int) / 2) = (step m : Nat) := by rw [step, if_neg ho]; rfl
        have Hx := Lib.hid hx
        have hs := step_lt hm
        clear ho hx
        go_wp2
        refine ⟨⟨k + 1, by omega, by go_num, step m, ?_, hs, by rw [Hx.out]⟩, by simp [intOf]; omega⟩
        show step m = stepN (k + 1) n
        rw [stepN_succ, ← Hm.out]
    · obtain rfl : k = 8 := by omega
      go_wp2
      go_ret
      exact ⟨ret_u32 (by rw [Hm.out]), rfl⟩
end Go.Proofs.Ytnagmopejblegaa
/- Layer 2: how a slice of bytes lies in memory. No program is named here. -/
namespace Go.Proofs.Ytnagmopejblegaa
open Go.RowKit

section
variable {w w' : World} {B B' : Nat} {A : Option Addr} {l : List Nat}
end
theorem take_succ_nat {l : List Nat} {k x : Nat} (h : l[k]? = some x) : l.take (k + 1) = l.take k ++ [x] := by
  obtain ⟨h1, rfl⟩ := List.getElem?_eq_some_iff.1 h
  exact List.take_succ_eq_append_getElem h1
theorem reg_succ {l : List Nat} {k x : Nat} (s : Nat) (h : l[k]? = some x) : reg s (l.take (k + 1)) = byteUp (reg s (l.take k)) x := by
  rw [take_succ_nat h, reg_append]; rfl
end Go.Proofs.Ytnagmopejblegaa
/- Layer 2: the document's own sum, bit by bit; a number's four bytes. -/
namespace Go.Proofs.Ytnagmopejblegaa
open Go.RowKit

set_option maxRecDepth 100000 in
set_option maxHeartbeats 1000000 in
theorem rsum_any (A : Option Addr) (n c : Nat) (l : List Nat) (w : World) (B : Nat) (hn : n = l.length) (hm : n ≤ maxLen) (hr : RdB w B A l) (hok : OkB l) :
    Calls Try.prog 26 #[.slice A n c] w fun e w' => e = .returned (.int .u32 (sumN l : Nat)) ∧ w = w' := by
  have Hn := Lib.hid hn
  have Hr := Lib.hid hr
  have Hok := Lib.hid hok
  clear hn hr hok
  unfold maxLen at hm
  go_enter Try.func26, Try.ntmps26
  go_wp2
  go_loop [3, 4, 5, 6] (fun r i _ _ => ∃ k : Nat, k ≤ n ∧ i = .int .i64 k ∧ ∃ m : Nat, Hid (m = reg full (l.take k)) ∧ m < 4294967296 ∧ r = .int .u32 m) (fun _ i _ _ => n - (intOf i).toNat)
  case atStart => exact ⟨0, by omega, rfl, full, rfl, by decide, rfl⟩
  case round =>
    obtain ⟨k, hk, rfl, m, Hm, hm2, rfl⟩ := hrel
    by_cases hlt : k < n
    · obtain ⟨b, o, x, rfl, hb, hx, hc⟩ := Hr.out.at_ (k := k) (by have := Hn.out; omega)
      have Hx := Lib.hid hx
      have hx256 : x < 256 := Hok.out.at_ hx
      have hb1 : bits .xor .u32 (m : Int) (x : Int) = ((m ^^^ x : Nat) : Int) := u32_xor_nat m x hm2 (by omega)
      have hlt2 : m ^^^ x < 4294967296 := Nat.xor_lt_two_pow (n := 32) hm2 (by omega)
      clear hx
      go_wp2
      go_loop [3, 5, 6] (fun r i _ => ∃ j : Nat, j ≤ 8 ∧ i = .int .i64 j ∧ ∃ p : Nat, Hid (p = stepN j (m ^^^ x)) ∧ p < 4294967296 ∧ r = .int .u32 p) (fun _ i _ => 8 - (intOf i).toNat)
      case atStart => exact ⟨0, by omega, rfl, _, rfl, hlt2, rfl⟩
      case round =>
        obtain ⟨j, hj, rfl, p, Hp, hp, rfl⟩ := hrel
        clear hb1 hc
        by_cases hj8 : j < 8
        · by_cases ho : p % 2 = 1
          · have hb : (((p : Int) % 2) == 1) = true := by rw [beq_iff_eq]; omega
            have hx : bits .xor .u32 ((p : Int) / 2) 3988292384 = (step p : Nat) := by
              rw [step, if_pos ho]; exact u32_xor_nat (p / 2) poly (by omega) (by decide)
            have hs := step_lt hp
            clear ho
            go_wp2
            refine ⟨⟨j + 1, by omega, by go_num, step p, ?_, hs, rfl⟩, by simp [intOf]; omega⟩
            show step p = stepN (j + 1) (m ^^^ x)
            rw [stepN_succ, ← Hp.out]
          · have hb : (((p : Int) % 2) == 1) = false := by rw [beq_eq_false_iff_ne]; omega
            have hx : ((p : Int) / 2) = (step p : Nat) := by rw [step, if_neg ho]; rfl
            have Hx := Lib.hid hx
            have hs := step_lt hp
            clear ho hx
            go_wp2
            refine ⟨⟨j + 1, by omega, by go_num, step p, ?_, hs, by rw [Hx.out]⟩, by simp [intOf]; omega⟩
            show step p = stepN (j + 1) (m ^^^ x)
            rw [stepN_succ, ← Hp.out]
        · obtain rfl : j = 8 := by omega
          go_wp2
          refine ⟨⟨k + 1, by omega, by go_num, p, ?_, hp, rfl⟩, by simp [intOf]; omega⟩
          show p = reg full (l.take (k + 1))
          rw [reg_succ full Hx.out, ← Hm.out, Hp.out]; rfl
    · have hkn : k = n := by omega
      subst hkn
      have hb1 : bits .xor .u32 (m : Int) 4294967295 = ((m ^^^ full : Nat) : Int) := u32_xor_nat m full hm2 (by decide)
      have Hall : Hid (l.take k = l) := List.take_of_length_le (by have := Hn.out; omega)
      go_wp2
      go_ret
      exact ⟨ret_u32 (by rw [sumN, Hm.out, Hall.out]), rfl⟩
end Go.Proofs.Ytnagmopejblegaa
