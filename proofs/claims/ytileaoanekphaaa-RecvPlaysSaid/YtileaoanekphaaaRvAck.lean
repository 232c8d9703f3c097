/- Layer 11: Ack of a receiver. -/
import Derived.Test.YtileaoanekphaaaRvOps
import Derived.Laws.BitsAllLaws
import Derived.Deep.Cut
import Derived.Deep.CutRange
namespace Go.Proofs.Ytileaoanekphaaa
open Go.RowKit

/-- the bits of those numbers below n that p holds for -/
def bitsN (p : Nat → Bool) : Nat → Nat
  | 0 => 0
  | n + 1 => bitsN p n + (if p n then 2 ^ n else 0)
theorem bitsN_lt (p : Nat → Bool) : ∀ n, bitsN p n < 2 ^ n
  | 0 => Nat.one_pos
  | n + 1 => by
    have h := bitsN_lt p n
    have h2 : (2 : Nat) ^ (n + 1) = 2 ^ n + 2 ^ n := by rw [Nat.pow_succ]; omega
    unfold bitsN
    split <;> omega
theorem bitsN_more (p : Nat → Bool) (n : Nat) : ∀ j, (∀ i, n ≤ i → i < n + j → p i = false) → bitsN p (n + j) = bitsN p n
  | 0, _ => rfl
  | j + 1, h => by
    show bitsN p (n + j) + (if p (n + j) then 2 ^ (n + j) else 0) = _
    rw [h (n + j) (by omega) (by omega), bitsN_more p n j (fun i h1 h2 => h i h1 (by omega))]
    simp
theorem bitsN_congr {p r : Nat → Bool} : ∀ n, (∀ i, i < n → p i = r i) → bitsN p n = bitsN r n
  | 0, _ => rfl
  | n + 1, h => by
    show bitsN p n + (if p n then 2 ^ n else 0) = bitsN r n + (if r n then 2 ^ n else 0)
    rw [bitsN_congr n (fun i hi => h i (by omega)), h n (by omega)]
theorem or_pow {a n : Nat} (ha : a < 2 ^ n) (hn : n < 64) : bits .or .u64 (a : Int) ((2 ^ n : Nat) : Int) = ((a + 2 ^ n : Nat) : Int) := by
  have h64 : (2 : Nat) ^ n * 2 ≤ 2 ^ 64 := by
    rw [← Nat.pow_succ]
    exact Nat.pow_le_pow_right (by decide) (by omega)
  rw [u64_or_nat _ _ (by omega) (by omega)]
  have h := Nat.two_pow_add_eq_or_of_lt ha 1
  rw [Nat.mul_one] at h
  rw [Nat.or_comm, ← h, Nat.add_comm]
/-- which numbers behind the expected one are held -/
def heldB (F : Hs) (n : Nat) : Nat → Bool := fun i => (F (n + 1 + i)).isSome
section
variable {s m k : Nat} {X : Rv} {F : Hs}
set_option maxRecDepth 100000 in
set_option maxHeartbeats 1000000 in
theorem rack_any {n : Nat} (w : World) (h : RvAt w s m X F k) (hn : n = X.t + 1) (ht : X.t ≤ 1099511627776) (hW : 1 ≤ X.W) (hW2 : X.W ≤ 64) :
    Calls Try.prog 16 #[.pointer (some ⟨s, 0, none⟩)] w fun e w' => e = .returned (.tuple #[.int .u64 X.t, .int .u64 (bitsN (heldB F n) (X.W - 1))]) ∧ Below w.heap.size w w' := by
  have c0 := h.c0
  have HR := Lib.hid h
  obtain ⟨M, hM⟩ : ∃ M, M = X.W - 1 := ⟨_, rfl⟩
  rw [← hM]
  have e1 : (X.W : Int) - 1 = (M : Int) := by omega
  have e2 : IntKind.i64.wrap (M : Int) = (M : Int) := by rw [IntKind.wrap_i64]; omega
  have HN : Hid (n = X.t + 1 ∧ X.t ≤ 1099511627776 ∧ M ≤ 63) := ⟨hn, ht, by omega⟩
  clear h hn ht hW hW2 hM
  go_enter Try.func16, Try.ntmps16
  go_wp2
  go_loopw [3, 12] (fun bv iv wx => ∃ i : Nat, i ≤ M ∧ iv = .int .i64 i ∧ bv = .int .u64 (bitsN (heldB F n) i) ∧ Hid (Below w.heap.size w wx)) (fun _ iv _ => M - (intOf iv).toNat)
  case atStart => exact ⟨0, Nat.zero_le _, rfl, rfl, Below.refl _ _⟩
  case round =>
    obtain ⟨i, hi, rfl, rfl, HB⟩ := hrel
    by_cases hlt : i < M
    · have q1 : decide ((i : Int) < (M : Int)) = true := decide_eq_true (by omega)
      have q2 : decide (i < M) = true := decide_eq_true hlt
      have hr := HR.out.below HB.out
      have HW := Lib.hid (rwant_any wr hr HN.out.1 HN.out.2.1)
      obtain ⟨n1, hn1⟩ : ∃ z, z = n + 1 := ⟨_, rfl⟩
      obtain ⟨q, hq⟩ : ∃ z, z = n1 + i := ⟨_, rfl⟩
      have hnn := HN.out
      have e3 : (n : Int) + 1 = (n1 : Int) := by omega
      have e4 : IntKind.u64.wrap (n1 : Int) = (n1 : Int) := by rw [IntKind.wrap_u64]; omega
      have e5 : IntKind.u64.wrap (i : Int) = (i : Int) := by rw [IntKind.wrap_u64]; omega
      have e6 : (n1 : Int) + (i : Int) = (q : Int) := by omega
      have e7 : IntKind.u64.wrap (q : Int) = (q : Int) := by rw [IntKind.wrap_u64]; omega
      obtain ⟨b, hb⟩ : ∃ b, b = heldB F n i := ⟨_, rfl⟩
      have hbq : (F q).isSome = b := by rw [hb, hq, hn1]; rfl
      have HH := Lib.hid (rhas_any q wr hr (by omega) hbq)
      obtain ⟨z, hz⟩ : ∃ z, z = bitsN (heldB F n) i := ⟨_, rfl⟩
      have hzl : z < 2 ^ i := by rw [hz]; exact bitsN_lt _ _
      have hzn : bitsN (heldB F n) (i + 1) = z + (if b then 2 ^ i else 0) := by rw [hz, hb]; rfl
      rw [← hz]
      have HZ := Lib.hid (⟨hzl, hzn⟩ : _ ∧ _)
      have HI : Hid (i < 64) := by show i < 64; omega
      have HSH : Hid (bits BinOp.or .u64 (z : Int) (IntKind.u64.wrap (2 ^ i)) = ((z + 2 ^ i : Nat) : Int)) := by
        show bits BinOp.or .u64 (z : Int) (IntKind.u64.wrap (2 ^ i)) = ((z + 2 ^ i : Nat) : Int)
        have h64 : (2 : Nat) ^ i * 2 ≤ 2 ^ 64 := by
          rw [← Nat.pow_succ]
          exact Nat.pow_le_pow_right (by decide) (by have := HI.out; omega)
        have e : IntKind.u64.wrap ((2 : Int) ^ i) = ((2 ^ i : Nat) : Int) := by
          rw [IntKind.wrap_u64, show ((2 : Int) ^ i) = ((2 ^ i : Nat) : Int) by push_cast; rfl]
          omega
        rw [e]
        exact or_pow HZ.out.1 HI.out
      have hM63 : M ≤ 63 := HN.out.2.2
      clear hr hn1 hq hnn hb hbq hz hzl hzn
      cases b with
      | true =>
        go_wp2_with fail
        refine HW.out.mono ?_
        rintro _ _ ⟨rfl, rfl⟩
        go_wp2_with fail
        refine HH.out.mono ?_
        rintro _ w1 ⟨rfl, hb1⟩
        have HB1 := Lib.hid (HB.out.trans (hb1.mono HB.out.size))
        clear hb1 HH HW e3 e6
        go_wp2
        go_roundw
        case rel => exact ⟨i + 1, by omega, by go_num, by rw [HSH.out, HZ.out.2]; simp, HB1.out⟩
        case measure => simp [intOf]; omega
      | false =>
        go_wp2_with fail
        refine HW.out.mono ?_
        rintro _ _ ⟨rfl, rfl⟩
        go_wp2_with fail
        refine HH.out.mono ?_
        rintro _ w1 ⟨rfl, hb1⟩
        have HB1 := Lib.hid (HB.out.trans (hb1.mono HB.out.size))
        have hzn : z = bitsN (heldB F n) (i + 1) := HZ.out.2.symm
        have HZN := Lib.hid hzn
        clear hb1 HH HW e3 e6 hzn
        go_wp2
        go_roundw
        case rel => exact ⟨i + 1, by omega, by go_num, by rw [HZN.out], HB1.out⟩
        case measure => simp [intOf]; omega
    · obtain rfl : i = M := by omega
      have q1 : decide ((i : Int) < (i : Int)) = false := decide_eq_false (by omega)
      have q2 : decide (i < i) = false := decide_eq_false (by omega)
      have c1 := (HR.out.below HB.out).c1
      go_wp2
      go_ret2
      exact ⟨rfl, HB.out⟩
end
end Go.Proofs.Ytileaoanekphaaa
