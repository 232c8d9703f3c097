/- Several texts in one: CrcShift, CrcMem, CrcRef, CrcFour. -/
import Derived.Test.YtnagmopejblegaaGreatChecked
import Derived.WalkKit
import Derived.Laws.BitsAllLaws
import Derived.Lib.Hide
import Derived.Below
import Derived.OneCell
import Derived.Laws.OwnMore
import Derived.Deep.AppendLies
import Derived.Deep.Draws
import Derived.Laws.Shifts
import Derived.LoopN
import Derived.Laws.ShiftsVarLaws
import Derived.Test.YtnagmopejblegaaGreatMb4
import Derived.Test.YtnagmopejblegaaGreatMb14
/- Layer 2: crc.shift; the document's own sum, bit by bit; a number's four bytes. -/
namespace Go.Proofs.YtnagmopejblegaaGreat
open Go.RowKit

theorem ret_u32 {a b : Int} (h : a = b) : Ending.returned (.int .u32 a) = .returned (.int .u32 b) := by rw [h]
theorem stepN_succ (k n : Nat) : stepN (k + 1) n = step (stepN k n) := by
  rw [stepN_add]; rfl

theorem band1 (m : Nat) (hm : m < 4294967296) : bits .and .u32 (m : Int) 1 = (m % 2 : Nat) := by
  have h := u32_and_nat m 1 hm (by decide)
  rw [nat_mask1] at h
  exact h

set_option maxHeartbeats 400000 in
theorem shift_any (n : Nat) (w : World) (hn : n < 4294967296) :
    Calls Tryz.prog 75 #[.int .u32 n] w fun e w' => e = .returned (.int .u32 (stepN 8 n : Nat)) ∧ w = w' := by
  have Hn := Lib.hid hn
  go_enter Tryz.func75, Tryz.ntmps75
  go_wp2
  go_loop [0, 4] (fun r i => ∃ k : Nat, k ≤ 8 ∧ i = .int .i64 k ∧ ∃ m : Nat, Hid (m = stepN k n) ∧ m < 4294967296 ∧ r = .int .u32 m) (fun _ i => 8 - (intOf i).toNat)
  case atStart => exact ⟨0, by omega, rfl, n, rfl, hn, rfl⟩
  case round =>
    obtain ⟨k, hk, rfl, m, Hm, hm, rfl⟩ := hrel
    by_cases hlt : k < 8
    · by_cases ho : m % 2 = 1
      · have hb : (bits .and .u32 (m : Int) 1 == 1) = true := by rw [band1 m hm, ho]; rfl
        have hx : bits .xor .u32 ((m : Int) / 2) 3988292384 = (step m : Nat) := by
          rw [step, if_pos ho]; exact u32_xor_nat (m / 2) poly (by omega) (by decide)
        have hs := step_lt hm
        clear ho
        go_wp2
        refine ⟨⟨k + 1, by omega, by go_num, step m, ?_, hs, rfl⟩, by simp [intOf]; omega⟩
        show step m = stepN (k + 1) n
        rw [stepN_succ, ← Hm.out]
      · have hb : (bits .and .u32 (m : Int) 1 == 1) = false := by rw [band1 m hm, show m % 2 = 0 by omega]; rfl
        have hx : ((m : Int) / 2) = (step m : Nat) := by rw [step, if_neg ho]; rfl
        have Hx := Lib.hid hx
        have hs := step_lt hm
        clear ho hx
        go_wp2
        refine ⟨⟨k + 1, by omega, by go_num, step m, ?_, hs, by rw [Hx.out]⟩, by simp [intOf]; omega⟩
        show step m = stepN (k + 1) n
        rw [stepN_succ, ← Hm.out]
    · obtain rfl : k = 8 := by omega
      go_wp2
      go_ret
      exact ⟨ret_u32 (by rw [Hm.out]), rfl⟩
end Go.Proofs.YtnagmopejblegaaGreat
/- Layer 2: how a slice of bytes lies in memory. No program is named here. -/
namespace Go.Proofs.YtnagmopejblegaaGreat
open Go.RowKit

section
variable {w w' : World} {B B' : Nat} {A : Option Addr} {l : List Nat}
end
theorem take_succ_nat {l : List Nat} {k x : Nat} (h : l[k]? = some x) : l.take (k + 1) = l.take k ++ [x] := by
  obtain ⟨h1, rfl⟩ := List.getElem?_eq_some_iff.1 h
  exact List.take_succ_eq_append_getElem h1
theorem reg_succ {l : List Nat} {k x : Nat} (s : Nat) (h : l[k]? = some x) : reg s (l.take (k + 1)) = byteUp (reg s (l.take k)) x := by
  rw [take_succ_nat h, reg_append]; rfl
end Go.Proofs.YtnagmopejblegaaGreat
/- Layer 2: the document's own sum, bit by bit; a number's four bytes. -/
namespace Go.Proofs.YtnagmopejblegaaGreat
open Go.RowKit

set_option maxRecDepth 100000 in
set_option maxHeartbeats 1000000 in
theorem rsum_any (A : Option Addr) (n c : Nat) (l : List Nat) (w : World) (B : Nat) (hn : n = l.length) (hm : n ≤ maxLen) (hr : RdB w B A l) (hok : OkB l) :
    Calls Tryz.prog 16 #[.slice A n c] w fun e w' => e = .returned (.int .u32 (sumN l : Nat)) ∧ w = w' := by
  have Hn := Lib.hid hn
  have Hr := Lib.hid hr
  have Hok := Lib.hid hok
  clear hn hr hok
  unfold maxLen at hm
  go_enter Tryz.func16, Tryz.ntmps16
  go_wp2
  go_loop [3, 4, 5, 6] (fun r i _ _ => ∃ k : Nat, k ≤ n ∧ i = .int .i64 k ∧ ∃ m : Nat, Hid (m = reg full (l.take k)) ∧ m < 4294967296 ∧ r = .int .u32 m) (fun _ i _ _ => n - (intOf i).toNat)
  case atStart => exact ⟨0, by omega, rfl, full, rfl, by decide, rfl⟩
  case round =>
    obtain ⟨k, hk, rfl, m, Hm, hm2, rfl⟩ := hrel
    by_cases hlt : k < n
    · obtain ⟨b, o, x, rfl, hb, hx, hc⟩ := Hr.out.at_ (k := k) (by have := Hn.out; omega)
      have Hx := Lib.hid hx
      have hx256 : x < 256 := Hok.out.at_ hx
      have hb1 : bits .xor .u32 (m : Int) (x : Int) = ((m ^^^ x : Nat) : Int) := u32_xor_nat m x hm2 (by omega)
      have hlt2 : m ^^^ x < 4294967296 := Nat.xor_lt_two_pow (n := 32) hm2 (by omega)
      clear hx
      go_wp2
      go_loop [3, 5, 6] (fun r i _ => ∃ j : Nat, j ≤ 8 ∧ i = .int .i64 j ∧ ∃ p : Nat, Hid (p = stepN j (m ^^^ x)) ∧ p < 4294967296 ∧ r = .int .u32 p) (fun _ i _ => 8 - (intOf i).toNat)
      case atStart => exact ⟨0, by omega, rfl, _, rfl, hlt2, rfl⟩
      case round =>
        obtain ⟨j, hj, rfl, p, Hp, hp, rfl⟩ := hrel
        clear hb1 hc
        by_cases hj8 : j < 8
        · by_cases ho : p % 2 = 1
          · have hb : (((p : Int) % 2) == 1) = true := by rw [beq_iff_eq]; omega
            have hx : bits .xor .u32 ((p : Int) / 2) 3988292384 = (step p : Nat) := by
              rw [step, if_pos ho]; exact u32_xor_nat (p / 2) poly (by omega) (by decide)
            have hs := step_lt hp
            clear ho
            go_wp2
            refine ⟨⟨j + 1, by omega, by go_num, step p, ?_, hs, rfl⟩, by simp [intOf]; omega⟩
            show step p = stepN (j + 1) (m ^^^ x)
            rw [stepN_succ, ← Hp.out]
          · have hb : (((p : Int) % 2) == 1) = false := by rw [beq_eq_false_iff_ne]; omega
            have hx : ((p : Int) / 2) = (step p : Nat) := by rw [step, if_neg ho]; rfl
            have Hx := Lib.hid hx
            have hs := step_lt hp
            clear ho hx
            go_wp2
            refine ⟨⟨j + 1, by omega, by go_num, step p, ?_, hs, by rw [Hx.out]⟩, by simp [intOf]; omega⟩
            show step p = stepN (j + 1) (m ^^^ x)
            rw [stepN_succ, ← Hp.out]
        · obtain rfl : j = 8 := by omega
          go_wp2
          refine ⟨⟨k + 1, by omega, by go_num, p, ?_, hp, rfl⟩, by simp [intOf]; omega⟩
          show p = reg full (l.take (k + 1))
          rw [reg_succ full Hx.out, ← Hm.out, Hp.out]; rfl
    · have hkn : k = n := by omega
      subst hkn
      have hb1 : bits .xor .u32 (m : Int) 4294967295 = ((m ^^^ full : Nat) : Int) := u32_xor_nat m full hm2 (by decide)
      have Hall : Hid (l.take k = l) := List.take_of_length_le (by have := Hn.out; omega)
      go_wp2
      go_ret
      exact ⟨ret_u32 (by rw [sumN, Hm.out, Hall.out]), rfl⟩
end Go.Proofs.YtnagmopejblegaaGreat
/- Layer 2: a sum as four bytes, and back: the document's Four; crc.Put, crc.Take. -/
namespace Go.Proofs.YtnagmopejblegaaGreat
open Go.RowKit

set_option maxRecDepth 100000 in
set_option maxHeartbeats 400000 in
theorem rfour_any (n : Nat) (w : World) (hn : n < 4294967296) :
    Calls Tryz.prog 15 #[.int .u32 n] w fun e w' => ∃ v, e = .returned v ∧ w'.ownsRow w.heap.size 5 1 v 4 (cellsB (four n)) ∧ Below w.heap.size w w' := by
  go_enter Tryz.func15, Tryz.ntmps15
  go_wp2
  go_ret
  refine ⟨_, rfl, ?_, (Below.refl _ _).alloc (Nat.le_refl _) _⟩
  have e : cellsB (four n) = [Value.int .u8 ((n : Int) % 256), Value.int .u8 ((n : Int) / 256 % 256), Value.int .u8 ((n : Int) / 65536 % 256), Value.int .u8 ((n : Int) / 16777216)] := by
    simp only [cellsB, four, encB, List.map_cons, List.map_nil]
    rw [show n / 16777216 % 256 = n / 16777216 by omega]
    rfl
  rw [e]
  exact World.ownsRow_lit w #[_, _, _, _] 4 (Nat.le_refl _) (by decide) rfl

set_option maxRecDepth 100000 in
set_option maxHeartbeats 400000 in
theorem cput_any (n : Nat) (w : World) (hn : n < 4294967296) :
    Calls Tryz.prog 18 #[.int .u32 n] w fun e w' => e = .returned (.agg ((cellsB (four n)).toArray)) ∧ Below w.heap.size w w' := by
  go_enter Tryz.func18, Tryz.ntmps18
  go_wp2
  refine wp_loop_rounds 5 ?_
  rw [rounds_succ]; go_wp2
  rw [rounds_succ]; go_wp2
  rw [rounds_succ]; go_wp2
  rw [rounds_succ]; go_wp2
  rw [rounds_succ]; go_wp2
  have e : cellsB (four n) = [Value.int .u8 ((n : Int) % 256), Value.int .u8 ((n : Int) / 256 % 256), Value.int .u8 ((n : Int) / 65536 % 256), Value.int .u8 ((n : Int) / 16777216)] := by
    simp only [cellsB, four, encB, List.map_cons, List.map_nil]
    rw [show n / 16777216 % 256 = n / 16777216 by omega]
    rfl
  rw [e]
  exact bodyPost_ret (v := .agg #[Value.int .u8 ((n : Int) % 256), Value.int .u8 ((n : Int) / 256 % 256), Value.int .u8 ((n : Int) / 65536 % 256), Value.int .u8 ((n : Int) / 16777216)]) (by simp [results, Tryz.results18, go_sem]) rfl ⟨rfl, ((Below.refl _ _).alloc (Nat.le_refl _) _).alloc (by simp) _⟩

/-- the number whose bytes these are -/
def takeN (l : List Nat) : Nat := l.getD 0 0 + 256 * l.getD 1 0 + 65536 * l.getD 2 0 + 16777216 * l.getD 3 0
theorem or_add {a b : Nat} {k : Nat} (ha : a < 2 ^ k) (hs : a + 2 ^ k * b < 4294967296) : bits .or .u32 (a : Int) ((2 ^ k * b : Nat) : Int) = ((a + 2 ^ k * b : Nat) : Int) := by
  rw [u32_or_nat _ _ (by omega) (by omega), Nat.or_comm, nat_join k _ _ (Nat.mul_mod_right _ _) ha, Nat.add_comm]

set_option maxRecDepth 100000 in
set_option maxHeartbeats 400000 in
theorem ctake_any (l : List Nat) (hl : l.length = 4) (hok : OkB l) (w : World) :
    Calls Tryz.prog 38 #[.agg (cellsB l).toArray] w fun e w' => e = .returned (.int .u32 (takeN l : Nat)) ∧ Below w.heap.size w w' := by
  obtain ⟨a, b, c, d, rfl⟩ : ∃ a b c d, l = [a, b, c, d] := by
    match l, hl with
    | [a, b, c, d], _ => exact ⟨a, b, c, d, rfl⟩
  have ha : a < 256 := hok a (by simp)
  have hb : b < 256 := hok b (by simp)
  have hc : c < 256 := hok c (by simp)
  have hd : d < 256 := hok d (by simp)
  clear hok hl
  simp only [cellsB, encB, List.map_cons, List.map_nil]
  go_enter Tryz.func38, Tryz.ntmps38
  go_wp2
  refine wp_loop_rounds 5 ?_
  rw [rounds_succ]; go_wp2
  rw [rounds_succ]; go_wp2
  rw [rounds_succ]; go_wp2
  rw [rounds_succ]; go_wp2
  rw [rounds_succ]; go_wp2
  go_ret
  refine ⟨ret_u32 ?_, (Below.refl _ _).alloc (Nat.le_refl _) _⟩
  show bits .or .u32 (bits .or .u32 (bits .or .u32 (bits .or .u32 0 (a : Int)) ((b : Int) * 256)) ((c : Int) * 65536)) ((d : Int) * 16777216) = (takeN [a, b, c, d] : Nat)
  have h0 : bits .or .u32 0 (a : Int) = (a : Nat) := by
    have h := or_add (a := 0) (b := a) (k := 0) (by decide) (by omega)
    simpa using h
  have h1 := or_add (a := a) (b := b) (k := 8) (by omega) (by omega)
  have h2 := or_add (a := a + 2 ^ 8 * b) (b := c) (k := 16) (by omega) (by omega)
  have h3 := or_add (a := a + 2 ^ 8 * b + 2 ^ 16 * c) (b := d) (k := 24) (by omega) (by omega)
  rw [h0, show (b : Int) * 256 = ((2 ^ 8 * b : Nat) : Int) by omega, h1, show (c : Int) * 65536 = ((2 ^ 16 * c : Nat) : Int) by omega, h2, show (d : Int) * 16777216 = ((2 ^ 24 * d : Nat) : Int) by omega, h3]
  simp [takeN]

theorem takeN_four {n : Nat} (hn : n < 4294967296) : takeN (four n) = n := by
  simp [takeN, four]
  omega
theorem four_takeN {l : List Nat} (hl : l.length = 4) (hok : OkB l) : four (takeN l) = l := by
  obtain ⟨a, b, c, d, rfl⟩ : ∃ a b c d, l = [a, b, c, d] := by
    match l, hl with
    | [a, b, c, d], _ => exact ⟨a, b, c, d, rfl⟩
  have ha : a < 256 := hok a (by simp)
  have hb : b < 256 := hok b (by simp)
  have hc : c < 256 := hok c (by simp)
  have hd : d < 256 := hok d (by simp)
  simp [takeN, four]
  omega
theorem takeN_lt {l : List Nat} (hl : l.length = 4) (hok : OkB l) : takeN l < 4294967296 := by
  obtain ⟨a, b, c, d, rfl⟩ : ∃ a b c d, l = [a, b, c, d] := by
    match l, hl with
    | [a, b, c, d], _ => exact ⟨a, b, c, d, rfl⟩
  have ha : a < 256 := hok a (by simp)
  have hb : b < 256 := hok b (by simp)
  have hc : c < 256 := hok c (by simp)
  have hd : d < 256 := hok d (by simp)
  simp [takeN]
  omega
set_option maxRecDepth 100000 in
set_option maxHeartbeats 400000 in
theorem rfour_eq (n : Nat) (w : World) (hn : n < 4294967296) :
    Calls Tryz.prog 15 #[.int .u32 n] w fun e w' => e = .returned (.slice (some ⟨w.heap.size, 0, none⟩) 4 4) ∧ w' = w.alloc (.cells (cellsB (four n)).toArray 5) := by
  have e : cellsB (four n) = [Value.int .u8 ((n : Int) % 256), Value.int .u8 ((n : Int) / 256 % 256), Value.int .u8 ((n : Int) / 65536 % 256), Value.int .u8 ((n : Int) / 16777216)] := by
    simp only [cellsB, four, encB, List.map_cons, List.map_nil]
    rw [show n / 16777216 % 256 = n / 16777216 by omega]
    rfl
  rw [e]
  clear e
  go_enter Tryz.func15, Tryz.ntmps15
  go_wp2
  go_ret
  exact ⟨rfl, rfl⟩

set_option maxRecDepth 100000 in
set_option maxHeartbeats 400000 in
theorem put_eq (n : Nat) (w : World) (hn : n < 4294967296) :
    Calls Tryz.prog 18 #[.int .u32 n] w fun e w' => e = .returned (.agg ((cellsB (four n)).toArray)) ∧ w' = (w.alloc (.cells (cellsB (four n)).toArray 78)).alloc (.cells (cellsB (four n)).toArray 78) := by
  have e : cellsB (four n) = [Value.int .u8 ((n : Int) % 256), Value.int .u8 ((n : Int) / 256 % 256), Value.int .u8 ((n : Int) / 65536 % 256), Value.int .u8 ((n : Int) / 16777216)] := by
    simp only [cellsB, four, encB, List.map_cons, List.map_nil]
    rw [show n / 16777216 % 256 = n / 16777216 by omega]
    rfl
  rw [e]
  clear e
  go_enter Tryz.func18, Tryz.ntmps18
  go_wp2
  refine wp_loop_rounds 5 ?_
  rw [rounds_succ]; go_wp2
  rw [rounds_succ]; go_wp2
  rw [rounds_succ]; go_wp2
  rw [rounds_succ]; go_wp2
  rw [rounds_succ]; go_wp2
  exact bodyPost_ret (v := .agg #[Value.int .u8 ((n : Int) % 256), Value.int .u8 ((n : Int) / 256 % 256), Value.int .u8 ((n : Int) / 65536 % 256), Value.int .u8 ((n : Int) / 16777216)]) (by simp [results, Tryz.results18, go_sem]) rfl ⟨rfl, rfl⟩

set_option maxRecDepth 100000 in
set_option maxHeartbeats 400000 in
theorem take_eq (l : List Nat) (hl : l.length = 4) (hok : OkB l) (w : World) :
    Calls Tryz.prog 38 #[.agg (cellsB l).toArray] w fun e w' => e = .returned (.int .u32 (takeN l : Nat)) ∧ w' = w.alloc (.cells (cellsB l).toArray 78) := by
  obtain ⟨a, b, c, d, rfl⟩ : ∃ a b c d, l = [a, b, c, d] := by
    match l, hl with
    | [a, b, c, d], _ => exact ⟨a, b, c, d, rfl⟩
  have ha : a < 256 := hok a (by simp)
  have hb : b < 256 := hok b (by simp)
  have hc : c < 256 := hok c (by simp)
  have hd : d < 256 := hok d (by simp)
  clear hok hl
  have h0 : bits .or .u32 0 (a : Int) = (a : Nat) := by
    have h := or_add (a := 0) (b := a) (k := 0) (by decide) (by omega)
    simpa using h
  have h1 := or_add (a := a) (b := b) (k := 8) (by omega) (by omega)
  have h2 := or_add (a := a + 2 ^ 8 * b) (b := c) (k := 16) (by omega) (by omega)
  have h3 := or_add (a := a + 2 ^ 8 * b + 2 ^ 16 * c) (b := d) (k := 24) (by omega) (by omega)
  have Hres : Hid (bits .or .u32 (bits .or .u32 (bits .or .u32 (bits .or .u32 0 (a : Int)) ((b : Int) * 256)) ((c : Int) * 65536)) ((d : Int) * 16777216) = (takeN [a, b, c, d] : Nat)) := by
    show _ = _
    rw [h0, show (b : Int) * 256 = ((2 ^ 8 * b : Nat) : Int) by omega, h1, show (c : Int) * 65536 = ((2 ^ 16 * c : Nat) : Int) by omega, h2, show (d : Int) * 16777216 = ((2 ^ 24 * d : Nat) : Int) by omega, h3]
    simp [takeN]
  clear h0 h1 h2 h3
  simp only [cellsB, encB, List.map_cons, List.map_nil]
  go_enter Tryz.func38, Tryz.ntmps38
  go_wp2
  refine wp_loop_rounds 5 ?_
  rw [rounds_succ]; go_wp2
  rw [rounds_succ]; go_wp2
  rw [rounds_succ]; go_wp2
  rw [rounds_succ]; go_wp2
  rw [rounds_succ]; go_wp2
  go_ret
  exact ⟨ret_u32 Hres.out, rfl⟩

theorem okB_four (n : Nat) : OkB (four n) := fun x hx => by
  simp [four] at hx
  omega
end Go.Proofs.YtnagmopejblegaaGreat
