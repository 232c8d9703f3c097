/- Several texts in one: StEr, CrcPlain, CrcShift, CrcMem, CrcRef, CrcFour, CrcOnce, CrcTab. -/
import Derived.LoopN
import Derived.Laws.ShiftsVarLaws
import Derived.Defers
import Derived.Laws.Pointers
import Derived.Laws.LoneSync
import Derived.RegionCalls
import Derived.ChangeAlike
import Derived.Deep.RegionWith
import Derived.StillTailTactics
import Derived.Test.YtholdcgkhicdmaaGreatDoorZq20
namespace Go.Proofs.YtholdcgkhicdmaaGreatDoor
open Go.RowKit
def er (e : Ett) : Ett := ⟨e.i, e.x, none, 0⟩
def ers (L : List Ett) : List Ett := L.map er
theorem ers_get (L : List Ett) (k : Nat) : (ers L)[k]? = L[k]?.map er := by unfold ers; rw [List.getElem?_map]
theorem ers_len (L : List Ett) : (ers L).length = L.length := by unfold ers; rw [List.length_map]
theorem ers_getD (L : List Ett) (k : Nat) : (ers L).getD k entD = er (L.getD k entD) := by
 rw [List.getD_eq_getElem?_getD, List.getD_eq_getElem?_getD, ers_get]
 cases L[k]? <;> rfl
theorem ers_set (L : List Ett) (k : Nat) (y : Ett) : (ers L).set k (er y) = ers (L.set k y) := by unfold ers; rw [List.map_set]
theorem ers_append (a b : List Ett) : ers (a ++ b) = ers a ++ ers b := by unfold ers; rw [List.map_append]
theorem ers_cut (L : List Ett) (i j : Nat) : cutE (ers L) i j = ers (cutE L i j) := by unfold cutE ers; rw [List.map_append, List.map_take, List.map_drop]
theorem ers_ers (L : List Ett) : ers (ers L) = ers L := by unfold ers; rw [List.map_map]; rfl
theorem same_ers {L M : List Ett} : SameE L M ↔ ers L = ers M := by
 unfold SameE ers
 constructor
 ·intro h
  have h2 := congrArg (List.map fun p : Nat × It => (⟨p.1, p.2, none, 0⟩ : Ett)) h
  rw [List.map_map, List.map_map] at h2
  exact h2
 ·intro h
  have h2 := congrArg (List.map fun e : Ett => (e.i, e.x)) h
  rw [List.map_map, List.map_map] at h2
  exact h2
theorem sum_ers (L : List Ett) : sumE (ers L) = sumE L := sum_same (same_ers.2 (ers_ers L))
theorem cnt_ers (L : List Ett) : cntE (ers L) = cntE L := by unfold cntE ers; rw [List.countP_map]; rfl
theorem prio_ers (L : List Ett) (f : Nat) : prioE (ers L) f = prioE L f := by
 unfold prioE
 rw [ers_get]
 cases L[f]? <;> rfl
theorem least_ers (L : List Ett) : ∀ k, leastK (ers L) k = leastK L k
 | 0 => rfl
 | k + 1 => by
   unfold leastK
   rw [ers_get, least_ers L k]
   cases hk : L[k]? with
   | none => rfl
   | some e =>
     show (if lastB e.x then leastK L k else match leastK L k with
      | none => some k
      | some f => if e.x.p < prioE (ers L) f then some k else some f) = (if lastB e.x then leastK L k else match leastK L k with
      | none => some k
      | some f => if e.x.p < prioE L f then some k else some f)
     cases leastK L k with
     | none => rfl
     | some f => simp only [prio_ers]
theorem prev_ers (L : List Ett) (o : Nat) : ∀ k, prevK (ers L) o k = prevK L o k
 | 0 => rfl
 | k + 1 => by
   unfold prevK
   rw [ers_get, prev_ers L o k]
   cases L[k]? <;> rfl
theorem next_ers (L : List Ett) (o : Nat) : ∀ (d k : Nat), L.length - k ≤ d → nextK (ers L) o k = nextK L o k
 | d, k, hd => by
   by_cases hk : k < L.length
   ·have h1 := List.getElem?_eq_getElem hk
    have h2 : (ers L)[k]? = some (er L[k]) := by rw [ers_get, h1]; rfl
    rw [nextK_at h1, nextK_at h2]
    cases d with
    | zero => omega
    | succ d => rw [next_ers L o d (k + 1) (by omega)]; rfl
   ·have h3 := ers_len L; rw [nextK_end (L := ers L) (by omega), nextK_end (L := L) (by omega)]
theorem joinK_ers (L : List Ett) (a b : Option Nat) : joinK (ers L) a b = (ers (joinK L a b).1, (joinK L a b).2) := by
 cases a with
 | none => rfl
 | some a =>
   cases b with
   | none => rfl
   | some b =>
     show (if joinB ((ers L).getD a entD).x ((ers L).getD b entD).x then (joinL (ers L) a b ((ers L).getD a entD) ((ers L).getD b entD), true) else (ers L, false)) = _
     rw [ers_getD, ers_getD]
     show (if joinB (L.getD a entD).x (L.getD b entD).x then (joinL (ers L) a b (er (L.getD a entD)) (er (L.getD b entD)), true) else (ers L, false)) = (ers (if joinB (L.getD a entD).x (L.getD b entD).x then (joinL L a b (L.getD a entD) (L.getD b entD), true) else (L, false)).1, (if joinB (L.getD a entD).x (L.getD b entD).x then (joinL L a b (L.getD a entD) (L.getD b entD), true) else (L, false)).2)
     by_cases hj : joinB (L.getD a entD).x (L.getD b entD).x = true
     ·rw [if_pos hj, if_pos hj]
      show (joinL _ _ _ _ _, true) = (ers (joinL _ _ _ _ _), true)
      unfold joinL
      rw [← ers_cut, ← ers_set]
      rfl
     ·rw [if_neg hj, if_neg hj]
theorem evA_ers (L : List Ett) (p : Nat) (e : Ett) : evA (ers L) p (er e) = ers (evA L p e) := by
 unfold evA
 rw [show gapE (er e) = er (gapE e) from rfl, ers_set, next_ers _ _ _ _ (Nat.le_refl _), joinK_ers]
 rfl
theorem evB2_ers (L : List Ett) (p : Nat) (e : Ett) : evB2 (ers L) p (er e) = (ers (evB2 L p e).1, (evB2 L p e).2) := by
 unfold evB2
 rw [evA_ers, prev_ers, joinK_ers]
 rfl
theorem evL_ers (L : List Ett) (p : Nat) (e : Ett) : evL (ers L) p (er e) = ers (evL L p e) := by unfold evL; rw [evB2_ers]
theorem evIdx_ers (L : List Ett) (p : Nat) (e : Ett) : evIdx (ers L) p (er e) = evIdx L p e := by
 unfold evIdx
 have h : evPos (ers L) p (er e) = evPos L p e := by
  unfold evPos
  rw [evB2_ers, evA_ers, prev_ers]
  rfl
 rw [h, evL_ers, ers_getD]
 rfl
theorem room_ers (size q : Nat) : ∀ (fuel : Nat) (L : List Ett) (f v : Nat), roomK size q fuel (ers L) f v = ((roomK size q fuel L f v).1, ers (roomK size q fuel L f v).2.1, (roomK size q fuel L f v).2.2)
 | fuel, L, f, v => by
   by_cases hf : sumE L + size ≤ q
   ·rw [roomK_fit hf, roomK_fit (by rw [sum_ers]; exact hf)]
   ·have hf2 : ¬ sumE (ers L) + size ≤ q := by rw [sum_ers]; exact hf
    cases hl : leastK L L.length with
    | none => rw [roomK_none hf hl, roomK_none hf2 (by rw [ers_len, least_ers]; exact hl)]
    | some p =>
      have hl2 : leastK (ers L) (ers L).length = some p := by rw [ers_len, least_ers]; exact hl
      cases fuel with
      | zero =>
        unfold roomK
        rw [if_neg hf, if_neg hf2]
      | succ k =>
        rw [roomK_some hf hl, roomK_some hf2 hl2, ers_getD, evL_ers, evIdx_ers]
        exact room_ers size q k _ _ _
theorem addJ_ers (L : List Ett) (e : Ett) : addJ (ers L) (er e) = (ers (addJ L e).1, (addJ L e).2) := by
 have h : ers L ++ [er e] = ers (L ++ [e]) := by rw [ers_append]; rfl
 unfold addJ
 rw [h, ers_len, prev_ers, joinK_ers]
 by_cases hg : e.x.g = true
 ·rw [if_pos (show (er e).x.g = true from hg), if_pos hg]
  rfl
 ·rw [if_neg (show ¬ (er e).x.g = true from hg), if_neg hg]
theorem addF_ers (L : List Ett) (e : Ett) : addF (ers L) (er e) = addF L e := by
 have h : ers L ++ [er e] = ers (L ++ [e]) := by rw [ers_append]; rfl
 unfold addF
 rw [addJ_ers, h, ers_len, prev_ers, ers_getD]
 rfl
def putV (X : Sp) (K : List Ett) (x : It) : Nat × Nat × Nat × Sp × List Ett := putR X K x none 0
theorem putV_of (X : Sp) (L : List Ett) (x : It) (A : Option Addr) (c : Nat) : putV X (ers L) x = ((putR X L x A c).1, (putR X L x A c).2.1, (putR X L x A c).2.2.1, (putR X L x A c).2.2.2.1, ers (putR X L x A c).2.2.2.2) := by
 unfold putV putR
 by_cases hp : partE x X.h ≠ 0
 ·rw [if_pos hp, if_pos hp]
 ·rw [if_neg hp, if_neg hp]
  simp only [cnt_ers, room_ers]
  obtain ⟨R, hR⟩ : ∃ R, R = roomK (itemB (partI x X.h)).length X.q (cntE L) L 0 X.v := ⟨_, rfl⟩
  rw [← hR]
  by_cases h1 : R.1 = false
  ·rw [if_pos h1, if_pos h1]
  ·rw [if_neg h1, if_neg h1]
   by_cases h2 : 1099511627776 ≤ X.n
   ·rw [if_pos h2, if_pos h2]
   ·rw [if_neg h2, if_neg h2]
    have he : ∀ X1 : Sp, addE X1 (partI x X.h) none 0 = er (addE X1 (partI x X.h) A c) := fun _ => rfl
    simp only [he, addF_ers, addJ_ers]
end Go.Proofs.YtholdcgkhicdmaaGreatDoor
namespace Go.Proofs.YtholdcgkhicdmaaGreatDoor
def poly : Nat := 3988292384
def step (n : Nat) : Nat := if n % 2 = 1 then (n / 2) ^^^ poly else n / 2
def stepN : Nat → Nat → Nat
 | 0, n => n
 | k + 1, n => stepN k (step n)
theorem xor_half (a b : Nat) : (a ^^^ b) / 2 = a / 2 ^^^ b / 2 := by
 have h := Nat.shiftRight_xor_distrib (a := a) (b := b) (i := 1)
 simpa [Nat.shiftRight_eq_div_pow] using h
theorem xor_odd (a b : Nat) : (a ^^^ b) % 2 = (a % 2 + b % 2) % 2 := by
 have h : (a ^^^ b) % 2 ^ 1 = a % 2 ^ 1 ^^^ b % 2 ^ 1 := Nat.xor_mod_two_pow
 simp only [Nat.pow_one] at h
 rw [h]
 rcases Nat.mod_two_eq_zero_or_one a with ha | ha <;> rcases Nat.mod_two_eq_zero_or_one b with hb | hb <;> rw [ha, hb] <;> rfl
theorem xor_mid (a b c d : Nat) : (a ^^^ b) ^^^ (c ^^^ d) = (a ^^^ c) ^^^ (b ^^^ d) := by
 rw [Nat.xor_assoc, Nat.xor_assoc, ← Nat.xor_assoc b c d, Nat.xor_comm b c, Nat.xor_assoc c b d]
theorem step_xor (a b : Nat) : step (a ^^^ b) = step a ^^^ step b := by
 unfold step
 rw [xor_half, xor_odd]
 rcases Nat.mod_two_eq_zero_or_one a with ha | ha <;> rcases Nat.mod_two_eq_zero_or_one b with hb | hb <;> rw [ha, hb]
 ·rfl
 ·simp [Nat.xor_assoc]
 ·simp only [Nat.reduceAdd, Nat.reduceMod, if_true, if_neg (show ¬ (0 : Nat) = 1 by decide)]
  rw [Nat.xor_assoc, Nat.xor_assoc, Nat.xor_comm poly]
 ·simp only [Nat.reduceAdd, Nat.reduceMod, if_true, if_neg (show ¬ (0 : Nat) = 1 by decide)]
  rw [xor_mid, Nat.xor_self, Nat.xor_zero]
theorem stepN_xor (k a b : Nat) : stepN k (a ^^^ b) = stepN k a ^^^ stepN k b := by
 induction k generalizing a b with
 | zero => rfl
 | succ k ih => rw [stepN, stepN, stepN, step_xor, ih]
theorem step_lt {n : Nat} (h : n < 4294967296) : step n < 4294967296 := by
 unfold step
 split
 ·exact Nat.xor_lt_two_pow (n := 32) (by omega) (by decide)
 ·omega
theorem stepN_lt (k : Nat) {n : Nat} (h : n < 4294967296) : stepN k n < 4294967296 := by
 induction k generalizing n with
 | zero => exact h
 | succ k ih => exact ih (step_lt h)
theorem stepN_add (j k n : Nat) : stepN (j + k) n = stepN k (stepN j n) := by
 induction j generalizing n with
 | zero => rw [Nat.zero_add]; rfl
 | succ j ih => rw [Nat.succ_add]; exact ih _
theorem step_even (n : Nat) : step (2 * n) = n := by
 unfold step
 rw [if_neg (by omega)]
 omega
theorem stepN_pow (k n : Nat) : stepN k (2 ^ k * n) = n := by
 induction k generalizing n with
 | zero => simp [stepN]
 | succ k ih =>
   rw [stepN, Nat.pow_succ, show 2 ^ k * 2 * n = 2 * (2 ^ k * n) by ac_rfl, step_even]
   exact ih n
def byteUp (r c : Nat) : Nat := stepN 8 (r ^^^ c)
theorem split_xor (k n : Nat) : n = (2 ^ k * (n / 2 ^ k)) ^^^ (n % 2 ^ k) := by
 have h := Nat.two_pow_add_eq_or_of_lt (Nat.mod_lt n (Nat.two_pow_pos k)) (n / 2 ^ k)
 have h1 : 2 ^ k * (n / 2 ^ k) + n % 2 ^ k = n := Nat.div_add_mod n (2 ^ k)
 have h2 : 2 ^ k * (n / 2 ^ k) ||| n % 2 ^ k = (2 ^ k * (n / 2 ^ k)) ^^^ (n % 2 ^ k) := by
  apply Nat.eq_of_testBit_eq
  intro i
  rw [Nat.testBit_or, Nat.testBit_xor, Nat.testBit_mod_two_pow, Nat.testBit_two_pow_mul]
  by_cases hi : i < k
  ·simp [hi, Nat.not_le.2 hi]
  ·simp [hi]
 rw [← h2, ← h, h1]
theorem byteUp_table (r c : Nat) : byteUp r c = (r / 256) ^^^ stepN 8 ((r % 256) ^^^ c) := by
 have h := split_xor 8 r
 have e : byteUp r c = stepN 8 (((2 ^ 8 * (r / 2 ^ 8)) ^^^ (r % 2 ^ 8)) ^^^ c) := by rw [← h]; rfl
 rw [e, Nat.xor_assoc, stepN_xor, stepN_pow]
def reg (s : Nat) (l : List Nat) : Nat := l.foldl byteUp s
theorem reg_append (s : Nat) (a b : List Nat) : reg s (a ++ b) = reg (reg s a) b := by simp [reg]
theorem byteUp_lt {r c : Nat} (hr : r < 4294967296) (hc : c < 256) : byteUp r c < 4294967296 :=
 stepN_lt 8 (Nat.xor_lt_two_pow (n := 32) hr (by omega))
theorem reg_lt {s : Nat} {l : List Nat} (hs : s < 4294967296) (hl : ∀ c ∈ l, c < 256) : reg s l < 4294967296 := by
 induction l generalizing s with
 | nil => exact hs
 | cons c l ih => exact ih (byteUp_lt hs (hl c (by simp))) fun x hx => hl x (by simp [hx])
def four (n : Nat) : List Nat := [n % 256, n / 256 % 256, n / 65536 % 256, n / 16777216 % 256]
def full : Nat := 4294967295
def sumN (l : List Nat) : Nat := reg full l ^^^ full
theorem sumN_lt {l : List Nat} (hl : ∀ c ∈ l, c < 256) : sumN l < 4294967296 :=
 Nat.xor_lt_two_pow (n := 32) (reg_lt (by decide) hl) (by decide)
end Go.Proofs.YtholdcgkhicdmaaGreatDoor
namespace Go.Proofs.YtholdcgkhicdmaaGreatDoor
open Go.RowKit
theorem ret_u32 {a b : Int} (h : a = b) : Ending.returned (.int .u32 a) = .returned (.int .u32 b) := by rw [h]
theorem stepN_succ (k n : Nat) : stepN (k + 1) n = step (stepN k n) := by
 rw [stepN_add]; rfl
theorem band1 (m : Nat) (hm : m < 4294967296) : bits .and .u32 (m : Int) 1 = (m % 2 : Nat) := by
 have h := u32_and_nat m 1 hm (by decide)
 rw [nat_mask1] at h
 exact h
set_option maxHeartbeats 400000 in
theorem shift_any (n : Nat) (w : World) (hn : n < 4294967296) :
  Calls Tryz.prog 205 #[.int .u32 n] w fun e w' => e = .returned (.int .u32 (stepN 8 n : Nat)) ∧ w = w' := by
 have Hn := Lib.hid hn
 go_enter Tryz.func205, Tryz.ntmps205
 go_wp2
 go_loop [0, 4] (fun r i => ∃ k : Nat, k ≤ 8 ∧ i = .int .i64 k ∧ ∃ m : Nat, Hid (m = stepN k n) ∧ m < 4294967296 ∧ r = .int .u32 m) (fun _ i => 8 - (intOf i).toNat)
 case atStart => exact ⟨0, by omega, rfl, n, rfl, hn, rfl⟩
 case round =>
  obtain ⟨k, hk, rfl, m, Hm, hm, rfl⟩ := hrel
  by_cases hlt : k < 8
  ·by_cases ho : m % 2 = 1
   ·have hb : (bits .and .u32 (m : Int) 1 == 1) = true := by rw [band1 m hm, ho]; rfl
    have hx : bits .xor .u32 ((m : Int) / 2) 3988292384 = (step m : Nat) := by
     rw [step, if_pos ho]; exact u32_xor_nat (m / 2) poly (by omega) (by decide)
    have hs := step_lt hm
    clear ho
    go_wp2
    refine ⟨⟨k + 1, by omega, by go_num, step m, ?_, hs, rfl⟩, by simp [intOf]; omega⟩
    show step m = stepN (k + 1) n
    rw [stepN_succ, ← Hm.out]
   ·have hb : (bits .and .u32 (m : Int) 1 == 1) = false := by rw [band1 m hm, show m % 2 = 0 by omega]; rfl
    have hx : ((m : Int) / 2) = (step m : Nat) := by rw [step, if_neg ho]; rfl
    have Hx := Lib.hid hx
    have hs := step_lt hm
    clear ho hx
    go_wp2
    refine ⟨⟨k + 1, by omega, by go_num, step m, ?_, hs, by rw [Hx.out]⟩, by simp [intOf]; omega⟩
    show step m = stepN (k + 1) n
    rw [stepN_succ, ← Hm.out]
  ·obtain rfl : k = 8 := by omega
   go_wp2
   go_ret
   exact ⟨ret_u32 (by rw [Hm.out]), rfl⟩
section
variable {w w' : World} {B B' : Nat} {A : Option Addr} {l : List Nat}
end
theorem take_succ_nat {l : List Nat} {k x : Nat} (h : l[k]? = some x) : l.take (k + 1) = l.take k ++ [x] := by
 obtain ⟨h1, rfl⟩ := List.getElem?_eq_some_iff.1 h
 exact List.take_succ_eq_append_getElem h1
theorem reg_succ {l : List Nat} {k x : Nat} (s : Nat) (h : l[k]? = some x) : reg s (l.take (k + 1)) = byteUp (reg s (l.take k)) x := by
 rw [take_succ_nat h, reg_append]; rfl
set_option maxRecDepth 100000 in
set_option maxHeartbeats 400000 in
theorem cput_any (n : Nat) (w : World) (hn : n < 4294967296) :
  Calls Tryz.prog 122 #[.int .u32 n] w fun e w' => e = .returned (.agg ((cellsB (four n)).toArray)) ∧ Below w.heap.size w w' := by
 go_enter Tryz.func122, Tryz.ntmps122
 go_wp2
 refine wp_loop_rounds 5 ?_
 rw [rounds_succ]; go_wp2
 rw [rounds_succ]; go_wp2
 rw [rounds_succ]; go_wp2
 rw [rounds_succ]; go_wp2
 rw [rounds_succ]; go_wp2
 have e : cellsB (four n) = [Value.int .u8 ((n : Int) % 256), Value.int .u8 ((n : Int) / 256 % 256), Value.int .u8 ((n : Int) / 65536 % 256), Value.int .u8 ((n : Int) / 16777216)] := by
  simp only [cellsB, four, encB, List.map_cons, List.map_nil]
  rw [show n / 16777216 % 256 = n / 16777216 by omega]
  rfl
 rw [e]
 exact bodyPost_ret (v := .agg #[Value.int .u8 ((n : Int) % 256), Value.int .u8 ((n : Int) / 256 % 256), Value.int .u8 ((n : Int) / 65536 % 256), Value.int .u8 ((n : Int) / 16777216)]) (by simp [results, Tryz.results122, go_sem]) rfl ⟨rfl, ((Below.refl _ _).alloc (Nat.le_refl _) _).alloc (by simp) _⟩
def takeN (l : List Nat) : Nat := l.getD 0 0 + 256 * l.getD 1 0 + 65536 * l.getD 2 0 + 16777216 * l.getD 3 0
theorem or_add {a b : Nat} {k : Nat} (ha : a < 2 ^ k) (hs : a + 2 ^ k * b < 4294967296) : bits .or .u32 (a : Int) ((2 ^ k * b : Nat) : Int) = ((a + 2 ^ k * b : Nat) : Int) := by
 rw [u32_or_nat _ _ (by omega) (by omega), Nat.or_comm, nat_join k _ _ (Nat.mul_mod_right _ _) ha, Nat.add_comm]
set_option maxRecDepth 100000 in
set_option maxHeartbeats 400000 in
theorem ctake_any (l : List Nat) (hl : l.length = 4) (hok : OkB l) (w : World) :
  Calls Tryz.prog 171 #[.agg (cellsB l).toArray] w fun e w' => e = .returned (.int .u32 (takeN l : Nat)) ∧ Below w.heap.size w w' := by
 obtain ⟨a, b, c, d, rfl⟩ : ∃ a b c d, l = [a, b, c, d] := by
  match l, hl with
  | [a, b, c, d], _ => exact ⟨a, b, c, d, rfl⟩
 have ha : a < 256 := hok a (by simp)
 have hb : b < 256 := hok b (by simp)
 have hc : c < 256 := hok c (by simp)
 have hd : d < 256 := hok d (by simp)
 clear hok hl
 simp only [cellsB, encB, List.map_cons, List.map_nil]
 go_enter Tryz.func171, Tryz.ntmps171
 go_wp2
 refine wp_loop_rounds 5 ?_
 rw [rounds_succ]; go_wp2
 rw [rounds_succ]; go_wp2
 rw [rounds_succ]; go_wp2
 rw [rounds_succ]; go_wp2
 rw [rounds_succ]; go_wp2
 go_ret
 refine ⟨ret_u32 ?_, (Below.refl _ _).alloc (Nat.le_refl _) _⟩
 show bits .or .u32 (bits .or .u32 (bits .or .u32 (bits .or .u32 0 (a : Int)) ((b : Int) * 256)) ((c : Int) * 65536)) ((d : Int) * 16777216) = (takeN [a, b, c, d] : Nat)
 have h0 : bits .or .u32 0 (a : Int) = (a : Nat) := by
  have h := or_add (a := 0) (b := a) (k := 0) (by decide) (by omega)
  simpa using h
 have h1 := or_add (a := a) (b := b) (k := 8) (by omega) (by omega)
 have h2 := or_add (a := a + 2 ^ 8 * b) (b := c) (k := 16) (by omega) (by omega)
 have h3 := or_add (a := a + 2 ^ 8 * b + 2 ^ 16 * c) (b := d) (k := 24) (by omega) (by omega)
 rw [h0, show (b : Int) * 256 = ((2 ^ 8 * b : Nat) : Int) by omega, h1, show (c : Int) * 65536 = ((2 ^ 16 * c : Nat) : Int) by omega, h2, show (d : Int) * 16777216 = ((2 ^ 24 * d : Nat) : Int) by omega, h3]
 simp [takeN]
theorem takeN_four {n : Nat} (hn : n < 4294967296) : takeN (four n) = n := by
 simp [takeN, four]
 omega
theorem four_takeN {l : List Nat} (hl : l.length = 4) (hok : OkB l) : four (takeN l) = l := by
 obtain ⟨a, b, c, d, rfl⟩ : ∃ a b c d, l = [a, b, c, d] := by
  match l, hl with
  | [a, b, c, d], _ => exact ⟨a, b, c, d, rfl⟩
 have ha : a < 256 := hok a (by simp)
 have hb : b < 256 := hok b (by simp)
 have hc : c < 256 := hok c (by simp)
 have hd : d < 256 := hok d (by simp)
 simp [takeN, four]
 omega
theorem takeN_lt {l : List Nat} (hl : l.length = 4) (hok : OkB l) : takeN l < 4294967296 := by
 obtain ⟨a, b, c, d, rfl⟩ : ∃ a b c d, l = [a, b, c, d] := by
  match l, hl with
  | [a, b, c, d], _ => exact ⟨a, b, c, d, rfl⟩
 have ha : a < 256 := hok a (by simp)
 have hb : b < 256 := hok b (by simp)
 have hc : c < 256 := hok c (by simp)
 have hd : d < 256 := hok d (by simp)
 simp [takeN]
 omega
theorem okB_four (n : Nat) : OkB (four n) := fun x hx => by
 simp [four] at hx
 omega
theorem disable_ (w : World) : (callFunc 222 #[]).run Tryz.prog w = .ok (.value (.tuple #[])) w := run_call_mark0 Tryz.func222 (by kernel_rfl) (by kernel_rfl) (by kernel_rfl) .disable (by kernel_rfl) w
theorem enable_ (w : World) : (callFunc 224 #[]).run Tryz.prog w = .ok (.value (.tuple #[])) w := run_call_mark0 Tryz.func224 (by kernel_rfl) (by kernel_rfl) (by kernel_rfl) .enable (by kernel_rfl) w
theorem acquire_ (a : Addr) (w : World) : (callFunc 225 #[.pointer (some a)]).run Tryz.prog w = .ok (.value (.tuple #[])) w := run_call_marked Tryz.func225 (by kernel_rfl) (by kernel_rfl) (by kernel_rfl) .acquire (by kernel_rfl) a w
theorem releaseMerge_ (a : Addr) (w : World) : (callFunc 227 #[.pointer (some a)]).run Tryz.prog w = .ok (.value (.tuple #[])) w := run_call_marked Tryz.func227 (by kernel_rfl) (by kernel_rfl) (by kernel_rfl) .releaseMerge (by kernel_rfl) a w
set_option maxRecDepth 100000 in
theorem store_deferred (a : Addr) (x : Value) (u : FrameMode) (w : World) (hc : w.cell? a = some x) (hz : w.frozen? a = false) :
  CallsD Tryz.prog 215 #[.pointer (some a), .bool true] u w fun e u' w' => u' = u ∧ (e = .returned (.tuple #[]) ∧ w' = w.drew.setCell a (.int .u32 1)) := by
 have hc' : w.drew.cell? a = some x := by go_simp
 have hz' : w.drew.frozen? a = false := by go_simp
 have hst := run_call_store (P := Tryz.prog) Tryz.func219 (by kernel_rfl) (by kernel_rfl) (by kernel_rfl) (by kernel_rfl) (k := .u32) (y := 1) hc' hz'
 go_enter_d Tryz.func215, Tryz.ntmps215
 go_wp2
 go_region_calls
 all_goals (go_end0; exact ⟨rfl, rfl⟩)
set_option maxRecDepth 100000 in
theorem unlock_deferred (a : Addr) (u : FrameMode) (w : World) (hc : w.cell? a = some (.int .i32 1)) (hz : w.frozen? a = false) :
  CallsD Tryz.prog 214 #[.pointer (some a)] u w fun e u' w' => u' = u ∧ (e = .returned (.tuple #[]) ∧ w' = w.setCell a (.int .i32 0)) := by
 have hd := disable_
 have he := enable_
 have hr := releaseMerge_
 have hadd := run_call_add (P := Tryz.prog) Tryz.func228 (by kernel_rfl) (by kernel_rfl) (by kernel_rfl) .i32 (by kernel_rfl) (y := -1) (s := 0) hc hz (by simp [go_sem]; rfl)
 have hcv := run_convert_to_unsafe (P := Tryz.prog) (src := 293) (dst := 297) Tryz.underlying293 Tryz.underlying297 (by kernel_rfl) hc
 go_enter_d Tryz.func214, Tryz.ntmps214
 go_wp2
 go_end0
 go_wp2
 go_end0
 exact ⟨rfl, rfl⟩
set_option maxRecDepth 100000 in
theorem lock_free (a : Addr) (w : World) (hc : w.cell? a = some (.int .i32 0)) (hz : w.frozen? a = false) :
  Calls Tryz.prog 213 #[.pointer (some a)] w fun e w' => e = .returned (.tuple #[]) ∧ w' = w.setCell a (.int .i32 1) := by
 have hd := disable_
 have he := enable_
 have ha := acquire_
 have hcas := run_call_cas_hit (P := Tryz.prog) Tryz.func223 (by kernel_rfl) (by kernel_rfl) (by kernel_rfl) .i32 (by kernel_rfl) (y := 1) hc hz
 have hc' : (w.setCell a (.int .i32 1)).cell? a = some (.int .i32 1) := World.cell?_setCell_same w a _ hc
 have hcv := run_convert_to_unsafe (P := Tryz.prog) (src := 293) (dst := 297) Tryz.underlying293 Tryz.underlying297 (by kernel_rfl) hc'
 go_enter Tryz.func213, Tryz.ntmps213
 go_wp2
 first | go_end0 | (simp only [Exit.inBlock, Exit.then]; refine bodyPost_ret (results_none rfl _ _ _) rfl ?_) | refine bodyPost_ret (results_none rfl _ _ _) rfl ?_
 go_wp2
 go_end0
 exact ⟨rfl, rfl⟩
theorem count_add (b o : Nat) (x y : Nat) (w : World) (hx : x + y < 18446744073709551616) (hc : w.cell? ⟨b, o, none⟩ = some (.int .u64 x)) (hz : w.frozen? ⟨b, o, none⟩ = false) :
  Calls Tryz.prog 160 #[.pointer (some ⟨b, o, none⟩), .int .u64 y] w fun e w' => e = .returned (.int .u64 (x + y : Nat)) ∧ w' = w.setCell ⟨b, o, none⟩ (.int .u64 (x + y : Nat)) := by
 have hadd := run_call_add (P := Tryz.prog) Tryz.func183 (by kernel_rfl) (by kernel_rfl) (by kernel_rfl) .u64 (by kernel_rfl) (y := y) (s := (x + y : Nat)) hc hz (by simp [go_sem, IntKind.wrap_u64]; omega)
 go_enter Tryz.func160, Tryz.ntmps160
 go_wp2
 go_ret
 exact ⟨rfl, rfl⟩
structure TurnsIn (w w' : World) (g : Nat) (P : Nat → Prop) : Prop where
 grown : w.grownBy w' (some g)
 cell : ∀ o, ¬ P o → w'.cell? ⟨g, o, none⟩ = w.cell? ⟨g, o, none⟩
 fz : ∀ o, w'.frozen? ⟨g, o, none⟩ = w.frozen? ⟨g, o, none⟩
theorem TurnsIn.refl (w : World) (g : Nat) (P : Nat → Prop) : TurnsIn w w g P := ⟨World.grownBy.refl w _, fun _ _ => rfl, fun _ => rfl⟩
theorem TurnsIn.trans {w w1 w2 : World} {g : Nat} {P : Nat → Prop} (h : TurnsIn w w1 g P) (k : TurnsIn w1 w2 g P) : TurnsIn w w2 g P :=
 ⟨grownBy_trans h.grown k.grown, fun o ho => (k.cell o ho).trans (h.cell o ho), fun o => (k.fz o).trans (h.fz o)⟩
theorem TurnsIn.mono {w w1 : World} {g : Nat} {P Q : Nat → Prop} (h : TurnsIn w w1 g P) (k : ∀ o, P o → Q o) : TurnsIn w w1 g Q :=
 ⟨h.grown, fun o ho => h.cell o fun hp => ho (k o hp), h.fz⟩
theorem TurnsIn.set (w : World) (g j : Nat) (u : Value) (P : Nat → Prop) (hj : P j) : TurnsIn w (w.setCell ⟨g, j, none⟩ u) g P :=
 ⟨⟨rfl, rfl, rfl, by simp, fun k _ hne => Below.heap_setCell _ _ _ k (fun e => hne (by rw [e]))⟩,
   fun o ho => World.cell?_setCell_other w ⟨g, j, none⟩ ⟨g, o, none⟩ u (fun e => ho (by injection e with _ e2; rw [← e2]; exact hj)), fun o => by simp⟩
theorem TurnsIn.drew {w w1 : World} {g : Nat} {P : Nat → Prop} (h : TurnsIn w w1 g P) : TurnsIn w w1.drew g P :=
 ⟨⟨h.grown.os, h.grown.tape, h.grown.output, h.grown.size, h.grown.block⟩, fun o ho => (World.cell?_drew _ _).trans (h.cell o ho), fun o => (World.frozen?_drew _ _).trans (h.fz o)⟩
structure Tab (w : World) (g d s b : Nat) : Prop where
 lt : g < w.heap.size
 c0 : w.cell? ⟨g, 0, none⟩ = some (.int .u32 d)
 c1 : w.cell? ⟨g, 1, none⟩ = some (.int .i32 0)
 tab : ∀ j, j < 256 → ∃ x : Nat, w.cell? ⟨g, 3 + j, none⟩ = some (.int .u32 x) ∧ (d = 1 → x = stepN 8 j)
 sums : w.cell? ⟨g, 259, none⟩ = some (.int .u64 s)
 bytes : w.cell? ⟨g, 260, none⟩ = some (.int .u64 b)
 fz : ∀ o, w.frozen? ⟨g, o, none⟩ = false
set_option maxRecDepth 100000 in
set_option maxHeartbeats 1000000 in
theorem fill_any (g : Nat) (w : World) (ht : ∀ j, j < 256 → ∃ x : Nat, w.cell? ⟨g, 3 + j, none⟩ = some (.int .u32 x)) (hz : ∀ o, w.frozen? ⟨g, o, none⟩ = false) :
  Calls Tryz.prog 185 #[.pointer (some ⟨g, 0, none⟩)] w fun e w' => e = .returned (.tuple #[]) ∧ TurnsIn w w' g (fun o => 3 ≤ o ∧ o < 259) ∧ ∀ j, j < 256 → w'.cell? ⟨g, 3 + j, none⟩ = some (.int .u32 (stepN 8 j : Nat)) := by
 have Ht := Lib.hid ht
 have Hz := Lib.hid hz
 clear ht hz
 go_enter Tryz.func185, Tryz.ntmps185
 go_wp2
 go_loopw [3] (fun i wr => ∃ k : Nat, k ≤ 256 ∧ i = .int .i64 k ∧ Hid (TurnsIn w wr g (fun o => 3 ≤ o ∧ o < 3 + k)) ∧ Hid (∀ j, j < k → wr.cell? ⟨g, 3 + j, none⟩ = some (.int .u32 (stepN 8 j : Nat)))) (fun i _ => 256 - (intOf i).toNat)
 case atStart => exact ⟨0, by omega, rfl, TurnsIn.refl _ _ _, fun j hj => by omega⟩
 case round =>
  obtain ⟨k, hk, rfl, Ho, Hd⟩ := hrel
  by_cases hlt : k < 256
  ·obtain ⟨x, hx⟩ := Ht.out k hlt
   have hx' : wr.cell? ⟨g, 3 + k, none⟩ = some (.int .u32 x) := (Ho.out.cell _ (by omega)).trans hx
   have hz' : wr.frozen? ⟨g, 3 + k, none⟩ = false := (Ho.out.fz _).trans (Hz.out _)
   clear hx
   have hwr : IntKind.u32.wrap (k : Int) = (k : Nat) := by rw [IntKind.wrap_u32']; omega
   have Hs := Lib.hid (show ∀ w, Calls Tryz.prog 205 #[.int .u32 (IntKind.u32.wrap (k : Int))] w fun e w' => e = .returned (.int .u32 (stepN 8 k : Nat)) ∧ w' = w from fun w => by rw [hwr]; exact (shift_any k w (by omega)).mono fun e w' (h : _ ∧ _) => And.intro h.1 h.2.symm)
   clear hwr
   go_wp2
   refine wp_region_still_tail 8 (by kernel_rfl) (by kernel_rfl) ?_
   simp only [List.take_succ_cons, List.take_zero, List.drop_succ_cons, List.drop_zero]
   repeat still_step
   still_call (Hs.out _)
   repeat still_step
   refine wpStill_nil ?_
   change wpList _ _ _ _ _ wr.drew
   have hx2 : wr.drew.cell? ⟨g, 3 + k, none⟩ = some (.int .u32 x) := (World.cell?_drew _ _).trans hx'
   have hz2 : wr.drew.frozen? ⟨g, 3 + k, none⟩ = false := (World.frozen?_drew _ _).trans hz'
   have Ho2 := Lib.hid (Ho.out.drew)
   have Hd2 : Hid (∀ j, j < k → wr.drew.cell? ⟨g, 3 + j, none⟩ = some (.int .u32 (stepN 8 j : Nat))) := fun j hj => (World.cell?_drew _ _).trans (Hd.out j hj)
   generalize wr.drew = w2 at *
   go_wp2
   have hsame := World.cell?_setCell_same w2 ⟨g, 3 + k, none⟩ (.int .u32 (stepN 8 k : Nat)) hx2
   refine ⟨⟨k + 1, by omega, by go_num, ?_, fun j hj => ?_⟩, by simp [intOf]; omega⟩
   ·exact (Ho2.out.mono fun o ho => ⟨ho.1, by omega⟩).trans (TurnsIn.set w2 g (3 + k) _ _ ⟨by omega, by omega⟩)
   ·by_cases hjk : j = k
    ·subst hjk; exact hsame
    ·exact (World.cell?_setCell_other w2 ⟨g, 3 + k, none⟩ ⟨g, 3 + j, none⟩ _ (by intro e; injection e; omega)).trans (Hd2.out j (by omega))
  ·obtain rfl : k = 256 := by omega
   go_wp2
   go_end0
   exact ⟨rfl, Ho.out, Hd.out⟩
set_option maxRecDepth 100000 in
set_option maxHeartbeats 1600000 in
theorem slow_any (g s b : Nat) (w : World) (h : Tab w g 0 s b) :
  Calls Tryz.prog 204 #[.pointer (some ⟨g, 0, none⟩), .func (.func 185) #[.pointer (some ⟨g, 0, none⟩)] #[]] w fun e w' => e = .returned (.tuple #[]) ∧ TurnsIn w w' g (· < 259) ∧ Tab w' g 1 s b := by
 have hnot : ∀ (x : Bool) (w : World), (Op.unary .not (.bool x)).run Tryz.prog w = .ok (.bool (!x)) w := fun _ _ => rfl
 have h0 : (w.setCell ⟨g, 1, none⟩ (.int .i32 1)).cell? ⟨g, 0, none⟩ = some (.int .u32 0) := (World.cell?_setCell_other w ⟨g, 1, none⟩ ⟨g, 0, none⟩ _ (by simp)).trans h.c0
 have h1 : (w.setCell ⟨g, 1, none⟩ (.int .i32 1)).cell? ⟨g, 1, none⟩ = some (.int .i32 1) := World.cell?_setCell_same w _ _ h.c1
 have hl := run_call_load (P := Tryz.prog) Tryz.func212 (by kernel_rfl) (by kernel_rfl) (by kernel_rfl) .u32 (by kernel_rfl) h0
 have Hk := Lib.hid (lock_free ⟨g, 1, none⟩ w h.c1 (h.fz 1))
 have Hf := Lib.hid (fill_any g (w.setCell ⟨g, 1, none⟩ (.int .i32 1)) (fun j hj => by
  obtain ⟨x, hx, _⟩ := h.tab j hj
  exact ⟨x, (World.cell?_setCell_other w ⟨g, 1, none⟩ ⟨g, 3 + j, none⟩ _ (by intro e; injection e; omega)).trans hx⟩) (fun o => by simpa using h.fz o))
 have H := Lib.hid h
 have Ho := Lib.hid (TurnsIn.set w g 1 (.int .i32 1) (· < 259) (by decide))
 have H0 := Lib.hid h0
 have H1 := Lib.hid h1
 clear h h0 h1
 go_enter_defers Tryz.func204, Tryz.ntmps204
 go_wp2_with (go_at_call 213; refine Hk.out.mono ?_; rintro e w' ⟨rfl, rfl⟩)
 go_wp2_with (first | (go_at_call 185; refine Hf.out.mono ?_; rintro e w2 ⟨rfl, ho2, hd2⟩) | (go_at_call 203; go_in))
 have c0 : w2.cell? ⟨g, 0, none⟩ = some (.int .u32 0) := (ho2.cell 0 (by omega)).trans H0.out
 have c1 : w2.cell? ⟨g, 1, none⟩ = some (.int .i32 1) := (ho2.cell 1 (by omega)).trans H1.out
 have z2 : ∀ o, w2.frozen? ⟨g, o, none⟩ = false := fun o => (ho2.fz o).trans ((Ho.out.fz o).trans (H.out.fz o))
 have Hd2 := Lib.hid hd2
 have Ho2 := Lib.hid (Ho.out.trans (ho2.mono (fun o (ho : _ ∧ _) => ho.2)))
 have C1 := Lib.hid c1
 have Z2 := Lib.hid z2
 have hs2 : w2.cell? ⟨g, 259, none⟩ = some (.int .u64 s) := (Ho2.out.cell 259 (by omega)).trans H.out.sums
 have hb2 : w2.cell? ⟨g, 260, none⟩ = some (.int .u64 b) := (Ho2.out.cell 260 (by omega)).trans H.out.bytes
 have hlt2 : g < w2.heap.size := Nat.lt_of_lt_of_le H.out.lt Ho2.out.grown.size
 clear ho2 hd2 c1 z2
 go_wp2
 refine leaves_cons (f := 215) (args := #[.pointer (some ⟨g, 0, none⟩), .bool true]) (by simp) (by simp [go_sem]) ?_
 refine (store_deferred ⟨g, 0, none⟩ (.int .u32 0) .returning _ c0 (Z2.out 0)).mono ?_
 rintro e u' w'' ⟨rfl, rfl, rfl⟩
 have c0' : w2.drew.cell? ⟨g, 0, none⟩ = some (.int .u32 0) := (World.cell?_drew _ _).trans c0
 have c1' : (w2.drew.setCell ⟨g, 0, none⟩ (.int .u32 1)).cell? ⟨g, 1, none⟩ = some (.int .i32 1) := (World.cell?_setCell_other w2.drew ⟨g, 0, none⟩ ⟨g, 1, none⟩ _ (by simp)).trans ((World.cell?_drew _ _).trans C1.out)
 refine leaves_cons (f := 214) (args := #[.pointer (some ⟨g, 1, none⟩)]) (by simp [settle]) (by simp [go_sem]) ?_
 refine (unlock_deferred ⟨g, 1, none⟩ _ _ c1' (by simp [Z2.out 1])).mono ?_
 rintro e u' w'' ⟨rfl, rfl, rfl⟩
 have Hend : TurnsIn w ((w2.drew.setCell ⟨g, 0, none⟩ (.int .u32 1)).setCell ⟨g, 1, none⟩ (.int .i32 0)) g (· < 259) :=
  (Ho2.out.drew.trans (TurnsIn.set w2.drew g 0 _ _ (by decide))).trans (TurnsIn.set _ g 1 _ _ (by decide))
 have far : ∀ o, 2 ≤ o → ((w2.drew.setCell ⟨g, 0, none⟩ (.int .u32 1)).setCell ⟨g, 1, none⟩ (.int .i32 0)).cell? ⟨g, o, none⟩ = w2.cell? ⟨g, o, none⟩ := fun o ho =>
  ((World.cell?_setCell_other _ ⟨g, 1, none⟩ ⟨g, o, none⟩ _ (by intro e; injection e; omega)).trans (World.cell?_setCell_other _ ⟨g, 0, none⟩ ⟨g, o, none⟩ _ (by intro e; injection e; omega))).trans (World.cell?_drew _ _)
 have Htab : Tab ((w2.drew.setCell ⟨g, 0, none⟩ (.int .u32 1)).setCell ⟨g, 1, none⟩ (.int .i32 0)) g 1 s b :=
  { lt := by simpa using hlt2
    c0 := (World.cell?_setCell_other _ ⟨g, 1, none⟩ ⟨g, 0, none⟩ _ (by simp)).trans (World.cell?_setCell_same _ _ _ c0')
    c1 := World.cell?_setCell_same _ _ _ c1'
    tab := fun j hj => ⟨_, (far _ (by omega)).trans (Hd2.out j hj), fun _ => rfl⟩
    sums := (far _ (by omega)).trans hs2
    bytes := (far _ (by omega)).trans hb2
    fz := fun o => (Hend.fz o).trans (H.out.fz o) }
 simp [Leaves, settle, results, Tryz.results204]
 exact ⟨Hend, Htab⟩
set_option maxRecDepth 100000 in
set_option maxHeartbeats 400000 in
theorem do_any (g d s b : Nat) (hd : d ≤ 1) (w : World) (h : Tab w g d s b) :
  Calls Tryz.prog 184 #[.pointer (some ⟨g, 0, none⟩), .func (.func 185) #[.pointer (some ⟨g, 0, none⟩)] #[]] w fun e w' => e = .returned (.tuple #[]) ∧ TurnsIn w w' g (· < 259) ∧ Tab w' g 1 s b := by
 have hnot : ∀ (x : Bool) (w : World), (Op.unary .not (.bool x)).run Tryz.prog w = .ok (.bool (!x)) w := fun _ _ => rfl
 rcases (by omega : d = 0 ∨ d = 1) with rfl | rfl
 ·have hl := run_call_load (P := Tryz.prog) Tryz.func212 (by kernel_rfl) (by kernel_rfl) (by kernel_rfl) .u32 (by kernel_rfl) h.c0
  have Hs := Lib.hid (slow_any g s b w h)
  clear h
  go_enter Tryz.func184, Tryz.ntmps184
  go_wp2_with (first | (go_at_call 204; refine Hs.out.mono ?_; rintro e w2 ⟨rfl, ho2, ht2⟩) | (go_at_call 203; go_in))
  go_end0
  exact ⟨rfl, ho2, ht2⟩
 ·have hl := run_call_load (P := Tryz.prog) Tryz.func212 (by kernel_rfl) (by kernel_rfl) (by kernel_rfl) .u32 (by kernel_rfl) h.c0
  have H := Lib.hid h
  clear h
  go_enter Tryz.func184, Tryz.ntmps184
  go_wp2
  go_end0
  exact ⟨rfl, TurnsIn.refl _ _ _, H.out⟩
end Go.Proofs.YtholdcgkhicdmaaGreatDoor