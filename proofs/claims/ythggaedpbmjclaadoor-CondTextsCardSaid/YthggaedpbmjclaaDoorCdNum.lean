/- Layer 13: texts as numbers: the program's own Number and the document's. -/
import Derived.Test.YthggaedpbmjclaaDoorCdMem
import Derived.Test.YthggaedpbmjclaaDoorShelf
import Derived.Lib.ParseIntB
import Derived.Lib.Hide
import Derived.WalkKit
import Derived.WalkSpells
import Derived.StillTailTactics
import Derived.RegionTactic
namespace Go.Proofs.YthggaedpbmjclaaDoor
open Go.RowKit Go.Proofs

/-- digits behind others; none: something is no digit -/
def numF (acc : Nat) : List UInt8 → Option Nat
  | [] => some acc
  | c :: r => if 48 ≤ c.toNat ∧ c.toNat ≤ 57 then numF (acc * 10 + (c.toNat - 48)) r else none
/-- one to nineteen digits, no zero in front -/
def numS (l : List UInt8) : Bool := !(l.isEmpty || decide (19 < l.length) || (decide (1 < l.length) && (l.head? == some 48)))
def numN (l : List UInt8) (most : Nat) : Option Nat := if numS l then (match numF 0 l with | some n => if n ≤ most then some n else none | none => none) else none
theorem num_step {acc k d : Nat} (h : (acc + 1) * 10 ^ (k + 1) ≤ 10000000000000000000) (hd : d ≤ 9) : acc < 1000000000000000000 ∧ (acc * 10 + d + 1) * 10 ^ k ≤ 10000000000000000000 := by
  have h1 : (acc + 1) * 10 * 10 ^ k ≤ 10000000000000000000 := by rw [Nat.mul_assoc, ← Nat.pow_succ']; exact h
  have h2 : 1 ≤ 10 ^ k := Nat.one_le_pow _ _ (by decide)
  have h3 : (acc + 1) * 10 ≤ (acc + 1) * 10 * 10 ^ k := Nat.le_mul_of_pos_right _ (by omega)
  refine ⟨by omega, Nat.le_trans (Nat.mul_le_mul_right _ ?_) h1⟩
  omega
theorem parse_numM : ∀ (l : List UInt8) (acc : Nat), (acc + 1) * 10 ^ l.length ≤ 10000000000000000000 → Lib.parseUintM (2 ^ 64 - 1) acc l = match numF acc l with | some n => .ok n | none => Lib.NumEnd.syntax
  | [], acc, _ => rfl
  | c :: r, acc, h => by
    unfold Lib.parseUintM numF
    by_cases hd : 48 ≤ c.toNat ∧ c.toNat ≤ 57
    · obtain ⟨h1, h2⟩ := num_step (d := c.toNat - 48) h (by omega)
      rw [if_pos hd, if_pos hd, if_neg (by omega), if_neg (by omega)]
      exact parse_numM r _ h2
    · rw [if_neg hd, if_neg hd]
theorem parse_num {l : List UInt8} (h : l.length ≤ 19) (h0 : l ≠ []) : Lib.parseUintB 64 l = match numF 0 l with | some n => .ok n | none => Lib.NumEnd.syntax := by
  unfold Lib.parseUintB
  rw [if_neg h0]
  refine parse_numM l 0 ?_
  rw [Nat.zero_add, Nat.one_mul]
  exact Nat.le_trans (Nat.pow_le_pow_right (by decide) h) (by decide)
theorem numF_lt : ∀ (l : List UInt8) (acc n : Nat), numF acc l = some n → n < (acc + 1) * 10 ^ l.length
  | [], acc, n, h => by unfold numF at h; injection h with h; simp; omega
  | c :: r, acc, n, h => by
    unfold numF at h
    by_cases hd : 48 ≤ c.toNat ∧ c.toNat ≤ 57
    · rw [if_pos hd] at h
      have := numF_lt r _ n h
      rw [List.length_cons, Nat.pow_succ', ← Nat.mul_assoc]
      exact Nat.lt_of_lt_of_le this (Nat.mul_le_mul_right _ (by omega))
    · rw [if_neg hd] at h; cases h
/-- what the library's error variable holds -/
structure GlC (w : World) : Prop where
  c : ∃ ev, w.cell? ⟨2, 0, none⟩ = some ev ∧ (ev = .nilIface ∨ ∃ te pe, ev = .iface te pe)
theorem GlC.below {w w' : World} (h : GlC w) (hb : Below w.heap.size w w') : GlC w' := by
  obtain ⟨ev, h1, h2⟩ := h.c
  exact ⟨ev, (hb.cell (p := ⟨2, 0, none⟩) (World.block_lt_of_cell? _ _ h1)).trans h1, h2⟩
def numV (o : Option Nat) : Value := match o with
  | none => .tuple #[.int .u64 0, .bool false]
  | some n => .tuple #[.int .u64 n, .bool true]
/-- strconv.ParseUint of at most nineteen bytes -/
def PuRet (l : List UInt8) (w : World) (e : Ending) (w' : World) : Prop :=
  Below w.heap.size w w' ∧ ((∃ n, l ≠ [] ∧ numF 0 l = some n ∧ e = .returned (.tuple #[.int .u64 n, .nilIface])) ∨ ((l = [] ∨ numF 0 l = none) ∧ ∃ t p, e = .returned (.tuple #[.int .u64 0, .iface t p])))
theorem pu_any (s : ByteArray) (hs : s.data.toList.length ≤ 19) (w : World) (hg : GlC w) : Calls Tryd.prog 27 #[.string s, .int .i64 10, .int .i64 64] w (PuRet s.data.toList w) := by
  obtain ⟨ev, h1, h2⟩ := hg.c
  have hsz : s.size ≤ 19 := by simpa using hs
  have bad : Lib.parseUintB 64 s.data.toList = Lib.NumEnd.syntax → (s.data.toList = [] ∨ numF 0 s.data.toList = none) → Calls Tryd.prog 27 #[.string s, .int .i64 10, .int .i64 64] w (PuRet s.data.toList w) := fun h h0 => by
    refine (Tryd.strconv_ParseUint_10_at64_syntax s (by omega) h ev w h1 h2).mono ?_
    rintro _ w1 ⟨N, rfl, -, -, hb⟩
    exact ⟨hb, .inr ⟨h0, _, _, rfl⟩⟩
  by_cases h0 : s.data.toList = []
  · exact bad (by rw [h0]; rfl) (.inl h0)
  · have hp := parse_num hs h0
    cases hn : numF 0 s.data.toList with
    | none =>
      rw [hn] at hp
      exact bad hp (.inr hn)
    | some n =>
      rw [hn] at hp
      refine (Tryd.strconv_ParseUint_10_at64_ok s (by omega) n hp w).mono ?_
      rintro _ w1 ⟨rfl, hw⟩
      refine ⟨?_, .inl ⟨n, h0, hn, rfl⟩⟩
      rcases hw with rfl | rfl
      · exact Below.refl _ _
      · exact Lib.bytesWorld_below _ _ _
theorem byte0 (s : ByteArray) (h : 0 < s.size) : s.data.toList.head? = some (s[0]'h) := by
  rw [List.head?_eq_getElem?, Array.getElem?_toList]
  exact Array.getElem?_eq_getElem h
set_option maxRecDepth 100000 in
set_option maxHeartbeats 1000000 in
theorem cnum_any (s : ByteArray) (most : Nat) (w : World) (hs : s.size ≤ 9223372036854775807) (hg : GlC w) :
    Calls Tryd.prog 14 #[.string s, .int .u64 most] w fun e w' => e = .returned (numV (numN s.data.toList most)) ∧ Below w.heap.size w w' := by
  have hl : s.data.toList.length = s.size := by simp
  by_cases h19 : 19 < s.size
  · have e1 : numN s.data.toList most = none := by
      unfold numN numS
      rw [if_neg]
      simp [hl, h19]
    rw [e1]
    have d1 : decide ((19 : Int) < (s.size : Int)) = true := decide_eq_true (by omega)
    have d2 : decide (19 < s.size) = true := decide_eq_true h19
    clear e1 hl
    go_enter Tryd.func14, Tryd.ntmps14
    go_wp2
    go_ret2
    exact ⟨rfl, Below.refl _ _⟩
  have d1 : decide ((19 : Int) < (s.size : Int)) = false := decide_eq_false (by omega)
  have d2 : decide (19 < s.size) = false := decide_eq_false h19
  by_cases h1 : 1 < s.size
  · have d3 : decide ((1 : Int) < (s.size : Int)) = true := decide_eq_true (by omega)
    have d4 : decide (1 < s.size) = true := decide_eq_true h1
    have hb0 := byte0 s (by omega)
    have d5 : decide (0 < s.size) = true := decide_eq_true (by omega)
    have h0 : 0 < s.size := by omega
    by_cases hc : s[0]'h0 = 48
    · have d6 : (((s[0]'h0).toNat : Int) == 48) = true := by rw [hc]; rfl
      have e1 : numN s.data.toList most = none := by
        unfold numN numS
        rw [if_neg]
        rw [hb0, hc]
        simp [h1]
      rw [e1]
      clear e1 hl hb0 hc
      go_enter Tryd.func14, Tryd.ntmps14
      go_wp2
      go_ret2
      exact ⟨rfl, Below.refl _ _⟩
    · have d6 : (((s[0]'h0).toNat : Int) == 48) = false := by
        rw [beq_eq_false_iff_ne]
        intro h
        exact hc (UInt8.toNat_inj.1 (by show (s[0]'h0).toNat = 48; omega))
      have HNS : Hid (numS s.data.toList = true ∨ s.data.toList = []) := by
        left
        unfold numS
        have hne : s.data.toList.isEmpty = false := by
          cases e : s.data.toList with
          | nil => rw [e] at hl; simp at hl; omega
          | cons a b => rfl
        rw [hne, hl, hb0]
        simp [h19, hc]
      have HNS : Hid (numS s.data.toList = true) := by
        rcases HNS.out with h | h
        · exact h
        · rw [h] at hl; simp at hl; omega
      clear hb0 hc
      obtain ⟨O, hO⟩ : ∃ O, O = numN s.data.toList most := ⟨_, rfl⟩
      rw [← hO]
      have HO := Lib.hid hO
      clear hO
      go_enter Tryd.func14, Tryd.ntmps14
      have HP := Lib.hid (pu_any s (by omega) w hg)
      have HL := Lib.hid hl
      clear hg hl h19
      go_wp2_with fail
      refine HP.out.mono ?_
      rintro e w1 ⟨hb, h⟩
      have HB := Lib.hid hb
      clear hb HP
      rcases h with ⟨n, hn0, hn, rfl⟩ | ⟨hbad, t, p, rfl⟩
      · by_cases hm : most < n
        · have k1 : decide ((most : Int) < (n : Int)) = true := decide_eq_true (by omega)
          have k2 : decide (most < n) = true := decide_eq_true hm
          have e1 : numN s.data.toList most = none := by
            unfold numN
            rw [HNS.out, if_pos rfl, hn]
            show (if n ≤ most then some n else none) = none
            rw [if_neg (by omega)]
          have E1 := Lib.hid e1
          clear e1 hn hn0
          go_wp2
          go_ret2
          exact ⟨by rw [HO.out, E1.out]; rfl, HB.out⟩
        · have k1 : decide ((most : Int) < (n : Int)) = false := decide_eq_false (by omega)
          have k2 : decide (most < n) = false := decide_eq_false hm
          have e1 : numN s.data.toList most = some n := by
            unfold numN
            rw [HNS.out, if_pos rfl, hn]
            show (if n ≤ most then some n else none) = some n
            rw [if_pos (by omega)]
          have E1 := Lib.hid e1
          clear e1 hn hn0
          go_wp2
          go_ret2
          exact ⟨by rw [HO.out, E1.out]; rfl, HB.out⟩
      · have e1 : numN s.data.toList most = none := by
          unfold numN
          rcases hbad with hb | hb
          · rw [if_neg]; unfold numS; rw [hb]; decide
          · rw [hb]; split <;> rfl
        have E1 := Lib.hid e1
        clear e1 hbad
        go_wp2
        go_ret2
        exact ⟨by rw [HO.out, E1.out]; rfl, HB.out⟩
  · have d3 : decide ((1 : Int) < (s.size : Int)) = false := decide_eq_false (by omega)
    have d4 : decide (1 < s.size) = false := decide_eq_false h1
    obtain ⟨O, hO⟩ : ∃ O, O = numN s.data.toList most := ⟨_, rfl⟩
    rw [← hO]
    have HO := Lib.hid hO
    clear hO
    go_enter Tryd.func14, Tryd.ntmps14
    have HNS : s.data.toList ≠ [] → numS s.data.toList = true := fun hne => by
      unfold numS
      have hne2 : s.data.toList.isEmpty = false := by
        cases e : s.data.toList with
        | nil => exact absurd e hne
        | cons a b => rfl
      rw [hne2, hl]
      simp [h19, h1]
    have HP := Lib.hid (pu_any s (by omega) w hg)
    have HL := Lib.hid hl
    clear hg hl h19
    go_wp2_with fail
    refine HP.out.mono ?_
    rintro e w1 ⟨hb, h⟩
    have HB := Lib.hid hb
    clear hb HP
    rcases h with ⟨n, hn0, hn, rfl⟩ | ⟨hbad, t, p, rfl⟩
    · by_cases hm : most < n
      · have k1 : decide ((most : Int) < (n : Int)) = true := decide_eq_true (by omega)
        have k2 : decide (most < n) = true := decide_eq_true hm
        have e1 : numN s.data.toList most = none := by
          unfold numN
          rw [if_pos (HNS hn0), hn]
          show (if n ≤ most then some n else none) = none
          rw [if_neg (by omega)]
        have E1 := Lib.hid e1
        clear e1 hn hn0
        go_wp2
        go_ret2
        exact ⟨by rw [HO.out, E1.out]; rfl, HB.out⟩
      · have k1 : decide ((most : Int) < (n : Int)) = false := decide_eq_false (by omega)
        have k2 : decide (most < n) = false := decide_eq_false hm
        have e1 : numN s.data.toList most = some n := by
          unfold numN
          rw [if_pos (HNS hn0), hn]
          show (if n ≤ most then some n else none) = some n
          rw [if_pos (by omega)]
        have E1 := Lib.hid e1
        clear e1 hn hn0
        go_wp2
        go_ret2
        exact ⟨by rw [HO.out, E1.out]; rfl, HB.out⟩
    · have e1 : numN s.data.toList most = none := by
        unfold numN
        rcases hbad with hb | hb
        · rw [if_neg]; unfold numS; rw [hb]; decide
        · rw [hb]; split <;> rfl
      have E1 := Lib.hid e1
      clear e1 hbad
      go_wp2
      go_ret2
      exact ⟨by rw [HO.out, E1.out]; rfl, HB.out⟩
end Go.Proofs.YthggaedpbmjclaaDoor
