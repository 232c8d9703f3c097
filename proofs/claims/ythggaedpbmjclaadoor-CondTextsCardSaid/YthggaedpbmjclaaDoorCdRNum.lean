/- Layer 13: texts as numbers: the document's Number. -/
import Derived.Test.YthggaedpbmjclaaDoorCdNum
import Derived.Deep.DeepCutAuto
namespace Go.Proofs.YthggaedpbmjclaaDoor
open Go.RowKit Go.Proofs

/-- what the document's Number answers -/
def rnumV (l : List UInt8) (most : Nat) : Value := if numS l then (match numF 0 l with | some n => .tuple #[.int .u64 n, .bool (decide (n ≤ most))] | none => .tuple #[.int .u64 0, .bool false]) else .tuple #[.int .u64 0, .bool false]
theorem drop_cons8 (s : ByteArray) (i : Nat) (h : i < s.size) : s.data.toList.drop i = (s[i]'h) :: s.data.toList.drop (i + 1) := by
  rw [List.drop_eq_getElem_cons (by simpa using h)]
  rfl
set_option maxRecDepth 100000 in
set_option maxHeartbeats 1000000 in
theorem rnum_any (s : ByteArray) (most : Nat) (w : World) (hs : s.size ≤ 9223372036854775807) :
    Calls Tryd.prog 15 #[.string s, .int .u64 most] w fun e w' => e = .returned (rnumV s.data.toList most) ∧ w = w' := by
  have hl : s.data.toList.length = s.size := by simp
  obtain ⟨O, hO⟩ : ∃ O, O = rnumV s.data.toList most := ⟨_, rfl⟩
  rw [← hO]
  have bad : numS s.data.toList = false → O = .tuple #[.int .u64 0, .bool false] := fun h => by rw [hO]; unfold rnumV; rw [h]; rfl
  by_cases h00 : s.size = 0
  · have d1 : ((s.size : Int) == 0) = true := by rw [beq_iff_eq]; omega
    have d2 : (s.size == 0) = true := by rw [beq_iff_eq]; omega
    have E := Lib.hid (bad (by unfold numS; cases e : s.data.toList with | nil => rfl | cons a b => rw [e] at hl; simp at hl; omega))
    clear bad hO hl
    go_enter Tryd.func15, Tryd.ntmps15
    go_wp2
    go_ret2
    exact ⟨by rw [E.out]; rfl, rfl⟩
  have d1 : ((s.size : Int) == 0) = false := by rw [beq_eq_false_iff_ne]; omega
  have d2 : (s.size == 0) = false := by rw [beq_eq_false_iff_ne]; omega
  by_cases h19 : 19 < s.size
  · have d3 : decide ((19 : Int) < (s.size : Int)) = true := decide_eq_true (by omega)
    have d4 : decide (19 < s.size) = true := decide_eq_true h19
    have E := Lib.hid (bad (by unfold numS; simp [hl, h19]))
    clear bad hO hl
    go_enter Tryd.func15, Tryd.ntmps15
    go_wp2
    go_ret2
    exact ⟨by rw [E.out]; rfl, rfl⟩
  have d3 : decide ((19 : Int) < (s.size : Int)) = false := decide_eq_false (by omega)
  have d4 : decide (19 < s.size) = false := decide_eq_false h19
  have h0 : 0 < s.size := by omega
  have d5 : decide (0 < s.size) = true := decide_eq_true h0
  have hb0 := byte0 s h0
  obtain ⟨b1, hb1⟩ : ∃ b1 : Bool, b1 = (decide (1 < s.size) && (s.data.toList.head? == some 48)) := ⟨_, rfl⟩
  have hns : numS s.data.toList = !b1 := by
    unfold numS
    have hne : s.data.toList.isEmpty = false := by
      cases e : s.data.toList with
      | nil => rw [e] at hl; simp at hl; omega
      | cons a b => rfl
    rw [hne, hl, hb1]
    simp [h19]
  have HB1 : Hid (b1 = (decide (1 < s.size) && decide (s[0]'h0 = 48))) := by
    show b1 = _
    rw [hb1, hb0]
    congr 1
  have HBAD := Lib.hid bad
  have HNS := Lib.hid hns
  have HO := Lib.hid hO
  clear bad hO hb1 hns hb0
  go_enter Tryd.func15, Tryd.ntmps15
  go_upto_region 1 with fail
  go_cut [25] from 8 to 25 (fun bv wx => bv = .bool b1 ∧ wx = w)
  case first =>
    by_cases h1 : 1 < s.size
    · have d6 : decide ((1 : Int) < (s.size : Int)) = true := decide_eq_true (by omega)
      have d7 : decide (1 < s.size) = true := decide_eq_true h1
      by_cases hc : s[0]'h0 = 48
      · have d8 : (((s[0]'h0).toNat : Int) == 48) = true := by rw [hc]; rfl
        have e1 : b1 = true := by rw [HB1.out, d7, decide_eq_true hc]; rfl
        clear hc HB1
        subst e1
        go_wp2
        go_meet
        exact ⟨rfl, rfl⟩
      · have d8 : (((s[0]'h0).toNat : Int) == 48) = false := by
          rw [beq_eq_false_iff_ne]
          intro h
          exact hc (UInt8.toNat_inj.1 (by show (s[0]'h0).toNat = 48; omega))
        have e1 : b1 = false := by rw [HB1.out, d7, decide_eq_false hc]; rfl
        clear hc HB1
        subst e1
        go_wp2
        go_meet
        exact ⟨rfl, rfl⟩
    · have d6 : decide ((1 : Int) < (s.size : Int)) = false := decide_eq_false (by omega)
      have d7 : decide (1 < s.size) = false := decide_eq_false h1
      have e1 : b1 = false := by rw [HB1.out, d7]; rfl
      clear HB1
      subst e1
      go_wp2
      go_meet
      exact ⟨rfl, rfl⟩
  case rest =>
  obtain ⟨rfl, hwc⟩ := hcut
  subst hwc
  clear HB1 d1 d2 d3 d4 d5
  cases b1 with
  | true =>
    have E := Lib.hid (HBAD.out (by rw [HNS.out]; rfl))
    go_wp2
    go_ret2
    exact ⟨by rw [E.out]; rfl, rfl⟩
  | false =>
    have HV : Hid (O = match numF 0 s.data.toList with | some n => .tuple #[.int .u64 n, .bool (decide (n ≤ most))] | none => .tuple #[.int .u64 0, .bool false]) := by
      show O = _
      rw [HO.out]
      unfold rnumV
      rw [HNS.out]
      rfl
    clear HBAD HNS HO
    obtain ⟨N, hN⟩ : ∃ N, N = s.size := ⟨_, rfl⟩
    go_upto_region 5 with fail
    go_loopw [6, 7] (fun nv iv wx => ∃ (i acc : Nat), i ≤ s.size ∧ iv = .int .i64 i ∧ nv = .int .u64 acc ∧ Hid (numF 0 s.data.toList = numF acc (s.data.toList.drop i) ∧ (acc + 1) * 10 ^ (s.size - i) ≤ 10000000000000000000) ∧ wx = wc) (fun _ iv _ => s.size - (intOf iv).toNat)
    case atStart => exact ⟨0, 0, Nat.zero_le _, rfl, rfl, ⟨rfl, by rw [Nat.zero_add, Nat.one_mul]; exact Nat.le_trans (Nat.pow_le_pow_right (by decide) (show s.size - 0 ≤ 19 by omega)) (by decide)⟩, rfl⟩
    case round =>
      obtain ⟨i, acc, hi, rfl, rfl, HI, rfl⟩ := hrel
      by_cases hlt : i < s.size
      · have q1 : decide ((i : Int) < (s.size : Int)) = true := decide_eq_true (by omega)
        have q2 : decide (i < s.size) = true := decide_eq_true hlt
        have hdr := drop_cons8 s i hlt
        have hnF := HI.out.1
        rw [hdr] at hnF
        have hpw := HI.out.2
        rw [show s.size - i = (s.size - (i + 1)) + 1 by omega] at hpw
        obtain ⟨c, hc⟩ : ∃ c : Nat, c = (s[i]'hlt).toNat := ⟨_, rfl⟩
        have hc8 : c < 256 := by rw [hc]; exact UInt8.toNat_lt _
        obtain ⟨y, hy⟩ : ∃ y, y = i + 1 := ⟨_, rfl⟩
        have e5 : (i : Int) + 1 = (y : Int) := by omega
        have e6 : IntKind.i64.wrap (y : Int) = (y : Int) := by rw [IntKind.wrap_i64]; omega
        rw [← hy] at hnF hpw
        have HY : Hid (y = i + 1 ∧ y ≤ s.size) := ⟨hy, by omega⟩
        have HNF := Lib.hid hnF
        have HPW := Lib.hid hpw
        have HC := Lib.hid hc
        clear hdr hnF hpw hy HI
        by_cases hd1 : c < 48
        · have k1 : decide (((s[i]'hlt).toNat : Int) < 48) = true := decide_eq_true (by omega)
          have k1' : decide ((s[i]'hlt).toNat < 48) = true := decide_eq_true (by omega)
          have E : Hid (O = .tuple #[.int .u64 0, .bool false]) := by
            show O = _
            rw [HV.out, HNF.out]
            unfold numF
            rw [if_neg (by have := HC.out; omega)]
          clear hc
          go_wp2
          go_ret2
          exact ⟨by rw [E.out]; rfl, rfl⟩
        have k1 : decide (((s[i]'hlt).toNat : Int) < 48) = false := decide_eq_false (by omega)
        have k1' : decide ((s[i]'hlt).toNat < 48) = false := decide_eq_false (by omega)
        by_cases hd2 : 57 < c
        · have k2 : decide ((57 : Int) < ((s[i]'hlt).toNat : Int)) = true := decide_eq_true (by omega)
          have k2' : decide (57 < (s[i]'hlt).toNat) = true := decide_eq_true (by omega)
          have E : Hid (O = .tuple #[.int .u64 0, .bool false]) := by
            show O = _
            rw [HV.out, HNF.out]
            unfold numF
            rw [if_neg (by have := HC.out; omega)]
          clear hc
          go_wp2
          go_ret2
          exact ⟨by rw [E.out]; rfl, rfl⟩
        · have k2 : decide ((57 : Int) < ((s[i]'hlt).toNat : Int)) = false := decide_eq_false (by omega)
          have k2' : decide (57 < (s[i]'hlt).toNat) = false := decide_eq_false (by omega)
          obtain ⟨p1, p2⟩ := num_step (d := c - 48) HPW.out (by omega)
          obtain ⟨z, hz⟩ : ∃ z, z = acc * 10 + (c - 48) := ⟨_, rfl⟩
          have e1 : IntKind.u64.wrap ((acc : Int) * 10) = (acc : Int) * 10 := by rw [IntKind.wrap_u64]; omega
          have e2 : IntKind.u64.wrap ((s[i]'hlt).toNat : Int) = ((s[i]'hlt).toNat : Int) := by rw [IntKind.wrap_u64]; omega
          have e3 : IntKind.u64.wrap ((acc : Int) * 10 + ((s[i]'hlt).toNat : Int)) = (acc : Int) * 10 + ((s[i]'hlt).toNat : Int) := by rw [IntKind.wrap_u64]; omega
          have e4 : (acc : Int) * 10 + ((s[i]'hlt).toNat : Int) - 48 = (z : Int) := by omega
          have e7 : IntKind.u64.wrap (z : Int) = (z : Int) := by rw [IntKind.wrap_u64]; omega
          have HI2 : Hid (numF 0 s.data.toList = numF z (s.data.toList.drop y) ∧ (z + 1) * 10 ^ (s.size - y) ≤ 10000000000000000000) := by
            refine ⟨?_, by rw [hz]; exact p2⟩
            rw [HNF.out]
            unfold numF
            rw [if_pos (by have := HC.out; omega), ← HC.out, ← hz]
            cases s.data.toList.drop y <;> rfl
          clear hc p1 p2 hz
          go_wp2
          go_roundw
          case rel => exact ⟨y, z, HY.out.2, rfl, rfl, HI2, by first | rfl | trivial⟩
          case measure => have := HY.out; simp [intOf]; omega
      · obtain rfl : i = s.size := by omega
        have q1 : decide ((s.size : Int) < (s.size : Int)) = false := decide_eq_false (by omega)
        have q2 : decide (s.size < s.size) = false := decide_eq_false (by omega)
        have hn : numF 0 s.data.toList = some acc := by
          rw [HI.out.1, List.drop_eq_nil_of_le (by simp)]; rfl
        have E : Hid (O = .tuple #[.int .u64 acc, .bool (decide (acc ≤ most))]) := by
          show O = _
          rw [HV.out, hn]
        clear hn HI
        go_wp2
        go_ret2
        refine ⟨by rw [E.out]; simp, rfl⟩
end Go.Proofs.YthggaedpbmjclaaDoor
