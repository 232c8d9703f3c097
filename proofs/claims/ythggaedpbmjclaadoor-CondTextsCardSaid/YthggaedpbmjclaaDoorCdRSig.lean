/- Layer 13: texts as numbers that may be below 0: the document's. -/
import Derived.Test.YthggaedpbmjclaaDoorCdSign
namespace Go.Proofs.YthggaedpbmjclaaDoor
open Go.RowKit Go.Proofs

/-- the document's Number, beside the program's -/
theorem rnumV_eq (l : List UInt8) (most : Nat) : ∃ (n : Nat) (b : Bool), rnumV l most = .tuple #[.int .u64 n, .bool b] ∧ b = (numN l most).isSome ∧ (∀ m, numN l most = some m → n = m) ∧ n < 10000000000000000000 := by
  unfold rnumV numN
  cases hs : numS l with
  | false => exact ⟨0, false, rfl, rfl, fun m h => by simp at h, by decide⟩
  | true =>
    have hlen : l.length ≤ 19 := by
      unfold numS at hs
      simp at hs
      omega
    cases hn : numF 0 l with
    | none => exact ⟨0, false, rfl, rfl, fun m h => by simp at h, by decide⟩
    | some n =>
      have hlt := numF_lt l 0 n hn
      rw [Nat.zero_add, Nat.one_mul] at hlt
      refine ⟨n, decide (n ≤ most), rfl, ?_, fun m h => ?_, Nat.lt_of_lt_of_le hlt (Nat.le_trans (Nat.pow_le_pow_right (by decide) hlen) (by decide))⟩
      · by_cases h : n ≤ most <;> simp [h]
      · simp at h; exact h.2
set_option maxRecDepth 100000 in
set_option maxHeartbeats 1000000 in
theorem rsign_any (s : ByteArray) (w : World) (hs : s.size ≤ 9223372036854775807) :
    Calls Tryd.prog 17 #[.string s] w fun e w' => ∃ z : Int, e = .returned (.tuple #[.int .i64 z, .bool (signF s.data.toList).isSome]) ∧ (∀ y, signF s.data.toList = some y → z = y) ∧ w = w' := by
  obtain ⟨O, hO⟩ : ∃ O, O = signF s.data.toList := ⟨_, rfl⟩
  rw [← hO]
  have hl : s.data.toList.length = s.size := by simp
  have neg : minusB s.data.toList = false → (∃ (h0 : 0 < s.size), ((s[0]'h0).toNat : Int) ≠ 45) ∨ s.size = 0 := fun h => by
    rcases Nat.eq_zero_or_pos s.size with h0 | h0
    · exact .inr h0
    · refine .inl ⟨h0, fun hc => ?_⟩
      unfold minusB at h
      rw [byte0 s h0] at h
      have : s[0]'h0 = 45 := UInt8.toNat_inj.1 (by show (s[0]'h0).toNat = 45; omega)
      rw [this] at h
      cases h
  cases e : minusB s.data.toList with
  | false =>
    obtain ⟨n, b, hv, hb, hm, hlt⟩ := rnumV_eq s.data.toList 9223372036854775807
    have hnum := rnum_any s 9223372036854775807 w hs
    rw [hv] at hnum
    have HN := Lib.hid hnum
    have HO : Hid (O = match numN s.data.toList 9223372036854775807 with | some n => some (n : Int) | none => none) := by
      show O = _
      rw [hO]; unfold signF; rw [e]; rfl
    have HR : Hid (b = O.isSome ∧ ∀ y, O = some y → IntKind.i64.wrap (n : Int) = y) := by
      rw [show O = _ from HO.out, hb]
      cases hn : numN s.data.toList 9223372036854775807 with
      | none => exact ⟨rfl, fun y h => by cases h⟩
      | some k =>
        refine ⟨rfl, fun y h => ?_⟩
        have := hm k hn
        have hle := numN_le hn
        injection h with h
        rw [← h, IntKind.wrap_i64]; omega
    obtain ⟨z, hz⟩ : ∃ z, z = IntKind.i64.wrap (n : Int) := ⟨_, rfl⟩
    rw [← hz] at HR
    have hzz : IntKind.i64.wrap (n : Int) = z := hz.symm
    have hneg := neg e
    clear hz neg hv hb hm hnum hO e hl HO hlt
    rcases hneg with ⟨h0, hc⟩ | h0
    · have d1 : decide ((0 : Int) < (s.size : Int)) = true := decide_eq_true (by omega)
      have d2 : decide (0 < s.size) = true := decide_eq_true h0
      have d3 : (((s[0]'h0).toNat : Int) == 45) = false := by rw [beq_eq_false_iff_ne]; exact hc
      clear hc
      go_enter Tryd.func17, Tryd.ntmps17
      go_wp2_with fail
      refine HN.out.mono ?_
      rintro _ w1 ⟨rfl, rfl⟩
      go_wp2
      go_ret2
      exact ⟨z, by rw [← HR.out.1]; rfl, HR.out.2, rfl⟩
    · have d1 : decide ((0 : Int) < (s.size : Int)) = false := decide_eq_false (by omega)
      have d2 : decide (0 < s.size) = false := decide_eq_false (by omega)
      go_enter Tryd.func17, Tryd.ntmps17
      go_wp2_with fail
      refine HN.out.mono ?_
      rintro _ w1 ⟨rfl, rfl⟩
      go_wp2
      go_ret2
      exact ⟨z, by rw [← HR.out.1]; rfl, HR.out.2, rfl⟩
  | true =>
    have h0 := minus_pos e
    have hsz : (s.extract 1 s.size).size ≤ 9223372036854775807 := by simp; omega
    obtain ⟨n, b, hv, hb, hm, hlt⟩ := rnumV_eq (s.data.toList.drop 1) 9223372036854775808
    have hnum := rnum_any (s.extract 1 s.size) 9223372036854775808 w hsz
    rw [minus_data, hv] at hnum
    have HN := Lib.hid hnum
    have d1 : decide ((0 : Int) < (s.size : Int)) = true := decide_eq_true (by omega)
    have d2 : decide (0 < s.size) = true := decide_eq_true h0
    have d3 : (((s[0]'h0).toNat : Int) == 45) = true := by
      unfold minusB at e
      rw [byte0 s h0, beq_iff_eq] at e
      injection e with e
      rw [e]; rfl
    have k1 : 1 ≤ s.size := h0
    have k2 : (1 : Int) ≤ (s.size : Int) := by omega
    have HO : Hid (O = match numN (s.data.toList.drop 1) 9223372036854775808 with | some n => if n = 0 then none else some (-(n : Int)) | none => none) := by
      show O = _
      rw [hO]; unfold signF; rw [e]; rfl
    clear neg hv hnum hO e hl hsz
    cases hn : numN (s.data.toList.drop 1) 9223372036854775808 with
    | none =>
      obtain rfl : b = false := by rw [hb, hn]; rfl
      have E : Hid (O = none) := by show O = _; rw [HO.out, hn]
      clear hn HO hm hb hlt
      go_enter Tryd.func17, Tryd.ntmps17
      go_wp2_with fail
      refine HN.out.mono ?_
      rintro _ w1 ⟨rfl, rfl⟩
      go_wp2
      go_ret2
      exact ⟨0, by rw [E.out]; rfl, (fun y h => by rw [E.out] at h; cases h), rfl⟩
    | some m =>
      obtain rfl : b = true := by rw [hb, hn]; rfl
      obtain rfl : n = m := hm m hn
      have hle := numN_le hn
      by_cases hz : n = 0
      · subst hz
        have E : Hid (O = none) := by show O = _; rw [HO.out, hn]; rfl
        clear hn HO hm hb hlt
        go_enter Tryd.func17, Tryd.ntmps17
        go_wp2_with fail
        refine HN.out.mono ?_
        rintro _ w1 ⟨rfl, rfl⟩
        go_wp2
        go_ret2
        exact ⟨0, by rw [E.out]; rfl, (fun y h => by rw [E.out] at h; cases h), rfl⟩
      · have E : Hid (O = some (-(n : Int))) := by show O = _; rw [HO.out, hn]; exact if_neg hz
        have k0 : ((n : Int) == 0) = false := by rw [beq_eq_false_iff_ne]; omega
        have k0' : (n == 0) = false := by rw [beq_eq_false_iff_ne]; omega
        obtain ⟨m, hm1⟩ : ∃ m, m + 1 = n := ⟨n - 1, by omega⟩
        have k3 : (n : Int) - 1 = (m : Int) := by omega
        have k4 : IntKind.u64.wrap (m : Int) = (m : Int) := by rw [IntKind.wrap_u64]; omega
        have k5 : IntKind.i64.wrap (m : Int) = (m : Int) := by rw [IntKind.wrap_i64]; omega
        have k6 : IntKind.i64.wrap (-(m : Int)) = -(m : Int) := by rw [IntKind.wrap_i64]; omega
        have k7 : IntKind.i64.wrap (-(m : Int) - 1) = -(n : Int) := by rw [IntKind.wrap_i64]; omega
        clear hn HO hm hb hlt hm1
        go_enter Tryd.func17, Tryd.ntmps17
        go_wp2_with fail
        refine HN.out.mono ?_
        rintro _ w1 ⟨rfl, rfl⟩
        go_wp2
        go_ret2
        exact ⟨-(n : Int), by rw [E.out]; first | rfl | simp [k7], (fun y h => by rw [E.out] at h; injection h), rfl⟩
end Go.Proofs.YthggaedpbmjclaaDoor
