/- Several texts in one: PkUint. -/
import Derived.LoopN
import Derived.Test.YtnagmopejblegaaGreatMb33
/- Layer 3: pack.Reader: Uint. -/
namespace Go.Proofs.YtnagmopejblegaaGreat
open Go.RowKit

theorem ret_u64 {x y : Int} (h : x = y) : Ending.returned (.int .u64 x) = .returned (.int .u64 y) := by rw [h]
theorem and127 : ∀ c, c < 256 → c &&& 127 = c % 128 := by decide +kernel
theorem getU_bits (k acc c : Nat) (ha : acc < 128 ^ k) :
    acc ||| 128 ^ k * (c % 128) = acc + 128 ^ k * (c % 128) := by
  have e : (128 : Nat) ^ k = 2 ^ (7 * k) := by rw [Nat.pow_mul]
  rw [e] at ha ⊢
  have := Nat.two_pow_add_eq_or_of_lt (i := 7 * k) (b := acc) ha (c % 128)
  rw [Nat.or_comm, ← this, Nat.add_comm]
theorem getU_val (k acc c : Nat) (hk : k ≤ 9) (hc : c < 256) (h9 : k = 9 → c ≤ 1) (ha : acc < 128 ^ k) :
    bits .or .u64 (acc : Int) (IntKind.u64.wrap (IntKind.u64.wrap (bits .andNot .u8 (c : Int) 128) * 2 ^ (7 * k))) = ((acc + 128 ^ k * (c % 128) : Nat) : Int) := by
  have hroom := getU_room k acc c hk hc h9 ha
  have e0 : (128 : Nat) ^ k = 2 ^ (7 * k) := by rw [Nat.pow_mul]
  have e1 : bits .andNot .u8 (c : Int) 128 = ((c % 128 : Nat) : Int) := by
    have h := u8_andNot_nat c 128 hc (by decide)
    rw [show (255 - 128 : Nat) = 127 from rfl, and127 c hc] at h
    exact h
  have e2 : IntKind.u64.wrap ((c % 128 : Nat) : Int) = ((c % 128 : Nat) : Int) := by rw [IntKind.wrap_u64]; omega
  have e3 : ((c % 128 : Nat) : Int) * 2 ^ (7 * k) = ((128 ^ k * (c % 128) : Nat) : Int) := by rw [e0, Int.natCast_mul, Int.natCast_pow]; exact Int.mul_comm _ _
  have e4 : IntKind.u64.wrap ((128 ^ k * (c % 128) : Nat) : Int) = ((128 ^ k * (c % 128) : Nat) : Int) := by
    rw [IntKind.wrap_u64]
    exact Int.emod_eq_of_lt (by omega) (by omega)
  rw [e1, e2, e3, e4, u64_or_nat _ _ (by omega) (by omega), getU_bits k acc c ha]

set_option maxRecDepth 100000 in
set_option maxHeartbeats 1000000 in
theorem ruint_any (g : Nat) (l : List Nat) (w : World) (h : Rdr w g l 0) :
    Calls Tryz.prog 42 #[.pointer (some ⟨g, 0, none⟩)] w fun e w' => e = .returned (.int .u64 ((getU 0 0 l).1 : Nat)) ∧ Rdr w' g (getU 0 0 l).2.1 ((getU 0 0 l).2.2 : Nat) ∧ w.grownBy w' (some g) := by
  have H := Lib.hid h
  clear h
  obtain ⟨n', l', e', hR⟩ : ∃ n' l' e', getU 0 0 l = (n', l', e') := ⟨_, _, _, rfl⟩
  rw [hR]
  have HR := Lib.hid hR
  clear hR
  go_enter Tryz.func42, Tryz.ntmps42
  go_wp2
  go_loopw [3, 6] (fun nv iv wr => ∃ (k acc : Nat) (l2 : List Nat), iv = .int .i64 k ∧ nv = .int .u64 acc ∧ k ≤ 9 ∧ Hid (acc < 128 ^ k) ∧ Hid (getU k acc l2 = (n', l', e')) ∧ Hid (Rdr wr g l2 0) ∧ Hid (w.grownBy wr (some g))) (fun _ iv _ => 10 - (intOf iv).toNat)
  case atStart => exact ⟨0, 0, l, rfl, rfl, by omega, by show _ < _; decide, HR.out, H.out, World.grownBy.refl _ _⟩
  case round =>
    obtain ⟨k, acc, l2, rfl, rfl, hk, Ha, Hg, Hr, Hw⟩ := hrel
    have hk10 : (k : Int) < 10 := by omega
    cases l2 with
    | nil =>
      go_wp2_with fail
      refine (rbyte_short g wr Hr.out).mono ?_
      rintro e w1 ⟨rfl, h1, h2⟩
      have H1 := Lib.hid h1
      have H2 := Lib.hid h2
      clear h1 h2
      go_wp2_with fail
      refine (rerr_any g [] 3 w1 H1.out).mono ?_
      rintro e w2 ⟨rfl, rfl⟩
      go_wp2
      go_ret
      have h := Hg.out
      simp only [getU] at h
      obtain ⟨rfl, rfl, rfl⟩ : 0 = n' ∧ [] = l' ∧ 3 = e' := by simpa using h
      exact ⟨rfl, H1.out, grownBy_trans Hw.out H2.out⟩
    | cons c t =>
      go_wp2_with fail
      refine (rbyte_cons g c t wr Hr.out).mono ?_
      rintro e w1 ⟨rfl, h1, h2⟩
      have H1 := Lib.hid h1
      have H2 := Lib.hid (grownBy_trans Hw.out h2)
      have hc256 : c < 256 := Hr.out.ok c (by simp)
      clear h1 h2
      by_cases hq1 : k = 9 ∧ 1 < c
      · obtain ⟨rfl, hc1⟩ := hq1
        go_wp2_with fail
        refine (rerr_any g t 0 w1 H1.out).mono ?_
        rintro e w2 ⟨rfl, rfl⟩
        go_wp2_with fail
        refine (rfail_set g t 6 (by decide) w1 H1.out).mono ?_
        rintro e w3 ⟨rfl, h1, h2⟩
        have H3 := Lib.hid h1
        have H4 := Lib.hid (grownBy_trans H2.out h2)
        clear h1 h2
        go_wp2
        go_ret
        have h := Hg.out
        rw [getU, if_pos ⟨rfl, hc1⟩] at h
        obtain ⟨rfl, rfl, rfl⟩ : 0 = n' ∧ [] = l' ∧ 6 = e' := by simpa using h
        exact ⟨rfl, H3.out, H4.out⟩
      · by_cases hq2 : 0 < k ∧ c = 0
        · obtain ⟨hk0, rfl⟩ := hq2
          go_wp2_with fail
          refine (rerr_any g t 0 w1 H1.out).mono ?_
          rintro e w2 ⟨rfl, rfl⟩
          go_wp2_with fail
          all_goals (
            refine (rfail_set g t 2 (by decide) w1 H1.out).mono ?_
            rintro e w3 ⟨rfl, h1, h2⟩
            have H3 := Lib.hid h1
            have H4 := Lib.hid (grownBy_trans H2.out h2)
            clear h1 h2
            go_wp2
            go_ret
            have h := Hg.out
            rw [getU, if_neg hq1, if_pos ⟨hk0, rfl⟩] at h
            obtain ⟨rfl, rfl, rfl⟩ : 0 = n' ∧ [] = l' ∧ 2 = e' := by simpa using h
            exact ⟨rfl, H3.out, H4.out⟩)
        · have HX := Lib.hid (getU_val k acc c hk hc256 (by omega) Ha.out)
          have h := Hg.out
          rw [getU, if_neg hq1, if_neg hq2] at h
          have Hn := Lib.hid h
          have Hq1 := Lib.hid hq1
          have Hq2 := Lib.hid hq2
          clear h hq1 hq2
          go_wp2_with fail
          refine (rerr_any g t 0 w1 H1.out).mono ?_
          rintro e w2 ⟨rfl, rfl⟩
          have Hk := Lib.hid hk
          clear hk
          have h9 : ((k : Int) == 9) = decide (k = 9) := by rw [Bool.eq_iff_iff, beq_iff_eq, decide_eq_true_iff]; omega
          have hc1 : k = 9 → ((1 : Int) < c) = False := fun e => eq_false (by have := Hq1.out; omega)
          have hk0 : ((0 : Int) < k) = (0 < k) := by rw [eq_iff_iff]; omega
          have hc0 : 0 < k → ((c : Int) == 0) = false := fun e => by rw [beq_eq_false_iff_ne]; have := Hq2.out; omega
          by_cases hlt : c < 128
          · have done_ : bits .or .u64 (acc : Int) (IntKind.u64.wrap (IntKind.u64.wrap (bits .andNot .u8 (c : Int) 128) * 2 ^ (7 * k))) = (n' : Int) ∧ t = l' ∧ 0 = e' := by
              have h := Hn.out
              rw [if_pos hlt] at h
              have e3 : c % 128 = c := Nat.mod_eq_of_lt hlt
              obtain ⟨h1, h2, h3⟩ : acc + 128 ^ k * c = n' ∧ t = l' ∧ 0 = e' := by simpa using h
              exact ⟨HX.out.trans (by rw [e3, h1]), h2, h3⟩
            obtain ⟨hX, rfl, rfl⟩ := done_
            have HX2 := Lib.hid hX
            clear hX Hn HX
            by_cases hk9 : k = 9
            · rw [decide_eq_true hk9] at h9
              replace hc1 := hc1 hk9
              rw [eq_true (show 0 < k by omega)] at hk0
              replace hc0 := hc0 (by omega)
              have hkp : 0 < k := by omega
              replace hk9 := Lib.hid hk9
              go_wp2
              go_ret
              exact ⟨ret_u64 HX2.out, H1.out, H2.out⟩
            · rw [decide_eq_false hk9] at h9
              clear hc1
              replace hk9 := Lib.hid hk9
              by_cases hkz : 0 < k
              · rw [eq_true hkz] at hk0
                replace hc0 := hc0 hkz
                replace hkz := Lib.hid hkz
                go_wp2
                go_ret
                exact ⟨ret_u64 HX2.out, H1.out, H2.out⟩
              · rw [eq_false hkz] at hk0
                clear hc0
                replace hkz := Lib.hid hkz
                go_wp2
                go_ret
                exact ⟨ret_u64 HX2.out, H1.out, H2.out⟩
          · have hk9 : k ≠ 9 := fun e => by have := Hq1.out; omega
            rw [decide_eq_false hk9] at h9
            clear hc1
            replace hk9 := Lib.hid hk9
            have next_ : acc + 128 ^ k * (c % 128) < 128 ^ (k + 1) := by
              have := Ha.out
              have hm : c % 128 + 1 ≤ 128 := by omega
              have hm2 := Nat.mul_le_mul_left (128 ^ k) hm
              rw [Nat.mul_add, Nat.mul_one] at hm2
              rw [Nat.pow_succ]
              omega
            replace next_ := Lib.hid next_
            have h := Hn.out
            rw [if_neg hlt] at h
            replace Hn := Lib.hid h
            clear h
            by_cases hkz : 0 < k
            · rw [eq_true hkz] at hk0
              replace hc0 := hc0 hkz
              replace hkz := Lib.hid hkz
              go_wp2
              exact ⟨⟨k + 1, _, t, by go_num, congrArg (Value.int .u64) HX.out, by have := Hk.out; have := hk9.out; omega, next_, Hn, H1.out, H2.out⟩, by simp [intOf]; omega⟩
            · rw [eq_false hkz] at hk0
              clear hc0
              replace hkz := Lib.hid hkz
              go_wp2
              exact ⟨⟨k + 1, _, t, by go_num, congrArg (Value.int .u64) HX.out, by have := Hk.out; have := hk9.out; omega, next_, Hn, H1.out, H2.out⟩, by simp [intOf]; omega⟩

set_option maxHeartbeats 400000 in
theorem ruint_err (g : Nat) (er : Int) (he : er ≠ 0) (w : World) (h : Rdr w g [] er) :
    Calls Tryz.prog 42 #[.pointer (some ⟨g, 0, none⟩)] w fun e w' => e = .returned (.int .u64 0) ∧ w = w' := by
  have H := Lib.hid h
  have he2 : (er != 0) = true := by simpa using he
  have He := Lib.hid he
  clear h he
  go_enter Tryz.func42, Tryz.ntmps42
  go_wp2
  refine wp_loop_rounds 1 ?_
  rw [rounds_succ]
  go_wp2_with fail
  refine (rbyte_err g er He.out w H.out).mono ?_
  rintro e w1 ⟨rfl, rfl⟩
  go_wp2_with fail
  refine (rerr_any g [] er w H.out).mono ?_
  rintro e w1 ⟨rfl, rfl⟩
  go_wp2
  go_ret
  exact ⟨rfl, rfl⟩
set_option maxHeartbeats 400000 in
theorem ruint_nil (w : World) :
    Calls Tryz.prog 42 #[.pointer none] w fun e w' => e = .returned (.int .u64 0) ∧ w = w' := by
  go_enter Tryz.func42, Tryz.ntmps42
  go_wp2
  refine wp_loop_rounds 1 ?_
  rw [rounds_succ]
  go_wp2_with fail
  refine (rbyte_nil w).mono ?_
  rintro e w1 ⟨rfl, rfl⟩
  go_wp2_with fail
  refine (rerr_nil w).mono ?_
  rintro e w1 ⟨rfl, rfl⟩
  go_wp2
  go_ret
  exact ⟨rfl, rfl⟩
end Go.Proofs.YtnagmopejblegaaGreat
