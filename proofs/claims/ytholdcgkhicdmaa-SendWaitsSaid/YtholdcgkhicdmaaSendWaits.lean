/- Layer 10: SendWaits's walk. -/
import Derived.Test.YtholdcgkhicdmaaSdWai
namespace Go.Proofs.Ytholdcgkhicdmaa
open Go.RowKit
/-- where the item stands before the round k -/
def Wt (a b k last wait d v : Nat) : Prop :=
  (k = 0 ∧ last = 0 ∧ wait = 0 ∧ d = 0 ∧ v = a) ∨ (0 < k ∧ last < k ∧ k ≤ d ∧ ∃ g, d = last + g ∧ v = min (2 * g) b ∧ a ≤ g ∧ g ≤ b ∧ wait ≤ b ∧ ((wait = 0 ∧ g = a) ∨ (0 < wait ∧ g = min (2 * wait) b)))
namespace sendWaits
set_option maxRecDepth 100000 in
set_option maxHeartbeats 8000000 in
theorem walk (x0 x1 x2 x3 : Nat) (w : World) :
    Calls Try.prog 3 #[.int .u16 x0, .int .u16 x1, .int .u16 x2, .int .u16 x3] w fun e w' => e = .returned (.bool true) ∧ Below w.heap.size w w' := by
  obtain ⟨r0, hr0⟩ : ∃ r, r = x0 % 40 := ⟨_, rfl⟩
  obtain ⟨r1, hr1⟩ : ∃ r, r = x1 % 300 := ⟨_, rfl⟩
  obtain ⟨N, hN⟩ : ∃ r, r = x2 % 2000 := ⟨_, rfl⟩
  obtain ⟨T, hT⟩ : ∃ r, r = x3 % 2000 := ⟨_, rfl⟩
  obtain ⟨a, ha⟩ : ∃ r, r = 1 + r0 := ⟨_, rfl⟩
  obtain ⟨b, hb⟩ : ∃ r, r = a + r1 := ⟨_, rfl⟩
  have ha1 : 1 ≤ a := by omega
  have ha2 : a ≤ 40 := by omega
  have hb1 : a ≤ b := by omega
  have hb2 : b ≤ 340 := by omega
  have hN2 : N < 2000 := by omega
  have hT2 : T < 2000 := by omega
  have e1 : (x0 : Int) % 40 = (r0 : Int) := by omega
  have e2 : (x1 : Int) % 300 = (r1 : Int) := by omega
  have e3 : (x2 : Int) % 2000 = (N : Int) := by omega
  have e4 : (x3 : Int) % 2000 = (T : Int) := by omega
  have e5 : (1 : Int) + (r0 : Int) = (a : Int) := by omega
  have e6 : (a : Int) + (r1 : Int) = (b : Int) := by omega
  have b0 : r0 ≤ 39 := by omega
  have b1 : r1 ≤ 299 := by omega
  clear hr0 hr1 hN hT ha hb
  go_enter Try.func3, Try.ntmps3
  go_wp2_with fail
  refine (awake10_any w).mono ?_
  rintro _ w0 ⟨rfl, hb0⟩
  have HB0 := Lib.hid hb0
  clear hb0
  have HNW := Lib.hid (sdnew_any 3 a b (by decide) (by decide) (by omega) hb1 (by omega) w0)
  go_wp2_with fail
  refine HNW.out.mono ?_
  rintro _ w1 ⟨rfl, hs1, hb1'⟩
  obtain ⟨s, hs⟩ : ∃ s, s = w0.heap.size := ⟨_, rfl⟩
  rw [← hs] at hs1 ⊢
  have HOF := Lib.hid (sw_offer (w0 := w0) hs1 (fun k hk => by have hk : k = s := hk; omega) hb1')
  clear hs1 hb1' hs HNW
  go_wp2_with fail
  refine HOF.out.mono ?_
  rintro _ w2 ⟨rfl, hw2⟩
  have HW2 := Lib.hid hw2
  clear hw2 HOF
  go_wp2
  clear e1 e2 e3 e5 e6 b0 b1
  go_loopw [13, 14, 41] (fun lv tv iv wx => ∃ (k last wait d v : Nat), k ≤ N ∧ iv = .int .u64 k ∧ lv = .int .u64 last ∧ tv = .int .u64 wait ∧ Hid (Wt a b k last wait d v) ∧ Hid (SW w0 wx s b k d v)) (fun _ _ iv _ => N - (intOf iv).toNat)
  case atStart => exact ⟨0, 0, 0, 0, a, Nat.zero_le _, rfl, rfl, rfl, .inl ⟨rfl, rfl, rfl, rfl, rfl⟩, HW2.out⟩
  case round =>
    obtain ⟨k, last, wait, d, v, hk, rfl, rfl, rfl, HT, HB⟩ := hrel
    clear HW2
    by_cases hlt : k < N
    · have q1 : decide ((k : Int) < (N : Int)) = true := decide_eq_true (by omega)
      have q2 : decide (k < N) = true := decide_eq_true hlt
      have hv : v ≤ 1000000 := by
        rcases HT.out with h | ⟨_, _, _, g, _, h, _⟩
        · omega
        · omega
      by_cases hd : d ≤ k
      · have HDU := Lib.hid (sw_due (now := k) HB.out (by omega) (by omega) hv hd)
        go_wp2_with fail
        refine HDU.out.mono ?_
        rintro _ w3 ⟨⟨DA, dc, rfl⟩, hw3⟩
        have HW3 := Lib.hid hw3
        clear hw3 HDU HB q1 q2
        by_cases hst : T ≤ k
        · have p1 : decide ((T : Int) ≤ (k : Int)) = true := decide_eq_true (by omega)
          have p2 : decide (T ≤ k) = true := decide_eq_true hst
          have HA0 := Lib.hid (sw_ack0 HW3.out)
          clear HW3 HT
          go_wp2_with fail
          refine HA0.out.mono ?_
          rintro _ w4 ⟨rfl, hw4⟩
          have HA1 := Lib.hid (sw_ack1 hw4)
          clear hw4 HA0 p1 p2
          go_wp2_with fail
          refine HA1.out.mono ?_
          rintro _ w5 ⟨⟨x, rfl⟩, hw5⟩
          obtain ⟨k5, hk5⟩ : ∃ z, z = k + 5000 := ⟨_, rfl⟩
          have f1 : (k : Int) + 5000 = (k5 : Int) := by omega
          have f2 : k ≤ 2000 := by omega
          have f3 : k5 ≤ 7000 := by omega
          have HD0 := Lib.hid (sw_due0 (now := k5) hw5 (by omega) (by omega))
          clear hw5 HA1 hk5
          go_wp2_with fail
          refine HD0.out.mono ?_
          rintro _ w6 ⟨⟨EB, ec, rfl⟩, hb6⟩
          have HB6 := Lib.hid (HB0.out.trans (hb6.mono HB0.out.size))
          clear hb6 HD0 f1
          go_wp2
          go_ret
          exact ⟨rfl, HB6.out⟩
        · have p1 : decide ((T : Int) ≤ (k : Int)) = false := decide_eq_false (by omega)
          have p2 : decide (T ≤ k) = false := decide_eq_false hst
          have f2 : k ≤ 2000 := by omega
          by_cases hk0 : k = 0
          · have HE : Hid (Wt a b (k + 1) k wait (k + v) (min (2 * v) b)) := by
              rcases HT.out with h | ⟨h, _⟩
              · exact .inr ⟨by omega, by omega, by omega, v, rfl, rfl, by omega, by omega, by omega, .inl ⟨by omega, by omega⟩⟩
              · omega
            have m1 : decide ((0 : Int) < (k : Int)) = false := decide_eq_false (by omega)
            have m2 : decide (0 < k) = false := decide_eq_false (by omega)
            clear HT hd hst hk0
            go_wp2
            go_roundw
            case rel => exact ⟨k + 1, k, wait, k + v, min (2 * v) b, by omega, by go_num, rfl, rfl, HE.out, HW3.out⟩
            case measure => simp [intOf]; omega
          · obtain ⟨g, hg⟩ : ∃ g, k = last + g ∧ v = min (2 * g) b ∧ a ≤ g ∧ g ≤ b ∧ wait ≤ b ∧ ((wait = 0 ∧ g = a) ∨ (0 < wait ∧ g = min (2 * wait) b)) := by
              rcases HT.out with h | ⟨h1, h2, h3, g, h4, h5⟩
              · omega
              · exact ⟨g, by omega, h5⟩
            have HE : Hid (Wt a b (k + 1) k g (k + v) (min (2 * v) b)) := by
              obtain ⟨h1, h2, h3, h4, h5, h6⟩ := hg
              exact .inr ⟨by omega, by omega, by omega, v, rfl, rfl, by omega, by omega, h4, .inr ⟨by omega, h2⟩⟩
            have HG := Lib.hid hg
            have m1 : decide ((0 : Int) < (k : Int)) = true := decide_eq_true (by omega)
            have m2 : decide (0 < k) = true := decide_eq_true (by omega)
            have m3 : (k : Int) - (last : Int) = (g : Int) := by omega
            have m4 : decide ((g : Int) < (a : Int)) = false := decide_eq_false (by omega)
            have m5 : decide (g < a) = false := decide_eq_false (by omega)
            have m6 : decide ((b : Int) < (g : Int)) = false := decide_eq_false (by omega)
            have m7 : decide (b < g) = false := decide_eq_false (by omega)
            have m8 : decide ((g : Int) < (wait : Int)) = false := decide_eq_false (by omega)
            have m9 : decide (g < wait) = false := decide_eq_false (by omega)
            have f3 : g ≤ 340 := by omega
            have f4 : wait ≤ 340 := by omega
            have f5 : last ≤ 2000 := by omega
            by_cases hw0 : wait = 0
            · have n1 : decide ((0 : Int) < (wait : Int)) = false := decide_eq_false (by omega)
              have n2 : decide (0 < wait) = false := decide_eq_false (by omega)
              clear HT hd hst hk0 hg hw0
              go_wp2
              go_roundw
              case rel => exact ⟨k + 1, k, g, k + v, min (2 * v) b, by omega, by go_num, rfl, rfl, HE.out, HW3.out⟩
              case measure => simp [intOf]; omega
            · have n1 : decide ((0 : Int) < (wait : Int)) = true := decide_eq_true (by omega)
              have n2 : decide (0 < wait) = true := decide_eq_true (by omega)
              obtain ⟨w2', hw2'⟩ : ∃ z, z = 2 * wait := ⟨_, rfl⟩
              have n3 : (2 : Int) * (wait : Int) = (w2' : Int) := by omega
              have n4 : min (w2' : Int) (b : Int) = (g : Int) := by omega
              have f6 : w2' ≤ 680 := by omega
              clear HT hd hst hk0 hg hw0 hw2'
              go_wp2
              go_roundw
              case rel => exact ⟨k + 1, k, g, k + v, min (2 * v) b, by omega, by go_num, rfl, rfl, HE.out, HW3.out⟩
              case measure => simp [intOf]; omega
      · have HDU := Lib.hid (sw_not (now := k) HB.out (by omega) (by omega) hv (by omega))
        go_wp2_with fail
        refine HDU.out.mono ?_
        rintro _ w3 ⟨⟨DA, dc, rfl⟩, hw3⟩
        have HW3 := Lib.hid hw3
        clear hw3 HDU HB q1 q2
        by_cases hst : T ≤ k
        · have p1 : decide ((T : Int) ≤ (k : Int)) = true := decide_eq_true (by omega)
          have p2 : decide (T ≤ k) = true := decide_eq_true hst
          have HA0 := Lib.hid (sw_ack0 HW3.out)
          clear HW3 HT
          go_wp2_with fail
          refine HA0.out.mono ?_
          rintro _ w4 ⟨rfl, hw4⟩
          have HA1 := Lib.hid (sw_ack1 hw4)
          clear hw4 HA0 p1 p2
          go_wp2_with fail
          refine HA1.out.mono ?_
          rintro _ w5 ⟨⟨x, rfl⟩, hw5⟩
          obtain ⟨k5, hk5⟩ : ∃ z, z = k + 5000 := ⟨_, rfl⟩
          have f1 : (k : Int) + 5000 = (k5 : Int) := by omega
          have f2 : k ≤ 2000 := by omega
          have f3 : k5 ≤ 7000 := by omega
          have HD0 := Lib.hid (sw_due0 (now := k5) hw5 (by omega) (by omega))
          clear hw5 HA1 hk5
          go_wp2_with fail
          refine HD0.out.mono ?_
          rintro _ w6 ⟨⟨EB, ec, rfl⟩, hb6⟩
          have HB6 := Lib.hid (HB0.out.trans (hb6.mono HB0.out.size))
          clear hb6 HD0 f1
          go_wp2
          go_ret
          exact ⟨rfl, HB6.out⟩
        · have p1 : decide ((T : Int) ≤ (k : Int)) = false := decide_eq_false (by omega)
          have p2 : decide (T ≤ k) = false := decide_eq_false hst
          have f2 : k ≤ 2000 := by omega
          have HE : Hid (Wt a b (k + 1) last wait d v ∧ last < k ∧ k - last ≤ b) := by
            rcases HT.out with h | ⟨h1, h2, h3, g, h4, h5, h6, h7, h8⟩
            · omega
            · exact ⟨.inr ⟨by omega, by omega, by omega, g, h4, h5, h6, h7, h8⟩, h2, by omega⟩
          obtain ⟨e, he⟩ : ∃ e, e = k - last := ⟨_, rfl⟩
          have m3 : (k : Int) - (last : Int) = (e : Int) := by have := HE.out.2.1; omega
          have m6 : decide ((b : Int) < (e : Int)) = false := decide_eq_false (by have := HE.out.2.2; omega)
          have m7 : decide (b < e) = false := decide_eq_false (by have := HE.out.2.2; omega)
          have f3 : e ≤ 2000 := by omega
          have f5 : last ≤ 2000 := by have := HE.out.2.1; omega
          clear HT hd hst he
          go_wp2
          go_roundw
          case rel => exact ⟨k + 1, last, wait, d, v, by omega, by go_num, rfl, rfl, HE.out.1, HW3.out⟩
          case measure => simp [intOf]; omega
    · obtain rfl : k = N := by omega
      have q1 : decide ((k : Int) < (k : Int)) = false := decide_eq_false (by omega)
      have q2 : decide (k < k) = false := decide_eq_false (by omega)
      have HBW := Lib.hid (HB0.out.trans (HB.out.bl.mono HB0.out.size))
      go_wp2
      go_ret
      exact ⟨rfl, HBW.out⟩
end sendWaits
end Go.Proofs.Ytholdcgkhicdmaa
