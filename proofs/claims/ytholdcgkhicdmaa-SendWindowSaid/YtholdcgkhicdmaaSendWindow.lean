/- Layer 10: SendWindow's walk. -/
import Derived.Test.YtholdcgkhicdmaaSdWin
namespace Go.Proofs.Ytholdcgkhicdmaa
open Go.RowKit
namespace sendWindow
set_option maxRecDepth 100000 in
set_option maxHeartbeats 4000000 in
theorem walk (x0 n c : Nat) (A : Option Addr) (l : List Nat) (w : World) (h0 : x0 < 256) (hn : n = l.length) (hm : n ≤ maxLen) (hr : RdB w w.heap.size A l) (hok : ∀ x ∈ l, x < 256) :
    Calls Try.prog 4 #[.int .u8 x0, .slice A n c] w fun e w' => e = .returned (.bool true) ∧ Below w.heap.size w w' := by
  unfold maxLen at hm
  obtain ⟨r0, hr0⟩ : ∃ r, r = x0 % 64 := ⟨_, rfl⟩
  obtain ⟨W, hW⟩ : ∃ W, W = 1 + r0 := ⟨_, rfl⟩
  have hW1 : 1 ≤ W := by omega
  have hW2 : W ≤ 64 := by omega
  have e1 : (x0 : Int) % 64 = (r0 : Int) := by omega
  have e2 : (1 : Int) + (r0 : Int) = (W : Int) := by omega
  have HR := Lib.hid hr
  have HN := Lib.hid hn
  have HOK := Lib.hid hok
  clear hr hn hok h0 hr0 hW
  go_enter Try.func4, Try.ntmps4
  go_wp2_with fail
  refine (awake10_any w).mono ?_
  rintro _ w0 ⟨rfl, hb0⟩
  have HB0 := Lib.hid hb0
  clear hb0
  have HNW := Lib.hid (ws_new hW1 hW2 w0)
  go_wp2_with fail
  refine HNW.out.mono ?_
  rintro _ w1 ⟨rfl, hws⟩
  obtain ⟨s, hs⟩ : ∃ s, s = w0.heap.size := ⟨_, rfl⟩
  rw [← hs] at hws ⊢
  have HWS := Lib.hid hws
  clear hws hs HNW
  go_wp2
  clear e1 e2
  go_loopw [8, 9, 29] (fun nv cv iv wx => ∃ (i nx cm : Nat), i ≤ n ∧ i ≤ 61 ∧ iv = .int .i64 i ∧ nv = .int .u64 nx ∧ cv = .int .u64 cm ∧ cm ≤ 64 * i ∧ cm < nx ∧ nx ≤ cm + W + 1 ∧ Hid (WS w0 wx s W nx cm)) (fun _ _ iv _ => n - (intOf iv).toNat)
  case atStart => exact ⟨0, 1, 0, Nat.zero_le _, by decide, rfl, rfl, rfl, Nat.zero_le _, by decide, by omega, HWS.out⟩
  case round =>
    obtain ⟨i, nx, cm, hi, hi61, rfl, rfl, rfl, hcm, hnx1, hnx2, HB⟩ := hrel
    clear HWS
    by_cases hlt : i < n
    · have q1 : decide ((i : Int) < (n : Int)) = true := decide_eq_true (by omega)
      have q2 : decide (i < n) = true := decide_eq_true hlt
      obtain ⟨S, X, L, hk1, -, -, -, -, -, -, hbl⟩ := HB.out
      have hbw : Below w.heap.size w wr := HB0.out.trans (hbl.mono HB0.out.size)
      obtain ⟨b, o, x, rfl, -, hx, hc⟩ := (HR.out.below hbw).at_ (k := i) (by rw [← HN.out]; exact hlt)
      have hx8 := HOK.out x (List.mem_of_getElem? hx)
      clear hk1 hbl hbw hx
      by_cases h60 : 60 < i
      · have p1 : decide ((60 : Int) < (i : Int)) = true := decide_eq_true (by omega)
        have p2 : decide (60 < i) = true := decide_eq_true h60
        have HBW : Hid (Below w.heap.size w wr) := by
          obtain ⟨S, X, L, -, -, -, -, -, -, -, hbl⟩ := HB.out
          exact HB0.out.trans (hbl.mono HB0.out.size)
        go_wp2
        go_ret
        exact ⟨rfl, HBW.out⟩
      have p1 : decide ((60 : Int) < (i : Int)) = false := decide_eq_false (by omega)
      have p2 : decide (60 < i) = false := decide_eq_false h60
      go_upto_region 10 with fail
      clear p1 p2 q1 q2 hc
      go_loopw [8] (fun nv wx => ∃ (m : Nat), nv = .int .u64 m ∧ cm < m ∧ m ≤ cm + W + 1 ∧ Hid (WS w0 wx s W m cm)) (fun nv _ => cm + W + 1 - (intOf nv).toNat)
      case atStart => exact ⟨nx, rfl, hnx1, hnx2, HB.out⟩
      case round =>
        obtain ⟨m, rfl, hm1, hm2, HB2⟩ := hrel
        have e1 : (m : Int) + 100 = ((m + 100 : Nat) : Int) := by omega
        have e2 : IntKind.u64.wrap ((m : Int) + 100) = ((m + 100 : Nat) : Int) := by rw [IntKind.wrap_u64]; omega
        obtain ⟨mh, hmh⟩ : ∃ mh, mh = m + 100 := ⟨_, rfl⟩
        rw [← hmh] at e1 e2
        have hb5 : m ≤ 5000 := by omega
        have hb6 : mh ≤ 5100 := by omega
        by_cases hfull : cm + W + 1 = m
        · have HO := Lib.hid (ws_full HB2.out hW2 (by omega) hfull)
          rw [← hmh] at HO
          clear HB HB2 hmh
          have HFU := Lib.hid hfull
          clear hfull
          go_wp2_with fail
          refine HO.out.mono ?_
          rintro _ w3 ⟨rfl, hw3⟩
          have HW3 := Lib.hid hw3
          clear hw3 HO e1 e2
          go_wp2_with fail
          have HLI := Lib.hid (ws_list HW3.out)
          rw [show m - 1 - cm = W by have := HFU.out; omega] at HLI
          refine HLI.out.mono ?_
          rintro _ w4 ⟨⟨LA, lc, rfl⟩, hw4⟩
          have HRO := Lib.hid (ws_room hw4 hW2 HFU.out)
          clear hw4 HLI HW3
          go_wp2_with fail
          refine HRO.out.mono ?_
          rintro _ w5 ⟨rfl, hw5⟩
          obtain ⟨W1, hW1'⟩ : ∃ z, z = W + 1 := ⟨_, rfl⟩
          obtain ⟨r, hr⟩ : ∃ z, z = x % W1 := ⟨_, rfl⟩
          obtain ⟨c1, hc1⟩ : ∃ z, z = cm + r := ⟨_, rfl⟩
          obtain ⟨m1, hm1'⟩ : ∃ z, z = m - 1 := ⟨_, rfl⟩
          obtain ⟨c2, hc2⟩ : ∃ z, z = min c1 m1 := ⟨_, rfl⟩
          have hr65 : r < W1 := by rw [hr]; exact Nat.mod_lt _ (by omega)
          have HAK := Lib.hid (ws_ack (c := c2) hw5 (by omega) (by have := HFU.out; omega) (by omega))
          have k1 : (W : Int) + 1 = (W1 : Int) := by omega
          have k2 : ¬ (W1 : Int) = 0 := by omega
          have k3 : ((W1 : Int) == 0) = false := by rw [beq_eq_false_iff_ne]; exact k2
          have k4 : (x : Int) % (W1 : Int) = (r : Int) := by rw [hr]; omega
          have k5 : (cm : Int) + (r : Int) = (c1 : Int) := by omega
          have k6 : (m : Int) - 1 = (m1 : Int) := by omega
          have k7 : min (c1 : Int) (m1 : Int) = (c2 : Int) := by omega
          have bx : x ≤ 255 := by omega
          have bW : W1 ≤ 65 := by omega
          have br : r ≤ 64 := by omega
          have bc1 : c1 ≤ 5000 := by omega
          have bm1 : m1 ≤ 5000 := by omega
          have bc2 : c2 ≤ 5000 := by omega
          have HF1 : Hid (cm ≤ c2 ∧ c2 < m ∧ c2 ≤ cm + 64 ∧ m1 = m - 1) := ⟨by have := HFU.out; omega, by omega, by omega, hm1'⟩
          clear hw5 HRO hW1' hr hc1 hm1' hc2 hr65
          go_upto_region 18 with fail
          clear k1 k2 k3 k4 k5 k7 bW br bc1
          go_wp2_with fail
          refine HAK.out.mono ?_
          rintro _ w6 ⟨⟨ix, rfl, hix⟩, hw6⟩
          obtain ⟨c3, hc3⟩ : ∃ z, z = c2 + 100 := ⟨_, rfl⟩
          obtain ⟨d, hd⟩ : ∃ z, z = m - 1 - c2 := ⟨_, rfl⟩
          have HL6 := Lib.hid (ws_list hw6)
          rw [← hd] at HL6
          rw [← hc3] at hix
          have k1 : (c2 : Int) + 100 = (c3 : Int) := by omega
          have k2 : ¬ (c3 : Int) = 0 := by omega
          have k3 : ((c3 : Int) == 0) = false := by rw [beq_eq_false_iff_ne]; exact k2
          have k5 : (m1 : Int) - (c2 : Int) = (d : Int) := by have := HF1.out; omega
          have bc3 : c3 ≤ 5100 := by omega
          have bd : d ≤ 5000 := by omega
          clear hw6 HAK hc3 hd
          rcases hix with rfl | rfl
          · go_wp2_with fail
            refine HL6.out.mono ?_
            rintro _ w7 ⟨⟨LB, lc2, rfl⟩, hw7⟩
            have HW7 := Lib.hid hw7
            clear hw7 HL6
            go_wp2
            go_roundw
            case rel => exact ⟨i + 1, m, c2, by omega, by omega, by go_num, rfl, rfl, by have := HF1.out; omega, HF1.out.2.1, by have := HF1.out; have := HFU.out; omega, HW7.out⟩
            case measure => simp [intOf]; omega
          · go_wp2_with fail
            refine HL6.out.mono ?_
            rintro _ w7 ⟨⟨LB, lc2, rfl⟩, hw7⟩
            have HW7 := Lib.hid hw7
            clear hw7 HL6
            go_wp2
            go_roundw
            case rel => exact ⟨i + 1, m, c2, by omega, by omega, by go_num, rfl, rfl, by have := HF1.out; omega, HF1.out.2.1, by have := HF1.out; have := HFU.out; omega, HW7.out⟩
            case measure => simp [intOf]; omega
        · have HO := Lib.hid (ws_offer HB2.out hW2 (by omega) (by omega))
          rw [← hmh] at HO
          have e3 : (m : Int) + 1 = ((m + 1 : Nat) : Int) := by omega
          have e4 : IntKind.u64.wrap ((m : Int) + 1) = ((m + 1 : Nat) : Int) := by rw [IntKind.wrap_u64]; omega
          obtain ⟨m1, hm1'⟩ : ∃ m1, m1 = m + 1 := ⟨_, rfl⟩
          rw [← hm1'] at HO e3 e4
          have hb7 : m1 ≤ 5001 := by omega
          have HM1 := Lib.hid (⟨hm1', hfull⟩ : _ ∧ _)
          clear HB HB2 hmh hm1' hfull
          go_wp2_with fail
          refine HO.out.mono ?_
          rintro _ w3 ⟨rfl, hw3⟩
          have HW3 := Lib.hid hw3
          clear hw3 HO e1 e2
          go_wp2
          go_roundw
          case rel => exact ⟨m1, by go_num, by have := HM1.out.1; omega, by have := HM1.out; omega, HW3.out⟩
          case measure => simp [intOf]; have := HM1.out; omega
    · obtain rfl : i = n := by omega
      have q1 : decide ((i : Int) < (i : Int)) = false := decide_eq_false (by omega)
      have q2 : decide (i < i) = false := decide_eq_false (by omega)
      have HBW : Hid (Below w.heap.size w wr) := by
        obtain ⟨S, X, L, -, -, -, -, -, -, -, hbl⟩ := HB.out
        exact HB0.out.trans (hbl.mono HB0.out.size)
      go_wp2
      go_ret
      exact ⟨rfl, HBW.out⟩
end sendWindow
end Go.Proofs.Ytholdcgkhicdmaa
