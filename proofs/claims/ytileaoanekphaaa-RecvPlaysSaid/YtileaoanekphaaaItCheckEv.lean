/- Layer 4: item.Check. -/
import Derived.Test.YtileaoanekphaaaItCheck
import Derived.Deep.QuietTactic
import Derived.BigQuiet
namespace Go.Proofs.Ytileaoanekphaaa
open Go.RowKit
theorem own_q (s : ByteArray) (w : World) :
    Calls Try.prog 39 #[.string s] w fun e w' => e = .returned (.bool (ownB s)) ∧ w' = w := (own_any s w).mono fun _ _ h => ⟨h.1, h.2.symm⟩

set_option maxRecDepth 100000 in
set_option maxHeartbeats 2000000 in
theorem checkEvent_any (x : It) (A : Option Addr) (n c : Nat) (w : World) (hn : n = x.l.length) (hm : n ≤ maxLen) (hr : RdP w w.heap.size A x.l) :
    Calls Try.prog 34 #[.agg #[.int .u8 x.o, .int .u64 x.q, .int .u64 x.t, .string x.r, .slice A n c, .int .u8 x.s, .int .u8 x.p, .int .i64 x.v, .int .u8 x.w]] w fun e w' => e = .returned (.int .i64 (evN x : Nat)) ∧ Below w.heap.size w w' := by
  have hba : Below w.heap.size w (w.alloc (.cells #[.int .u8 x.o, .int .u64 x.q, .int .u64 x.t, .string x.r, .slice A n c, .int .u8 x.s, .int .u8 x.p, .int .i64 x.v, .int .u8 x.w] 39)) := (Below.refl _ _).alloc (Nat.le_refl _) _
  have Hn := Lib.hid hn
  have Hr := Lib.hid hr
  clear hn hr
  by_cases h0 : 31 < x.o
  · have k0 : (32 : Int) ≤ x.o := by omega
    have hg : Hid (evN x = 6) := if_pos (.inl h0)
    clear h0 Hn Hr
    go_enter Try.func34, Try.ntmps34
    go_wp2
    go_ret
    exact ⟨by rw [hg.out]; rfl, hba⟩
  have k0 : ¬ (32 : Int) ≤ x.o := by omega
  by_cases h1 : x.q = 0
  · have k1 : ((x.q : Int) == 0) = true := by rw [beq_iff_eq]; omega
    have hg : Hid (evN x = 6) := if_pos (.inr (.inl h1))
    clear h0 h1 Hn Hr
    go_enter Try.func34, Try.ntmps34
    go_wp2
    go_ret
    exact ⟨by rw [hg.out]; rfl, hba⟩
  have k1 : ((x.q : Int) == 0) = false := by rw [beq_eq_false_iff_ne]; omega
  by_cases h2 : 1099511627776 < x.q
  · have k2 : (1099511627776 : Int) < x.q := by omega
    have hg : Hid (evN x = 6) := if_pos (.inr (.inr (.inl h2)))
    clear h0 h1 h2 Hn Hr
    go_enter Try.func34, Try.ntmps34
    go_wp2
    go_ret
    exact ⟨by rw [hg.out]; rfl, hba⟩
  have k2 : ¬ (1099511627776 : Int) < x.q := by omega
  by_cases h3 : 1099511627776 < x.t
  · have k3 : (1099511627776 : Int) < x.t := by omega
    have hg : Hid (evN x = 6) := if_pos (.inr (.inr (.inr (.inl h3))))
    clear h0 h1 h2 h3 Hn Hr
    go_enter Try.func34, Try.ntmps34
    go_wp2
    go_ret
    exact ⟨by rw [hg.out]; rfl, hba⟩
  have k3 : ¬ (1099511627776 : Int) < x.t := by omega
  by_cases h4 : 7 < x.p
  · have k4 : (7 : Int) < x.p := by omega
    have hg : Hid (evN x = 6) := if_pos (.inr (.inr (.inr (.inr h4))))
    clear h0 h1 h2 h3 h4 Hn Hr
    go_enter Try.func34, Try.ntmps34
    go_wp2
    go_ret
    exact ⟨by rw [hg.out]; rfl, hba⟩
  have k4 : ¬ (7 : Int) < x.p := by omega
  have hN : Hid (evN x = if nameB x.r = false then 8 else if (x.s ≠ 0 ∧ x.s ≠ 2) ∨ 2 < x.w then 12 else if decide (x.w ≠ 0) ≠ ownB x.r then 27 else check x.l) := if_neg (by omega)
  clear h0 h1 h2 h3 h4
  have HE := Lib.hid (EvAt.new w x A n c 39)
  by_cases hname : nameB x.r = false
  · have hg : Hid (evN x = 8) := by show _ = _; rw [hN.out, if_pos hname]
    clear Hn Hr
    go_enter Try.func34, Try.ntmps34
    go_wp2_with fail
    refine (name_any x.r _).mono ?_
    rintro e w1 ⟨rfl, hb1⟩
    have Hb1 := Lib.hid (hba.trans (hb1.mono (by simp)))
    clear hb1
    go_wp2
    go_ret
    exact ⟨by rw [hg.out]; rfl, Hb1.out⟩
  have hname2 : nameB x.r = true := by simpa using hname
  rw [if_neg hname] at hN
  clear hname
  by_cases hk : (x.s ≠ 0 ∧ x.s ≠ 2) ∨ 2 < x.w
  · have hg : Hid (evN x = 12) := by show _ = _; rw [hN.out, if_pos hk]
    clear Hn Hr hN
    by_cases hs0 : x.s = 0
    case' pos =>
      have q0 : ((x.s : Int) != 0) = false := by rw [bne_eq_false_iff_eq]; omega
      have q2 : (2 : Int) < x.w := by omega
    case' neg =>
      have q0 : ((x.s : Int) != 0) = true := by rw [bne_iff_ne]; omega
      by_cases hs2 : x.s = 2
      case' pos =>
        have q1 : ((x.s : Int) != 2) = false := by rw [bne_eq_false_iff_eq]; omega
        have q2 : (2 : Int) < x.w := by omega
        clear hs2
      case' neg =>
        have q1 : ((x.s : Int) != 2) = true := by rw [bne_iff_ne]; omega
        clear hs2
    all_goals (
      clear hs0 hk
      go_enter Try.func34, Try.ntmps34
      go_wp2_with fail
      refine (name_any x.r _).mono ?_
      rintro e w1 ⟨rfl, hb1⟩
      have Hb1 := Lib.hid (hba.trans (hb1.mono (by simp)))
      have HE1 := HE.out.below hb1
      obtain ⟨_, _, _, _, _, _, c5, _, _, c8⟩ := HE1
      clear hb1
      go_wp2
      go_ret
      exact ⟨by rw [hg.out]; rfl, Hb1.out⟩)
  rw [if_neg hk] at hN
  have hs02 : x.s = 0 ∨ x.s = 2 := by omega
  have q2 : ¬ (2 : Int) < x.w := by omega
  clear hk
  obtain ⟨b, hb⟩ : ∃ b : Bool, ((x.w : Int) != 0) = b := ⟨_, rfl⟩
  have hbw : decide (x.w ≠ 0) = b := by rw [← hb, Bool.eq_iff_iff, decide_eq_true_eq, bne_iff_ne]; omega
  rw [hbw] at hN
  clear hbw
  by_cases ho : b ≠ ownB x.r
  · have hg : Hid (evN x = 27) := by show _ = _; rw [hN.out, if_pos ho]
    have hob : (b == ownB x.r) = false := by revert ho; cases b <;> cases ownB x.r <;> simp
    clear Hn Hr hN ho
    rcases hs02 with hs0 | hs0
    case' inl =>
      have q0 : ((x.s : Int) != 0) = false := by rw [bne_eq_false_iff_eq]; omega
    case' inr =>
      have q0 : ((x.s : Int) != 0) = true := by rw [bne_iff_ne]; omega
      have q1 : ((x.s : Int) != 2) = false := by rw [bne_eq_false_iff_eq]; omega
    all_goals (
      clear hs0
      go_enter Try.func34, Try.ntmps34
      go_wp2_with fail
      refine (name_any x.r _).mono ?_
      rintro e w1 ⟨rfl, hb1⟩
      have Hb1 := Lib.hid (hba.trans (hb1.mono (by simp)))
      have HE1 := HE.out.below hb1
      obtain ⟨_, _, _, _, c3, _, c5, _, _, c8⟩ := HE1
      clear hb1
      go_wp2
      go_quiet ((go_at_call 39; exact Calls.quiet_of_same (own_q _ _)))
      go_wp2
      go_ret
      exact ⟨by rw [hg.out]; rfl, cbelow_drewN Hb1.out _⟩)
  · rw [if_neg ho] at hN
    have hob : (b == ownB x.r) = true := by revert ho; cases b <;> cases ownB x.r <;> simp
    clear ho
    rcases hs02 with hs0 | hs0
    case' inl =>
      have q0 : ((x.s : Int) != 0) = false := by rw [bne_eq_false_iff_eq]; omega
    case' inr =>
      have q0 : ((x.s : Int) != 0) = true := by rw [bne_iff_ne]; omega
      have q1 : ((x.s : Int) != 2) = false := by rw [bne_eq_false_iff_eq]; omega
    all_goals (
      clear hs0
      go_enter Try.func34, Try.ntmps34
      go_wp2_with fail
      refine (name_any x.r _).mono ?_
      rintro e w1 ⟨rfl, hb1⟩
      have Hb1 := Lib.hid (hba.trans (hb1.mono (by simp)))
      have HE1 := HE.out.below hb1
      obtain ⟨_, _, _, _, c3, c4, c5, _, _, c8⟩ := HE1
      clear hb1
      go_wp2
      go_quiet ((go_at_call 39; exact Calls.quiet_of_same (own_q _ _)))
      go_wp2_with fail
      refine (check_any A n c x.l _ Hn.out hm ((Hr.out.below (cbelow_drewN Hb1.out _)).more (cbelow_drewN Hb1.out _).size)).mono ?_
      rintro e w2 ⟨rfl, hb2⟩
      have Hb2 := Lib.hid ((cbelow_drewN Hb1.out _).trans (hb2.mono (cbelow_drewN Hb1.out _).size))
      clear hb2
      go_wp2
      go_ret
      exact ⟨by rw [hN.out]; rfl, Hb2.out⟩)

set_option maxRecDepth 100000 in
set_option maxHeartbeats 1000000 in
theorem itemCheck_any (x : It) (A : Option Addr) (n c : Nat) (w : World) (hn : n = x.l.length) (hm : n ≤ maxLen) (hr : RdP w w.heap.size A x.l) :
    Calls Try.prog 25 #[.agg #[.bool x.g, .int .u8 x.o, .int .u64 x.q, .int .u64 x.t, .string x.r, .slice A n c, .int .u8 x.s, .int .u8 x.p, .int .i64 x.v, .int .u8 x.w, .int .u8 x.ga, .int .u64 x.gf, .int .u64 x.gt]] w fun e w' => e = .returned (.int .i64 (itemN x : Nat)) ∧ Below w.heap.size w w' := by
  have Hn := Lib.hid hn
  have Hr := Lib.hid hr
  clear hn hr
  obtain ⟨b, hb⟩ : ∃ b, x.g = b := ⟨_, rfl⟩
  have hN : Hid (itemN x = if b then gapN x else evN x) := by show _ = _; unfold itemN; rw [hb]
  rw [hb]
  clear hb
  cases b with
  | true =>
    go_enter Try.func25, Try.ntmps25
    go_wp2_with fail
    refine (checkGap_any x _).mono ?_
    rintro e w1 ⟨rfl, hb1⟩
    have Hb1 := Lib.hid (((Below.refl w.heap.size w).alloc (Nat.le_refl _) _).trans (hb1.mono (by simp)))
    clear hb1
    go_wp2
    go_ret
    exact ⟨by rw [hN.out]; rfl, Hb1.out⟩
  | false =>
    go_enter Try.func25, Try.ntmps25
    go_wp2_with fail
    refine (checkEvent_any x A n c _ Hn.out hm ((Hr.out.below ((Below.refl w.heap.size w).alloc (Nat.le_refl _) _)).more (by simp))).mono ?_
    rintro e w1 ⟨rfl, hb1⟩
    have Hb1 := Lib.hid (((Below.refl w.heap.size w).alloc (Nat.le_refl _) _).trans (hb1.mono (by simp)))
    clear hb1
    go_wp2
    go_ret
    exact ⟨by rw [hN.out]; rfl, Hb1.out⟩
end Go.Proofs.Ytileaoanekphaaa
