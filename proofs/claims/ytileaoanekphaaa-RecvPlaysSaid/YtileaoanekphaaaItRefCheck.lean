/- Layer 4: the document's own answer whether an item may be. -/
import Derived.Test.YtileaoanekphaaaItCheck
import Derived.Deep.QuietTactic
import Derived.BigQuiet
namespace Go.Proofs.Ytileaoanekphaaa
open Go.RowKit

set_option maxHeartbeats 400000 in
theorem number_no (n : Nat) (w : World) (h : 1099511627776 < n) :
    Calls Try.prog 28 #[.int .u64 n] w fun e w' => e = .returned (.bool false) ∧ w = w' := by
  have k : ¬ (n : Int) ≤ 1099511627776 := by omega
  clear h
  go_enter Try.func28, Try.ntmps28
  go_wp2
  go_ret
  exact ⟨rfl, rfl⟩
set_option maxHeartbeats 400000 in
theorem number_yes (n : Nat) (w : World) (h : ¬ 1099511627776 < n) :
    Calls Try.prog 28 #[.int .u64 n] w fun e w' => e = .returned (.bool true) ∧ w = w' := by
  have k : (n : Int) ≤ 1099511627776 := by omega
  clear h
  go_enter Try.func28, Try.ntmps28
  go_wp2
  go_ret
  exact ⟨rfl, rfl⟩
theorem refOwn_q (s : ByteArray) (w : World) :
    Calls Try.prog 30 #[.string s] w fun e w' => e = .returned (.bool (ownB s)) ∧ w' = w := (refOwn_any s w).mono fun _ _ h => ⟨h.1, h.2.symm⟩

set_option maxRecDepth 100000 in
set_option maxHeartbeats 1000000 in
theorem refGap_any (x : It) (A : Option Addr) (n c : Nat) (w : World) :
    Calls Try.prog 20 #[(.agg #[.bool true, .int .u8 x.o, .int .u64 x.q, .int .u64 x.t, .string x.r, .slice A n c, .int .u8 x.s, .int .u8 x.p, .int .i64 x.v, .int .u8 x.w, .int .u8 x.ga, .int .u64 x.gf, .int .u64 x.gt])] w fun e w' => e = .returned (.int .i64 (gapN x : Nat)) ∧ Below w.heap.size w w' := by
  by_cases h0 : 31 < x.ga
  · have k0 : (31 : Int) < x.ga := by omega
    have hg : Hid (gapN x = 6) := if_pos (.inl h0)
    clear h0
    go_enter Try.func20, Try.ntmps20
    go_wp2
    go_ret
    exact ⟨by rw [hg.out]; rfl, ((((Below.refl w.heap.size w).alloc (Nat.le_refl _) _).alloc (by simp) _))⟩
  have k0 : ¬ (31 : Int) < x.ga := by omega
  by_cases h1 : x.gf = 0
  · have k1 : ((x.gf : Int) == 0) = true := by rw [beq_iff_eq]; omega
    have hg : Hid (gapN x = 6) := if_pos (.inr (.inl h1))
    clear h0 h1
    go_enter Try.func20, Try.ntmps20
    go_wp2
    go_ret
    exact ⟨by rw [hg.out]; rfl, ((((Below.refl w.heap.size w).alloc (Nat.le_refl _) _).alloc (by simp) _))⟩
  have k1 : ((x.gf : Int) == 0) = false := by rw [beq_eq_false_iff_ne]; omega
  by_cases h2 : x.gt < x.gf
  · have hg : Hid (gapN x = 6) := if_pos (.inr (.inr (.inl h2)))
    clear h0 h1
    go_enter Try.func20, Try.ntmps20
    go_wp2
    go_ret
    exact ⟨by rw [hg.out]; rfl, ((((Below.refl w.heap.size w).alloc (Nat.le_refl _) _).alloc (by simp) _))⟩
  by_cases h3 : 1099511627776 < x.gt
  · have hg : Hid (gapN x = 6) := if_pos (.inr (.inr (.inr h3)))
    have H3 := Lib.hid h3
    clear h0 h1 h3
    go_enter Try.func20, Try.ntmps20
    go_wp2_with fail
    refine (number_no _ _ H3.out).mono ?_
    rintro e w1 ⟨rfl, rfl⟩
    go_wp2
    go_ret
    exact ⟨by rw [hg.out]; rfl, ((((Below.refl w.heap.size w).alloc (Nat.le_refl _) _).alloc (by simp) _))⟩
  have hg : Hid (gapN x = 0) := if_neg (by omega)
  have H3 := Lib.hid h3
  clear h0 h1 h3
  go_enter Try.func20, Try.ntmps20
  go_wp2_with fail
  refine (number_yes _ _ H3.out).mono ?_
  rintro e w1 ⟨rfl, rfl⟩
  go_wp2
  go_ret
  exact ⟨by rw [hg.out]; rfl, ((((Below.refl w.heap.size w).alloc (Nat.le_refl _) _).alloc (by simp) _))⟩

set_option maxRecDepth 100000 in
set_option maxHeartbeats 3000000 in
theorem refEvent_any (x : It) (A : Option Addr) (n c : Nat) (w : World) (hn : n = x.l.length) (hm : n ≤ maxLen) (hr : RdP w w.heap.size A x.l) (hok : OkP x.l) (hx : x.r.size ≤ maxLen) :
    Calls Try.prog 20 #[.agg #[.bool false, .int .u8 x.o, .int .u64 x.q, .int .u64 x.t, .string x.r, .slice A n c, .int .u8 x.s, .int .u8 x.p, .int .i64 x.v, .int .u8 x.w, .int .u8 x.ga, .int .u64 x.gf, .int .u64 x.gt]] w fun e w' => e = .returned (.int .i64 (evN x : Nat)) ∧ Below w.heap.size w w' := by
  have Hn := Lib.hid hn
  have Hr := Lib.hid hr
  have Hok := Lib.hid hok
  clear hn hr hok
  by_cases h0 : 31 < x.o
  · have k0 : (31 : Int) < x.o := by omega
    have hg : Hid (evN x = 6) := if_pos (.inl h0)
    clear h0 Hn Hr Hok
    go_enter Try.func20, Try.ntmps20
    go_wp2
    go_ret
    exact ⟨by rw [hg.out]; rfl, ((((Below.refl w.heap.size w).alloc (Nat.le_refl _) _).alloc (by simp) _))⟩
  have k0 : ¬ (31 : Int) < x.o := by omega
  by_cases h1 : x.q = 0
  · have k1 : ((x.q : Int) == 0) = true := by rw [beq_iff_eq]; omega
    have hg : Hid (evN x = 6) := if_pos (.inr (.inl h1))
    clear h0 h1 Hn Hr Hok
    go_enter Try.func20, Try.ntmps20
    go_wp2
    go_ret
    exact ⟨by rw [hg.out]; rfl, ((((Below.refl w.heap.size w).alloc (Nat.le_refl _) _).alloc (by simp) _))⟩
  have k1 : ((x.q : Int) == 0) = false := by rw [beq_eq_false_iff_ne]; omega
  by_cases h2 : 1099511627776 < x.q
  · have hg : Hid (evN x = 6) := if_pos (.inr (.inr (.inl h2)))
    have H2 := Lib.hid h2
    clear h0 h1 h2 Hn Hr Hok
    go_enter Try.func20, Try.ntmps20
    go_wp2_with fail
    refine (number_no _ _ H2.out).mono ?_
    rintro e w1 ⟨rfl, rfl⟩
    go_wp2
    go_ret
    exact ⟨by rw [hg.out]; rfl, ((((Below.refl w.heap.size w).alloc (Nat.le_refl _) _).alloc (by simp) _))⟩
  have H2 := Lib.hid h2
  by_cases h3 : 1099511627776 < x.t
  · have hg : Hid (evN x = 6) := if_pos (.inr (.inr (.inr (.inl h3))))
    have H3 := Lib.hid h3
    clear h0 h1 h3 Hn Hr Hok
    go_enter Try.func20, Try.ntmps20
    go_wp2_with fail
    refine (number_yes _ _ H2.out).mono ?_
    rintro e w1 ⟨rfl, rfl⟩
    go_wp2_with fail
    refine (number_no _ _ H3.out).mono ?_
    rintro e w1 ⟨rfl, rfl⟩
    go_wp2
    go_ret
    exact ⟨by rw [hg.out]; rfl, ((((Below.refl w.heap.size w).alloc (Nat.le_refl _) _).alloc (by simp) _))⟩
  have H3 := Lib.hid h3
  by_cases h4 : 7 < x.p
  · have k4 : (7 : Int) < x.p := by omega
    have hg : Hid (evN x = 6) := if_pos (.inr (.inr (.inr (.inr h4))))
    clear h0 h1 h4 Hn Hr Hok
    go_enter Try.func20, Try.ntmps20
    go_wp2_with fail
    refine (number_yes _ _ H2.out).mono ?_
    rintro e w1 ⟨rfl, rfl⟩
    go_wp2_with fail
    refine (number_yes _ _ H3.out).mono ?_
    rintro e w1 ⟨rfl, rfl⟩
    go_wp2
    go_ret
    exact ⟨by rw [hg.out]; rfl, ((((Below.refl w.heap.size w).alloc (Nat.le_refl _) _).alloc (by simp) _))⟩
  have k4 : ¬ (7 : Int) < x.p := by omega
  have hN : Hid (evN x = if nameB x.r = false then 8 else if (x.s ≠ 0 ∧ x.s ≠ 2) ∨ 2 < x.w then 12 else if decide (x.w ≠ 0) ≠ ownB x.r then 27 else check x.l) := if_neg (by omega)
  clear h0 h1 h2 h3 h4
  by_cases hname : nameB x.r = false
  · have hg : Hid (evN x = 8) := by show _ = _; rw [hN.out, if_pos hname]
    clear Hn Hr Hok hN
    go_enter Try.func20, Try.ntmps20
    go_wp2_with fail
    refine (number_yes _ _ H2.out).mono ?_
    rintro e w1 ⟨rfl, rfl⟩
    go_wp2_with fail
    refine (number_yes _ _ H3.out).mono ?_
    rintro e w1 ⟨rfl, rfl⟩
    go_wp2_with fail
    refine (rname_any x.r hx _).mono ?_
    rintro e w1 ⟨rfl, rfl⟩
    go_wp2
    go_ret
    exact ⟨by rw [hg.out]; rfl, ((((Below.refl w.heap.size w).alloc (Nat.le_refl _) _).alloc (by simp) _))⟩
  have hname2 : nameB x.r = true := by simpa using hname
  rw [if_neg hname] at hN
  clear hname
  by_cases hk : (x.s ≠ 0 ∧ x.s ≠ 2) ∨ 2 < x.w
  · have hg : Hid (evN x = 12) := by show _ = _; rw [hN.out, if_pos hk]
    clear Hn Hr Hok hN
    by_cases hs0 : x.s = 0
    case' pos =>
      have q0 : ((x.s : Int) != 0) = false := by rw [bne_eq_false_iff_eq]; omega
      have q2 : (2 : Int) < x.w := by omega
    case' neg =>
      have q0 : ((x.s : Int) != 0) = true := by rw [bne_iff_ne]; omega
      by_cases hs2 : x.s = 2
      case' pos =>
        have q1 : ((x.s : Int) != 2) = false := by rw [bne_eq_false_iff_eq]; omega
        have q2 : (2 : Int) < x.w := by omega
        clear hs2
      case' neg =>
        have q1 : ((x.s : Int) != 2) = true := by rw [bne_iff_ne]; omega
        clear hs2
    all_goals (
      clear hs0 hk
      go_enter Try.func20, Try.ntmps20
      go_wp2_with fail
      refine (number_yes _ _ H2.out).mono ?_
      rintro e w1 ⟨rfl, rfl⟩
      go_wp2_with fail
      refine (number_yes _ _ H3.out).mono ?_
      rintro e w1 ⟨rfl, rfl⟩
      go_wp2_with fail
      refine (rname_any x.r hx _).mono ?_
      rintro e w1 ⟨rfl, rfl⟩
      go_wp2
      go_ret
      exact ⟨by rw [hg.out]; rfl, ((((Below.refl w.heap.size w).alloc (Nat.le_refl _) _).alloc (by simp) _))⟩)
  rw [if_neg hk] at hN
  have hs02 : x.s = 0 ∨ x.s = 2 := by omega
  have q2 : ¬ (2 : Int) < x.w := by omega
  clear hk
  obtain ⟨b, hb⟩ : ∃ b : Bool, decide ((0 : Int) < x.w) = b := ⟨_, rfl⟩
  have hb2 : decide (0 < x.w) = b := by rw [← hb, Bool.eq_iff_iff, decide_eq_true_eq, decide_eq_true_eq]; omega
  have hbw : decide (x.w ≠ 0) = b := by rw [← hb, Bool.eq_iff_iff, decide_eq_true_eq, decide_eq_true_eq]; omega
  rw [hbw] at hN
  clear hbw
  by_cases ho : b ≠ ownB x.r
  · have hg : Hid (evN x = 27) := by show _ = _; rw [hN.out, if_pos ho]
    have hob : (b == ownB x.r) = false := by revert ho; cases b <;> cases ownB x.r <;> simp
    clear Hn Hr Hok hN ho
    rcases hs02 with hs0 | hs0
    case' inl =>
      have q0 : ((x.s : Int) != 0) = false := by rw [bne_eq_false_iff_eq]; omega
    case' inr =>
      have q0 : ((x.s : Int) != 0) = true := by rw [bne_iff_ne]; omega
      have q1 : ((x.s : Int) != 2) = false := by rw [bne_eq_false_iff_eq]; omega
    all_goals (
      clear hs0
      go_enter Try.func20, Try.ntmps20
      go_wp2_with fail
      refine (number_yes _ _ H2.out).mono ?_
      rintro e w1 ⟨rfl, rfl⟩
      go_wp2_with fail
      refine (number_yes _ _ H3.out).mono ?_
      rintro e w1 ⟨rfl, rfl⟩
      go_wp2_with fail
      refine (rname_any x.r hx _).mono ?_
      rintro e w1 ⟨rfl, rfl⟩
      go_wp2
      go_quiet ((go_at_call 30; exact Calls.quiet_of_same (refOwn_q _ _)))
      go_wp2
      go_ret
      exact ⟨by rw [hg.out]; rfl, cbelow_drewN ((((Below.refl w.heap.size w).alloc (Nat.le_refl _) _).alloc (by simp) _)) _⟩)
  · rw [if_neg ho] at hN
    have hob : (b == ownB x.r) = true := by revert ho; cases b <;> cases ownB x.r <;> simp
    clear ho
    have Hr2 : Hid (∀ W, Below w.heap.size w W → RdP W W.heap.size A x.l) := fun W hW => (Hr.out.below hW).more hW.size
    rcases hs02 with hs0 | hs0
    case' inl =>
      have q0 : ((x.s : Int) != 0) = false := by rw [bne_eq_false_iff_eq]; omega
    case' inr =>
      have q0 : ((x.s : Int) != 0) = true := by rw [bne_iff_ne]; omega
      have q1 : ((x.s : Int) != 2) = false := by rw [bne_eq_false_iff_eq]; omega
    all_goals (
      clear hs0
      go_enter Try.func20, Try.ntmps20
      go_wp2_with fail
      refine (number_yes _ _ H2.out).mono ?_
      rintro e w1 ⟨rfl, rfl⟩
      go_wp2_with fail
      refine (number_yes _ _ H3.out).mono ?_
      rintro e w1 ⟨rfl, rfl⟩
      go_wp2_with fail
      refine (rname_any x.r hx _).mono ?_
      rintro e w1 ⟨rfl, rfl⟩
      go_wp2
      go_quiet ((go_at_call 30; exact Calls.quiet_of_same (refOwn_q _ _)))
      go_wp2_with fail
      refine (rcheck_any A n c x.l _ Hn.out hm (Hr2.out _ (cbelow_drewN ((((Below.refl w.heap.size w).alloc (Nat.le_refl _) _).alloc (by simp) _)) _)) Hok.out).mono ?_
      rintro e w2 ⟨rfl, hb2⟩
      have Hb2 := Lib.hid ((cbelow_drewN ((((Below.refl w.heap.size w).alloc (Nat.le_refl _) _).alloc (by simp) _)) _).trans (hb2.mono (by simp <;> omega)))
      clear hb2
      go_wp2
      go_ret
      exact ⟨by rw [hN.out]; rfl, Hb2.out⟩)
theorem refItem_any (x : It) (A : Option Addr) (n c : Nat) (w : World) (hn : n = x.l.length) (hm : n ≤ maxLen) (hr : RdP w w.heap.size A x.l) (hok : OkI x) :
    Calls Try.prog 20 #[.agg #[.bool x.g, .int .u8 x.o, .int .u64 x.q, .int .u64 x.t, .string x.r, .slice A n c, .int .u8 x.s, .int .u8 x.p, .int .i64 x.v, .int .u8 x.w, .int .u8 x.ga, .int .u64 x.gf, .int .u64 x.gt]] w fun e w' => e = .returned (.int .i64 (itemN x : Nat)) ∧ Below w.heap.size w w' := by
  obtain ⟨b, hb⟩ : ∃ b, x.g = b := ⟨_, rfl⟩
  have hN : itemN x = if b then gapN x else evN x := by unfold itemN; rw [hb]
  rw [hb, hN]
  cases b with
  | true => exact refGap_any x A n c w
  | false => exact refEvent_any x A n c w hn hm hr hok.l hok.r
end Go.Proofs.Ytileaoanekphaaa
