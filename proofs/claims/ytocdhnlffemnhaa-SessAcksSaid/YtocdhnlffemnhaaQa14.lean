/- Several texts in one: ItTrim, ItCheck, ItCheckEv. -/
import Derived.Deep.QuietTactic
import Derived.BigQuiet
import Derived.Test.YtocdhnlffemnhaaQa4
import Derived.Test.YtocdhnlffemnhaaQa8
import Derived.Test.YtocdhnlffemnhaaQa10
import Derived.Test.YtocdhnlffemnhaaQa11
import Derived.Test.YtocdhnlffemnhaaQa13
/- Layer 4: item.Trim; the document's Above. -/
namespace Go.Proofs.Ytocdhnlffemnhaa
open Go.RowKit

theorem results_cell_two {P : Program} {fn : Func} {p q : Tmp} {ty : TypeId} {v : Value} (h : fn.results = #[.cell p ty, .tmp q]) (tmps : Array Value) (w : World) (g : Nat) (t : TypeId) (cs : Array Value) (fr : Nat × Nat) (d : TypeDesc)
    (hp : tmps.getD p undef = .pointer (some ⟨g, 0, none⟩)) (hq : tmps.getD q undef = v) (hg : w.heap[g]? = some (.cells cs t fr))
    (hu : P.underlying ty = some d) (hd : (match d with | .struct _ | .array _ _ => true | _ => false) = true) (hi : (P.info? ty).map (·.size) = some cs.size) :
    (results fn tmps).run P w = .ok (.tuple #[.agg cs, v]) w := by
  have hp' : tmps[p]?.getD undef = .pointer (some ⟨g, 0, none⟩) := by simpa using hp
  have hq' : tmps[q]?.getD undef = v := by simpa using hq
  simp [results, h, hp', hq', asAddr, run_loadVar_row w g t ty cs fr d hg hu hd hi]

theorem RdP.nil {w : World} {B : Nat} {A : Option Addr} : RdP w B A [] := fun h => absurd h (by simp)
/-- an item and a yes or no -/
def TwoRet (y : It) (b : Bool) (w : World) (e : Ending) (w' : World) : Prop :=
  ∃ A n c, e = .returned (.tuple #[.agg #[.bool y.g, .int .u8 y.o, .int .u64 y.q, .int .u64 y.t, .string y.r, .slice A n c, .int .u8 y.s, .int .u8 y.p, .int .i64 y.v, .int .u8 y.w, .int .u8 y.ga, .int .u64 y.gf, .int .u64 y.gt], .bool b]) ∧ n = y.l.length ∧ RdP w' w'.heap.size A y.l ∧ Below w.heap.size w w'

def trimI (x : It) (N : Nat) : It := if spT x ≤ N then zeroI else if N < spF x then x else ⟨true, 0, 0, 0, ⟨#[]⟩, [], 0, 0, 0, 0, spO x, N + 1, spT x⟩
def aboveI (x : It) (N : Nat) : It := if spT x ≤ N then zeroI else if spF x ≤ N then { x with gf := N + 1 } else x
def aboveB (x : It) (N : Nat) : Bool := decide (¬ spT x ≤ N)

theorem trim_above (x : It) (N : Nat) : sameI (trimI x N) (aboveI x N) = true := by
  unfold trimI aboveI
  by_cases h1 : spT x ≤ N
  · rw [if_pos h1, if_pos h1]; exact sameI_refl _
  · rw [if_neg h1, if_neg h1]
    by_cases h2 : N < spF x
    · rw [if_pos h2, if_neg (by omega)]; exact sameI_refl _
    · rw [if_neg h2, if_pos (by omega)]
      cases hg : x.g with
      | true =>
        unfold sameI sameG spO spT
        simp [hg]
      | false =>
        unfold spT at h1
        unfold spF at h2
        rw [hg] at h1 h2
        simp at h1 h2
        omega
theorem spT_lt {x : It} (h : OkI x) : spT x < 18446744073709551616 := by
  have h1 := h.gt
  have h2 := h.q
  unfold spT
  split <;> omega

/-- an item whose labels are new, and a yes or no -/
def TwoNew (y : It) (b : Bool) (w : World) (e : Ending) (w' : World) : Prop :=
  ∃ A n c, e = .returned (.tuple #[.agg #[.bool y.g, .int .u8 y.o, .int .u64 y.q, .int .u64 y.t, .string y.r, .slice A n c, .int .u8 y.s, .int .u8 y.p, .int .i64 y.v, .int .u8 y.w, .int .u8 y.ga, .int .u64 y.gf, .int .u64 y.gt], .bool b]) ∧ n = y.l.length ∧ RdP w' w'.heap.size A y.l ∧ (A = none → n = 0) ∧ (∀ a, A = some a → 0 < n → w.heap.size ≤ a.block) ∧ Below w.heap.size w w'
theorem own_nilA {w : World} {base : Nat} {e : TypeId} {size n c : Nat} {A : Option Addr} {xs : List Value} (h : w.ownsRow base e size (.slice A n c) n xs) : A = none → n = 0 := fun hA => by
  rcases h.2 with ⟨_, h0⟩ | ⟨g, cap, cur, e1, _⟩
  · exact h0
  · injection e1 with e1
    rw [hA] at e1
    cases e1

end Go.Proofs.Ytocdhnlffemnhaa
/- Layer 4: item.Own, item.Check; the document's own. -/
namespace Go.Proofs.Ytocdhnlffemnhaa
open Go.RowKit

theorem own_cut {s : ByteArray} : ((s.extract 0 4).toList == [111, 119, 110, 46]) = ownB s := by
  rw [Lib.toList_data, Lib.extract_data]
  unfold ownB
  rw [Bool.eq_iff_iff, beq_iff_eq, decide_eq_true_eq]
  rfl
theorem own_short {s : ByteArray} (h : ¬ 4 ≤ s.size) : false = ownB s := by
  unfold ownB
  symm
  rw [decide_eq_false_iff_not]
  intro e
  have h1 := congrArg List.length e
  rw [List.length_take] at h1
  have h2 : s.data.toList.length = s.size := rfl
  simp at h1
  omega
set_option maxHeartbeats 400000 in
theorem litePrefix_any (s : ByteArray) (w : World) :
    Calls Try.prog 62 #[.string s, .string ⟨#[111, 119, 110, 46]⟩] w fun e w' => e = .returned (.bool (ownB s)) ∧ w = w' := by
  by_cases h4 : 4 ≤ s.size
  · go_enter Try.func62, Try.ntmps62
    go_wp2
    go_ret
    exact ⟨ret_bool own_cut, rfl⟩
  · go_enter Try.func62, Try.ntmps62
    go_wp2
    go_ret
    exact ⟨ret_bool (own_short h4), rfl⟩
set_option maxHeartbeats 400000 in
theorem hasPrefix_any (s : ByteArray) (w : World) :
    Calls Try.prog 59 #[.string s, .string ⟨#[111, 119, 110, 46]⟩] w fun e w' => e = .returned (.bool (ownB s)) ∧ w = w' := by
  go_enter Try.func59, Try.ntmps59
  go_wp2_with fail
  refine (litePrefix_any s _).mono ?_
  rintro e w' ⟨rfl, rfl⟩
  go_wp2
  go_ret
  exact ⟨rfl, rfl⟩
set_option maxHeartbeats 400000 in
theorem own_any (s : ByteArray) (w : World) :
    Calls Try.prog 54 #[.string s] w fun e w' => e = .returned (.bool (ownB s)) ∧ w = w' := by
  go_enter Try.func54, Try.ntmps54
  go_wp2_with fail
  refine (hasPrefix_any s _).mono ?_
  rintro e w' ⟨rfl, rfl⟩
  go_wp2
  go_ret
  exact ⟨rfl, rfl⟩
set_option maxRecDepth 100000 in
set_option maxHeartbeats 1000000 in
theorem checkGap_any (x : It) (w : World) :
    Calls Try.prog 47 #[.agg #[.int .u8 x.ga, .int .u64 x.gf, .int .u64 x.gt]] w fun e w' => e = .returned (.int .i64 (gapN x : Nat)) ∧ Below w.heap.size w w' := by
  have hba : Below w.heap.size w (w.alloc (.cells #[.int .u8 x.ga, .int .u64 x.gf, .int .u64 x.gt] 28)) := (Below.refl _ _).alloc (Nat.le_refl _) _
  by_cases h1 : 31 < x.ga
  · have k1 : (32 : Int) ≤ x.ga := by omega
    have hg : Hid (gapN x = 6) := if_pos (.inl h1)
    clear h1
    go_enter Try.func47, Try.ntmps47
    go_wp2
    go_ret
    exact ⟨by rw [hg.out]; rfl, hba⟩
  have k1 : ¬ (32 : Int) ≤ x.ga := by omega
  by_cases h2 : x.gf = 0
  · have k2 : ((x.gf : Int) == 0) = true := by rw [beq_iff_eq]; omega
    have hg : Hid (gapN x = 6) := if_pos (.inr (.inl h2))
    clear h1 h2
    go_enter Try.func47, Try.ntmps47
    go_wp2
    go_ret
    exact ⟨by rw [hg.out]; rfl, hba⟩
  have k2 : ((x.gf : Int) == 0) = false := by rw [beq_eq_false_iff_ne]; omega
  by_cases h3 : x.gt < x.gf
  · have hg : Hid (gapN x = 6) := if_pos (.inr (.inr (.inl h3)))
    clear h1 h2
    go_enter Try.func47, Try.ntmps47
    go_wp2
    go_ret
    exact ⟨by rw [hg.out]; rfl, hba⟩
  by_cases h4 : 1099511627776 < x.gt
  · have k4 : (1099511627776 : Int) < x.gt := by omega
    have hg : Hid (gapN x = 6) := if_pos (.inr (.inr (.inr h4)))
    clear h1 h2 h4
    go_enter Try.func47, Try.ntmps47
    go_wp2
    go_ret
    exact ⟨by rw [hg.out]; rfl, hba⟩
  have k4 : ¬ (1099511627776 : Int) < x.gt := by omega
  have hg : Hid (gapN x = 0) := if_neg (by omega)
  clear h1 h2 h4
  go_enter Try.func47, Try.ntmps47
  go_wp2
  go_ret
  exact ⟨by rw [hg.out]; rfl, hba⟩
end Go.Proofs.Ytocdhnlffemnhaa
/- Layer 4: item.Check. -/
namespace Go.Proofs.Ytocdhnlffemnhaa
open Go.RowKit
theorem own_q (s : ByteArray) (w : World) :
    Calls Try.prog 54 #[.string s] w fun e w' => e = .returned (.bool (ownB s)) ∧ w' = w := (own_any s w).mono fun _ _ h => ⟨h.1, h.2.symm⟩

set_option maxRecDepth 100000 in
set_option maxHeartbeats 2000000 in
theorem checkEvent_any (x : It) (A : Option Addr) (n c : Nat) (w : World) (hn : n = x.l.length) (hm : n ≤ maxLen) (hr : RdP w w.heap.size A x.l) :
    Calls Try.prog 48 #[.agg #[.int .u8 x.o, .int .u64 x.q, .int .u64 x.t, .string x.r, .slice A n c, .int .u8 x.s, .int .u8 x.p, .int .i64 x.v, .int .u8 x.w]] w fun e w' => e = .returned (.int .i64 (evN x : Nat)) ∧ Below w.heap.size w w' := by
  have hba : Below w.heap.size w (w.alloc (.cells #[.int .u8 x.o, .int .u64 x.q, .int .u64 x.t, .string x.r, .slice A n c, .int .u8 x.s, .int .u8 x.p, .int .i64 x.v, .int .u8 x.w] 26)) := (Below.refl _ _).alloc (Nat.le_refl _) _
  have Hn := Lib.hid hn
  have Hr := Lib.hid hr
  clear hn hr
  by_cases h0 : 31 < x.o
  · have k0 : (32 : Int) ≤ x.o := by omega
    have hg : Hid (evN x = 6) := if_pos (.inl h0)
    clear h0 Hn Hr
    go_enter Try.func48, Try.ntmps48
    go_wp2
    go_ret
    exact ⟨by rw [hg.out]; rfl, hba⟩
  have k0 : ¬ (32 : Int) ≤ x.o := by omega
  by_cases h1 : x.q = 0
  · have k1 : ((x.q : Int) == 0) = true := by rw [beq_iff_eq]; omega
    have hg : Hid (evN x = 6) := if_pos (.inr (.inl h1))
    clear h0 h1 Hn Hr
    go_enter Try.func48, Try.ntmps48
    go_wp2
    go_ret
    exact ⟨by rw [hg.out]; rfl, hba⟩
  have k1 : ((x.q : Int) == 0) = false := by rw [beq_eq_false_iff_ne]; omega
  by_cases h2 : 1099511627776 < x.q
  · have k2 : (1099511627776 : Int) < x.q := by omega
    have hg : Hid (evN x = 6) := if_pos (.inr (.inr (.inl h2)))
    clear h0 h1 h2 Hn Hr
    go_enter Try.func48, Try.ntmps48
    go_wp2
    go_ret
    exact ⟨by rw [hg.out]; rfl, hba⟩
  have k2 : ¬ (1099511627776 : Int) < x.q := by omega
  by_cases h3 : 1099511627776 < x.t
  · have k3 : (1099511627776 : Int) < x.t := by omega
    have hg : Hid (evN x = 6) := if_pos (.inr (.inr (.inr (.inl h3))))
    clear h0 h1 h2 h3 Hn Hr
    go_enter Try.func48, Try.ntmps48
    go_wp2
    go_ret
    exact ⟨by rw [hg.out]; rfl, hba⟩
  have k3 : ¬ (1099511627776 : Int) < x.t := by omega
  by_cases h4 : 7 < x.p
  · have k4 : (7 : Int) < x.p := by omega
    have hg : Hid (evN x = 6) := if_pos (.inr (.inr (.inr (.inr h4))))
    clear h0 h1 h2 h3 h4 Hn Hr
    go_enter Try.func48, Try.ntmps48
    go_wp2
    go_ret
    exact ⟨by rw [hg.out]; rfl, hba⟩
  have k4 : ¬ (7 : Int) < x.p := by omega
  have hN : Hid (evN x = if nameB x.r = false then 8 else if (x.s ≠ 0 ∧ x.s ≠ 2) ∨ 2 < x.w then 12 else if decide (x.w ≠ 0) ≠ ownB x.r then 27 else check x.l) := if_neg (by omega)
  clear h0 h1 h2 h3 h4
  have HE := Lib.hid (EvAt.new w x A n c 26)
  by_cases hname : nameB x.r = false
  · have hg : Hid (evN x = 8) := by show _ = _; rw [hN.out, if_pos hname]
    clear Hn Hr
    go_enter Try.func48, Try.ntmps48
    go_wp2_with fail
    refine (name_any x.r _).mono ?_
    rintro e w1 ⟨rfl, hb1⟩
    have Hb1 := Lib.hid (hba.trans (hb1.mono (by simp)))
    clear hb1
    go_wp2
    go_ret
    exact ⟨by rw [hg.out]; rfl, Hb1.out⟩
  have hname2 : nameB x.r = true := by simpa using hname
  rw [if_neg hname] at hN
  clear hname
  by_cases hk : (x.s ≠ 0 ∧ x.s ≠ 2) ∨ 2 < x.w
  · have hg : Hid (evN x = 12) := by show _ = _; rw [hN.out, if_pos hk]
    clear Hn Hr hN
    by_cases hs0 : x.s = 0
    case' pos =>
      have q0 : ((x.s : Int) != 0) = false := by rw [bne_eq_false_iff_eq]; omega
      have q2 : (2 : Int) < x.w := by omega
    case' neg =>
      have q0 : ((x.s : Int) != 0) = true := by rw [bne_iff_ne]; omega
      by_cases hs2 : x.s = 2
      case' pos =>
        have q1 : ((x.s : Int) != 2) = false := by rw [bne_eq_false_iff_eq]; omega
        have q2 : (2 : Int) < x.w := by omega
        clear hs2
      case' neg =>
        have q1 : ((x.s : Int) != 2) = true := by rw [bne_iff_ne]; omega
        clear hs2
    all_goals (
      clear hs0 hk
      go_enter Try.func48, Try.ntmps48
      go_wp2_with fail
      refine (name_any x.r _).mono ?_
      rintro e w1 ⟨rfl, hb1⟩
      have Hb1 := Lib.hid (hba.trans (hb1.mono (by simp)))
      have HE1 := HE.out.below hb1
      obtain ⟨_, _, _, _, _, _, c5, _, _, c8⟩ := HE1
      clear hb1
      go_wp2
      go_ret
      exact ⟨by rw [hg.out]; rfl, Hb1.out⟩)
  rw [if_neg hk] at hN
  have hs02 : x.s = 0 ∨ x.s = 2 := by omega
  have q2 : ¬ (2 : Int) < x.w := by omega
  clear hk
  obtain ⟨b, hb⟩ : ∃ b : Bool, ((x.w : Int) != 0) = b := ⟨_, rfl⟩
  have hbw : decide (x.w ≠ 0) = b := by rw [← hb, Bool.eq_iff_iff, decide_eq_true_eq, bne_iff_ne]; omega
  rw [hbw] at hN
  clear hbw
  by_cases ho : b ≠ ownB x.r
  · have hg : Hid (evN x = 27) := by show _ = _; rw [hN.out, if_pos ho]
    have hob : (b == ownB x.r) = false := by revert ho; cases b <;> cases ownB x.r <;> simp
    clear Hn Hr hN ho
    rcases hs02 with hs0 | hs0
    case' inl =>
      have q0 : ((x.s : Int) != 0) = false := by rw [bne_eq_false_iff_eq]; omega
    case' inr =>
      have q0 : ((x.s : Int) != 0) = true := by rw [bne_iff_ne]; omega
      have q1 : ((x.s : Int) != 2) = false := by rw [bne_eq_false_iff_eq]; omega
    all_goals (
      clear hs0
      go_enter Try.func48, Try.ntmps48
      go_wp2_with fail
      refine (name_any x.r _).mono ?_
      rintro e w1 ⟨rfl, hb1⟩
      have Hb1 := Lib.hid (hba.trans (hb1.mono (by simp)))
      have HE1 := HE.out.below hb1
      obtain ⟨_, _, _, _, c3, _, c5, _, _, c8⟩ := HE1
      clear hb1
      go_wp2
      go_quiet ((go_at_call 54; exact Calls.quiet_of_same (own_q _ _)))
      go_wp2
      go_ret
      exact ⟨by rw [hg.out]; rfl, cbelow_drewN Hb1.out _⟩)
  · rw [if_neg ho] at hN
    have hob : (b == ownB x.r) = true := by revert ho; cases b <;> cases ownB x.r <;> simp
    clear ho
    rcases hs02 with hs0 | hs0
    case' inl =>
      have q0 : ((x.s : Int) != 0) = false := by rw [bne_eq_false_iff_eq]; omega
    case' inr =>
      have q0 : ((x.s : Int) != 0) = true := by rw [bne_iff_ne]; omega
      have q1 : ((x.s : Int) != 2) = false := by rw [bne_eq_false_iff_eq]; omega
    all_goals (
      clear hs0
      go_enter Try.func48, Try.ntmps48
      go_wp2_with fail
      refine (name_any x.r _).mono ?_
      rintro e w1 ⟨rfl, hb1⟩
      have Hb1 := Lib.hid (hba.trans (hb1.mono (by simp)))
      have HE1 := HE.out.below hb1
      obtain ⟨_, _, _, _, c3, c4, c5, _, _, c8⟩ := HE1
      clear hb1
      go_wp2
      go_quiet ((go_at_call 54; exact Calls.quiet_of_same (own_q _ _)))
      go_wp2_with fail
      refine (check_any A n c x.l _ Hn.out hm ((Hr.out.below (cbelow_drewN Hb1.out _)).more (cbelow_drewN Hb1.out _).size)).mono ?_
      rintro e w2 ⟨rfl, hb2⟩
      have Hb2 := Lib.hid ((cbelow_drewN Hb1.out _).trans (hb2.mono (cbelow_drewN Hb1.out _).size))
      clear hb2
      go_wp2
      go_ret
      exact ⟨by rw [hN.out]; rfl, Hb2.out⟩)

set_option maxRecDepth 100000 in
set_option maxHeartbeats 1000000 in
theorem itemCheck_any (x : It) (A : Option Addr) (n c : Nat) (w : World) (hn : n = x.l.length) (hm : n ≤ maxLen) (hr : RdP w w.heap.size A x.l) :
    Calls Try.prog 41 #[.agg #[.bool x.g, .int .u8 x.o, .int .u64 x.q, .int .u64 x.t, .string x.r, .slice A n c, .int .u8 x.s, .int .u8 x.p, .int .i64 x.v, .int .u8 x.w, .int .u8 x.ga, .int .u64 x.gf, .int .u64 x.gt]] w fun e w' => e = .returned (.int .i64 (itemN x : Nat)) ∧ Below w.heap.size w w' := by
  have Hn := Lib.hid hn
  have Hr := Lib.hid hr
  clear hn hr
  obtain ⟨b, hb⟩ : ∃ b, x.g = b := ⟨_, rfl⟩
  have hN : Hid (itemN x = if b then gapN x else evN x) := by show _ = _; unfold itemN; rw [hb]
  rw [hb]
  clear hb
  cases b with
  | true =>
    go_enter Try.func41, Try.ntmps41
    go_wp2_with fail
    refine (checkGap_any x _).mono ?_
    rintro e w1 ⟨rfl, hb1⟩
    have Hb1 := Lib.hid (((Below.refl w.heap.size w).alloc (Nat.le_refl _) _).trans (hb1.mono (by simp)))
    clear hb1
    go_wp2
    go_ret
    exact ⟨by rw [hN.out]; rfl, Hb1.out⟩
  | false =>
    go_enter Try.func41, Try.ntmps41
    go_wp2_with fail
    refine (checkEvent_any x A n c _ Hn.out hm ((Hr.out.below ((Below.refl w.heap.size w).alloc (Nat.le_refl _) _)).more (by simp))).mono ?_
    rintro e w1 ⟨rfl, hb1⟩
    have Hb1 := Lib.hid (((Below.refl w.heap.size w).alloc (Nat.le_refl _) _).trans (hb1.mono (by simp)))
    clear hb1
    go_wp2
    go_ret
    exact ⟨by rw [hN.out]; rfl, Hb1.out⟩
end Go.Proofs.Ytocdhnlffemnhaa
