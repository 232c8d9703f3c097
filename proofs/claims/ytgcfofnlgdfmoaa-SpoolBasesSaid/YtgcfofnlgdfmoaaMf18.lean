/- Several texts in one: ItCheckEv, DkPlain. -/
import Derived.Deep.QuietTactic
import Derived.BigQuiet
import Derived.Maps.Ext
import Derived.Test.YtgcfofnlgdfmoaaMf1
import Derived.Test.YtgcfofnlgdfmoaaMf17
/- Layer 4: item.Check. -/
namespace Go.Proofs.Ytgcfofnlgdfmoaa
open Go.RowKit
theorem own_q (s : ByteArray) (w : World) :
    Calls Try.prog 117 #[.string s] w fun e w' => e = .returned (.bool (ownB s)) ∧ w' = w := (own_any s w).mono fun _ _ h => ⟨h.1, h.2.symm⟩

set_option maxRecDepth 100000 in
set_option maxHeartbeats 2000000 in
theorem checkEvent_any (x : It) (A : Option Addr) (n c : Nat) (w : World) (hn : n = x.l.length) (hm : n ≤ maxLen) (hr : RdP w w.heap.size A x.l) :
    Calls Try.prog 102 #[.agg #[.int .u8 x.o, .int .u64 x.q, .int .u64 x.t, .string x.r, .slice A n c, .int .u8 x.s, .int .u8 x.p, .int .i64 x.v, .int .u8 x.w]] w fun e w' => e = .returned (.int .i64 (evN x : Nat)) ∧ Below w.heap.size w w' := by
  have hba : Below w.heap.size w (w.alloc (.cells #[.int .u8 x.o, .int .u64 x.q, .int .u64 x.t, .string x.r, .slice A n c, .int .u8 x.s, .int .u8 x.p, .int .i64 x.v, .int .u8 x.w] 56)) := (Below.refl _ _).alloc (Nat.le_refl _) _
  have Hn := Lib.hid hn
  have Hr := Lib.hid hr
  clear hn hr
  by_cases h0 : 31 < x.o
  · have k0 : (32 : Int) ≤ x.o := by omega
    have hg : Hid (evN x = 6) := if_pos (.inl h0)
    clear h0 Hn Hr
    go_enter Try.func102, Try.ntmps102
    go_wp2
    go_ret
    exact ⟨by rw [hg.out]; rfl, hba⟩
  have k0 : ¬ (32 : Int) ≤ x.o := by omega
  by_cases h1 : x.q = 0
  · have k1 : ((x.q : Int) == 0) = true := by rw [beq_iff_eq]; omega
    have hg : Hid (evN x = 6) := if_pos (.inr (.inl h1))
    clear h0 h1 Hn Hr
    go_enter Try.func102, Try.ntmps102
    go_wp2
    go_ret
    exact ⟨by rw [hg.out]; rfl, hba⟩
  have k1 : ((x.q : Int) == 0) = false := by rw [beq_eq_false_iff_ne]; omega
  by_cases h2 : 1099511627776 < x.q
  · have k2 : (1099511627776 : Int) < x.q := by omega
    have hg : Hid (evN x = 6) := if_pos (.inr (.inr (.inl h2)))
    clear h0 h1 h2 Hn Hr
    go_enter Try.func102, Try.ntmps102
    go_wp2
    go_ret
    exact ⟨by rw [hg.out]; rfl, hba⟩
  have k2 : ¬ (1099511627776 : Int) < x.q := by omega
  by_cases h3 : 1099511627776 < x.t
  · have k3 : (1099511627776 : Int) < x.t := by omega
    have hg : Hid (evN x = 6) := if_pos (.inr (.inr (.inr (.inl h3))))
    clear h0 h1 h2 h3 Hn Hr
    go_enter Try.func102, Try.ntmps102
    go_wp2
    go_ret
    exact ⟨by rw [hg.out]; rfl, hba⟩
  have k3 : ¬ (1099511627776 : Int) < x.t := by omega
  by_cases h4 : 7 < x.p
  · have k4 : (7 : Int) < x.p := by omega
    have hg : Hid (evN x = 6) := if_pos (.inr (.inr (.inr (.inr h4))))
    clear h0 h1 h2 h3 h4 Hn Hr
    go_enter Try.func102, Try.ntmps102
    go_wp2
    go_ret
    exact ⟨by rw [hg.out]; rfl, hba⟩
  have k4 : ¬ (7 : Int) < x.p := by omega
  have hN : Hid (evN x = if nameB x.r = false then 8 else if (x.s ≠ 0 ∧ x.s ≠ 2) ∨ 2 < x.w then 12 else if decide (x.w ≠ 0) ≠ ownB x.r then 27 else check x.l) := if_neg (by omega)
  clear h0 h1 h2 h3 h4
  have HE := Lib.hid (EvAt.new w x A n c 56)
  by_cases hname : nameB x.r = false
  · have hg : Hid (evN x = 8) := by show _ = _; rw [hN.out, if_pos hname]
    clear Hn Hr
    go_enter Try.func102, Try.ntmps102
    go_wp2_with fail
    refine (name_any x.r _).mono ?_
    rintro e w1 ⟨rfl, hb1⟩
    have Hb1 := Lib.hid (hba.trans (hb1.mono (by simp)))
    clear hb1
    go_wp2
    go_ret
    exact ⟨by rw [hg.out]; rfl, Hb1.out⟩
  have hname2 : nameB x.r = true := by simpa using hname
  rw [if_neg hname] at hN
  clear hname
  by_cases hk : (x.s ≠ 0 ∧ x.s ≠ 2) ∨ 2 < x.w
  · have hg : Hid (evN x = 12) := by show _ = _; rw [hN.out, if_pos hk]
    clear Hn Hr hN
    by_cases hs0 : x.s = 0
    case' pos =>
      have q0 : ((x.s : Int) != 0) = false := by rw [bne_eq_false_iff_eq]; omega
      have q2 : (2 : Int) < x.w := by omega
    case' neg =>
      have q0 : ((x.s : Int) != 0) = true := by rw [bne_iff_ne]; omega
      by_cases hs2 : x.s = 2
      case' pos =>
        have q1 : ((x.s : Int) != 2) = false := by rw [bne_eq_false_iff_eq]; omega
        have q2 : (2 : Int) < x.w := by omega
        clear hs2
      case' neg =>
        have q1 : ((x.s : Int) != 2) = true := by rw [bne_iff_ne]; omega
        clear hs2
    all_goals (
      clear hs0 hk
      go_enter Try.func102, Try.ntmps102
      go_wp2_with fail
      refine (name_any x.r _).mono ?_
      rintro e w1 ⟨rfl, hb1⟩
      have Hb1 := Lib.hid (hba.trans (hb1.mono (by simp)))
      have HE1 := HE.out.below hb1
      obtain ⟨_, _, _, _, _, _, c5, _, _, c8⟩ := HE1
      clear hb1
      go_wp2
      go_ret
      exact ⟨by rw [hg.out]; rfl, Hb1.out⟩)
  rw [if_neg hk] at hN
  have hs02 : x.s = 0 ∨ x.s = 2 := by omega
  have q2 : ¬ (2 : Int) < x.w := by omega
  clear hk
  obtain ⟨b, hb⟩ : ∃ b : Bool, ((x.w : Int) != 0) = b := ⟨_, rfl⟩
  have hbw : decide (x.w ≠ 0) = b := by rw [← hb, Bool.eq_iff_iff, decide_eq_true_eq, bne_iff_ne]; omega
  rw [hbw] at hN
  clear hbw
  by_cases ho : b ≠ ownB x.r
  · have hg : Hid (evN x = 27) := by show _ = _; rw [hN.out, if_pos ho]
    have hob : (b == ownB x.r) = false := by revert ho; cases b <;> cases ownB x.r <;> simp
    clear Hn Hr hN ho
    rcases hs02 with hs0 | hs0
    case' inl =>
      have q0 : ((x.s : Int) != 0) = false := by rw [bne_eq_false_iff_eq]; omega
    case' inr =>
      have q0 : ((x.s : Int) != 0) = true := by rw [bne_iff_ne]; omega
      have q1 : ((x.s : Int) != 2) = false := by rw [bne_eq_false_iff_eq]; omega
    all_goals (
      clear hs0
      go_enter Try.func102, Try.ntmps102
      go_wp2_with fail
      refine (name_any x.r _).mono ?_
      rintro e w1 ⟨rfl, hb1⟩
      have Hb1 := Lib.hid (hba.trans (hb1.mono (by simp)))
      have HE1 := HE.out.below hb1
      obtain ⟨_, _, _, _, c3, _, c5, _, _, c8⟩ := HE1
      clear hb1
      go_wp2
      go_quiet ((go_at_call 117; exact Calls.quiet_of_same (own_q _ _)))
      go_wp2
      go_ret
      exact ⟨by rw [hg.out]; rfl, cbelow_drewN Hb1.out _⟩)
  · rw [if_neg ho] at hN
    have hob : (b == ownB x.r) = true := by revert ho; cases b <;> cases ownB x.r <;> simp
    clear ho
    rcases hs02 with hs0 | hs0
    case' inl =>
      have q0 : ((x.s : Int) != 0) = false := by rw [bne_eq_false_iff_eq]; omega
    case' inr =>
      have q0 : ((x.s : Int) != 0) = true := by rw [bne_iff_ne]; omega
      have q1 : ((x.s : Int) != 2) = false := by rw [bne_eq_false_iff_eq]; omega
    all_goals (
      clear hs0
      go_enter Try.func102, Try.ntmps102
      go_wp2_with fail
      refine (name_any x.r _).mono ?_
      rintro e w1 ⟨rfl, hb1⟩
      have Hb1 := Lib.hid (hba.trans (hb1.mono (by simp)))
      have HE1 := HE.out.below hb1
      obtain ⟨_, _, _, _, c3, c4, c5, _, _, c8⟩ := HE1
      clear hb1
      go_wp2
      go_quiet ((go_at_call 117; exact Calls.quiet_of_same (own_q _ _)))
      go_wp2_with fail
      refine (check_any A n c x.l _ Hn.out hm ((Hr.out.below (cbelow_drewN Hb1.out _)).more (cbelow_drewN Hb1.out _).size)).mono ?_
      rintro e w2 ⟨rfl, hb2⟩
      have Hb2 := Lib.hid ((cbelow_drewN Hb1.out _).trans (hb2.mono (cbelow_drewN Hb1.out _).size))
      clear hb2
      go_wp2
      go_ret
      exact ⟨by rw [hN.out]; rfl, Hb2.out⟩)

set_option maxRecDepth 100000 in
set_option maxHeartbeats 1000000 in
theorem itemCheck_any (x : It) (A : Option Addr) (n c : Nat) (w : World) (hn : n = x.l.length) (hm : n ≤ maxLen) (hr : RdP w w.heap.size A x.l) :
    Calls Try.prog 76 #[.agg #[.bool x.g, .int .u8 x.o, .int .u64 x.q, .int .u64 x.t, .string x.r, .slice A n c, .int .u8 x.s, .int .u8 x.p, .int .i64 x.v, .int .u8 x.w, .int .u8 x.ga, .int .u64 x.gf, .int .u64 x.gt]] w fun e w' => e = .returned (.int .i64 (itemN x : Nat)) ∧ Below w.heap.size w w' := by
  have Hn := Lib.hid hn
  have Hr := Lib.hid hr
  clear hn hr
  obtain ⟨b, hb⟩ : ∃ b, x.g = b := ⟨_, rfl⟩
  have hN : Hid (itemN x = if b then gapN x else evN x) := by show _ = _; unfold itemN; rw [hb]
  rw [hb]
  clear hb
  cases b with
  | true =>
    go_enter Try.func76, Try.ntmps76
    go_wp2_with fail
    refine (checkGap_any x _).mono ?_
    rintro e w1 ⟨rfl, hb1⟩
    have Hb1 := Lib.hid (((Below.refl w.heap.size w).alloc (Nat.le_refl _) _).trans (hb1.mono (by simp)))
    clear hb1
    go_wp2
    go_ret
    exact ⟨by rw [hN.out]; rfl, Hb1.out⟩
  | false =>
    go_enter Try.func76, Try.ntmps76
    go_wp2_with fail
    refine (checkEvent_any x A n c _ Hn.out hm ((Hr.out.below ((Below.refl w.heap.size w).alloc (Nat.le_refl _) _)).more (by simp))).mono ?_
    rintro e w1 ⟨rfl, hb1⟩
    have Hb1 := Lib.hid (((Below.refl w.heap.size w).alloc (Nat.le_refl _) _).trans (hb1.mono (by simp)))
    clear hb1
    go_wp2
    go_ret
    exact ⟨by rw [hN.out]; rfl, Hb1.out⟩
end Go.Proofs.Ytgcfofnlgdfmoaa
/- Layer 6: a disk's files as a list in the order of their names. No program is named here. -/
namespace Go.Proofs.Ytgcfofnlgdfmoaa
open Go.RowKit Go.Maps

section
variable {α β : Type}
/-- where a name's file is put -/
def insP (x : ByteArray × α) : List (ByteArray × α) → List (ByteArray × α)
  | [] => [x]
  | y :: r => if ltS x.1 y.1 then x :: y :: r else y :: insP x r
def delP (l : List (ByteArray × α)) (s : ByteArray) : List (ByteArray × α) := l.filter fun p => !eqS p.1 s
def putP (l : List (ByteArray × α)) (s : ByteArray) (x : α) : List (ByteArray × α) := insP (s, x) (delP l s)
def findP (l : List (ByteArray × α)) (s : ByteArray) : Option α := (l.find? fun p => eqS p.1 s).map (·.2)
def mapS (g : α → β) (l : List (ByteArray × α)) : List (ByteArray × β) := l.map fun p => (p.1, g p.2)
/-- the names rise -/
def Rising (l : List (ByteArray × α)) : Prop := l.Pairwise fun p q => ltS p.1 q.1 = true

theorem mapS_ins (g : α → β) (x : ByteArray × α) : ∀ l, mapS g (insP x l) = insP (x.1, g x.2) (mapS g l)
  | [] => rfl
  | y :: r => by
    unfold insP mapS
    by_cases h : ltS x.1 y.1 = true
    · simp [h]
    · have ih := mapS_ins g x r
      unfold mapS at ih
      simp [h, ih]
theorem mapS_del (g : α → β) (s : ByteArray) (l : List (ByteArray × α)) : mapS g (delP l s) = delP (mapS g l) s := by
  unfold mapS delP
  rw [List.filter_map]
  rfl
theorem mapS_put (g : α → β) (s : ByteArray) (x : α) (l : List (ByteArray × α)) : mapS g (putP l s x) = putP (mapS g l) s (g x) := by
  unfold putP; rw [mapS_ins, mapS_del]
theorem mapS_find (g : α → β) (s : ByteArray) (l : List (ByteArray × α)) : findP (mapS g l) s = (findP l s).map g := by
  unfold findP mapS
  rw [List.find?_map, Option.map_map, Option.map_map]
  rfl
theorem mapS_length (g : α → β) (l : List (ByteArray × α)) : (mapS g l).length = l.length := by simp [mapS]

theorem eqS_comm (a b : ByteArray) : eqS a b = eqS b a := by
  rw [Bool.eq_iff_iff, eqS_iff, eqS_iff]; exact ⟨Eq.symm, Eq.symm⟩
theorem eqS_no {a b : ByteArray} (h : a ≠ b) : eqS a b = false := by
  cases e : eqS a b
  · rfl
  · exact absurd ((eqS_iff _ _).1 e) h
theorem ltS_ne {a b : ByteArray} (h : ltS a b = true) : a ≠ b := fun e => by subst e; rw [ltS_irrefl] at h; cases h
theorem ltS_asymm {a b : ByteArray} (h : ltS a b = true) : ltS b a = false := by
  cases e : ltS b a
  · rfl
  · have := ltS_trans h e; rw [ltS_irrefl] at this; cases this
theorem ltS_of {a b : ByteArray} (h : ltS a b = false) (hne : a ≠ b) : ltS b a = true := by
  cases e : ltS b a
  · exact absurd (ltS_total h e) hne
  · rfl

theorem mem_insP {x p : ByteArray × α} : ∀ {l : List (ByteArray × α)}, p ∈ insP x l ↔ p = x ∨ p ∈ l
  | [] => by simp [insP]
  | y :: r => by
    unfold insP
    by_cases h : ltS x.1 y.1 = true
    · simp [h]
    · simp only [h, Bool.false_eq_true, if_false, List.mem_cons, mem_insP (l := r)]
      constructor
      · rintro (h | h | h)
        · exact .inr (.inl h)
        · exact .inl h
        · exact .inr (.inr h)
      · rintro (h | h | h)
        · exact .inr (.inl h)
        · exact .inl h
        · exact .inr (.inr h)
theorem mem_delP {s : ByteArray} {p : ByteArray × α} {l : List (ByteArray × α)} : p ∈ delP l s ↔ p ∈ l ∧ p.1 ≠ s := by
  unfold delP
  rw [List.mem_filter]
  constructor
  · rintro ⟨h1, h2⟩
    exact ⟨h1, fun e => by rw [(eqS_iff _ _).2 e] at h2; cases h2⟩
  · rintro ⟨h1, h2⟩
    exact ⟨h1, by rw [eqS_no h2]; rfl⟩
theorem mem_putP {s : ByteArray} {x : α} {p : ByteArray × α} {l : List (ByteArray × α)} : p ∈ putP l s x ↔ p = (s, x) ∨ (p ∈ l ∧ p.1 ≠ s) := by
  unfold putP; rw [mem_insP, mem_delP]

theorem rising_ins {x : ByteArray × α} : ∀ {l : List (ByteArray × α)}, Rising l → (∀ p ∈ l, p.1 ≠ x.1) → Rising (insP x l)
  | [], _, _ => by simp [insP, Rising]
  | y :: r, h, hn => by
    obtain ⟨h1, h2⟩ := List.pairwise_cons.1 h
    unfold insP
    by_cases hl : ltS x.1 y.1 = true
    · rw [if_pos hl]
      refine List.pairwise_cons.2 ⟨fun p hp => ?_, h⟩
      rcases List.mem_cons.1 hp with rfl | hp
      · exact hl
      · exact ltS_trans hl (h1 p hp)
    · rw [if_neg hl]
      refine List.pairwise_cons.2 ⟨fun p hp => ?_, rising_ins h2 (fun p hp => hn p (by simp [hp]))⟩
      rcases mem_insP.1 hp with rfl | hp
      · exact ltS_of (by simpa using hl) (fun e => hn y (by simp) e.symm)
      · exact h1 p hp
theorem rising_del {l : List (ByteArray × α)} (h : Rising l) (s : ByteArray) : Rising (delP l s) := List.Pairwise.filter _ h
theorem rising_put {l : List (ByteArray × α)} (h : Rising l) (s : ByteArray) (x : α) : Rising (putP l s x) :=
  rising_ins (rising_del h s) fun _ hp => (mem_delP.1 hp).2

theorem findP_some {l : List (ByteArray × α)} {s : ByteArray} {x : α} (h : findP l s = some x) : (s, x) ∈ l := by
  unfold findP at h
  cases e : l.find? fun p => eqS p.1 s with
  | none => rw [e] at h; cases h
  | some p =>
    rw [e] at h
    injection h with h
    have h1 := List.find?_some e
    have h2 := List.mem_of_find?_eq_some e
    rw [← (eqS_iff _ _).1 h1, ← h]
    exact h2
theorem findP_none {l : List (ByteArray × α)} {s : ByteArray} (h : findP l s = none) : ∀ p ∈ l, p.1 ≠ s := by
  unfold findP at h
  rw [Option.map_eq_none_iff, List.find?_eq_none] at h
  exact fun _ hp e => h _ hp ((eqS_iff _ _).2 e)
theorem rising_apart {l : List (ByteArray × α)} (h : Rising l) : l.Pairwise fun p q => p.1 ≠ q.1 := List.Pairwise.imp (fun h => ltS_ne h) h
theorem rising_one : ∀ {l : List (ByteArray × α)}, Rising l → ∀ {s : ByteArray} {x y : α}, (s, x) ∈ l → (s, y) ∈ l → x = y
  | [], _, _, _, _, h, _ => by cases h
  | p :: r, h, s, x, y, h1, h2 => by
    obtain ⟨a, b⟩ := List.pairwise_cons.1 h
    rcases List.mem_cons.1 h1 with e1 | e1
    · rcases List.mem_cons.1 h2 with e2 | e2
      · rw [← e1] at e2; injection e2 with _ e2; exact e2.symm
      · have := a _ e2; rw [← e1] at this; exact absurd rfl (ltS_ne this)
    · rcases List.mem_cons.1 h2 with e2 | e2
      · have := a _ e1; rw [← e2] at this; exact absurd rfl (ltS_ne this)
      · exact rising_one b e1 e2
theorem findP_mem {l : List (ByteArray × α)} (hr : Rising l) {s : ByteArray} {x : α} (h : (s, x) ∈ l) : findP l s = some x := by
  cases e : findP l s with
  | none => exact absurd rfl (findP_none e _ h)
  | some y => rw [rising_one hr (findP_some e) h]
theorem delP_none {l : List (ByteArray × α)} {s : ByteArray} (h : findP l s = none) : delP l s = l := by
  unfold delP
  exact List.filter_eq_self.2 fun p hp => by rw [eqS_no (findP_none h p hp)]; rfl
theorem insP_length (x : ByteArray × α) : ∀ l, (insP x l).length = l.length + 1
  | [] => rfl
  | y :: r => by
    unfold insP
    by_cases h : ltS x.1 y.1 = true
    · simp [h]
    · simp [h, insP_length x r]
theorem delP_length_le (l : List (ByteArray × α)) (s : ByteArray) : (delP l s).length ≤ l.length := List.length_filter_le _ _
theorem delP_length_lt {l : List (ByteArray × α)} {s : ByteArray} {x : α} (h : findP l s = some x) : (delP l s).length < l.length := by
  have hm := findP_some h
  unfold delP
  rcases Nat.lt_or_ge (l.filter fun p => !eqS p.1 s).length l.length with h' | h'
  · exact h'
  · have := List.filter_eq_self.1 (List.Sublist.eq_of_length_le List.filter_sublist h') _ hm
    rw [eqS_refl] at this
    cases this
theorem putP_length_none {l : List (ByteArray × α)} {s : ByteArray} (h : findP l s = none) (x : α) : (putP l s x).length = l.length + 1 := by
  unfold putP; rw [insP_length, delP_none h]
theorem putP_length_le (l : List (ByteArray × α)) (s : ByteArray) (x : α) : (putP l s x).length ≤ l.length + 1 := by
  unfold putP; rw [insP_length]; have := delP_length_le l s; omega
theorem putP_length_some {l : List (ByteArray × α)} {s : ByteArray} {y : α} (h : findP l s = some y) (x : α) : (putP l s x).length ≤ l.length := by
  unfold putP; rw [insP_length]; exact delP_length_lt h
/-- two rising lists with the same members are one -/
theorem rising_ext : ∀ {l m : List (ByteArray × α)}, Rising l → Rising m → (∀ p, p ∈ l ↔ p ∈ m) → l = m
  | [], [], _, _, _ => rfl
  | [], b :: s, _, _, h => by have := (h b).2 (by simp); simp at this
  | a :: r, [], _, _, h => by have := (h a).1 (by simp); simp at this
  | a :: r, b :: s, h1, h2, h => by
    obtain ⟨a1, a2⟩ := List.pairwise_cons.1 h1
    obtain ⟨b1, b2⟩ := List.pairwise_cons.1 h2
    have hab : a = b := by
      rcases List.mem_cons.1 ((h a).1 (by simp)) with e | ha
      · exact e
      · rcases List.mem_cons.1 ((h b).2 (by simp)) with e | hb
        · exact e.symm
        · have := ltS_trans (b1 a ha) (a1 b hb)
          rw [ltS_irrefl] at this
          cases this
    subst hab
    rw [rising_ext a2 b2 (fun p => ⟨fun hp => by
      rcases List.mem_cons.1 ((h p).1 (by simp [hp])) with e | hp'
      · have := a1 p hp
        rw [e, ltS_irrefl] at this
        cases this
      · exact hp', fun hp => by
      rcases List.mem_cons.1 ((h p).2 (by simp [hp])) with e | hp'
      · have := b1 p hp
        rw [e, ltS_irrefl] at this
        cases this
      · exact hp'⟩)]
end

/-- what a file is: its bytes, how many of them are synced -/
structure Fl where
  by_ : List Nat
  syn : Nat
end Go.Proofs.Ytgcfofnlgdfmoaa
