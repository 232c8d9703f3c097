/- Several texts in one: ItCheckEv, DkPlain, DkMem. -/
import Derived.Maps.Ext
import Derived.Maps.RangeWalk
import Derived.Maps.OwnSet
import Derived.StringKeys
import Derived.Test.YtholdcgkhicdmaaGreatDoorZq7
namespace Go.Proofs.YtholdcgkhicdmaaGreatDoor
open Go.RowKit
theorem own_q (s : ByteArray) (w : World) :
  Calls Tryz.prog 181 #[.string s] w fun e w' => e = .returned (.bool (ownB s)) ∧ w' = w := (own_any s w).mono fun _ _ h => ⟨h.1, h.2.symm⟩
set_option maxRecDepth 100000 in
set_option maxHeartbeats 2000000 in
theorem checkEvent_any (x : It) (A : Option Addr) (n c : Nat) (w : World) (hn : n = x.l.length) (hm : n ≤ maxLen) (hr : RdP w w.heap.size A x.l) :
  Calls Tryz.prog 156 #[.agg #[.int .u8 x.o, .int .u64 x.q, .int .u64 x.t, .string x.r, .slice A n c, .int .u8 x.s, .int .u8 x.p, .int .i64 x.v, .int .u8 x.w]] w fun e w' => e = .returned (.int .i64 (evN x : Nat)) ∧ Below w.heap.size w w' := by
 have hba : Below w.heap.size w (w.alloc (.cells #[.int .u8 x.o, .int .u64 x.q, .int .u64 x.t, .string x.r, .slice A n c, .int .u8 x.s, .int .u8 x.p, .int .i64 x.v, .int .u8 x.w] 41)) := (Below.refl _ _).alloc (Nat.le_refl _) _
 have Hn := Lib.hid hn
 have Hr := Lib.hid hr
 clear hn hr
 by_cases h0 : 31 < x.o
 ·have k0 : (32 : Int) ≤ x.o := by omega
  have hg : Hid (evN x = 6) := if_pos (.inl h0)
  clear h0 Hn Hr
  go_enter Tryz.func156, Tryz.ntmps156
  go_wp2
  go_ret
  exact ⟨by rw [hg.out]; rfl, hba⟩
 have k0 : ¬ (32 : Int) ≤ x.o := by omega
 by_cases h1 : x.q = 0
 ·have k1 : ((x.q : Int) == 0) = true := by rw [beq_iff_eq]; omega
  have hg : Hid (evN x = 6) := if_pos (.inr (.inl h1))
  clear h0 h1 Hn Hr
  go_enter Tryz.func156, Tryz.ntmps156
  go_wp2
  go_ret
  exact ⟨by rw [hg.out]; rfl, hba⟩
 have k1 : ((x.q : Int) == 0) = false := by rw [beq_eq_false_iff_ne]; omega
 by_cases h2 : 1099511627776 < x.q
 ·have k2 : (1099511627776 : Int) < x.q := by omega
  have hg : Hid (evN x = 6) := if_pos (.inr (.inr (.inl h2)))
  clear h0 h1 h2 Hn Hr
  go_enter Tryz.func156, Tryz.ntmps156
  go_wp2
  go_ret
  exact ⟨by rw [hg.out]; rfl, hba⟩
 have k2 : ¬ (1099511627776 : Int) < x.q := by omega
 by_cases h3 : 1099511627776 < x.t
 ·have k3 : (1099511627776 : Int) < x.t := by omega
  have hg : Hid (evN x = 6) := if_pos (.inr (.inr (.inr (.inl h3))))
  clear h0 h1 h2 h3 Hn Hr
  go_enter Tryz.func156, Tryz.ntmps156
  go_wp2
  go_ret
  exact ⟨by rw [hg.out]; rfl, hba⟩
 have k3 : ¬ (1099511627776 : Int) < x.t := by omega
 by_cases h4 : 7 < x.p
 ·have k4 : (7 : Int) < x.p := by omega
  have hg : Hid (evN x = 6) := if_pos (.inr (.inr (.inr (.inr h4))))
  clear h0 h1 h2 h3 h4 Hn Hr
  go_enter Tryz.func156, Tryz.ntmps156
  go_wp2
  go_ret
  exact ⟨by rw [hg.out]; rfl, hba⟩
 have k4 : ¬ (7 : Int) < x.p := by omega
 have hN : Hid (evN x = if nameB x.r = false then 8 else if (x.s ≠ 0 ∧ x.s ≠ 2) ∨ 2 < x.w then 12 else if decide (x.w ≠ 0) ≠ ownB x.r then 27 else check x.l) := if_neg (by omega)
 clear h0 h1 h2 h3 h4
 have HE := Lib.hid (EvAt.new w x A n c 41)
 by_cases hname : nameB x.r = false
 ·have hg : Hid (evN x = 8) := by show _ = _; rw [hN.out, if_pos hname]
  clear Hn Hr
  go_enter Tryz.func156, Tryz.ntmps156
  go_wp2_with fail
  refine (name_any x.r _).mono ?_
  rintro e w1 ⟨rfl, hb1⟩
  have Hb1 := Lib.hid (hba.trans (hb1.mono (by simp)))
  clear hb1
  go_wp2
  go_ret
  exact ⟨by rw [hg.out]; rfl, Hb1.out⟩
 have hname2 : nameB x.r = true := by simpa using hname
 rw [if_neg hname] at hN
 clear hname
 by_cases hk : (x.s ≠ 0 ∧ x.s ≠ 2) ∨ 2 < x.w
 ·have hg : Hid (evN x = 12) := by show _ = _; rw [hN.out, if_pos hk]
  clear Hn Hr hN
  by_cases hs0 : x.s = 0
  case' pos =>
   have q0 : ((x.s : Int) != 0) = false := by rw [bne_eq_false_iff_eq]; omega
   have q2 : (2 : Int) < x.w := by omega
  case' neg =>
   have q0 : ((x.s : Int) != 0) = true := by rw [bne_iff_ne]; omega
   by_cases hs2 : x.s = 2
   case' pos =>
    have q1 : ((x.s : Int) != 2) = false := by rw [bne_eq_false_iff_eq]; omega
    have q2 : (2 : Int) < x.w := by omega
    clear hs2
   case' neg =>
    have q1 : ((x.s : Int) != 2) = true := by rw [bne_iff_ne]; omega
    clear hs2
  all_goals (
   clear hs0 hk
   go_enter Tryz.func156, Tryz.ntmps156
   go_wp2_with fail
   refine (name_any x.r _).mono ?_
   rintro e w1 ⟨rfl, hb1⟩
   have Hb1 := Lib.hid (hba.trans (hb1.mono (by simp)))
   have HE1 := HE.out.below hb1
   obtain ⟨_, _, _, _, _, _, c5, _, _, c8⟩ := HE1
   clear hb1
   go_wp2
   go_ret
   exact ⟨by rw [hg.out]; rfl, Hb1.out⟩)
 rw [if_neg hk] at hN
 have hs02 : x.s = 0 ∨ x.s = 2 := by omega
 have q2 : ¬ (2 : Int) < x.w := by omega
 clear hk
 obtain ⟨b, hb⟩ : ∃ b : Bool, ((x.w : Int) != 0) = b := ⟨_, rfl⟩
 have hbw : decide (x.w ≠ 0) = b := by rw [← hb, Bool.eq_iff_iff, decide_eq_true_eq, bne_iff_ne]; omega
 rw [hbw] at hN
 clear hbw
 by_cases ho : b ≠ ownB x.r
 ·have hg : Hid (evN x = 27) := by show _ = _; rw [hN.out, if_pos ho]
  have hob : (b == ownB x.r) = false := by revert ho; cases b <;> cases ownB x.r <;> simp
  clear Hn Hr hN ho
  rcases hs02 with hs0 | hs0
  case' inl =>
   have q0 : ((x.s : Int) != 0) = false := by rw [bne_eq_false_iff_eq]; omega
  case' inr =>
   have q0 : ((x.s : Int) != 0) = true := by rw [bne_iff_ne]; omega
   have q1 : ((x.s : Int) != 2) = false := by rw [bne_eq_false_iff_eq]; omega
  all_goals (
   clear hs0
   go_enter Tryz.func156, Tryz.ntmps156
   go_wp2_with fail
   refine (name_any x.r _).mono ?_
   rintro e w1 ⟨rfl, hb1⟩
   have Hb1 := Lib.hid (hba.trans (hb1.mono (by simp)))
   have HE1 := HE.out.below hb1
   obtain ⟨_, _, _, _, c3, _, c5, _, _, c8⟩ := HE1
   clear hb1
   go_wp2
   go_quiet ((go_at_call 181; exact Calls.quiet_of_same (own_q _ _)))
   go_wp2
   go_ret
   exact ⟨by rw [hg.out]; rfl, cbelow_drewN Hb1.out _⟩)
 ·rw [if_neg ho] at hN
  have hob : (b == ownB x.r) = true := by revert ho; cases b <;> cases ownB x.r <;> simp
  clear ho
  rcases hs02 with hs0 | hs0
  case' inl =>
   have q0 : ((x.s : Int) != 0) = false := by rw [bne_eq_false_iff_eq]; omega
  case' inr =>
   have q0 : ((x.s : Int) != 0) = true := by rw [bne_iff_ne]; omega
   have q1 : ((x.s : Int) != 2) = false := by rw [bne_eq_false_iff_eq]; omega
  all_goals (
   clear hs0
   go_enter Tryz.func156, Tryz.ntmps156
   go_wp2_with fail
   refine (name_any x.r _).mono ?_
   rintro e w1 ⟨rfl, hb1⟩
   have Hb1 := Lib.hid (hba.trans (hb1.mono (by simp)))
   have HE1 := HE.out.below hb1
   obtain ⟨_, _, _, _, c3, c4, c5, _, _, c8⟩ := HE1
   clear hb1
   go_wp2
   go_quiet ((go_at_call 181; exact Calls.quiet_of_same (own_q _ _)))
   go_wp2_with fail
   refine (check_any A n c x.l _ Hn.out hm ((Hr.out.below (cbelow_drewN Hb1.out _)).more (cbelow_drewN Hb1.out _).size)).mono ?_
   rintro e w2 ⟨rfl, hb2⟩
   have Hb2 := Lib.hid ((cbelow_drewN Hb1.out _).trans (hb2.mono (cbelow_drewN Hb1.out _).size))
   clear hb2
   go_wp2
   go_ret
   exact ⟨by rw [hN.out]; rfl, Hb2.out⟩)
set_option maxRecDepth 100000 in
set_option maxHeartbeats 1000000 in
theorem itemCheck_any (x : It) (A : Option Addr) (n c : Nat) (w : World) (hn : n = x.l.length) (hm : n ≤ maxLen) (hr : RdP w w.heap.size A x.l) :
  Calls Tryz.prog 108 #[.agg #[.bool x.g, .int .u8 x.o, .int .u64 x.q, .int .u64 x.t, .string x.r, .slice A n c, .int .u8 x.s, .int .u8 x.p, .int .i64 x.v, .int .u8 x.w, .int .u8 x.ga, .int .u64 x.gf, .int .u64 x.gt]] w fun e w' => e = .returned (.int .i64 (itemN x : Nat)) ∧ Below w.heap.size w w' := by
 have Hn := Lib.hid hn
 have Hr := Lib.hid hr
 clear hn hr
 obtain ⟨b, hb⟩ : ∃ b, x.g = b := ⟨_, rfl⟩
 have hN : Hid (itemN x = if b then gapN x else evN x) := by show _ = _; unfold itemN; rw [hb]
 rw [hb]
 clear hb
 cases b with
 | true =>
   go_enter Tryz.func108, Tryz.ntmps108
   go_wp2_with fail
   refine (checkGap_any x _).mono ?_
   rintro e w1 ⟨rfl, hb1⟩
   have Hb1 := Lib.hid (((Below.refl w.heap.size w).alloc (Nat.le_refl _) _).trans (hb1.mono (by simp)))
   clear hb1
   go_wp2
   go_ret
   exact ⟨by rw [hN.out]; rfl, Hb1.out⟩
 | false =>
   go_enter Tryz.func108, Tryz.ntmps108
   go_wp2_with fail
   refine (checkEvent_any x A n c _ Hn.out hm ((Hr.out.below ((Below.refl w.heap.size w).alloc (Nat.le_refl _) _)).more (by simp))).mono ?_
   rintro e w1 ⟨rfl, hb1⟩
   have Hb1 := Lib.hid (((Below.refl w.heap.size w).alloc (Nat.le_refl _) _).trans (hb1.mono (by simp)))
   clear hb1
   go_wp2
   go_ret
   exact ⟨by rw [hN.out]; rfl, Hb1.out⟩
end Go.Proofs.YtholdcgkhicdmaaGreatDoor
namespace Go.Proofs.YtholdcgkhicdmaaGreatDoor
open Go.RowKit Go.Maps
section
variable {α β : Type}
def insP (x : ByteArray × α) : List (ByteArray × α) → List (ByteArray × α)
 | [] => [x]
 | y :: r => if ltS x.1 y.1 then x :: y :: r else y :: insP x r
def delP (l : List (ByteArray × α)) (s : ByteArray) : List (ByteArray × α) := l.filter fun p => !eqS p.1 s
def putP (l : List (ByteArray × α)) (s : ByteArray) (x : α) : List (ByteArray × α) := insP (s, x) (delP l s)
def findP (l : List (ByteArray × α)) (s : ByteArray) : Option α := (l.find? fun p => eqS p.1 s).map (·.2)
def mapS (g : α → β) (l : List (ByteArray × α)) : List (ByteArray × β) := l.map fun p => (p.1, g p.2)
def Rising (l : List (ByteArray × α)) : Prop := l.Pairwise fun p q => ltS p.1 q.1 = true
theorem mapS_ins (g : α → β) (x : ByteArray × α) : ∀ l, mapS g (insP x l) = insP (x.1, g x.2) (mapS g l)
 | [] => rfl
 | y :: r => by
   unfold insP mapS
   by_cases h : ltS x.1 y.1 = true
   ·simp [h]
   ·have ih := mapS_ins g x r
    unfold mapS at ih
    simp [h, ih]
theorem mapS_del (g : α → β) (s : ByteArray) (l : List (ByteArray × α)) : mapS g (delP l s) = delP (mapS g l) s := by
 unfold mapS delP
 rw [List.filter_map]
 rfl
theorem mapS_put (g : α → β) (s : ByteArray) (x : α) (l : List (ByteArray × α)) : mapS g (putP l s x) = putP (mapS g l) s (g x) := by
 unfold putP; rw [mapS_ins, mapS_del]
theorem mapS_find (g : α → β) (s : ByteArray) (l : List (ByteArray × α)) : findP (mapS g l) s = (findP l s).map g := by
 unfold findP mapS
 rw [List.find?_map, Option.map_map, Option.map_map]
 rfl
theorem mapS_length (g : α → β) (l : List (ByteArray × α)) : (mapS g l).length = l.length := by simp [mapS]
theorem eqS_no {a b : ByteArray} (h : a ≠ b) : eqS a b = false := by
 cases e : eqS a b
 ·rfl
 ·exact absurd ((eqS_iff _ _).1 e) h
theorem ltS_ne {a b : ByteArray} (h : ltS a b = true) : a ≠ b := fun e => by subst e; rw [ltS_irrefl] at h; cases h
theorem ltS_of {a b : ByteArray} (h : ltS a b = false) (hne : a ≠ b) : ltS b a = true := by
 cases e : ltS b a
 ·exact absurd (ltS_total h e) hne
 ·rfl
theorem mem_insP {x p : ByteArray × α} : ∀ {l : List (ByteArray × α)}, p ∈ insP x l ↔ p = x ∨ p ∈ l
 | [] => by simp [insP]
 | y :: r => by
   unfold insP
   by_cases h : ltS x.1 y.1 = true
   ·simp [h]
   ·simp only [h, Bool.false_eq_true, if_false, List.mem_cons, mem_insP (l := r)]
    constructor
    ·rintro (h | h | h)
     ·exact .inr (.inl h)
     ·exact .inl h
     ·exact .inr (.inr h)
    ·rintro (h | h | h)
     ·exact .inr (.inl h)
     ·exact .inl h
     ·exact .inr (.inr h)
theorem mem_delP {s : ByteArray} {p : ByteArray × α} {l : List (ByteArray × α)} : p ∈ delP l s ↔ p ∈ l ∧ p.1 ≠ s := by
 unfold delP
 rw [List.mem_filter]
 constructor
 ·rintro ⟨h1, h2⟩
  exact ⟨h1, fun e => by rw [(eqS_iff _ _).2 e] at h2; cases h2⟩
 ·rintro ⟨h1, h2⟩
  exact ⟨h1, by rw [eqS_no h2]; rfl⟩
theorem mem_putP {s : ByteArray} {x : α} {p : ByteArray × α} {l : List (ByteArray × α)} : p ∈ putP l s x ↔ p = (s, x) ∨ (p ∈ l ∧ p.1 ≠ s) := by
 unfold putP; rw [mem_insP, mem_delP]
theorem rising_ins {x : ByteArray × α} : ∀ {l : List (ByteArray × α)}, Rising l → (∀ p ∈ l, p.1 ≠ x.1) → Rising (insP x l)
 | [], _, _ => by simp [insP, Rising]
 | y :: r, h, hn => by
   obtain ⟨h1, h2⟩ := List.pairwise_cons.1 h
   unfold insP
   by_cases hl : ltS x.1 y.1 = true
   ·rw [if_pos hl]
    refine List.pairwise_cons.2 ⟨fun p hp => ?_, h⟩
    rcases List.mem_cons.1 hp with rfl | hp
    ·exact hl
    ·exact ltS_trans hl (h1 p hp)
   ·rw [if_neg hl]
    refine List.pairwise_cons.2 ⟨fun p hp => ?_, rising_ins h2 (fun p hp => hn p (by simp [hp]))⟩
    rcases mem_insP.1 hp with rfl | hp
    ·exact ltS_of (by simpa using hl) (fun e => hn y (by simp) e.symm)
    ·exact h1 p hp
theorem rising_del {l : List (ByteArray × α)} (h : Rising l) (s : ByteArray) : Rising (delP l s) := List.Pairwise.filter _ h
theorem rising_put {l : List (ByteArray × α)} (h : Rising l) (s : ByteArray) (x : α) : Rising (putP l s x) :=
 rising_ins (rising_del h s) fun _ hp => (mem_delP.1 hp).2
theorem findP_some {l : List (ByteArray × α)} {s : ByteArray} {x : α} (h : findP l s = some x) : (s, x) ∈ l := by
 unfold findP at h
 cases e : l.find? fun p => eqS p.1 s with
 | none => rw [e] at h; cases h
 | some p =>
   rw [e] at h
   injection h with h
   have h1 := List.find?_some e
   have h2 := List.mem_of_find?_eq_some e
   rw [← (eqS_iff _ _).1 h1, ← h]
   exact h2
theorem findP_none {l : List (ByteArray × α)} {s : ByteArray} (h : findP l s = none) : ∀ p ∈ l, p.1 ≠ s := by
 unfold findP at h
 rw [Option.map_eq_none_iff, List.find?_eq_none] at h
 exact fun _ hp e => h _ hp ((eqS_iff _ _).2 e)
theorem rising_one : ∀ {l : List (ByteArray × α)}, Rising l → ∀ {s : ByteArray} {x y : α}, (s, x) ∈ l → (s, y) ∈ l → x = y
 | [], _, _, _, _, h, _ => by cases h
 | p :: r, h, s, x, y, h1, h2 => by
   obtain ⟨a, b⟩ := List.pairwise_cons.1 h
   rcases List.mem_cons.1 h1 with e1 | e1
   ·rcases List.mem_cons.1 h2 with e2 | e2
    ·rw [← e1] at e2; injection e2 with _ e2; exact e2.symm
    ·have := a _ e2; rw [← e1] at this; exact absurd rfl (ltS_ne this)
   ·rcases List.mem_cons.1 h2 with e2 | e2
    ·have := a _ e1; rw [← e2] at this; exact absurd rfl (ltS_ne this)
    ·exact rising_one b e1 e2
theorem findP_mem {l : List (ByteArray × α)} (hr : Rising l) {s : ByteArray} {x : α} (h : (s, x) ∈ l) : findP l s = some x := by
 cases e : findP l s with
 | none => exact absurd rfl (findP_none e _ h)
 | some y => rw [rising_one hr (findP_some e) h]
theorem delP_none {l : List (ByteArray × α)} {s : ByteArray} (h : findP l s = none) : delP l s = l := by
 unfold delP
 exact List.filter_eq_self.2 fun p hp => by rw [eqS_no (findP_none h p hp)]; rfl
theorem insP_length (x : ByteArray × α) : ∀ l, (insP x l).length = l.length + 1
 | [] => rfl
 | y :: r => by
   unfold insP
   by_cases h : ltS x.1 y.1 = true
   ·simp [h]
   ·simp [h, insP_length x r]
theorem delP_length_le (l : List (ByteArray × α)) (s : ByteArray) : (delP l s).length ≤ l.length := List.length_filter_le _ _
theorem delP_length_lt {l : List (ByteArray × α)} {s : ByteArray} {x : α} (h : findP l s = some x) : (delP l s).length < l.length := by
 have hm := findP_some h
 unfold delP
 rcases Nat.lt_or_ge (l.filter fun p => !eqS p.1 s).length l.length with h' | h'
 ·exact h'
 ·have := List.filter_eq_self.1 (List.Sublist.eq_of_length_le List.filter_sublist h') _ hm
  rw [eqS_refl] at this
  cases this
theorem putP_length_none {l : List (ByteArray × α)} {s : ByteArray} (h : findP l s = none) (x : α) : (putP l s x).length = l.length + 1 := by
 unfold putP; rw [insP_length, delP_none h]
theorem putP_length_le (l : List (ByteArray × α)) (s : ByteArray) (x : α) : (putP l s x).length ≤ l.length + 1 := by
 unfold putP; rw [insP_length]; have := delP_length_le l s; omega
theorem putP_length_some {l : List (ByteArray × α)} {s : ByteArray} {y : α} (h : findP l s = some y) (x : α) : (putP l s x).length ≤ l.length := by
 unfold putP; rw [insP_length]; exact delP_length_lt h
theorem rising_ext : ∀ {l m : List (ByteArray × α)}, Rising l → Rising m → (∀ p, p ∈ l ↔ p ∈ m) → l = m
 | [], [], _, _, _ => rfl
 | [], b :: s, _, _, h => by have := (h b).2 (by simp); simp at this
 | a :: r, [], _, _, h => by have := (h a).1 (by simp); simp at this
 | a :: r, b :: s, h1, h2, h => by
   obtain ⟨a1, a2⟩ := List.pairwise_cons.1 h1
   obtain ⟨b1, b2⟩ := List.pairwise_cons.1 h2
   have hab : a = b := by
    rcases List.mem_cons.1 ((h a).1 (by simp)) with e | ha
    ·exact e
    ·rcases List.mem_cons.1 ((h b).2 (by simp)) with e | hb
     ·exact e.symm
     ·have := ltS_trans (b1 a ha) (a1 b hb)
      rw [ltS_irrefl] at this
      cases this
   subst hab
   rw [rising_ext a2 b2 (fun p => ⟨fun hp => by
    rcases List.mem_cons.1 ((h p).1 (by simp [hp])) with e | hp'
    ·have := a1 p hp
     rw [e, ltS_irrefl] at this
     cases this
    ·exact hp', fun hp => by
    rcases List.mem_cons.1 ((h p).2 (by simp [hp])) with e | hp'
    ·have := b1 p hp
     rw [e, ltS_irrefl] at this
     cases this
    ·exact hp'⟩)]
end
structure Fl where
 by_ : List Nat
 syn : Nat
theorem before_str (a b : ByteArray) : (Lit.string a.data.toList).before (.string b.data.toList) = ltS a b := by
 show bytesBefore a.data.toList b.data.toList = _
 rw [ltS_eq]
 generalize a.data.toList = x
 generalize b.data.toList = y
 induction x generalizing y with
 | nil => cases y <;> simp [bytesBefore]
 | cons c r ih =>
   cases y with
   | nil => simp [bytesBefore]
   | cons d t =>
     rw [bytesBefore, ih, Bool.eq_iff_iff]
     simp only [Bool.or_eq_true, Bool.and_eq_true, decide_eq_true_eq, beq_iff_eq, List.cons_lt_cons_iff]
theorem same_str (a b : ByteArray) : (Lit.string a.data.toList).sameKey (.string b.data.toList) = eqS a b := by
 show (a.data.toList == b.data.toList) = _
 unfold eqS
 rw [ByteArray.toList_eq, ByteArray.toList_eq]
def fileV (v : Value) (k : Int) : Value := .agg #[v, .int .i64 k]
open Classical in
noncomputable def rawR (v : Value) : Option (DataW Value × List MemPlace) :=
 if ∃ (a : Option Addr) (n c : Nat) (k : Int), v = fileV (.slice a n c) k then some (.held v, []) else none
theorem rawR_mk (a : Option Addr) (n c : Nat) (k : Int) : rawR (fileV (.slice a n c) k) = some (.held (fileV (.slice a n c) k), []) := by
 unfold rawR; exact if_pos ⟨a, n, c, k, rfl⟩
theorem rawR_inv {v : Value} {y : DataW Value × List MemPlace} (h : rawR v = some y) : (∃ (a : Option Addr) (n c : Nat) (k : Int), v = fileV (.slice a n c) k) ∧ y = (.held v, []) := by
 unfold rawR at h
 by_cases e : ∃ (a : Option Addr) (n c : Nat) (k : Int), v = fileV (.slice a n c) k
 ·rw [if_pos e] at h; injection h with h; exact ⟨e, h.symm⟩
 ·rw [if_neg e] at h; cases h
structure Ent where
 v : Value
 by_ : List Nat
 syn : Nat
def Ent.fl (x : Ent) : Fl := ⟨x.by_, x.syn⟩
def Ent.val (x : Ent) : Value := fileV x.v x.syn
abbrev Ents := List (ByteArray × Ent)
def datE (E : Ents) : List (Lit × DataW Value) := E.map fun p => (.string p.1.data.toList, .held p.2.val)
def datum (E : Ents) : DataW Value := .map (datE E)
theorem datE_ins (x : ByteArray × Ent) : ∀ E : Ents, datE (insP x E) = DataW.insert (.string x.1.data.toList, .held x.2.val) (datE E)
 | [] => rfl
 | y :: r => by
   have ih := datE_ins x r
   unfold datE at ih
   unfold insP datE DataW.insert
   by_cases h : ltS x.1 y.1 = true
   ·simp [h, before_str]
   ·simp [h, before_str, ih]
theorem datE_del (E : Ents) (s : ByteArray) : datE (delP E s) = (datE E).filter fun p => !p.1.sameKey (.string s.data.toList) := by
 unfold datE delP
 rw [List.filter_map]
 congr 1
 apply List.filter_congr
 intro p _
 simp [same_str]
theorem datum_put (E : Ents) (s : ByteArray) (x : Ent) : (datum E).put (.string s.data.toList) (.held x.val) = datum (putP E s x) := by
 show DataW.map (DataW.insert _ _) = DataW.map _
 unfold putP
 rw [datE_ins, datE_del]
theorem datum_del (E : Ents) (s : ByteArray) : (datum E).del (.string s.data.toList) = datum (delP E s) := by
 show DataW.map _ = DataW.map _
 rw [datE_del]
theorem datum_find (E : Ents) (s : ByteArray) : (datE E).find? (fun p => p.1.sameKey (.string s.data.toList)) = (E.find? fun p => eqS p.1 s).map fun p => (.string p.1.data.toList, .held p.2.val) := by
 unfold datE
 rw [List.find?_map]
 congr 2
 funext p
 simp [same_str]
theorem datum_some {E : Ents} {s : ByteArray} {x : Ent} (h : findP E s = some x) (z : DataW Value) : (datum E).atKey (.string s.data.toList) z = .held x.val := by
 unfold findP at h
 simp only [datum, DataW.atKey, datum_find]
 cases e : E.find? fun p => eqS p.1 s with
 | none => rw [e] at h; cases h
 | some p => rw [e] at h; injection h with h; subst h; rfl
theorem datum_none {E : Ents} {s : ByteArray} (h : findP E s = none) (z : DataW Value) : (datum E).atKey (.string s.data.toList) z = z := by
 unfold findP at h
 rw [Option.map_eq_none_iff] at h
 simp only [datum, DataW.atKey, datum_find, h]
 rfl
theorem datum_has (E : Ents) (s : ByteArray) : Maps.has (datum E) (.string s.data.toList) = (findP E s).isSome := by
 cases e : findP E s with
 | none => exact has_false_of_atKey (datum_none e)
 | some x => exact has_true_of_atKey (datum_some e)
theorem datum_size (E : Ents) : Maps.size (datum E) = E.length := by simp [Maps.size, datum, datE]
structure Only (T : Nat → Prop) (w w' : World) : Prop where
 os : w'.os = w.os
 tape : w'.tape = w.tape
 output : w'.output = w.output
 size : w.heap.size ≤ w'.heap.size
 block : ∀ k, k < w.heap.size → ¬ T k → w'.heap[k]? = w.heap[k]?
section
variable {T T' : Nat → Prop} {w w1 w2 : World}
theorem Only.refl (T : Nat → Prop) (w : World) : Only T w w := ⟨rfl, rfl, rfl, Nat.le_refl _, fun _ _ _ => rfl⟩
theorem Only.trans (h : Only T w w1) (k : Only T' w1 w2) (hT : ∀ i, T' i → T i ∨ w.heap.size ≤ i) : Only T w w2 :=
 ⟨k.os.trans h.os, k.tape.trans h.tape, k.output.trans h.output, Nat.le_trans h.size k.size, fun i hi hn => (k.block i (Nat.lt_of_lt_of_le hi h.size) (fun ht => by
  rcases hT i ht with h' | h'
  ·exact hn h'
  ·omega)).trans (h.block i hi hn)⟩
theorem Only.mono (h : Only T w w1) (hT : ∀ i, T i → T' i) : Only T' w w1 := ⟨h.os, h.tape, h.output, h.size, fun i hi hn => h.block i hi (fun ht => hn (hT i ht))⟩
theorem Only.of_below (h : Below w.heap.size w w1) (T : Nat → Prop) : Only T w w1 := ⟨h.os, h.tape, h.output, h.size, fun i hi _ => h.block i hi⟩
theorem Only.of_grown {row : Option Nat} (h : w.grownBy w1 row) (hT : ∀ k, row = some k → T k) : Only T w w1 := ⟨h.os, h.tape, h.output, h.size, fun i hi hn => h.block i hi (fun e => hn (hT i e.symm))⟩
theorem Only.setCell (w : World) (a : Addr) (u : Value) (hT : T a.block) : Only T w (w.setCell a u) :=
 ⟨rfl, rfl, rfl, by simp [World.setCell], fun i _ hn => Below.heap_setCell _ _ _ _ (fun e => hn (by rw [e]; exact hT))⟩
theorem Only.below (h : Only T w w1) {B : Nat} (hB : B ≤ w.heap.size) (hT : ∀ k, T k → B ≤ k) : Below B w w1 :=
 ⟨h.os, h.tape, h.output, h.size, fun i hi => h.block i (by omega) (fun ht => by have := hT i ht; omega)⟩
theorem Only.cell (h : Only T w w1) {p : Addr} (hp : p.block < w.heap.size) (hn : ¬ T p.block) : w1.cell? p = w.cell? p := World.cell?_of_block (h.block _ hp hn)
theorem Only.frozen (h : Only T w w1) {p : Addr} (hp : p.block < w.heap.size) (hn : ¬ T p.block) : w1.frozen? p = w.frozen? p := World.frozen?_of_block (h.block _ hp hn)
theorem Only.own (h : Only T w w1) {base : Nat} {e : TypeId} {size n : Nat} {v : Value} {xs : List Value} (ho : w.ownsRow base e size v n xs) (hn : ∀ k, v.ownBlock = some k → ¬ T k) : w1.ownsRow base e size v n xs := by
 refine ⟨ho.1, ?_⟩
 rcases ho.2 with h0 | ⟨k, cap, cur, rfl, hb, hgg, rest⟩
 ·exact .inl h0
 ·refine .inr ⟨k, cap, cur, rfl, hb, ?_, rest⟩
  rw [h.block k (Array.getElem?_eq_some_iff.1 hgg).1 (hn k rfl)]
  exact hgg
theorem Only.rdB (h : Only T w w1) {B : Nat} {A : Option Addr} {l : List Nat} (hr : RdB w B A l) (hB : B ≤ w.heap.size) (hn : ∀ a, A = some a → 0 < l.length → ¬ T a.block) : RdB w1 B A l := fun h0 => by
 obtain ⟨b, o, e, hb, hc⟩ := hr h0
 exact ⟨b, o, e, hb, fun i x hx => (h.cell (p := ⟨b, o + i, none⟩) (Nat.lt_of_lt_of_le hb hB) (hn ⟨b, o, none⟩ e h0 : ¬ T b)).trans (hc i x hx)⟩
theorem Only.ownsMap (h : Only T w w1) {H : Type} {P : Program} {k : TypeId} {R : Value → Option (DataW H × List MemPlace)} {b n : Nat} {D : DataW H} (ho : w.ownsMap P k R b n D) (hn : ¬ T b) : w1.ownsMap P k R b n D := by
 have hlt := ho.lt
 obtain ⟨es, clock, hb, r⟩ := ho
 exact ⟨es, clock, by rw [h.block b hlt hn]; exact hb, r⟩
end
def MapIs (w : World) (S : Nat → Prop) (g : Nat) (mo : Option Nat) (E : Ents) : Prop :=
 (mo = none ∧ E = []) ∨ ∃ b, mo = some b ∧ S b ∧ b ≠ g ∧ w.ownsMap Tryz.prog 9 rawR b E.length (datum E)
structure FileIs (w : World) (S : Nat → Prop) (g : Nat) (mo : Option Nat) (x : Ent) : Prop where
 own : w.ownsRow 0 5 1 x.v x.by_.length (cellsB x.by_)
 syn : x.syn ≤ x.by_.length
 ok : OkB x.by_
 max : x.by_.length ≤ 1048576
 S : ∀ k, x.v.ownBlock = some k → S k ∧ k ≠ g ∧ some k ≠ mo
def Far (x y : Ent) : Prop := x.v.ownBlock = none ∨ x.v.ownBlock ≠ y.v.ownBlock
theorem Far.symm {x y : Ent} (h : Far x y) : Far y x := by
 rcases h with h | h
 ·by_cases e : y.v.ownBlock = none
  ·exact .inl e
  ·exact .inr (by rw [h]; exact e)
 ·exact .inr (Ne.symm h)
structure Files (w : World) (S : Nat → Prop) (g : Nat) (mo : Option Nat) (E : Ents) : Prop where
 each : ∀ p ∈ E, FileIs w S g mo p.2
 apart : ∀ p ∈ E, ∀ q ∈ E, p.1 ≠ q.1 → Far p.2 q.2
structure DkM (w : World) (S : Nat → Prop) (g : Nat) (mo : Option Nat) (E : Ents) (wr sy : Nat) : Prop where
 gS : S g
 lt : ∀ k, S k → k < w.heap.size
 c0 : w.cell? ⟨g, 0, none⟩ = some (.map mo)
 c1 : w.cell? ⟨g, 1, none⟩ = some (.int .i64 wr)
 c2 : w.cell? ⟨g, 2, none⟩ = some (.int .i64 sy)
 fz : ∀ o, w.frozen? ⟨g, o, none⟩ = false
 mp : MapIs w S g mo E
 rise : Rising E
 few : E.length ≤ 64
section
variable {S S' T : Nat → Prop} {w w' : World} {g : Nat} {mo : Option Nat} {E : Ents} {wr sy : Nat} {x : Ent}
theorem FileIs.keep (h : FileIs w S g mo x) (ho : Only T w w') (hT : ∀ k, S k → ¬ T k) : FileIs w' S g mo x :=
 ⟨ho.own h.own (fun k hk => hT k (h.S k hk).1), h.syn, h.ok, h.max, h.S⟩
theorem FileIs.more (h : FileIs w S g mo x) (hS : ∀ k, S k → S' k) : FileIs w S' g mo x :=
 ⟨h.own, h.syn, h.ok, h.max, fun k hk => ⟨hS _ (h.S k hk).1, (h.S k hk).2⟩⟩
theorem Files.keep (h : Files w S g mo E) (ho : Only T w w') (hT : ∀ k, S k → ¬ T k) : Files w' S g mo E :=
 ⟨fun p hp => (h.each p hp).keep ho hT, h.apart⟩
theorem Files.more (h : Files w S g mo E) (hS : ∀ k, S k → S' k) : Files w S' g mo E :=
 ⟨fun p hp => (h.each p hp).more hS, h.apart⟩
theorem Files.sub (h : Files w S g mo E) {E' : Ents} (hE : ∀ p ∈ E', p ∈ E) : Files w S g mo E' :=
 ⟨fun p hp => h.each p (hE p hp), fun p hp q hq => h.apart p (hE p hp) q (hE q hq)⟩
theorem Files.put {E : Ents} {s : ByteArray} (h : Files w S g mo (delP E s)) (hx : FileIs w S g mo x) (hf : ∀ p ∈ delP E s, Far x p.2) : Files w S g mo (putP E s x) := by
 refine ⟨fun p hp => ?_, fun p hp q hq hne => ?_⟩
 ·rcases mem_putP.1 hp with rfl | hp
  ·exact hx
  ·exact h.each p (mem_delP.2 hp)
 ·rcases mem_putP.1 hp with rfl | hp
  ·rcases mem_putP.1 hq with rfl | hq
   ·exact absurd rfl hne
   ·exact hf q (mem_delP.2 hq)
  ·rcases mem_putP.1 hq with rfl | hq
   ·exact (hf p (mem_delP.2 hp)).symm
   ·exact h.apart p (mem_delP.2 hp) q (mem_delP.2 hq) hne
theorem MapIs.keep (h : MapIs w S g mo E) (ho : Only T w w') (hT : ∀ k, S k → ¬ T k) : MapIs w' S g mo E := by
 rcases h with h | ⟨b, h1, h2, h3, h4⟩
 ·exact .inl h
 ·exact .inr ⟨b, h1, h2, h3, ho.ownsMap h4 (hT b h2)⟩
theorem DkM.keep (h : DkM w S g mo E wr sy) (ho : Only T w w') (hT : ∀ k, S k → ¬ T k) : DkM w' S g mo E wr sy :=
 ⟨h.gS, fun k hk => Nat.lt_of_lt_of_le (h.lt k hk) ho.size, (ho.cell (p := ⟨g, 0, none⟩) (h.lt g h.gS) (hT g h.gS)).trans h.c0, (ho.cell (p := ⟨g, 1, none⟩) (h.lt g h.gS) (hT g h.gS)).trans h.c1,
  (ho.cell (p := ⟨g, 2, none⟩) (h.lt g h.gS) (hT g h.gS)).trans h.c2, fun o => (ho.frozen (p := ⟨g, o, none⟩) (h.lt g h.gS) (hT g h.gS)).trans (h.fz o), h.mp.keep ho hT, h.rise, h.few⟩
theorem DkM.below (h : DkM w S g mo E wr sy) (hb : Below w.heap.size w w') : DkM w' S g mo E wr sy := h.keep (Only.of_below hb fun _ => False) (fun _ _ h => h)
theorem Files.below (h : Files w S g mo E) (hb : Below w.heap.size w w') : Files w' S g mo E := h.keep (Only.of_below hb fun _ => False) (fun _ _ h => h)
theorem FileIs.below (h : FileIs w S g mo x) (hb : Below w.heap.size w w') : FileIs w' S g mo x := h.keep (Only.of_below hb fun _ => False) (fun _ _ h => h)
theorem DkM.more (h : DkM w S g mo E wr sy) (hS : ∀ k, S k → S' k) (hlt : ∀ k, S' k → k < w.heap.size) : DkM w S' g mo E wr sy :=
 ⟨hS _ h.gS, hlt, h.c0, h.c1, h.c2, h.fz, by
  rcases h.mp with h' | ⟨b, h1, h2, h3, h4⟩
  ·exact .inl h'
  ·exact .inr ⟨b, h1, hS b h2, h3, h4⟩, h.rise, h.few⟩
end
structure Step (w : World) (S : Nat → Prop) (w' : World) (S' : Nat → Prop) : Prop where
 only : Only S w w'
 new : ∀ k, S' k → S k ∨ w.heap.size ≤ k
theorem Step.trans {w w1 w2 : World} {S S1 S2 : Nat → Prop} (h : Step w S w1 S1) (k : Step w1 S1 w2 S2) : Step w S w2 S2 :=
 ⟨h.only.trans k.only h.new, fun i hi => by
  rcases k.new i hi with h' | h'
  ·exact h.new i h'
  ·exact .inr (Nat.le_trans h.only.size h')⟩
theorem Step.refl (w : World) (S : Nat → Prop) : Step w S w S := ⟨Only.refl S w, fun _ h => .inl h⟩
theorem Step.of_below {w w' : World} (S : Nat → Prop) (h : Below w.heap.size w w') : Step w S w' S := ⟨Only.of_below h S, fun _ h => .inl h⟩
def HasDk (w : World) (S : Nat → Prop) (g : Nat) (E : Ents) (wr sy : Nat) : Prop := ∃ mo, DkM w S g mo E wr sy ∧ Files w S g mo E
theorem keyS : Keyed Tryz.prog 9 := string_keyed Tryz.underlying9
theorem zeroF (w : World) : (zeroValue 126).run Tryz.prog w = .ok (fileV (.slice none 0 0) 0) w := by kernel_rfl
theorem held_inj {a b : Value} (h : (DataW.held a : DataW Value) = .held b) : a = b := by cases h; rfl
def lookE (E : Ents) (s : ByteArray) : Value := match findP E s with | some x => x.val | none => fileV (.slice none 0 0) 0
section
variable {S : Nat → Prop} {w : World} {g : Nat} {mo : Option Nat} {E : Ents} {s : ByteArray}
theorem MapIs.ok_ (h : MapIs w S g mo E) (hs : s.size ≤ maxLen) : (Instr.lookup 86 (.map mo) (.string s) true).run Tryz.prog w = .ok (.tuple #[lookE E s, .bool (findP E s).isSome]) w := by
 have hk := WideMaps.keyOf_string_mk (s := s) Tryz.underlying9 hs
 rcases h with ⟨rfl, rfl⟩ | ⟨b, rfl, _, _, hown⟩
 ·rw [Maps.look_nil true keyS Tryz.underlying86 (zeroF w) hk]
  rfl
 ·obtain ⟨v, ps, hrun, hv⟩ := hown.look_ok keyS Tryz.underlying86 (zeroF w) (rawR_mk none 0 0 0) hk
  rw [hrun, datum_has]
  obtain ⟨_, hv2⟩ := rawR_inv hv
  replace hv2 := congrArg Prod.fst hv2
  dsimp only at hv2
  unfold lookE
  cases e : findP E s with
  | none => rw [datum_none e] at hv2; rw [← held_inj hv2]
  | some x => rw [datum_some e] at hv2; rw [← held_inj hv2]
theorem MapIs.at_ (h : MapIs w S g mo E) (hs : s.size ≤ maxLen) : (Instr.lookup 86 (.map mo) (.string s) false).run Tryz.prog w = .ok (lookE E s) w := by
 have hk := WideMaps.keyOf_string_mk (s := s) Tryz.underlying9 hs
 rcases h with ⟨rfl, rfl⟩ | ⟨b, rfl, _, _, hown⟩
 ·rw [Maps.look_nil false keyS Tryz.underlying86 (zeroF w) hk]
  rfl
 ·obtain ⟨v, ps, hrun, hv⟩ := hown.lookup keyS Tryz.underlying86 (zeroF w) (rawR_mk none 0 0 0) hk
  rw [hrun]
  obtain ⟨_, hv2⟩ := rawR_inv hv
  replace hv2 := congrArg Prod.fst hv2
  dsimp only at hv2
  unfold lookE
  cases e : findP E s with
  | none => rw [datum_none e] at hv2; rw [← held_inj hv2]
  | some x => rw [datum_some e] at hv2; rw [← held_inj hv2]
theorem MapIs.len (h : MapIs w S g mo E) (ty : TypeId) : (Builtin.len_ #[86] ty #[.map mo]).run Tryz.prog w = .ok (.int .i64 E.length) w := by
 rcases h with ⟨rfl, rfl⟩ | ⟨b, rfl, _, _, hown⟩
 ·exact Maps.len_nil Tryz.underlying86 ty
 ·rw [hown.len Tryz.underlying86 ty, datum_size]
end
end Go.Proofs.YtholdcgkhicdmaaGreatDoor