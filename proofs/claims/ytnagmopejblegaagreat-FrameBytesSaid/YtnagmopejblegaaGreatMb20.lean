/- Several texts in one: FrCheckB, FrAlive, FrCheckC, FrCheck. -/
import Derived.Test.YtnagmopejblegaaGreatMb19
/- Layer 5: frame.Check of a frame of kind 2. -/
namespace Go.Proofs.YtnagmopejblegaaGreat
open Go.RowKit

set_option maxRecDepth 100000 in
set_option maxHeartbeats 4000000 in
theorem frameCheck2 (x : Fr) (h2 : x.k = 2) (A : Option Addr) (n c : Nat) (w : World) (hn : n = x.i.l.length) (hm : n ≤ maxLen) (hr : RdP w w.heap.size A x.i.l) :
    Calls Tryz.prog 25 #[.agg #[.int .u8 x.k, .int .u8 x.f, .int .u8 x.t, .int .u64 x.e, .int .u64 x.q, .bool x.i.g, .int .u8 x.i.o, .int .u64 x.i.q, .int .u64 x.i.t, .string x.i.r, .slice A n c, .int .u8 x.i.s, .int .u8 x.i.p, .int .i64 x.i.v, .int .u8 x.i.w, .int .u8 x.i.ga, .int .u64 x.i.gf, .int .u64 x.i.gt, .int .u64 x.c, .int .u64 x.b, .int .u64 x.l]] w fun e w' => e = .returned (.int .i64 (frameN x : Nat)) ∧ Below w.heap.size w w' := by
  have Hba := Lib.hid ((Below.refl w.heap.size w).alloc (Nat.le_refl _) (.cells #[.int .u8 x.k, .int .u8 x.f, .int .u8 x.t, .int .u64 x.e, .int .u64 x.q, .bool x.i.g, .int .u8 x.i.o, .int .u64 x.i.q, .int .u64 x.i.t, .string x.i.r, .slice A n c, .int .u8 x.i.s, .int .u8 x.i.p, .int .i64 x.i.v, .int .u8 x.i.w, .int .u8 x.i.ga, .int .u64 x.i.gf, .int .u64 x.i.gt, .int .u64 x.c, .int .u64 x.b, .int .u64 x.l] 42))
  have HX := Lib.hid (heap_alloc_new w (.cells #[.int .u8 x.k, .int .u8 x.f, .int .u8 x.t, .int .u64 x.e, .int .u64 x.q, .bool x.i.g, .int .u8 x.i.o, .int .u64 x.i.q, .int .u64 x.i.t, .string x.i.r, .slice A n c, .int .u8 x.i.s, .int .u8 x.i.p, .int .i64 x.i.v, .int .u8 x.i.w, .int .u8 x.i.ga, .int .u64 x.i.gf, .int .u64 x.i.gt, .int .u64 x.c, .int .u64 x.b, .int .u64 x.l] 42))
  have Hn := Lib.hid hn
  have Hr := Lib.hid (hr.below Hba.out)
  clear hn hr
  have h1 : ¬ x.k = 1 := by omega
  have k1 : ((x.k : Int) != 1) = true := by rw [bne_iff_ne]; omega
  have k2 : ((x.k : Int) != 2) = false := by rw [bne_eq_false_iff_eq]; omega
  have m1 : ((x.k : Int) == 1) = false := by rw [beq_eq_false_iff_ne]; omega
  have m2 : ((x.k : Int) == 2) = true := by rw [beq_iff_eq]; omega
  have HM : Hid (¬ (x.k ≠ 1 ∧ x.k ≠ 2 ∧ x.k ≠ 3)) := fun h => h.2.1 h2
  have HK : Hid (kindN x = ackN x) := by show _ = _; unfold kindN; rw [if_neg h1, if_pos h2]
  clear h1 h2
  by_cases h4 : 31 < x.f
  case pos =>
    have k4 : (32 : Int) ≤ x.f := by omega
    have HN : Hid (frameN x = 20) := by show _ = _; unfold frameN; rw [if_neg HM.out, if_pos (.inl h4)]
    clear h4
    go_enter Tryz.func25, Tryz.ntmps25
    go_wp2
    go_ret
    exact ⟨by rw [HN.out]; rfl, Hba.out⟩
  have k4 : ¬ (32 : Int) ≤ x.f := by omega
  by_cases h5 : 31 < x.t
  case pos =>
    have k5 : (32 : Int) ≤ x.t := by omega
    have HN : Hid (frameN x = 20) := by show _ = _; unfold frameN; rw [if_neg HM.out, if_pos (.inr (.inl h5))]
    clear h4 h5
    go_enter Tryz.func25, Tryz.ntmps25
    go_wp2
    go_ret
    exact ⟨by rw [HN.out]; rfl, Hba.out⟩
  have k5 : ¬ (32 : Int) ≤ x.t := by omega
  by_cases h6 : x.f = x.t
  case pos =>
    have k6 : ((x.f : Int) == (x.t : Int)) = true := by rw [beq_iff_eq]; omega
    have HN : Hid (frameN x = 20) := by show _ = _; unfold frameN; rw [if_neg HM.out, if_pos (.inr (.inr h6))]
    clear h4 h5 h6
    go_enter Tryz.func25, Tryz.ntmps25
    go_wp2
    go_ret
    exact ⟨by rw [HN.out]; rfl, Hba.out⟩
  have k6 : ((x.f : Int) == (x.t : Int)) = false := by rw [beq_eq_false_iff_ne]; omega
  have HM2 : Hid (¬ (31 < x.f ∨ 31 < x.t ∨ x.f = x.t)) := by
    rintro (h | h | h)
    · exact h4 h
    · exact h5 h
    · exact h6 h
  clear h4 h5 h6
  have hmx := fun (ts : Array TypeId) (t : TypeId) (w : World) => run_max4 (P := Tryz.prog) ts t x.e x.q x.c x.l w
  by_cases h7 : 1099511627776 < x.e ∨ 1099511627776 < x.q ∨ 1099511627776 < x.c ∨ 1099511627776 < x.l
  case pos =>
    have k7 : (1099511627776 : Int) < (max4 x.e x.q x.c x.l : Nat) := by have := max4_lt.2 h7; omega
    have HN : Hid (frameN x = 6) := by show _ = _; unfold frameN; rw [if_neg HM.out, if_neg HM2.out, if_pos h7]
    clear h7
    go_enter Tryz.func25, Tryz.ntmps25
    go_wp2
    go_ret
    exact ⟨by rw [HN.out]; rfl, Hba.out⟩
  have k7 : ¬ (1099511627776 : Int) < (max4 x.e x.q x.c x.l : Nat) := fun h => h7 (max4_lt.1 (by omega))
  have HN : Hid (frameN x = kindN x) := by show _ = _; unfold frameN; rw [if_neg HM.out, if_neg HM2.out, if_neg h7]
  clear h7
  go_enter Tryz.func25, Tryz.ntmps25
  go_wp2_with (first | (refine wpList_load_row rfl _ _ rfl w.heap.size rfl _ _ _ _ HX.out Tryz.underlying42 rfl (by kernel_rfl) ?_) | fail)
  refine (checkAck_any x A n c _ Hn.out hm (Hr.out.more (by simp))).mono ?_
  rintro e w1 ⟨rfl, hb1⟩
  have Hb1 := Lib.hid (Hba.out.trans (hb1.mono (by simp)))
  clear hb1 hmx k4 k5 k6 k7
  go_wp2
  go_ret
  exact ⟨by rw [HN.out, HK.out]; rfl, Hb1.out⟩
end Go.Proofs.YtnagmopejblegaaGreat
/- Layer 5: frame.checkAlive. -/
namespace Go.Proofs.YtnagmopejblegaaGreat
open Go.RowKit

theorem wpList_build_at {P : Program} {ops : Array Oper} {rest : List Oper} {o : Oper} {a : Act} {w : World} {Q : Exit → Act → World → Prop} (hg : o.guard = none) (t : TypeId) (parts : Array (Nat × Operand)) (ho : o.op = .build t parts) {cells : Array Value}
    (hf : P.built t (parts.map fun (i, x) => (i, a.eval x)).toList = some cells) (h : wpList P ops Q rest (a.put o.dst (.agg cells)) w) : wpList P ops Q (o :: rest) a w :=
  wpList_build hg t parts ho (by rw [hf]; rfl) (by rw [hf]; exact h)
theorem aliveN_same (x : Fr) : aliveN x = if sameF x ⟨x.k, x.f, x.t, 0, 0, zeroI, 0, 0, 0⟩ = false then 6 else 0 := by
  unfold aliveN sameF
  cases hs : sameI x.i zeroI with
  | false => rw [if_pos (.inr (.inr (.inr (.inr (.inr rfl)))))]; simp
  | true =>
    by_cases h : x.e ≠ 0 ∨ x.q ≠ 0 ∨ x.c ≠ 0 ∨ x.b ≠ 0 ∨ x.l ≠ 0 ∨ true = false
    · rw [if_pos h, if_pos (by
        rw [Bool.and_true, decide_eq_false_iff_not]
        rintro ⟨_, _, _, h1, h2, h3, h4, h5⟩
        simp only at h1 h2 h3 h4 h5
        rcases h with h | h | h | h | h | h
        · exact h h1
        · exact h h2
        · exact h h3
        · exact h h4
        · exact h h5
        · cases h)]
    · rw [if_neg h, if_neg (by
        rw [Bool.and_true, decide_eq_false_iff_not, Classical.not_not]
        simp only [true_and]
        refine ⟨?_, ?_, ?_, ?_, ?_⟩ <;> omega)]

set_option maxRecDepth 100000 in
set_option maxHeartbeats 4000000 in
theorem checkAlive_any (x : Fr) (A : Option Addr) (n c : Nat) (w : World) (hn : n = x.i.l.length) (hm : n ≤ maxLen) (hr : RdP w w.heap.size A x.i.l) :
    Calls Tryz.prog 48 #[.agg #[.int .u8 x.k, .int .u8 x.f, .int .u8 x.t, .int .u64 x.e, .int .u64 x.q, .bool x.i.g, .int .u8 x.i.o, .int .u64 x.i.q, .int .u64 x.i.t, .string x.i.r, .slice A n c, .int .u8 x.i.s, .int .u8 x.i.p, .int .i64 x.i.v, .int .u8 x.i.w, .int .u8 x.i.ga, .int .u64 x.i.gf, .int .u64 x.i.gt, .int .u64 x.c, .int .u64 x.b, .int .u64 x.l]] w fun e w' => e = .returned (.int .i64 (aliveN x : Nat)) ∧ Below w.heap.size w w' := by
  have Hba := Lib.hid ((Below.refl w.heap.size w).alloc (Nat.le_refl _) (.cells #[.int .u8 x.k, .int .u8 x.f, .int .u8 x.t, .int .u64 x.e, .int .u64 x.q, .bool x.i.g, .int .u8 x.i.o, .int .u64 x.i.q, .int .u64 x.i.t, .string x.i.r, .slice A n c, .int .u8 x.i.s, .int .u8 x.i.p, .int .i64 x.i.v, .int .u8 x.i.w, .int .u8 x.i.ga, .int .u64 x.i.gf, .int .u64 x.i.gt, .int .u64 x.c, .int .u64 x.b, .int .u64 x.l] 42))
  have HX := Lib.hid (heap_alloc_new w (.cells #[.int .u8 x.k, .int .u8 x.f, .int .u8 x.t, .int .u64 x.e, .int .u64 x.q, .bool x.i.g, .int .u8 x.i.o, .int .u64 x.i.q, .int .u64 x.i.t, .string x.i.r, .slice A n c, .int .u8 x.i.s, .int .u8 x.i.p, .int .i64 x.i.v, .int .u8 x.i.w, .int .u8 x.i.ga, .int .u64 x.i.gf, .int .u64 x.i.gt, .int .u64 x.c, .int .u64 x.b, .int .u64 x.l] 42))
  have Hn := Lib.hid hn
  have Hr := Lib.hid (hr.below Hba.out)
  clear hn hr
  obtain ⟨s, hs⟩ : ∃ s, sameF x ⟨x.k, x.f, x.t, 0, 0, zeroI, 0, 0, 0⟩ = s := ⟨_, rfl⟩
  have HN : Hid (aliveN x = if s = false then 6 else 0) := by
    show _ = _
    rw [aliveN_same, hs]
  have Hs := Lib.hid hs
  clear hs
  have hbu : Tryz.prog.built 42 [(0, .int .u8 x.k), (1, .int .u8 x.f), (2, .int .u8 x.t)] = some #[.int .u8 x.k, .int .u8 x.f, .int .u8 x.t, .int .u64 0, .int .u64 0, .bool false, .int .u8 0, .int .u64 0, .int .u64 0, .string ⟨#[]⟩, .slice none 0 0, .int .u8 0, .int .u8 0, .int .i64 0, .int .u8 0, .int .u8 0, .int .u64 0, .int .u64 0, .int .u64 0, .int .u64 0, .int .u64 0] := by kernel_rfl
  go_enter Tryz.func48, Tryz.ntmps48
  go_wp2_with (first | (refine wpList_load_row rfl _ _ rfl w.heap.size rfl _ _ _ _ HX.out Tryz.underlying42 rfl (by kernel_rfl) ?_) | (refine wpList_build_at rfl _ _ rfl hbu ?_) | fail)
  refine (frameSame_alive x A n c _ Hn.out hm (Hr.out.more (by simp))).mono ?_
  rintro e w1 ⟨rfl, hb1⟩
  rw [Hs.out]
  have Hb1 := Lib.hid (Hba.out.trans (hb1.mono (by simp)))
  clear hb1
  cases s
  · go_wp2
    go_ret
    exact ⟨by rw [HN.out]; rfl, Hb1.out⟩
  · go_wp2
    go_ret
    exact ⟨by rw [HN.out]; rfl, Hb1.out⟩

end Go.Proofs.YtnagmopejblegaaGreat
/- Layer 5: frame.Check of a frame of kind 3. -/
namespace Go.Proofs.YtnagmopejblegaaGreat
open Go.RowKit

set_option maxRecDepth 100000 in
set_option maxHeartbeats 4000000 in
theorem frameCheck3 (x : Fr) (h3 : x.k = 3) (A : Option Addr) (n c : Nat) (w : World) (hn : n = x.i.l.length) (hm : n ≤ maxLen) (hr : RdP w w.heap.size A x.i.l) :
    Calls Tryz.prog 25 #[.agg #[.int .u8 x.k, .int .u8 x.f, .int .u8 x.t, .int .u64 x.e, .int .u64 x.q, .bool x.i.g, .int .u8 x.i.o, .int .u64 x.i.q, .int .u64 x.i.t, .string x.i.r, .slice A n c, .int .u8 x.i.s, .int .u8 x.i.p, .int .i64 x.i.v, .int .u8 x.i.w, .int .u8 x.i.ga, .int .u64 x.i.gf, .int .u64 x.i.gt, .int .u64 x.c, .int .u64 x.b, .int .u64 x.l]] w fun e w' => e = .returned (.int .i64 (frameN x : Nat)) ∧ Below w.heap.size w w' := by
  have Hba := Lib.hid ((Below.refl w.heap.size w).alloc (Nat.le_refl _) (.cells #[.int .u8 x.k, .int .u8 x.f, .int .u8 x.t, .int .u64 x.e, .int .u64 x.q, .bool x.i.g, .int .u8 x.i.o, .int .u64 x.i.q, .int .u64 x.i.t, .string x.i.r, .slice A n c, .int .u8 x.i.s, .int .u8 x.i.p, .int .i64 x.i.v, .int .u8 x.i.w, .int .u8 x.i.ga, .int .u64 x.i.gf, .int .u64 x.i.gt, .int .u64 x.c, .int .u64 x.b, .int .u64 x.l] 42))
  have HX := Lib.hid (heap_alloc_new w (.cells #[.int .u8 x.k, .int .u8 x.f, .int .u8 x.t, .int .u64 x.e, .int .u64 x.q, .bool x.i.g, .int .u8 x.i.o, .int .u64 x.i.q, .int .u64 x.i.t, .string x.i.r, .slice A n c, .int .u8 x.i.s, .int .u8 x.i.p, .int .i64 x.i.v, .int .u8 x.i.w, .int .u8 x.i.ga, .int .u64 x.i.gf, .int .u64 x.i.gt, .int .u64 x.c, .int .u64 x.b, .int .u64 x.l] 42))
  have Hn := Lib.hid hn
  have Hr := Lib.hid (hr.below Hba.out)
  clear hn hr
  have h1 : ¬ x.k = 1 := by omega
  have h2 : ¬ x.k = 2 := by omega
  have k1 : ((x.k : Int) != 1) = true := by rw [bne_iff_ne]; omega
  have k2 : ((x.k : Int) != 2) = true := by rw [bne_iff_ne]; omega
  have k3 : ((x.k : Int) != 3) = false := by rw [bne_eq_false_iff_eq]; omega
  have m1 : ((x.k : Int) == 1) = false := by rw [beq_eq_false_iff_ne]; omega
  have m2 : ((x.k : Int) == 2) = false := by rw [beq_eq_false_iff_ne]; omega
  have HM : Hid (¬ (x.k ≠ 1 ∧ x.k ≠ 2 ∧ x.k ≠ 3)) := fun h => h.2.2 h3
  have HK : Hid (kindN x = aliveN x) := by show _ = _; unfold kindN; rw [if_neg h1, if_neg h2]
  clear h1 h2 h3
  by_cases h4 : 31 < x.f
  case pos =>
    have k4 : (32 : Int) ≤ x.f := by omega
    have HN : Hid (frameN x = 20) := by show _ = _; unfold frameN; rw [if_neg HM.out, if_pos (.inl h4)]
    clear h4
    go_enter Tryz.func25, Tryz.ntmps25
    go_wp2
    go_ret
    exact ⟨by rw [HN.out]; rfl, Hba.out⟩
  have k4 : ¬ (32 : Int) ≤ x.f := by omega
  by_cases h5 : 31 < x.t
  case pos =>
    have k5 : (32 : Int) ≤ x.t := by omega
    have HN : Hid (frameN x = 20) := by show _ = _; unfold frameN; rw [if_neg HM.out, if_pos (.inr (.inl h5))]
    clear h4 h5
    go_enter Tryz.func25, Tryz.ntmps25
    go_wp2
    go_ret
    exact ⟨by rw [HN.out]; rfl, Hba.out⟩
  have k5 : ¬ (32 : Int) ≤ x.t := by omega
  by_cases h6 : x.f = x.t
  case pos =>
    have k6 : ((x.f : Int) == (x.t : Int)) = true := by rw [beq_iff_eq]; omega
    have HN : Hid (frameN x = 20) := by show _ = _; unfold frameN; rw [if_neg HM.out, if_pos (.inr (.inr h6))]
    clear h4 h5 h6
    go_enter Tryz.func25, Tryz.ntmps25
    go_wp2
    go_ret
    exact ⟨by rw [HN.out]; rfl, Hba.out⟩
  have k6 : ((x.f : Int) == (x.t : Int)) = false := by rw [beq_eq_false_iff_ne]; omega
  have HM2 : Hid (¬ (31 < x.f ∨ 31 < x.t ∨ x.f = x.t)) := by
    rintro (h | h | h)
    · exact h4 h
    · exact h5 h
    · exact h6 h
  clear h4 h5 h6
  have hmx := fun (ts : Array TypeId) (t : TypeId) (w : World) => run_max4 (P := Tryz.prog) ts t x.e x.q x.c x.l w
  by_cases h7 : 1099511627776 < x.e ∨ 1099511627776 < x.q ∨ 1099511627776 < x.c ∨ 1099511627776 < x.l
  case pos =>
    have k7 : (1099511627776 : Int) < (max4 x.e x.q x.c x.l : Nat) := by have := max4_lt.2 h7; omega
    have HN : Hid (frameN x = 6) := by show _ = _; unfold frameN; rw [if_neg HM.out, if_neg HM2.out, if_pos h7]
    clear h7
    go_enter Tryz.func25, Tryz.ntmps25
    go_wp2
    go_ret
    exact ⟨by rw [HN.out]; rfl, Hba.out⟩
  have k7 : ¬ (1099511627776 : Int) < (max4 x.e x.q x.c x.l : Nat) := fun h => h7 (max4_lt.1 (by omega))
  have HN : Hid (frameN x = kindN x) := by show _ = _; unfold frameN; rw [if_neg HM.out, if_neg HM2.out, if_neg h7]
  clear h7
  go_enter Tryz.func25, Tryz.ntmps25
  go_wp2_with (first | (refine wpList_load_row rfl _ _ rfl w.heap.size rfl _ _ _ _ HX.out Tryz.underlying42 rfl (by kernel_rfl) ?_) | fail)
  refine (checkAlive_any x A n c _ Hn.out hm (Hr.out.more (by simp))).mono ?_
  rintro e w1 ⟨rfl, hb1⟩
  have Hb1 := Lib.hid (Hba.out.trans (hb1.mono (by simp)))
  clear hb1 hmx k4 k5 k6 k7
  go_wp2
  go_ret
  exact ⟨by rw [HN.out, HK.out]; rfl, Hb1.out⟩
end Go.Proofs.YtnagmopejblegaaGreat
/- Layer 5: frame.Check. -/
namespace Go.Proofs.YtnagmopejblegaaGreat
open Go.RowKit

set_option maxRecDepth 100000 in
set_option maxHeartbeats 4000000 in
theorem frameCheck_any (x : Fr) (A : Option Addr) (n c : Nat) (w : World) (hn : n = x.i.l.length) (hm : n ≤ maxLen) (hr : RdP w w.heap.size A x.i.l) :
    Calls Tryz.prog 25 #[.agg #[.int .u8 x.k, .int .u8 x.f, .int .u8 x.t, .int .u64 x.e, .int .u64 x.q, .bool x.i.g, .int .u8 x.i.o, .int .u64 x.i.q, .int .u64 x.i.t, .string x.i.r, .slice A n c, .int .u8 x.i.s, .int .u8 x.i.p, .int .i64 x.i.v, .int .u8 x.i.w, .int .u8 x.i.ga, .int .u64 x.i.gf, .int .u64 x.i.gt, .int .u64 x.c, .int .u64 x.b, .int .u64 x.l]] w fun e w' => e = .returned (.int .i64 (frameN x : Nat)) ∧ Below w.heap.size w w' := by
  by_cases h1 : x.k = 1
  · exact frameCheck1 x h1 A n c w hn hm hr
  by_cases h2 : x.k = 2
  · exact frameCheck2 x h2 A n c w hn hm hr
  by_cases h3 : x.k = 3
  · exact frameCheck3 x h3 A n c w hn hm hr
  have Hba := Lib.hid ((Below.refl w.heap.size w).alloc (Nat.le_refl _) (.cells #[.int .u8 x.k, .int .u8 x.f, .int .u8 x.t, .int .u64 x.e, .int .u64 x.q, .bool x.i.g, .int .u8 x.i.o, .int .u64 x.i.q, .int .u64 x.i.t, .string x.i.r, .slice A n c, .int .u8 x.i.s, .int .u8 x.i.p, .int .i64 x.i.v, .int .u8 x.i.w, .int .u8 x.i.ga, .int .u64 x.i.gf, .int .u64 x.i.gt, .int .u64 x.c, .int .u64 x.b, .int .u64 x.l] 42))
  have HX := Lib.hid (heap_alloc_new w (.cells #[.int .u8 x.k, .int .u8 x.f, .int .u8 x.t, .int .u64 x.e, .int .u64 x.q, .bool x.i.g, .int .u8 x.i.o, .int .u64 x.i.q, .int .u64 x.i.t, .string x.i.r, .slice A n c, .int .u8 x.i.s, .int .u8 x.i.p, .int .i64 x.i.v, .int .u8 x.i.w, .int .u8 x.i.ga, .int .u64 x.i.gf, .int .u64 x.i.gt, .int .u64 x.c, .int .u64 x.b, .int .u64 x.l] 42))
  have Hn := Lib.hid hn
  have Hr := Lib.hid (hr.below Hba.out)
  clear hn hr
  have k1 : ((x.k : Int) != 1) = true := by rw [bne_iff_ne]; omega
  have k2 : ((x.k : Int) != 2) = true := by rw [bne_iff_ne]; omega
  have k3 : ((x.k : Int) != 3) = true := by rw [bne_iff_ne]; omega
  have HN : Hid (frameN x = 12) := if_pos ⟨h1, h2, h3⟩
  clear h1 h2 h3
  go_enter Tryz.func25, Tryz.ntmps25
  go_wp2
  go_ret
  exact ⟨by rw [HN.out]; rfl, Hba.out⟩
end Go.Proofs.YtnagmopejblegaaGreat
