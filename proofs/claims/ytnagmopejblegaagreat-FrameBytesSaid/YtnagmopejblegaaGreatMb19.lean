/- Several texts in one: FrCheckK, FrMax, FrCheckA. -/
import Derived.Laws.Small
import Derived.Test.YtnagmopejblegaaGreatMb16
import Derived.Test.YtnagmopejblegaaGreatMb17
import Derived.Test.YtnagmopejblegaaGreatMb18
/- Layer 5: frame.checkData, checkAck, checkAlive. -/
namespace Go.Proofs.YtnagmopejblegaaGreat
open Go.RowKit

/-- against the item that is none -/
theorem itemSame_zero (a : It) (A : Option Addr) (n c : Nat) (w : World) (hn : n = a.l.length) (hm : n ≤ maxLen) (hr : RdP w w.heap.size A a.l) :
    Calls Tryz.prog 28 #[.agg #[.bool a.g, .int .u8 a.o, .int .u64 a.q, .int .u64 a.t, .string a.r, .slice A n c, .int .u8 a.s, .int .u8 a.p, .int .i64 a.v, .int .u8 a.w, .int .u8 a.ga, .int .u64 a.gf, .int .u64 a.gt], .agg #[.bool false, .int .u8 0, .int .u64 0, .int .u64 0, .string ⟨#[]⟩, .slice none 0 0, .int .u8 0, .int .u8 0, .int .i64 0, .int .u8 0, .int .u8 0, .int .u64 0, .int .u64 0]] w fun e w' => e = .returned (.bool (sameI a zeroI)) ∧ Below w.heap.size w w' :=
  itemSame_any a zeroI A n c none 0 0 w hn rfl hm hr RdP.none_
theorem frameSame_alive (a : Fr) (A : Option Addr) (n c : Nat) (w : World) (hn : n = a.i.l.length) (hm : n ≤ maxLen) (hr : RdP w w.heap.size A a.i.l) :
    Calls Tryz.prog 11 #[.agg #[.int .u8 a.k, .int .u8 a.f, .int .u8 a.t, .int .u64 a.e, .int .u64 a.q, .bool a.i.g, .int .u8 a.i.o, .int .u64 a.i.q, .int .u64 a.i.t, .string a.i.r, .slice A n c, .int .u8 a.i.s, .int .u8 a.i.p, .int .i64 a.i.v, .int .u8 a.i.w, .int .u8 a.i.ga, .int .u64 a.i.gf, .int .u64 a.i.gt, .int .u64 a.c, .int .u64 a.b, .int .u64 a.l], .agg #[.int .u8 a.k, .int .u8 a.f, .int .u8 a.t, .int .u64 0, .int .u64 0, .bool false, .int .u8 0, .int .u64 0, .int .u64 0, .string ⟨#[]⟩, .slice none 0 0, .int .u8 0, .int .u8 0, .int .i64 0, .int .u8 0, .int .u8 0, .int .u64 0, .int .u64 0, .int .u64 0, .int .u64 0, .int .u64 0]] w fun e w' => e = .returned (.bool (sameF a ⟨a.k, a.f, a.t, 0, 0, zeroI, 0, 0, 0⟩)) ∧ Below w.heap.size w w' :=
  frameSame_any a ⟨a.k, a.f, a.t, 0, 0, zeroI, 0, 0, 0⟩ A n c none 0 0 w hn rfl hm hr RdP.none_
theorem frameSame_zero (w : World) :
    Calls Tryz.prog 11 #[.agg #[.int .u8 0, .int .u8 0, .int .u8 0, .int .u64 0, .int .u64 0, .bool false, .int .u8 0, .int .u64 0, .int .u64 0, .string ⟨#[]⟩, .slice none 0 0, .int .u8 0, .int .u8 0, .int .i64 0, .int .u8 0, .int .u8 0, .int .u64 0, .int .u64 0, .int .u64 0, .int .u64 0, .int .u64 0], .agg #[.int .u8 0, .int .u8 0, .int .u8 0, .int .u64 0, .int .u64 0, .bool false, .int .u8 0, .int .u64 0, .int .u64 0, .string ⟨#[]⟩, .slice none 0 0, .int .u8 0, .int .u8 0, .int .i64 0, .int .u8 0, .int .u8 0, .int .u64 0, .int .u64 0, .int .u64 0, .int .u64 0, .int .u64 0]] w fun e w' => e = .returned (.bool true) ∧ Below w.heap.size w w' :=
  frameSame_any zeroF zeroF none 0 0 none 0 0 w rfl rfl (by decide) RdP.none_ RdP.none_

set_option maxRecDepth 100000 in
set_option maxHeartbeats 4000000 in
theorem checkData_any (x : Fr) (A : Option Addr) (n c : Nat) (w : World) (hn : n = x.i.l.length) (hm : n ≤ maxLen) (hr : RdP w w.heap.size A x.i.l) :
    Calls Tryz.prog 46 #[.agg #[.int .u8 x.k, .int .u8 x.f, .int .u8 x.t, .int .u64 x.e, .int .u64 x.q, .bool x.i.g, .int .u8 x.i.o, .int .u64 x.i.q, .int .u64 x.i.t, .string x.i.r, .slice A n c, .int .u8 x.i.s, .int .u8 x.i.p, .int .i64 x.i.v, .int .u8 x.i.w, .int .u8 x.i.ga, .int .u64 x.i.gf, .int .u64 x.i.gt, .int .u64 x.c, .int .u64 x.b, .int .u64 x.l]] w fun e w' => e = .returned (.int .i64 (dataN x : Nat)) ∧ Below w.heap.size w w' := by
  have Hba := Lib.hid ((Below.refl w.heap.size w).alloc (Nat.le_refl _) (.cells #[.int .u8 x.k, .int .u8 x.f, .int .u8 x.t, .int .u64 x.e, .int .u64 x.q, .bool x.i.g, .int .u8 x.i.o, .int .u64 x.i.q, .int .u64 x.i.t, .string x.i.r, .slice A n c, .int .u8 x.i.s, .int .u8 x.i.p, .int .i64 x.i.v, .int .u8 x.i.w, .int .u8 x.i.ga, .int .u64 x.i.gf, .int .u64 x.i.gt, .int .u64 x.c, .int .u64 x.b, .int .u64 x.l] 42))
  have HX := Lib.hid (heap_alloc_new w (.cells #[.int .u8 x.k, .int .u8 x.f, .int .u8 x.t, .int .u64 x.e, .int .u64 x.q, .bool x.i.g, .int .u8 x.i.o, .int .u64 x.i.q, .int .u64 x.i.t, .string x.i.r, .slice A n c, .int .u8 x.i.s, .int .u8 x.i.p, .int .i64 x.i.v, .int .u8 x.i.w, .int .u8 x.i.ga, .int .u64 x.i.gf, .int .u64 x.i.gt, .int .u64 x.c, .int .u64 x.b, .int .u64 x.l] 42))
  have Hn := Lib.hid hn
  have Hr := Lib.hid (hr.below Hba.out)
  clear hn hr
  by_cases h0 : x.q = 0
  case pos =>
    have k0 : ((x.q : Int) == 0) = true := by rw [beq_iff_eq]; omega
    have HN : Hid (dataN x = 6) := if_pos (.inl h0)
    clear h0
    go_enter Tryz.func46, Tryz.ntmps46
    go_wp2
    go_ret
    exact ⟨by rw [HN.out]; rfl, Hba.out⟩
  have k0 : ((x.q : Int) == 0) = false := by rw [beq_eq_false_iff_ne]; omega
  have H0 := Lib.hid h0
  clear h0
  by_cases h1 : x.e = 0
  case pos =>
    have k1 : ((x.e : Int) == 0) = true := by rw [beq_iff_eq]; omega
    have HN : Hid (dataN x = 6) := if_pos (.inr (.inl h1))
    clear h1
    go_enter Tryz.func46, Tryz.ntmps46
    go_wp2
    go_ret
    exact ⟨by rw [HN.out]; rfl, Hba.out⟩
  have k1 : ((x.e : Int) == 0) = false := by rw [beq_eq_false_iff_ne]; omega
  have H1 := Lib.hid h1
  clear h1
  by_cases h2 : x.c ≠ 0
  case pos =>
    have k2 : ((x.c : Int) != 0) = true := by rw [bne_iff_ne]; omega
    have HN : Hid (dataN x = 6) := if_pos (.inr (.inr (.inl h2)))
    clear h2
    go_enter Tryz.func46, Tryz.ntmps46
    go_wp2
    go_ret
    exact ⟨by rw [HN.out]; rfl, Hba.out⟩
  have k2 : ((x.c : Int) != 0) = false := by rw [bne_eq_false_iff_eq]; omega
  have H2 := Lib.hid h2
  clear h2
  by_cases h3 : x.b ≠ 0
  case pos =>
    have k3 : ((x.b : Int) != 0) = true := by rw [bne_iff_ne]; omega
    have HN : Hid (dataN x = 6) := if_pos (.inr (.inr (.inr (.inl h3))))
    clear h3
    go_enter Tryz.func46, Tryz.ntmps46
    go_wp2
    go_ret
    exact ⟨by rw [HN.out]; rfl, Hba.out⟩
  have k3 : ((x.b : Int) != 0) = false := by rw [bne_eq_false_iff_eq]; omega
  have H3 := Lib.hid h3
  clear h3
  by_cases h4 : x.l ≠ 0
  case pos =>
    have k4 : ((x.l : Int) != 0) = true := by rw [bne_iff_ne]; omega
    have HN : Hid (dataN x = 6) := if_pos (.inr (.inr (.inr (.inr h4))))
    clear h4
    go_enter Tryz.func46, Tryz.ntmps46
    go_wp2
    go_ret
    exact ⟨by rw [HN.out]; rfl, Hba.out⟩
  have k4 : ((x.l : Int) != 0) = false := by rw [bne_eq_false_iff_eq]; omega
  have H4 := Lib.hid h4
  clear h4
  have HN : Hid (dataN x = itemN x.i) := if_neg (by
    rintro (h | h | h | h | h)
    · exact H0.out h
    · exact H1.out h
    · exact H2.out h
    · exact H3.out h
    · exact H4.out h)
  go_enter Tryz.func46, Tryz.ntmps46
  go_wp2_with fail
  refine (itemCheck_any x.i A n c _ Hn.out hm (Hr.out.more (by simp))).mono ?_
  rintro e w1 ⟨rfl, hb1⟩
  have Hb1 := Lib.hid (Hba.out.trans (hb1.mono (by simp)))
  clear hb1
  go_wp2
  go_ret
  exact ⟨by rw [HN.out]; rfl, Hb1.out⟩

set_option maxRecDepth 100000 in
set_option maxHeartbeats 4000000 in
theorem checkAck_any (x : Fr) (A : Option Addr) (n c : Nat) (w : World) (hn : n = x.i.l.length) (hm : n ≤ maxLen) (hr : RdP w w.heap.size A x.i.l) :
    Calls Tryz.prog 47 #[.agg #[.int .u8 x.k, .int .u8 x.f, .int .u8 x.t, .int .u64 x.e, .int .u64 x.q, .bool x.i.g, .int .u8 x.i.o, .int .u64 x.i.q, .int .u64 x.i.t, .string x.i.r, .slice A n c, .int .u8 x.i.s, .int .u8 x.i.p, .int .i64 x.i.v, .int .u8 x.i.w, .int .u8 x.i.ga, .int .u64 x.i.gf, .int .u64 x.i.gt, .int .u64 x.c, .int .u64 x.b, .int .u64 x.l]] w fun e w' => e = .returned (.int .i64 (ackN x : Nat)) ∧ Below w.heap.size w w' := by
  have Hba := Lib.hid ((Below.refl w.heap.size w).alloc (Nat.le_refl _) (.cells #[.int .u8 x.k, .int .u8 x.f, .int .u8 x.t, .int .u64 x.e, .int .u64 x.q, .bool x.i.g, .int .u8 x.i.o, .int .u64 x.i.q, .int .u64 x.i.t, .string x.i.r, .slice A n c, .int .u8 x.i.s, .int .u8 x.i.p, .int .i64 x.i.v, .int .u8 x.i.w, .int .u8 x.i.ga, .int .u64 x.i.gf, .int .u64 x.i.gt, .int .u64 x.c, .int .u64 x.b, .int .u64 x.l] 42))
  have HX := Lib.hid (heap_alloc_new w (.cells #[.int .u8 x.k, .int .u8 x.f, .int .u8 x.t, .int .u64 x.e, .int .u64 x.q, .bool x.i.g, .int .u8 x.i.o, .int .u64 x.i.q, .int .u64 x.i.t, .string x.i.r, .slice A n c, .int .u8 x.i.s, .int .u8 x.i.p, .int .i64 x.i.v, .int .u8 x.i.w, .int .u8 x.i.ga, .int .u64 x.i.gf, .int .u64 x.i.gt, .int .u64 x.c, .int .u64 x.b, .int .u64 x.l] 42))
  have Hn := Lib.hid hn
  have Hr := Lib.hid (hr.below Hba.out)
  clear hn hr
  by_cases h0 : x.e = 0
  case pos =>
    have k0 : ((x.e : Int) == 0) = true := by rw [beq_iff_eq]; omega
    have HN : Hid (ackN x = 6) := if_pos (.inl h0)
    clear h0
    go_enter Tryz.func47, Tryz.ntmps47
    go_wp2
    go_ret
    exact ⟨by rw [HN.out]; rfl, Hba.out⟩
  have k0 : ((x.e : Int) == 0) = false := by rw [beq_eq_false_iff_ne]; omega
  have H0 := Lib.hid h0
  clear h0
  by_cases h1 : x.l = 0
  case pos =>
    have k1 : ((x.l : Int) == 0) = true := by rw [beq_iff_eq]; omega
    have HN : Hid (ackN x = 6) := if_pos (.inr (.inl h1))
    clear h1
    go_enter Tryz.func47, Tryz.ntmps47
    go_wp2
    go_ret
    exact ⟨by rw [HN.out]; rfl, Hba.out⟩
  have k1 : ((x.l : Int) == 0) = false := by rw [beq_eq_false_iff_ne]; omega
  have H1 := Lib.hid h1
  clear h1
  by_cases h2 : x.q ≠ 0
  case pos =>
    have k2 : ((x.q : Int) != 0) = true := by rw [bne_iff_ne]; omega
    have HN : Hid (ackN x = 6) := if_pos (.inr (.inr (.inl h2)))
    clear h2
    go_enter Tryz.func47, Tryz.ntmps47
    go_wp2
    go_ret
    exact ⟨by rw [HN.out]; rfl, Hba.out⟩
  have k2 : ((x.q : Int) != 0) = false := by rw [bne_eq_false_iff_eq]; omega
  have H2 := Lib.hid h2
  clear h2
  obtain ⟨s, hs⟩ : ∃ s, sameI x.i zeroI = s := ⟨_, rfl⟩
  have HN : Hid (ackN x = if s = false then 6 else 0) := by
    show _ = _
    unfold ackN
    rw [hs]
    cases s
    · rw [if_pos (.inr (.inr (.inr rfl)))]; rfl
    · rw [if_neg (by
        rintro (h | h | h | h)
        · exact H0.out h
        · exact H1.out h
        · exact H2.out h
        · cases h)]; rfl
  have Hs := Lib.hid hs
  clear hs
  go_enter Tryz.func47, Tryz.ntmps47
  go_wp2_with fail
  refine (itemSame_zero x.i A n c _ Hn.out hm (Hr.out.more (by simp))).mono ?_
  rintro e w1 ⟨rfl, hb1⟩
  rw [Hs.out]
  have Hb1 := Lib.hid (Hba.out.trans (hb1.mono (by simp)))
  clear hb1
  cases s
  · go_wp2
    go_ret
    exact ⟨by rw [HN.out]; rfl, Hb1.out⟩
  · go_wp2
    go_ret
    exact ⟨by rw [HN.out]; rfl, Hb1.out⟩

end Go.Proofs.YtnagmopejblegaaGreat
/- Layer 5: frame.Check. -/
namespace Go.Proofs.YtnagmopejblegaaGreat
open Go.RowKit

/-- the greatest of four -/
def max4 (a b c d : Nat) : Nat := max (max (max a b) c) d
theorem max4_lt {a b c d m : Nat} : m < max4 a b c d ↔ m < a ∨ m < b ∨ m < c ∨ m < d := by unfold max4; omega
theorem run_max4 {P : Program} (ts : Array TypeId) (t : TypeId) (a b c d : Nat) (w : World) : (Builtin.max_ ts t #[.int .u64 a, .int .u64 b, .int .u64 c, .int .u64 d]).run P w = .ok (.int .u64 (max4 a b c d : Nat)) w := by
  have e : ∀ p q : Nat, (if (q : Int) > (p : Int) then (q : Int) else (p : Int)) = ((max p q : Nat) : Int) := fun p q => by split <;> omega
  have r : (Builtin.max_ ts t #[.int .u64 a, .int .u64 b, .int .u64 c, .int .u64 d]).run P w = .ok (.int .u64 (if (d : Int) > (if (c : Int) > (if (b : Int) > (a : Int) then (b : Int) else (a : Int)) then (c : Int) else (if (b : Int) > (a : Int) then (b : Int) else (a : Int))) then (d : Int) else (if (c : Int) > (if (b : Int) > (a : Int) then (b : Int) else (a : Int)) then (c : Int) else (if (b : Int) > (a : Int) then (b : Int) else (a : Int))))) w := by
    simp [Builtin.max_, Builtin.max2]
  rw [r, e, e, e]
  rfl

end Go.Proofs.YtnagmopejblegaaGreat
/- Layer 5: frame.Check of a frame of kind 1. -/
namespace Go.Proofs.YtnagmopejblegaaGreat
open Go.RowKit

set_option maxRecDepth 100000 in
set_option maxHeartbeats 4000000 in
theorem frameCheck1 (x : Fr) (h1 : x.k = 1) (A : Option Addr) (n c : Nat) (w : World) (hn : n = x.i.l.length) (hm : n ≤ maxLen) (hr : RdP w w.heap.size A x.i.l) :
    Calls Tryz.prog 25 #[.agg #[.int .u8 x.k, .int .u8 x.f, .int .u8 x.t, .int .u64 x.e, .int .u64 x.q, .bool x.i.g, .int .u8 x.i.o, .int .u64 x.i.q, .int .u64 x.i.t, .string x.i.r, .slice A n c, .int .u8 x.i.s, .int .u8 x.i.p, .int .i64 x.i.v, .int .u8 x.i.w, .int .u8 x.i.ga, .int .u64 x.i.gf, .int .u64 x.i.gt, .int .u64 x.c, .int .u64 x.b, .int .u64 x.l]] w fun e w' => e = .returned (.int .i64 (frameN x : Nat)) ∧ Below w.heap.size w w' := by
  have Hba := Lib.hid ((Below.refl w.heap.size w).alloc (Nat.le_refl _) (.cells #[.int .u8 x.k, .int .u8 x.f, .int .u8 x.t, .int .u64 x.e, .int .u64 x.q, .bool x.i.g, .int .u8 x.i.o, .int .u64 x.i.q, .int .u64 x.i.t, .string x.i.r, .slice A n c, .int .u8 x.i.s, .int .u8 x.i.p, .int .i64 x.i.v, .int .u8 x.i.w, .int .u8 x.i.ga, .int .u64 x.i.gf, .int .u64 x.i.gt, .int .u64 x.c, .int .u64 x.b, .int .u64 x.l] 42))
  have HX := Lib.hid (heap_alloc_new w (.cells #[.int .u8 x.k, .int .u8 x.f, .int .u8 x.t, .int .u64 x.e, .int .u64 x.q, .bool x.i.g, .int .u8 x.i.o, .int .u64 x.i.q, .int .u64 x.i.t, .string x.i.r, .slice A n c, .int .u8 x.i.s, .int .u8 x.i.p, .int .i64 x.i.v, .int .u8 x.i.w, .int .u8 x.i.ga, .int .u64 x.i.gf, .int .u64 x.i.gt, .int .u64 x.c, .int .u64 x.b, .int .u64 x.l] 42))
  have Hn := Lib.hid hn
  have Hr := Lib.hid (hr.below Hba.out)
  clear hn hr
  have k1 : ((x.k : Int) != 1) = false := by rw [bne_eq_false_iff_eq]; omega
  have m1 : ((x.k : Int) == 1) = true := by rw [beq_iff_eq]; omega
  have HM : Hid (¬ (x.k ≠ 1 ∧ x.k ≠ 2 ∧ x.k ≠ 3)) := fun h => h.1 h1
  have HK : Hid (kindN x = dataN x) := by show _ = _; unfold kindN; rw [if_pos h1]
  clear h1
  by_cases h4 : 31 < x.f
  case pos =>
    have k4 : (32 : Int) ≤ x.f := by omega
    have HN : Hid (frameN x = 20) := by show _ = _; unfold frameN; rw [if_neg HM.out, if_pos (.inl h4)]
    clear h4
    go_enter Tryz.func25, Tryz.ntmps25
    go_wp2
    go_ret
    exact ⟨by rw [HN.out]; rfl, Hba.out⟩
  have k4 : ¬ (32 : Int) ≤ x.f := by omega
  by_cases h5 : 31 < x.t
  case pos =>
    have k5 : (32 : Int) ≤ x.t := by omega
    have HN : Hid (frameN x = 20) := by show _ = _; unfold frameN; rw [if_neg HM.out, if_pos (.inr (.inl h5))]
    clear h4 h5
    go_enter Tryz.func25, Tryz.ntmps25
    go_wp2
    go_ret
    exact ⟨by rw [HN.out]; rfl, Hba.out⟩
  have k5 : ¬ (32 : Int) ≤ x.t := by omega
  by_cases h6 : x.f = x.t
  case pos =>
    have k6 : ((x.f : Int) == (x.t : Int)) = true := by rw [beq_iff_eq]; omega
    have HN : Hid (frameN x = 20) := by show _ = _; unfold frameN; rw [if_neg HM.out, if_pos (.inr (.inr h6))]
    clear h4 h5 h6
    go_enter Tryz.func25, Tryz.ntmps25
    go_wp2
    go_ret
    exact ⟨by rw [HN.out]; rfl, Hba.out⟩
  have k6 : ((x.f : Int) == (x.t : Int)) = false := by rw [beq_eq_false_iff_ne]; omega
  have HM2 : Hid (¬ (31 < x.f ∨ 31 < x.t ∨ x.f = x.t)) := by
    rintro (h | h | h)
    · exact h4 h
    · exact h5 h
    · exact h6 h
  clear h4 h5 h6
  have hmx := fun (ts : Array TypeId) (t : TypeId) (w : World) => run_max4 (P := Tryz.prog) ts t x.e x.q x.c x.l w
  by_cases h7 : 1099511627776 < x.e ∨ 1099511627776 < x.q ∨ 1099511627776 < x.c ∨ 1099511627776 < x.l
  case pos =>
    have k7 : (1099511627776 : Int) < (max4 x.e x.q x.c x.l : Nat) := by have := max4_lt.2 h7; omega
    have HN : Hid (frameN x = 6) := by show _ = _; unfold frameN; rw [if_neg HM.out, if_neg HM2.out, if_pos h7]
    clear h7
    go_enter Tryz.func25, Tryz.ntmps25
    go_wp2
    go_ret
    exact ⟨by rw [HN.out]; rfl, Hba.out⟩
  have k7 : ¬ (1099511627776 : Int) < (max4 x.e x.q x.c x.l : Nat) := fun h => h7 (max4_lt.1 (by omega))
  have HN : Hid (frameN x = kindN x) := by show _ = _; unfold frameN; rw [if_neg HM.out, if_neg HM2.out, if_neg h7]
  clear h7
  go_enter Tryz.func25, Tryz.ntmps25
  go_wp2_with (first | (refine wpList_load_row rfl _ _ rfl w.heap.size rfl _ _ _ _ HX.out Tryz.underlying42 rfl (by kernel_rfl) ?_) | fail)
  refine (checkData_any x A n c _ Hn.out hm (Hr.out.more (by simp))).mono ?_
  rintro e w1 ⟨rfl, hb1⟩
  have Hb1 := Lib.hid (Hba.out.trans (hb1.mono (by simp)))
  clear hb1 hmx k4 k5 k6 k7
  go_wp2
  go_ret
  exact ⟨by rw [HN.out, HK.out]; rfl, Hb1.out⟩
end Go.Proofs.YtnagmopejblegaaGreat
