/- Several texts in one: FrLawChk. -/
import Derived.Deep.MidRow
import Derived.Test.YtnagmopejblegaaGreatMb26
import Derived.Test.YtnagmopejblegaaGreatMb30
import Derived.Test.YtnagmopejblegaaGreatMb47
import Derived.Test.YtnagmopejblegaaGreatMb48
/- Layer 5: the statements' own check of a frame that is right. -/
namespace Go.Proofs.YtnagmopejblegaaGreat
open Go.RowKit

set_option maxRecDepth 100000 in
set_option maxHeartbeats 4000000 in
theorem fcheck_1 (x : Fr) (hk : x.k = 1) (A : Option Addr) (n c : Nat) (hx : OkF x) (hN : frameN x = 0) (hn : n = x.i.l.length) (hm : n ≤ maxLen) (w : World) (hr : RdP w w.heap.size A x.i.l) :
    Calls Tryz.prog 10 #[.agg #[.int .u8 x.k, .int .u8 x.f, .int .u8 x.t, .int .u64 x.e, .int .u64 x.q, .bool x.i.g, .int .u8 x.i.o, .int .u64 x.i.q, .int .u64 x.i.t, .string x.i.r, .slice A n c, .int .u8 x.i.s, .int .u8 x.i.p, .int .i64 x.i.v, .int .u8 x.i.w, .int .u8 x.i.ga, .int .u64 x.i.gf, .int .u64 x.i.gt, .int .u64 x.c, .int .u64 x.b, .int .u64 x.l]] w fun e w' => e = .returned (.int .i64 0) ∧ Below w.heap.size w w' := by
  have hh : ¬ (31 < x.f ∨ 31 < x.t ∨ x.f = x.t) ∧ ¬ (1099511627776 < x.e ∨ 1099511627776 < x.q ∨ 1099511627776 < x.c ∨ 1099511627776 < x.l) ∧ kindN x = 0 := by
    unfold frameN at hN
    rw [if_neg (by omega)] at hN
    by_cases h1 : 31 < x.f ∨ 31 < x.t ∨ x.f = x.t
    · rw [if_pos h1] at hN; cases hN
    · rw [if_neg h1] at hN
      by_cases h2 : 1099511627776 < x.e ∨ 1099511627776 < x.q ∨ 1099511627776 < x.c ∨ 1099511627776 < x.l
      · rw [if_pos h2] at hN; cases hN
      · rw [if_neg h2] at hN; exact ⟨h1, h2, hN⟩
  obtain ⟨hn1, hn2, hn3⟩ := hh
  unfold kindN at hn3
  rw [if_pos hk] at hn3
  unfold dataN at hn3
  have hbad : ¬ (x.q = 0 ∨ x.e = 0 ∨ x.c ≠ 0 ∨ x.b ≠ 0 ∨ x.l ≠ 0) := fun h => by rw [if_pos h] at hn3; cases hn3
  have hit : itemN x.i = 0 := by rw [if_neg hbad] at hn3; exact hn3
  have q1 : decide ((x.k : Int) < 1) = false := decide_eq_false (by omega)
  have q2 : decide ((3 : Int) < x.k) = false := decide_eq_false (by omega)
  have q3 : decide ((31 : Int) < x.f) = false := decide_eq_false (by omega)
  have q4 : decide ((31 : Int) < x.t) = false := decide_eq_false (by omega)
  have q5 : ((x.f : Int) == (x.t : Int)) = false := by rw [beq_eq_false_iff_ne]; omega
  have m_e : decide ((1099511627776 : Int) < x.e) = false := decide_eq_false (by omega)
  have m_q : decide ((1099511627776 : Int) < x.q) = false := decide_eq_false (by omega)
  have t1 : ((x.k : Int) == 1) = true := by rw [beq_iff_eq]; omega
  have HZ_c : Hid (x.c = 0) := by show _ = _; omega
  have HZ_b : Hid (x.b = 0) := by show _ = _; omega
  have HZ_l : Hid (x.l = 0) := by show _ = _; omega
  have z_q : ((x.q : Int) == 0) = false := by rw [beq_eq_false_iff_ne]; omega
  have z_e : ((x.e : Int) == 0) = false := by rw [beq_eq_false_iff_ne]; omega
  have Hba := Lib.hid ((Below.refl w.heap.size w).alloc (Nat.le_refl _) (.cells #[.int .u8 x.k, .int .u8 x.f, .int .u8 x.t, .int .u64 x.e, .int .u64 x.q, .bool x.i.g, .int .u8 x.i.o, .int .u64 x.i.q, .int .u64 x.i.t, .string x.i.r, .slice A n c, .int .u8 x.i.s, .int .u8 x.i.p, .int .i64 x.i.v, .int .u8 x.i.w, .int .u8 x.i.ga, .int .u64 x.i.gf, .int .u64 x.i.gt, .int .u64 x.c, .int .u64 x.b, .int .u64 x.l] 42))
  have HX := Lib.hid (heap_alloc_new w (.cells #[.int .u8 x.k, .int .u8 x.f, .int .u8 x.t, .int .u64 x.e, .int .u64 x.q, .bool x.i.g, .int .u8 x.i.o, .int .u64 x.i.q, .int .u64 x.i.t, .string x.i.r, .slice A n c, .int .u8 x.i.s, .int .u8 x.i.p, .int .i64 x.i.v, .int .u8 x.i.w, .int .u8 x.i.ga, .int .u64 x.i.gf, .int .u64 x.i.gt, .int .u64 x.c, .int .u64 x.b, .int .u64 x.l] 42))
  have Hn := Lib.hid hn
  have Hm := Lib.hid hm
  have Hr := Lib.hid (hr.below Hba.out)
  have HOk := Lib.hid hx.i
  have HIt := Lib.hid hit
  clear hn hr hx hN hn1 hn2 hn3 hbad hk hm hit
  go_enter Tryz.func10, Tryz.ntmps10
  go_upto_region 1 with fail
  obtain ⟨W, hW⟩ : ∃ W, W = w.alloc (.cells #[.int .u8 x.k, .int .u8 x.f, .int .u8 x.t, .int .u64 x.e, .int .u64 x.q, .bool x.i.g, .int .u8 x.i.o, .int .u64 x.i.q, .int .u64 x.i.t, .string x.i.r, .slice A n c, .int .u8 x.i.s, .int .u8 x.i.p, .int .i64 x.i.v, .int .u8 x.i.w, .int .u8 x.i.ga, .int .u64 x.i.gf, .int .u64 x.i.gt, .int .u64 x.c, .int .u64 x.b, .int .u64 x.l] 42) := ⟨_, rfl⟩
  rw [← hW] at HX Hba Hr ⊢
  have hlw : w.heap.size < W.heap.size := by rw [hW]; simp
  clear hW
  have c_k := (show W.cell? ⟨w.heap.size, 0, none⟩ = some (.int .u8 x.k) from cell_of_row _ _ 0 _ _ _ HX.out)
  have c_f := (show W.cell? ⟨w.heap.size, 1, none⟩ = some (.int .u8 x.f) from cell_of_row _ _ 1 _ _ _ HX.out)
  have c_t := (show W.cell? ⟨w.heap.size, 2, none⟩ = some (.int .u8 x.t) from cell_of_row _ _ 2 _ _ _ HX.out)
  have c_e := (show W.cell? ⟨w.heap.size, 3, none⟩ = some (.int .u64 x.e) from cell_of_row _ _ 3 _ _ _ HX.out)
  have c_q := (show W.cell? ⟨w.heap.size, 4, none⟩ = some (.int .u64 x.q) from cell_of_row _ _ 4 _ _ _ HX.out)
  have c_c : W.cell? ⟨w.heap.size, 18, none⟩ = some (.int .u64 0) := (show W.cell? ⟨w.heap.size, 18, none⟩ = some (.int .u64 x.c) from cell_of_row _ _ 18 _ _ _ HX.out).trans (by rw [HZ_c.out]; rfl)
  have c_b : W.cell? ⟨w.heap.size, 19, none⟩ = some (.int .u64 0) := (show W.cell? ⟨w.heap.size, 19, none⟩ = some (.int .u64 x.b) from cell_of_row _ _ 19 _ _ _ HX.out).trans (by rw [HZ_b.out]; rfl)
  have c_l : W.cell? ⟨w.heap.size, 20, none⟩ = some (.int .u64 0) := (show W.cell? ⟨w.heap.size, 20, none⟩ = some (.int .u64 x.l) from cell_of_row _ _ 20 _ _ _ HX.out).trans (by rw [HZ_l.out]; rfl)
  have hrg := item_range HX.out
  go_upto_region 9 with fail
  go_wp2_with (first | (refine wpList_load_mid rfl _ _ rfl w.heap.size 5 rfl _ _ hrg Tryz.underlying40 rfl Tryz.infoI13 ?_) | fail)
  refine (refSame_any x.i zeroI A n c none 0 0 W Hn.out rfl Hm.out (Hr.out.more Hba.out.size) RdP.none_).mono ?_
  rintro e w2 ⟨rfl, hb2⟩
  have HX2 := Lib.hid ((hb2.block _ hlw).trans HX.out)
  have Hb2 := Lib.hid (Hba.out.trans (hb2.mono Hba.out.size))
  have Hr2 := Lib.hid ((Hr.out.more Hba.out.size).below hb2 |>.more hb2.size)
  have hlw2 : w.heap.size < w2.heap.size := by have := hb2.size; omega
  clear hb2 HX Hba Hr hrg c_k c_f c_t c_e c_q c_c c_b c_l
  have c_k := (show w2.cell? ⟨w.heap.size, 0, none⟩ = some (.int .u8 x.k) from cell_of_row _ _ 0 _ _ _ HX2.out)
  have c_f := (show w2.cell? ⟨w.heap.size, 1, none⟩ = some (.int .u8 x.f) from cell_of_row _ _ 1 _ _ _ HX2.out)
  have c_t := (show w2.cell? ⟨w.heap.size, 2, none⟩ = some (.int .u8 x.t) from cell_of_row _ _ 2 _ _ _ HX2.out)
  have c_e := (show w2.cell? ⟨w.heap.size, 3, none⟩ = some (.int .u64 x.e) from cell_of_row _ _ 3 _ _ _ HX2.out)
  have c_q := (show w2.cell? ⟨w.heap.size, 4, none⟩ = some (.int .u64 x.q) from cell_of_row _ _ 4 _ _ _ HX2.out)
  have c_c : w2.cell? ⟨w.heap.size, 18, none⟩ = some (.int .u64 0) := (show w2.cell? ⟨w.heap.size, 18, none⟩ = some (.int .u64 x.c) from cell_of_row _ _ 18 _ _ _ HX2.out).trans (by rw [HZ_c.out]; rfl)
  have c_b : w2.cell? ⟨w.heap.size, 19, none⟩ = some (.int .u64 0) := (show w2.cell? ⟨w.heap.size, 19, none⟩ = some (.int .u64 x.b) from cell_of_row _ _ 19 _ _ _ HX2.out).trans (by rw [HZ_b.out]; rfl)
  have c_l : w2.cell? ⟨w.heap.size, 20, none⟩ = some (.int .u64 0) := (show w2.cell? ⟨w.heap.size, 20, none⟩ = some (.int .u64 x.l) from cell_of_row _ _ 20 _ _ _ HX2.out).trans (by rw [HZ_l.out]; rfl)
  have hrg := item_range HX2.out
  go_upto_region 16 with fail
  go_wp2_with (first | (refine wpList_load_mid rfl _ _ rfl w.heap.size 5 rfl _ _ hrg Tryz.underlying40 rfl Tryz.infoI13 ?_) | fail)
  refine (refItem_any x.i A n c w2 Hn.out Hm.out Hr2.out HOk.out).mono ?_
  rintro e w3 ⟨rfl, hb3⟩
  rw [HIt.out]
  go_wp2
  go_ret
  exact ⟨rfl, Hb2.out.trans (hb3.mono Hb2.out.size)⟩
set_option maxRecDepth 100000 in
set_option maxHeartbeats 4000000 in
theorem fcheck_2 (x : Fr) (hk : x.k = 2) (A : Option Addr) (n c : Nat) (hx : OkF x) (hN : frameN x = 0) (hn : n = x.i.l.length) (hm : n ≤ maxLen) (w : World) (hr : RdP w w.heap.size A x.i.l) :
    Calls Tryz.prog 10 #[.agg #[.int .u8 x.k, .int .u8 x.f, .int .u8 x.t, .int .u64 x.e, .int .u64 x.q, .bool x.i.g, .int .u8 x.i.o, .int .u64 x.i.q, .int .u64 x.i.t, .string x.i.r, .slice A n c, .int .u8 x.i.s, .int .u8 x.i.p, .int .i64 x.i.v, .int .u8 x.i.w, .int .u8 x.i.ga, .int .u64 x.i.gf, .int .u64 x.i.gt, .int .u64 x.c, .int .u64 x.b, .int .u64 x.l]] w fun e w' => e = .returned (.int .i64 0) ∧ Below w.heap.size w w' := by
  have hh : ¬ (31 < x.f ∨ 31 < x.t ∨ x.f = x.t) ∧ ¬ (1099511627776 < x.e ∨ 1099511627776 < x.q ∨ 1099511627776 < x.c ∨ 1099511627776 < x.l) ∧ kindN x = 0 := by
    unfold frameN at hN
    rw [if_neg (by omega)] at hN
    by_cases h1 : 31 < x.f ∨ 31 < x.t ∨ x.f = x.t
    · rw [if_pos h1] at hN; cases hN
    · rw [if_neg h1] at hN
      by_cases h2 : 1099511627776 < x.e ∨ 1099511627776 < x.q ∨ 1099511627776 < x.c ∨ 1099511627776 < x.l
      · rw [if_pos h2] at hN; cases hN
      · rw [if_neg h2] at hN; exact ⟨h1, h2, hN⟩
  obtain ⟨hn1, hn2, hn3⟩ := hh
  unfold kindN at hn3
  rw [if_neg (by omega), if_pos hk] at hn3
  unfold ackN at hn3
  have hbad : ¬ (x.e = 0 ∨ x.l = 0 ∨ x.q ≠ 0 ∨ sameI x.i zeroI = false) := fun h => by rw [if_pos h] at hn3; cases hn3
  have hsm : sameI x.i zeroI = true := by
    cases h : sameI x.i zeroI with
    | true => rfl
    | false => exact absurd (by simp [h]) hbad
  have q1 : decide ((x.k : Int) < 1) = false := decide_eq_false (by omega)
  have q2 : decide ((3 : Int) < x.k) = false := decide_eq_false (by omega)
  have q3 : decide ((31 : Int) < x.f) = false := decide_eq_false (by omega)
  have q4 : decide ((31 : Int) < x.t) = false := decide_eq_false (by omega)
  have q5 : ((x.f : Int) == (x.t : Int)) = false := by rw [beq_eq_false_iff_ne]; omega
  have m_e : decide ((1099511627776 : Int) < x.e) = false := decide_eq_false (by omega)
  have m_c : decide ((1099511627776 : Int) < x.c) = false := decide_eq_false (by omega)
  have m_l : decide ((1099511627776 : Int) < x.l) = false := decide_eq_false (by omega)
  have t1 : ((x.k : Int) == 1) = false := by rw [beq_eq_false_iff_ne]; omega
  have t2 : ((x.k : Int) == 2) = true := by rw [beq_iff_eq]; omega
  have HZ_q : Hid (x.q = 0) := by show _ = _; omega
  have z_e : ((x.e : Int) == 0) = false := by rw [beq_eq_false_iff_ne]; omega
  have z_l : ((x.l : Int) == 0) = false := by rw [beq_eq_false_iff_ne]; omega
  have Hba := Lib.hid ((Below.refl w.heap.size w).alloc (Nat.le_refl _) (.cells #[.int .u8 x.k, .int .u8 x.f, .int .u8 x.t, .int .u64 x.e, .int .u64 x.q, .bool x.i.g, .int .u8 x.i.o, .int .u64 x.i.q, .int .u64 x.i.t, .string x.i.r, .slice A n c, .int .u8 x.i.s, .int .u8 x.i.p, .int .i64 x.i.v, .int .u8 x.i.w, .int .u8 x.i.ga, .int .u64 x.i.gf, .int .u64 x.i.gt, .int .u64 x.c, .int .u64 x.b, .int .u64 x.l] 42))
  have HX := Lib.hid (heap_alloc_new w (.cells #[.int .u8 x.k, .int .u8 x.f, .int .u8 x.t, .int .u64 x.e, .int .u64 x.q, .bool x.i.g, .int .u8 x.i.o, .int .u64 x.i.q, .int .u64 x.i.t, .string x.i.r, .slice A n c, .int .u8 x.i.s, .int .u8 x.i.p, .int .i64 x.i.v, .int .u8 x.i.w, .int .u8 x.i.ga, .int .u64 x.i.gf, .int .u64 x.i.gt, .int .u64 x.c, .int .u64 x.b, .int .u64 x.l] 42))
  have Hn := Lib.hid hn
  have Hm := Lib.hid hm
  have Hr := Lib.hid (hr.below Hba.out)
  have HOk := Lib.hid hx.i
  have HSm := Lib.hid hsm
  clear hn hr hx hN hn1 hn2 hn3 hbad hk hm hsm
  go_enter Tryz.func10, Tryz.ntmps10
  go_upto_region 1 with fail
  obtain ⟨W, hW⟩ : ∃ W, W = w.alloc (.cells #[.int .u8 x.k, .int .u8 x.f, .int .u8 x.t, .int .u64 x.e, .int .u64 x.q, .bool x.i.g, .int .u8 x.i.o, .int .u64 x.i.q, .int .u64 x.i.t, .string x.i.r, .slice A n c, .int .u8 x.i.s, .int .u8 x.i.p, .int .i64 x.i.v, .int .u8 x.i.w, .int .u8 x.i.ga, .int .u64 x.i.gf, .int .u64 x.i.gt, .int .u64 x.c, .int .u64 x.b, .int .u64 x.l] 42) := ⟨_, rfl⟩
  rw [← hW] at HX Hba Hr ⊢
  have hlw : w.heap.size < W.heap.size := by rw [hW]; simp
  clear hW
  have c_k := (show W.cell? ⟨w.heap.size, 0, none⟩ = some (.int .u8 x.k) from cell_of_row _ _ 0 _ _ _ HX.out)
  have c_f := (show W.cell? ⟨w.heap.size, 1, none⟩ = some (.int .u8 x.f) from cell_of_row _ _ 1 _ _ _ HX.out)
  have c_t := (show W.cell? ⟨w.heap.size, 2, none⟩ = some (.int .u8 x.t) from cell_of_row _ _ 2 _ _ _ HX.out)
  have c_e := (show W.cell? ⟨w.heap.size, 3, none⟩ = some (.int .u64 x.e) from cell_of_row _ _ 3 _ _ _ HX.out)
  have c_q : W.cell? ⟨w.heap.size, 4, none⟩ = some (.int .u64 0) := (show W.cell? ⟨w.heap.size, 4, none⟩ = some (.int .u64 x.q) from cell_of_row _ _ 4 _ _ _ HX.out).trans (by rw [HZ_q.out]; rfl)
  have c_c := (show W.cell? ⟨w.heap.size, 18, none⟩ = some (.int .u64 x.c) from cell_of_row _ _ 18 _ _ _ HX.out)
  have c_b := (show W.cell? ⟨w.heap.size, 19, none⟩ = some (.int .u64 x.b) from cell_of_row _ _ 19 _ _ _ HX.out)
  have c_l := (show W.cell? ⟨w.heap.size, 20, none⟩ = some (.int .u64 x.l) from cell_of_row _ _ 20 _ _ _ HX.out)
  have hrg := item_range HX.out
  go_upto_region 9 with fail
  go_wp2_with (first | (refine wpList_load_mid rfl _ _ rfl w.heap.size 5 rfl _ _ hrg Tryz.underlying40 rfl Tryz.infoI13 ?_) | fail)
  refine (refSame_any x.i zeroI A n c none 0 0 W Hn.out rfl Hm.out (Hr.out.more Hba.out.size) RdP.none_).mono ?_
  rintro e w2 ⟨rfl, hb2⟩
  have HX2 := Lib.hid ((hb2.block _ hlw).trans HX.out)
  have Hb2 := Lib.hid (Hba.out.trans (hb2.mono Hba.out.size))
  rw [HSm.out]
  clear hb2 HX Hba Hr hrg c_k c_f c_t c_e c_q c_c c_b c_l
  have c_k := (show w2.cell? ⟨w.heap.size, 0, none⟩ = some (.int .u8 x.k) from cell_of_row _ _ 0 _ _ _ HX2.out)
  have c_f := (show w2.cell? ⟨w.heap.size, 1, none⟩ = some (.int .u8 x.f) from cell_of_row _ _ 1 _ _ _ HX2.out)
  have c_t := (show w2.cell? ⟨w.heap.size, 2, none⟩ = some (.int .u8 x.t) from cell_of_row _ _ 2 _ _ _ HX2.out)
  have c_e := (show w2.cell? ⟨w.heap.size, 3, none⟩ = some (.int .u64 x.e) from cell_of_row _ _ 3 _ _ _ HX2.out)
  have c_q : w2.cell? ⟨w.heap.size, 4, none⟩ = some (.int .u64 0) := (show w2.cell? ⟨w.heap.size, 4, none⟩ = some (.int .u64 x.q) from cell_of_row _ _ 4 _ _ _ HX2.out).trans (by rw [HZ_q.out]; rfl)
  have c_c := (show w2.cell? ⟨w.heap.size, 18, none⟩ = some (.int .u64 x.c) from cell_of_row _ _ 18 _ _ _ HX2.out)
  have c_b := (show w2.cell? ⟨w.heap.size, 19, none⟩ = some (.int .u64 x.b) from cell_of_row _ _ 19 _ _ _ HX2.out)
  have c_l := (show w2.cell? ⟨w.heap.size, 20, none⟩ = some (.int .u64 x.l) from cell_of_row _ _ 20 _ _ _ HX2.out)
  go_wp2
  go_ret
  exact ⟨rfl, Hb2.out⟩
set_option maxRecDepth 100000 in
set_option maxHeartbeats 4000000 in
theorem fcheck_3 (x : Fr) (hk : x.k = 3) (A : Option Addr) (n c : Nat) (hx : OkF x) (hN : frameN x = 0) (hn : n = x.i.l.length) (hm : n ≤ maxLen) (w : World) (hr : RdP w w.heap.size A x.i.l) :
    Calls Tryz.prog 10 #[.agg #[.int .u8 x.k, .int .u8 x.f, .int .u8 x.t, .int .u64 x.e, .int .u64 x.q, .bool x.i.g, .int .u8 x.i.o, .int .u64 x.i.q, .int .u64 x.i.t, .string x.i.r, .slice A n c, .int .u8 x.i.s, .int .u8 x.i.p, .int .i64 x.i.v, .int .u8 x.i.w, .int .u8 x.i.ga, .int .u64 x.i.gf, .int .u64 x.i.gt, .int .u64 x.c, .int .u64 x.b, .int .u64 x.l]] w fun e w' => e = .returned (.int .i64 0) ∧ Below w.heap.size w w' := by
  have hh : ¬ (31 < x.f ∨ 31 < x.t ∨ x.f = x.t) ∧ ¬ (1099511627776 < x.e ∨ 1099511627776 < x.q ∨ 1099511627776 < x.c ∨ 1099511627776 < x.l) ∧ kindN x = 0 := by
    unfold frameN at hN
    rw [if_neg (by omega)] at hN
    by_cases h1 : 31 < x.f ∨ 31 < x.t ∨ x.f = x.t
    · rw [if_pos h1] at hN; cases hN
    · rw [if_neg h1] at hN
      by_cases h2 : 1099511627776 < x.e ∨ 1099511627776 < x.q ∨ 1099511627776 < x.c ∨ 1099511627776 < x.l
      · rw [if_pos h2] at hN; cases hN
      · rw [if_neg h2] at hN; exact ⟨h1, h2, hN⟩
  obtain ⟨hn1, hn2, hn3⟩ := hh
  unfold kindN at hn3
  rw [if_neg (by omega), if_neg (by omega)] at hn3
  unfold aliveN at hn3
  have hbad : ¬ (x.e ≠ 0 ∨ x.q ≠ 0 ∨ x.c ≠ 0 ∨ x.b ≠ 0 ∨ x.l ≠ 0 ∨ sameI x.i zeroI = false) := fun h => by rw [if_pos h] at hn3; cases hn3
  have hsm : sameI x.i zeroI = true := by
    cases h : sameI x.i zeroI with
    | true => rfl
    | false => exact absurd (by simp [h]) hbad
  have q1 : decide ((x.k : Int) < 1) = false := decide_eq_false (by omega)
  have q2 : decide ((3 : Int) < x.k) = false := decide_eq_false (by omega)
  have q3 : decide ((31 : Int) < x.f) = false := decide_eq_false (by omega)
  have q4 : decide ((31 : Int) < x.t) = false := decide_eq_false (by omega)
  have q5 : ((x.f : Int) == (x.t : Int)) = false := by rw [beq_eq_false_iff_ne]; omega
  have t1 : ((x.k : Int) == 1) = false := by rw [beq_eq_false_iff_ne]; omega
  have t2 : ((x.k : Int) == 2) = false := by rw [beq_eq_false_iff_ne]; omega
  have HZ_e : Hid (x.e = 0) := by show _ = _; omega
  have HZ_q : Hid (x.q = 0) := by show _ = _; omega
  have HZ_c : Hid (x.c = 0) := by show _ = _; omega
  have HZ_b : Hid (x.b = 0) := by show _ = _; omega
  have HZ_l : Hid (x.l = 0) := by show _ = _; omega
  have Hba := Lib.hid ((Below.refl w.heap.size w).alloc (Nat.le_refl _) (.cells #[.int .u8 x.k, .int .u8 x.f, .int .u8 x.t, .int .u64 x.e, .int .u64 x.q, .bool x.i.g, .int .u8 x.i.o, .int .u64 x.i.q, .int .u64 x.i.t, .string x.i.r, .slice A n c, .int .u8 x.i.s, .int .u8 x.i.p, .int .i64 x.i.v, .int .u8 x.i.w, .int .u8 x.i.ga, .int .u64 x.i.gf, .int .u64 x.i.gt, .int .u64 x.c, .int .u64 x.b, .int .u64 x.l] 42))
  have HX := Lib.hid (heap_alloc_new w (.cells #[.int .u8 x.k, .int .u8 x.f, .int .u8 x.t, .int .u64 x.e, .int .u64 x.q, .bool x.i.g, .int .u8 x.i.o, .int .u64 x.i.q, .int .u64 x.i.t, .string x.i.r, .slice A n c, .int .u8 x.i.s, .int .u8 x.i.p, .int .i64 x.i.v, .int .u8 x.i.w, .int .u8 x.i.ga, .int .u64 x.i.gf, .int .u64 x.i.gt, .int .u64 x.c, .int .u64 x.b, .int .u64 x.l] 42))
  have Hn := Lib.hid hn
  have Hm := Lib.hid hm
  have Hr := Lib.hid (hr.below Hba.out)
  have HOk := Lib.hid hx.i
  have HSm := Lib.hid hsm
  clear hn hr hx hN hn1 hn2 hn3 hbad hk hm hsm
  go_enter Tryz.func10, Tryz.ntmps10
  go_upto_region 1 with fail
  obtain ⟨W, hW⟩ : ∃ W, W = w.alloc (.cells #[.int .u8 x.k, .int .u8 x.f, .int .u8 x.t, .int .u64 x.e, .int .u64 x.q, .bool x.i.g, .int .u8 x.i.o, .int .u64 x.i.q, .int .u64 x.i.t, .string x.i.r, .slice A n c, .int .u8 x.i.s, .int .u8 x.i.p, .int .i64 x.i.v, .int .u8 x.i.w, .int .u8 x.i.ga, .int .u64 x.i.gf, .int .u64 x.i.gt, .int .u64 x.c, .int .u64 x.b, .int .u64 x.l] 42) := ⟨_, rfl⟩
  rw [← hW] at HX Hba Hr ⊢
  have hlw : w.heap.size < W.heap.size := by rw [hW]; simp
  clear hW
  have c_k := (show W.cell? ⟨w.heap.size, 0, none⟩ = some (.int .u8 x.k) from cell_of_row _ _ 0 _ _ _ HX.out)
  have c_f := (show W.cell? ⟨w.heap.size, 1, none⟩ = some (.int .u8 x.f) from cell_of_row _ _ 1 _ _ _ HX.out)
  have c_t := (show W.cell? ⟨w.heap.size, 2, none⟩ = some (.int .u8 x.t) from cell_of_row _ _ 2 _ _ _ HX.out)
  have c_e : W.cell? ⟨w.heap.size, 3, none⟩ = some (.int .u64 0) := (show W.cell? ⟨w.heap.size, 3, none⟩ = some (.int .u64 x.e) from cell_of_row _ _ 3 _ _ _ HX.out).trans (by rw [HZ_e.out]; rfl)
  have c_q : W.cell? ⟨w.heap.size, 4, none⟩ = some (.int .u64 0) := (show W.cell? ⟨w.heap.size, 4, none⟩ = some (.int .u64 x.q) from cell_of_row _ _ 4 _ _ _ HX.out).trans (by rw [HZ_q.out]; rfl)
  have c_c : W.cell? ⟨w.heap.size, 18, none⟩ = some (.int .u64 0) := (show W.cell? ⟨w.heap.size, 18, none⟩ = some (.int .u64 x.c) from cell_of_row _ _ 18 _ _ _ HX.out).trans (by rw [HZ_c.out]; rfl)
  have c_b : W.cell? ⟨w.heap.size, 19, none⟩ = some (.int .u64 0) := (show W.cell? ⟨w.heap.size, 19, none⟩ = some (.int .u64 x.b) from cell_of_row _ _ 19 _ _ _ HX.out).trans (by rw [HZ_b.out]; rfl)
  have c_l : W.cell? ⟨w.heap.size, 20, none⟩ = some (.int .u64 0) := (show W.cell? ⟨w.heap.size, 20, none⟩ = some (.int .u64 x.l) from cell_of_row _ _ 20 _ _ _ HX.out).trans (by rw [HZ_l.out]; rfl)
  have hrg := item_range HX.out
  go_upto_region 9 with fail
  go_wp2_with (first | (refine wpList_load_mid rfl _ _ rfl w.heap.size 5 rfl _ _ hrg Tryz.underlying40 rfl Tryz.infoI13 ?_) | fail)
  refine (refSame_any x.i zeroI A n c none 0 0 W Hn.out rfl Hm.out (Hr.out.more Hba.out.size) RdP.none_).mono ?_
  rintro e w2 ⟨rfl, hb2⟩
  have HX2 := Lib.hid ((hb2.block _ hlw).trans HX.out)
  have Hb2 := Lib.hid (Hba.out.trans (hb2.mono Hba.out.size))
  rw [HSm.out]
  clear hb2 HX Hba Hr hrg c_k c_f c_t c_e c_q c_c c_b c_l
  have c_k := (show w2.cell? ⟨w.heap.size, 0, none⟩ = some (.int .u8 x.k) from cell_of_row _ _ 0 _ _ _ HX2.out)
  have c_f := (show w2.cell? ⟨w.heap.size, 1, none⟩ = some (.int .u8 x.f) from cell_of_row _ _ 1 _ _ _ HX2.out)
  have c_t := (show w2.cell? ⟨w.heap.size, 2, none⟩ = some (.int .u8 x.t) from cell_of_row _ _ 2 _ _ _ HX2.out)
  have c_e : w2.cell? ⟨w.heap.size, 3, none⟩ = some (.int .u64 0) := (show w2.cell? ⟨w.heap.size, 3, none⟩ = some (.int .u64 x.e) from cell_of_row _ _ 3 _ _ _ HX2.out).trans (by rw [HZ_e.out]; rfl)
  have c_q : w2.cell? ⟨w.heap.size, 4, none⟩ = some (.int .u64 0) := (show w2.cell? ⟨w.heap.size, 4, none⟩ = some (.int .u64 x.q) from cell_of_row _ _ 4 _ _ _ HX2.out).trans (by rw [HZ_q.out]; rfl)
  have c_c : w2.cell? ⟨w.heap.size, 18, none⟩ = some (.int .u64 0) := (show w2.cell? ⟨w.heap.size, 18, none⟩ = some (.int .u64 x.c) from cell_of_row _ _ 18 _ _ _ HX2.out).trans (by rw [HZ_c.out]; rfl)
  have c_b : w2.cell? ⟨w.heap.size, 19, none⟩ = some (.int .u64 0) := (show w2.cell? ⟨w.heap.size, 19, none⟩ = some (.int .u64 x.b) from cell_of_row _ _ 19 _ _ _ HX2.out).trans (by rw [HZ_b.out]; rfl)
  have c_l : w2.cell? ⟨w.heap.size, 20, none⟩ = some (.int .u64 0) := (show w2.cell? ⟨w.heap.size, 20, none⟩ = some (.int .u64 x.l) from cell_of_row _ _ 20 _ _ _ HX2.out).trans (by rw [HZ_l.out]; rfl)
  go_wp2
  go_ret
  exact ⟨rfl, Hb2.out⟩
theorem fcheck_any (x : Fr) (A : Option Addr) (n c : Nat) (hx : OkF x) (hN : frameN x = 0) (hn : n = x.i.l.length) (hm : n ≤ maxLen) (w : World) (hr : RdP w w.heap.size A x.i.l) :
    Calls Tryz.prog 10 #[.agg #[.int .u8 x.k, .int .u8 x.f, .int .u8 x.t, .int .u64 x.e, .int .u64 x.q, .bool x.i.g, .int .u8 x.i.o, .int .u64 x.i.q, .int .u64 x.i.t, .string x.i.r, .slice A n c, .int .u8 x.i.s, .int .u8 x.i.p, .int .i64 x.i.v, .int .u8 x.i.w, .int .u8 x.i.ga, .int .u64 x.i.gf, .int .u64 x.i.gt, .int .u64 x.c, .int .u64 x.b, .int .u64 x.l]] w fun e w' => e = .returned (.int .i64 0) ∧ Below w.heap.size w w' := by
  by_cases h1 : x.k = 1
  · exact fcheck_1 x h1 A n c hx hN hn hm w hr
  · by_cases h2 : x.k = 2
    · exact fcheck_2 x h2 A n c hx hN hn hm w hr
    · by_cases h3 : x.k = 3
      · exact fcheck_3 x h3 A n c hx hN hn hm w hr
      · unfold frameN at hN; rw [if_pos ⟨h1, h2, h3⟩] at hN; cases hN
end Go.Proofs.YtnagmopejblegaaGreat
