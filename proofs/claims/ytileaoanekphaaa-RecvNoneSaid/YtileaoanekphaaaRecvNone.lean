/- Layer 11: RecvNone's walk. -/
import Derived.Test.YtileaoanekphaaaRvAwk
import Derived.Test.YtileaoanekphaaaItRefCheck
namespace Go.Proofs.Ytileaoanekphaaa
open Go.RowKit
set_option maxRecDepth 100000 in
set_option maxHeartbeats 400000 in
theorem rpeek_nil (w : World) : Calls Try.prog 14 #[.pointer none] w fun e w' => e = .returned (.tuple #[.agg #[.bool false, .int .u8 0, .int .u64 0, .int .u64 0, .string ⟨#[]⟩, .slice none 0 0, .int .u8 0, .int .u8 0, .int .i64 0, .int .u8 0, .int .u8 0, .int .u64 0, .int .u64 0], .bool false]) ∧ Below w.heap.size w w' := by
  obtain ⟨V, hV, hc, hbV, hlV⟩ := boxZ w
  have HV := Lib.hid hV
  have HC := Lib.hid (⟨hc, hbV, hlV⟩ : _ ∧ _ ∧ _)
  clear hV hc hbV hlV
  go_enter Try.func14, Try.ntmps14
  go_upto_region 1 with fail
  rw [← HV.out]
  go_wp2_with (refine wpList_store_row rfl _ _ _ rfl w.heap.size _ rfl rfl _ _ HC.out.1 Try.infoI rfl (by simp [Value.oneCell']) ?_)
  refine bodyPost_ret (v := .tuple #[.agg #[.bool false, .int .u8 0, .int .u64 0, .int .u64 0, .string ⟨#[]⟩, .slice none 0 0, .int .u8 0, .int .u8 0, .int .i64 0, .int .u8 0, .int .u8 0, .int .u64 0, .int .u64 0], .bool false]) ?_ rfl ⟨rfl, ?_⟩
  · exact results_cell_two rfl _ _ w.heap.size _ _ _ _ rfl rfl (setRow_heap _ _ _ _ _ _ HC.out.1) Try.underlying43 rfl (by kernel_rfl)
  · exact below_setRow HC.out.2.1 (Nat.le_refl _) _
namespace recvNone
set_option maxRecDepth 100000 in
set_option maxHeartbeats 4000000 in
theorem walk_look (z : Int) (q : Nat) (x : It) (A : Option Addr) (n c : Nat) (hok : OkI x) (hn : n = x.l.length) (hm : n ≤ 12) (hA : A = none → n = 0) (w : World) (hr : RdP w w.heap.size A x.l) (hz : z < 1) (hc : itemN x = 0) :
    Calls Try.prog 6 #[.int .i64 z, .int .u64 q, .agg #[.bool x.g, .int .u8 x.o, .int .u64 x.q, .int .u64 x.t, .string x.r, .slice A n c, .int .u8 x.s, .int .u8 x.p, .int .i64 x.v, .int .u8 x.w, .int .u8 x.ga, .int .u64 x.gf, .int .u64 x.gt]] w fun e w' => e = .returned (.bool true) ∧ Below w.heap.size w w' := by
  obtain ⟨V, hV⟩ : ∃ V, V = w.alloc (.cells #[.bool x.g, .int .u8 x.o, .int .u64 x.q, .int .u64 x.t, .string x.r, .slice A n c, .int .u8 x.s, .int .u8 x.p, .int .i64 x.v, .int .u8 x.w, .int .u8 x.ga, .int .u64 x.gf, .int .u64 x.gt] 43) := ⟨_, rfl⟩
  have hbV : Below w.heap.size w V := by rw [hV]; exact (Below.refl _ _).alloc (Nat.le_refl _) _
  have hcV : V.heap[w.heap.size]? = some (.cells #[.bool x.g, .int .u8 x.o, .int .u64 x.q, .int .u64 x.t, .string x.r, .slice A n c, .int .u8 x.s, .int .u8 x.p, .int .i64 x.v, .int .u8 x.w, .int .u8 x.ga, .int .u64 x.gf, .int .u64 x.gt] 43 (0, 0)) := by rw [hV]; exact heap_alloc_new _ _
  have hlV : w.heap.size < V.heap.size := by rw [hV]; simp
  have HV := Lib.hid hV
  have HX := Lib.hid (⟨hok, hn, hm, hA, hr⟩ : _ ∧ _ ∧ _ ∧ _ ∧ _)
  have HC := Lib.hid hc
  have HAW := Lib.hid (awake11_any V)
  have HBV := Lib.hid (⟨hbV, hlV⟩ : _ ∧ _)
  have HCV := Lib.hid hcV
  have d0 : decide (12 < n) = false := decide_eq_false (by omega)
  have d1 : decide ((12 : Int) < (n : Int)) = false := decide_eq_false (by omega)
  have z1 : decide (1 ≤ z) = false := decide_eq_false (by omega)
  have HZ := Lib.hid (show z < 1 ∨ 64 < z from .inl hz)
  clear hok hn hm hA hr hz hc hV hbV hcV hlV
  go_enter Try.func6, Try.ntmps6
  go_upto_region 1 with fail
  rw [← HV.out]
  go_wp2_with fail
  refine HAW.out.mono ?_
  rintro _ w1 ⟨rfl, hb1⟩
  have HC1 := Lib.hid ((hb1.block _ HBV.out.2).trans HCV.out)
  have c5 : w1.cell? ⟨w.heap.size, 5, none⟩ = some (.slice A n c) := cell_of_row _ _ 5 _ _ _ HC1.out
  have HB1 := Lib.hid (HBV.out.1.trans (hb1.mono HBV.out.1.size))
  have HL1 := Lib.hid (Nat.lt_of_lt_of_le HBV.out.2 hb1.size)
  clear hb1 HCV HAW HBV HV
  go_upto_region 5 with fail
  clear d0 d1 c5
  go_wp2_with fail
  refine (rnew_wrong z HZ.out w1).mono ?_
  rintro _ w2 ⟨rfl, hw2⟩
  have hb2 : Below w1.heap.size w1 w2 := hw2 ▸ Below.refl _ _
  clear hw2
  have HC2 := Lib.hid ((hb2.block _ HL1.out).trans HC1.out)
  have HB2 := Lib.hid (HB1.out.trans (hb2.mono HB1.out.size))
  have HL2 := Lib.hid (Nat.lt_of_lt_of_le HL1.out hb2.size)
  clear hb2 HC1 HB1 HL1
  go_wp2_with fail
  refine (rpeek_nil w2).mono ?_
  rintro _ w3 ⟨rfl, hb3⟩
  have hb3' : Below w2.heap.size w2 w3 := hb3
  clear hb3
  go_upto_region 8 with (first | (refine wpList_store_row rfl _ _ _ rfl w3.heap.size #[.bool false, .int .u8 0, .int .u64 0, .int .u64 0, .string ⟨#[]⟩, .slice none 0 0, .int .u8 0, .int .u8 0, .int .i64 0, .int .u8 0, .int .u8 0, .int .u64 0, .int .u64 0] rfl rfl _ _ (heap_alloc_new _ _) Try.infoIt rfl (by simp [Value.oneCell']) ?_) | fail)
  obtain ⟨w4, hw4, -, hb4, -⟩ := boxI w3 #[.bool false, .int .u8 0, .int .u64 0, .int .u64 0, .string ⟨#[]⟩, .slice none 0 0, .int .u8 0, .int .u8 0, .int .i64 0, .int .u8 0, .int .u8 0, .int .u64 0, .int .u64 0] #[.bool false, .int .u8 0, .int .u64 0, .int .u64 0, .string ⟨#[]⟩, .slice none 0 0, .int .u8 0, .int .u8 0, .int .i64 0, .int .u8 0, .int .u8 0, .int .u64 0, .int .u64 0]
  rw [← hw4]
  have hb34 := hb3'.trans (hb4.mono hb3'.size)
  have HC4 := Lib.hid ((hb34.block _ HL2.out).trans HC2.out)
  have HB4 := Lib.hid (HB2.out.trans (hb34.mono HB2.out.size))
  have HL4 := Lib.hid (Nat.lt_of_lt_of_le HL2.out hb34.size)
  clear hb3' hw4 hb4 hb34 HC2 HB2 HL2
  go_wp2_with fail
  refine (rack_nil w4).mono ?_
  rintro _ _ ⟨rfl, rfl⟩
  go_wp2_with fail
  refine (rcounts_nil w4).mono ?_
  rintro _ _ ⟨rfl, rfl⟩
  go_wp2_with fail
  refine (rnew_any 1 (by decide) (by decide) w4).mono ?_
  rintro _ w5 ⟨rfl, hr5, hb5⟩
  obtain ⟨s, hs⟩ : ∃ s, s = w4.heap.size + 1 := ⟨_, rfl⟩
  obtain ⟨m, hmm⟩ : ∃ m, m = w4.heap.size := ⟨_, rfl⟩
  rw [← hs] at hr5 ⊢
  rw [← hmm] at hr5
  have HSM : Hid ((w.heap.size ≤ s ∧ w.heap.size ≤ m) ∧ w.heap.size ≠ s ∧ w.heap.size ≠ m) := by
    have h1 := HL4.out
    exact ⟨⟨by omega, by omega⟩, by omega, by omega⟩
  have HR5 := Lib.hid hr5
  have HC5 := Lib.hid ((hb5.block _ HL4.out).trans HC4.out)
  have HB5 := Lib.hid (HB4.out.trans (hb5.mono HB4.out.size))
  have HL5 := Lib.hid (Nat.lt_of_lt_of_le HL4.out hb5.size)
  have HRI := Lib.hid (refItem_any x A n c w5 HX.out.2.1 (by have := HX.out.2.2.1; unfold maxLen; omega) ((HX.out.2.2.2.2.below HB5.out).more HB5.out.size) HX.out.1)
  clear hr5 hb5 hs hmm HC4 HB4 HL4
  go_wp2_with (first
    | (refine wpList_load_row rfl _ _ rfl w.heap.size rfl _ _ _ _ HC5.out Try.underlying43 rfl (by kernel_rfl) ?_)
    | fail)
  refine HRI.out.mono ?_
  rintro _ w6 ⟨rfl, hb6⟩
  have HR6 := Lib.hid (HR5.out.below hb6)
  have HC6 := Lib.hid ((hb6.block _ HL5.out).trans HC5.out)
  have HB6 := Lib.hid (HB5.out.trans (hb6.mono HB5.out.size))
  have HL6 := Lib.hid (Nat.lt_of_lt_of_le HL5.out hb6.size)
  clear hb6 HRI HR5 HC5 HB5 HL5
  rw [HC.out]
  have hr6 := range_of_row (cs := [.bool x.g, .int .u8 x.o, .int .u64 x.q, .int .u64 x.t, .string x.r, .slice A n c, .int .u8 x.s, .int .u8 x.p, .int .i64 x.v, .int .u8 x.w, .int .u8 x.ga, .int .u64 x.gf, .int .u64 x.gt]) HC6.out
  go_wp2_with (first
    | ((with_reducible refine wpList_at8 (op := ⟨some 79, _, _, _, _, _⟩) ?_); refine wpList_load_wanted8 (by rfl) _ _ rfl w.heap.size 0 rfl [.bool x.g, .int .u8 x.o, .int .u64 x.q, .int .u64 x.t, .string x.r, .slice A n c, .int .u8 x.s, .int .u8 x.p, .int .i64 x.v, .int .u8 x.w, .int .u8 x.ga, .int .u64 x.gf, .int .u64 x.gt] _ hr6 Try.underlying43 rfl Try.infoIt ?_)
    | fail)
  clear hr6
  refine (rtake_nil q x A n c w6).mono ?_
  rintro _ w7 ⟨rfl, hb7⟩
  have HR7 := Lib.hid (HR6.out.below hb7)
  have HC7 := Lib.hid ((hb7.block _ HL6.out).trans HC6.out)
  have HB7 := Lib.hid (HB6.out.trans (hb7.mono HB6.out.size))
  clear hb7 HR6 HC6 HB6 HL6
  go_wp2_with fail
  refine (rnext_nil w7).mono ?_
  rintro _ _ ⟨rfl, rfl⟩
  have HT := Lib.hid (rtake_ok (q := 1) (n := 1) (x := x) (A := A) (N := n) (c := c) w7 HR7.out rfl (by decide) (by decide) (by decide) (by decide) (by decide) rfl (by decide) HC.out HX.out.2.1 HX.out.2.2.2.1 (by have := HX.out.2.2.1; omega) ((HX.out.2.2.2.2.below HB7.out).more HB7.out.size))
  have hr7 := range_of_row (cs := [.bool x.g, .int .u8 x.o, .int .u64 x.q, .int .u64 x.t, .string x.r, .slice A n c, .int .u8 x.s, .int .u8 x.p, .int .i64 x.v, .int .u8 x.w, .int .u8 x.ga, .int .u64 x.gf, .int .u64 x.gt]) HC7.out
  go_wp2_with (first
    | ((with_reducible refine wpList_at8 (op := ⟨some 108, _, _, _, _, _⟩) ?_); refine wpList_load_wanted8 (by rfl) _ _ rfl w.heap.size 0 rfl [.bool x.g, .int .u8 x.o, .int .u64 x.q, .int .u64 x.t, .string x.r, .slice A n c, .int .u8 x.s, .int .u8 x.p, .int .i64 x.v, .int .u8 x.w, .int .u8 x.ga, .int .u64 x.gf, .int .u64 x.gt] _ hr7 Try.underlying43 rfl Try.infoIt ?_)
    | fail)
  clear hr7
  refine HT.out.mono ?_
  rintro _ w8 ⟨rfl, A8, c8, hr8, -, ho8⟩
  have HN8 := Lib.hid (rnext_some (n := 1) (x := ⟨x, A8, c8⟩) w8 hr8 rfl (by decide) rfl)
  have HB8 := Lib.hid (only_two_below HB7.out ho8 HSM.out.1.1 HSM.out.1.2)
  clear hr8 ho8 HT HR7 HC7 HB7
  go_wp2_with fail
  refine HN8.out.mono ?_
  rintro _ w9 ⟨rfl, -, ho9⟩
  have HB9 := Lib.hid (only_two_below HB8.out ho9 HSM.out.1.1 HSM.out.1.2)
  clear ho9 HN8 HB8
  go_wp2
  go_ret
  exact ⟨rfl, HB9.out⟩
set_option maxRecDepth 100000 in
set_option maxHeartbeats 4000000 in
theorem walk_lono (z : Int) (q : Nat) (x : It) (A : Option Addr) (n c : Nat) (hok : OkI x) (hn : n = x.l.length) (hm : n ≤ 12) (hA : A = none → n = 0) (w : World) (hr : RdP w w.heap.size A x.l) (hz : z < 1) (hc : itemN x ≠ 0) :
    Calls Try.prog 6 #[.int .i64 z, .int .u64 q, .agg #[.bool x.g, .int .u8 x.o, .int .u64 x.q, .int .u64 x.t, .string x.r, .slice A n c, .int .u8 x.s, .int .u8 x.p, .int .i64 x.v, .int .u8 x.w, .int .u8 x.ga, .int .u64 x.gf, .int .u64 x.gt]] w fun e w' => e = .returned (.bool true) ∧ Below w.heap.size w w' := by
  obtain ⟨V, hV⟩ : ∃ V, V = w.alloc (.cells #[.bool x.g, .int .u8 x.o, .int .u64 x.q, .int .u64 x.t, .string x.r, .slice A n c, .int .u8 x.s, .int .u8 x.p, .int .i64 x.v, .int .u8 x.w, .int .u8 x.ga, .int .u64 x.gf, .int .u64 x.gt] 43) := ⟨_, rfl⟩
  have hbV : Below w.heap.size w V := by rw [hV]; exact (Below.refl _ _).alloc (Nat.le_refl _) _
  have hcV : V.heap[w.heap.size]? = some (.cells #[.bool x.g, .int .u8 x.o, .int .u64 x.q, .int .u64 x.t, .string x.r, .slice A n c, .int .u8 x.s, .int .u8 x.p, .int .i64 x.v, .int .u8 x.w, .int .u8 x.ga, .int .u64 x.gf, .int .u64 x.gt] 43 (0, 0)) := by rw [hV]; exact heap_alloc_new _ _
  have hlV : w.heap.size < V.heap.size := by rw [hV]; simp
  have HV := Lib.hid hV
  have HX := Lib.hid (⟨hok, hn, hm, hA, hr⟩ : _ ∧ _ ∧ _ ∧ _ ∧ _)
  have HC := Lib.hid hc
  have HAW := Lib.hid (awake11_any V)
  have HBV := Lib.hid (⟨hbV, hlV⟩ : _ ∧ _)
  have HCV := Lib.hid hcV
  have d0 : decide (12 < n) = false := decide_eq_false (by omega)
  have d1 : decide ((12 : Int) < (n : Int)) = false := decide_eq_false (by omega)
  have z1 : decide (1 ≤ z) = false := decide_eq_false (by omega)
  have HZ := Lib.hid (show z < 1 ∨ 64 < z from .inl hz)
  clear hok hn hm hA hr hz hc hV hbV hcV hlV
  go_enter Try.func6, Try.ntmps6
  go_upto_region 1 with fail
  rw [← HV.out]
  go_wp2_with fail
  refine HAW.out.mono ?_
  rintro _ w1 ⟨rfl, hb1⟩
  have HC1 := Lib.hid ((hb1.block _ HBV.out.2).trans HCV.out)
  have c5 : w1.cell? ⟨w.heap.size, 5, none⟩ = some (.slice A n c) := cell_of_row _ _ 5 _ _ _ HC1.out
  have HB1 := Lib.hid (HBV.out.1.trans (hb1.mono HBV.out.1.size))
  have HL1 := Lib.hid (Nat.lt_of_lt_of_le HBV.out.2 hb1.size)
  clear hb1 HCV HAW HBV HV
  go_upto_region 5 with fail
  clear d0 d1 c5
  go_wp2_with fail
  refine (rnew_wrong z HZ.out w1).mono ?_
  rintro _ w2 ⟨rfl, hw2⟩
  have hb2 : Below w1.heap.size w1 w2 := hw2 ▸ Below.refl _ _
  clear hw2
  have HC2 := Lib.hid ((hb2.block _ HL1.out).trans HC1.out)
  have HB2 := Lib.hid (HB1.out.trans (hb2.mono HB1.out.size))
  have HL2 := Lib.hid (Nat.lt_of_lt_of_le HL1.out hb2.size)
  clear hb2 HC1 HB1 HL1
  go_wp2_with fail
  refine (rpeek_nil w2).mono ?_
  rintro _ w3 ⟨rfl, hb3⟩
  have hb3' : Below w2.heap.size w2 w3 := hb3
  clear hb3
  go_upto_region 8 with (first | (refine wpList_store_row rfl _ _ _ rfl w3.heap.size #[.bool false, .int .u8 0, .int .u64 0, .int .u64 0, .string ⟨#[]⟩, .slice none 0 0, .int .u8 0, .int .u8 0, .int .i64 0, .int .u8 0, .int .u8 0, .int .u64 0, .int .u64 0] rfl rfl _ _ (heap_alloc_new _ _) Try.infoIt rfl (by simp [Value.oneCell']) ?_) | fail)
  obtain ⟨w4, hw4, -, hb4, -⟩ := boxI w3 #[.bool false, .int .u8 0, .int .u64 0, .int .u64 0, .string ⟨#[]⟩, .slice none 0 0, .int .u8 0, .int .u8 0, .int .i64 0, .int .u8 0, .int .u8 0, .int .u64 0, .int .u64 0] #[.bool false, .int .u8 0, .int .u64 0, .int .u64 0, .string ⟨#[]⟩, .slice none 0 0, .int .u8 0, .int .u8 0, .int .i64 0, .int .u8 0, .int .u8 0, .int .u64 0, .int .u64 0]
  rw [← hw4]
  have hb34 := hb3'.trans (hb4.mono hb3'.size)
  have HC4 := Lib.hid ((hb34.block _ HL2.out).trans HC2.out)
  have HB4 := Lib.hid (HB2.out.trans (hb34.mono HB2.out.size))
  have HL4 := Lib.hid (Nat.lt_of_lt_of_le HL2.out hb34.size)
  clear hb3' hw4 hb4 hb34 HC2 HB2 HL2
  go_wp2_with fail
  refine (rack_nil w4).mono ?_
  rintro _ _ ⟨rfl, rfl⟩
  go_wp2_with fail
  refine (rcounts_nil w4).mono ?_
  rintro _ _ ⟨rfl, rfl⟩
  go_wp2_with fail
  refine (rnew_any 1 (by decide) (by decide) w4).mono ?_
  rintro _ w5 ⟨rfl, hr5, hb5⟩
  obtain ⟨s, hs⟩ : ∃ s, s = w4.heap.size + 1 := ⟨_, rfl⟩
  obtain ⟨m, hmm⟩ : ∃ m, m = w4.heap.size := ⟨_, rfl⟩
  rw [← hs] at hr5 ⊢
  rw [← hmm] at hr5
  have HSM : Hid ((w.heap.size ≤ s ∧ w.heap.size ≤ m) ∧ w.heap.size ≠ s ∧ w.heap.size ≠ m) := by
    have h1 := HL4.out
    exact ⟨⟨by omega, by omega⟩, by omega, by omega⟩
  have HR5 := Lib.hid hr5
  have HC5 := Lib.hid ((hb5.block _ HL4.out).trans HC4.out)
  have HB5 := Lib.hid (HB4.out.trans (hb5.mono HB4.out.size))
  have HL5 := Lib.hid (Nat.lt_of_lt_of_le HL4.out hb5.size)
  have HRI := Lib.hid (refItem_any x A n c w5 HX.out.2.1 (by have := HX.out.2.2.1; unfold maxLen; omega) ((HX.out.2.2.2.2.below HB5.out).more HB5.out.size) HX.out.1)
  clear hr5 hb5 hs hmm HC4 HB4 HL4
  go_wp2_with (first
    | (refine wpList_load_row rfl _ _ rfl w.heap.size rfl _ _ _ _ HC5.out Try.underlying43 rfl (by kernel_rfl) ?_)
    | fail)
  refine HRI.out.mono ?_
  rintro _ w6 ⟨rfl, hb6⟩
  have HR6 := Lib.hid (HR5.out.below hb6)
  have HC6 := Lib.hid ((hb6.block _ HL5.out).trans HC5.out)
  have HB6 := Lib.hid (HB5.out.trans (hb6.mono HB5.out.size))
  have HL6 := Lib.hid (Nat.lt_of_lt_of_le HL5.out hb6.size)
  clear hb6 HRI HR5 HC5 HB5 HL5
  obtain ⟨y, hy⟩ : ∃ y, y = itemN x := ⟨_, rfl⟩
  rw [← hy]
  have y0 : ((y : Int) == 0) = false := by rw [beq_eq_false_iff_ne]; have := HC.out; omega
  have HY := Lib.hid hy
  clear hy
  have hr6 := range_of_row (cs := [.bool x.g, .int .u8 x.o, .int .u64 x.q, .int .u64 x.t, .string x.r, .slice A n c, .int .u8 x.s, .int .u8 x.p, .int .i64 x.v, .int .u8 x.w, .int .u8 x.ga, .int .u64 x.gf, .int .u64 x.gt]) HC6.out
  go_wp2_with (first
    | ((with_reducible refine wpList_at8 (op := ⟨some 79, _, _, _, _, _⟩) ?_); refine wpList_load_wanted8 (by rfl) _ _ rfl w.heap.size 0 rfl [.bool x.g, .int .u8 x.o, .int .u64 x.q, .int .u64 x.t, .string x.r, .slice A n c, .int .u8 x.s, .int .u8 x.p, .int .i64 x.v, .int .u8 x.w, .int .u8 x.ga, .int .u64 x.gf, .int .u64 x.gt] _ hr6 Try.underlying43 rfl Try.infoIt ?_)
    | fail)
  clear hr6
  refine (rtake_nil q x A n c w6).mono ?_
  rintro _ w7 ⟨rfl, hb7⟩
  have HR7 := Lib.hid (HR6.out.below hb7)
  have HC7 := Lib.hid ((hb7.block _ HL6.out).trans HC6.out)
  have HB7 := Lib.hid (HB6.out.trans (hb7.mono HB6.out.size))
  clear hb7 HR6 HC6 HB6 HL6
  go_wp2_with fail
  refine (rnext_nil w7).mono ?_
  rintro _ _ ⟨rfl, rfl⟩
  have HT := Lib.hid (rtake_bad (q := 1) (n := 1) (z := y) (x := x) (A := A) (N := n) (c := c) w7 HR7.out rfl (by decide) (by decide) (by decide) (by decide) rfl (by decide) HY.out.symm (by rw [HY.out]; exact HC.out) HX.out.2.1 (by have := HX.out.2.2.1; unfold maxLen; omega) ((HX.out.2.2.2.2.below HB7.out).more HB7.out.size))
  have hr7 := range_of_row (cs := [.bool x.g, .int .u8 x.o, .int .u64 x.q, .int .u64 x.t, .string x.r, .slice A n c, .int .u8 x.s, .int .u8 x.p, .int .i64 x.v, .int .u8 x.w, .int .u8 x.ga, .int .u64 x.gf, .int .u64 x.gt]) HC7.out
  go_wp2_with (first
    | ((with_reducible refine wpList_at8 (op := ⟨some 108, _, _, _, _, _⟩) ?_); refine wpList_load_wanted8 (by rfl) _ _ rfl w.heap.size 0 rfl [.bool x.g, .int .u8 x.o, .int .u64 x.q, .int .u64 x.t, .string x.r, .slice A n c, .int .u8 x.s, .int .u8 x.p, .int .i64 x.v, .int .u8 x.w, .int .u8 x.ga, .int .u64 x.gf, .int .u64 x.gt] _ hr7 Try.underlying43 rfl Try.infoIt ?_)
    | fail)
  clear hr7
  refine HT.out.mono ?_
  rintro _ w8 ⟨rfl, hb8⟩
  have HN8 := Lib.hid (rnext_none (n := 1) w8 (HR7.out.below hb8) rfl (by decide) rfl)
  have HB8 := Lib.hid (HB7.out.trans (hb8.mono HB7.out.size))
  clear hb8 HT HR7 HC7 HB7
  go_wp2_with fail
  refine HN8.out.mono ?_
  rintro _ w9 ⟨rfl, hb9⟩
  have HB9 := Lib.hid (HB8.out.trans (hb9.mono HB8.out.size))
  clear hb9 HN8 HB8
  go_wp2
  go_ret
  exact ⟨rfl, HB9.out⟩
set_option maxRecDepth 100000 in
set_option maxHeartbeats 4000000 in
theorem walk_hiok (z : Int) (q : Nat) (x : It) (A : Option Addr) (n c : Nat) (hok : OkI x) (hn : n = x.l.length) (hm : n ≤ 12) (hA : A = none → n = 0) (w : World) (hr : RdP w w.heap.size A x.l) (hz : 64 < z) (hc : itemN x = 0) :
    Calls Try.prog 6 #[.int .i64 z, .int .u64 q, .agg #[.bool x.g, .int .u8 x.o, .int .u64 x.q, .int .u64 x.t, .string x.r, .slice A n c, .int .u8 x.s, .int .u8 x.p, .int .i64 x.v, .int .u8 x.w, .int .u8 x.ga, .int .u64 x.gf, .int .u64 x.gt]] w fun e w' => e = .returned (.bool true) ∧ Below w.heap.size w w' := by
  obtain ⟨V, hV⟩ : ∃ V, V = w.alloc (.cells #[.bool x.g, .int .u8 x.o, .int .u64 x.q, .int .u64 x.t, .string x.r, .slice A n c, .int .u8 x.s, .int .u8 x.p, .int .i64 x.v, .int .u8 x.w, .int .u8 x.ga, .int .u64 x.gf, .int .u64 x.gt] 43) := ⟨_, rfl⟩
  have hbV : Below w.heap.size w V := by rw [hV]; exact (Below.refl _ _).alloc (Nat.le_refl _) _
  have hcV : V.heap[w.heap.size]? = some (.cells #[.bool x.g, .int .u8 x.o, .int .u64 x.q, .int .u64 x.t, .string x.r, .slice A n c, .int .u8 x.s, .int .u8 x.p, .int .i64 x.v, .int .u8 x.w, .int .u8 x.ga, .int .u64 x.gf, .int .u64 x.gt] 43 (0, 0)) := by rw [hV]; exact heap_alloc_new _ _
  have hlV : w.heap.size < V.heap.size := by rw [hV]; simp
  have HV := Lib.hid hV
  have HX := Lib.hid (⟨hok, hn, hm, hA, hr⟩ : _ ∧ _ ∧ _ ∧ _ ∧ _)
  have HC := Lib.hid hc
  have HAW := Lib.hid (awake11_any V)
  have HBV := Lib.hid (⟨hbV, hlV⟩ : _ ∧ _)
  have HCV := Lib.hid hcV
  have d0 : decide (12 < n) = false := decide_eq_false (by omega)
  have d1 : decide ((12 : Int) < (n : Int)) = false := decide_eq_false (by omega)
  have z1 : decide (1 ≤ z) = true := decide_eq_true (by omega)
  have z2 : decide (z ≤ 64) = false := decide_eq_false (by omega)
  have HZ := Lib.hid (show z < 1 ∨ 64 < z from .inr hz)
  clear hok hn hm hA hr hz hc hV hbV hcV hlV
  go_enter Try.func6, Try.ntmps6
  go_upto_region 1 with fail
  rw [← HV.out]
  go_wp2_with fail
  refine HAW.out.mono ?_
  rintro _ w1 ⟨rfl, hb1⟩
  have HC1 := Lib.hid ((hb1.block _ HBV.out.2).trans HCV.out)
  have c5 : w1.cell? ⟨w.heap.size, 5, none⟩ = some (.slice A n c) := cell_of_row _ _ 5 _ _ _ HC1.out
  have HB1 := Lib.hid (HBV.out.1.trans (hb1.mono HBV.out.1.size))
  have HL1 := Lib.hid (Nat.lt_of_lt_of_le HBV.out.2 hb1.size)
  clear hb1 HCV HAW HBV HV
  go_upto_region 5 with fail
  clear d0 d1 c5
  go_wp2_with fail
  refine (rnew_wrong z HZ.out w1).mono ?_
  rintro _ w2 ⟨rfl, hw2⟩
  have hb2 : Below w1.heap.size w1 w2 := hw2 ▸ Below.refl _ _
  clear hw2
  have HC2 := Lib.hid ((hb2.block _ HL1.out).trans HC1.out)
  have HB2 := Lib.hid (HB1.out.trans (hb2.mono HB1.out.size))
  have HL2 := Lib.hid (Nat.lt_of_lt_of_le HL1.out hb2.size)
  clear hb2 HC1 HB1 HL1
  go_wp2_with fail
  refine (rpeek_nil w2).mono ?_
  rintro _ w3 ⟨rfl, hb3⟩
  have hb3' : Below w2.heap.size w2 w3 := hb3
  clear hb3
  go_upto_region 8 with (first | (refine wpList_store_row rfl _ _ _ rfl w3.heap.size #[.bool false, .int .u8 0, .int .u64 0, .int .u64 0, .string ⟨#[]⟩, .slice none 0 0, .int .u8 0, .int .u8 0, .int .i64 0, .int .u8 0, .int .u8 0, .int .u64 0, .int .u64 0] rfl rfl _ _ (heap_alloc_new _ _) Try.infoIt rfl (by simp [Value.oneCell']) ?_) | fail)
  obtain ⟨w4, hw4, -, hb4, -⟩ := boxI w3 #[.bool false, .int .u8 0, .int .u64 0, .int .u64 0, .string ⟨#[]⟩, .slice none 0 0, .int .u8 0, .int .u8 0, .int .i64 0, .int .u8 0, .int .u8 0, .int .u64 0, .int .u64 0] #[.bool false, .int .u8 0, .int .u64 0, .int .u64 0, .string ⟨#[]⟩, .slice none 0 0, .int .u8 0, .int .u8 0, .int .i64 0, .int .u8 0, .int .u8 0, .int .u64 0, .int .u64 0]
  rw [← hw4]
  have hb34 := hb3'.trans (hb4.mono hb3'.size)
  have HC4 := Lib.hid ((hb34.block _ HL2.out).trans HC2.out)
  have HB4 := Lib.hid (HB2.out.trans (hb34.mono HB2.out.size))
  have HL4 := Lib.hid (Nat.lt_of_lt_of_le HL2.out hb34.size)
  clear hb3' hw4 hb4 hb34 HC2 HB2 HL2
  go_wp2_with fail
  refine (rack_nil w4).mono ?_
  rintro _ _ ⟨rfl, rfl⟩
  go_wp2_with fail
  refine (rcounts_nil w4).mono ?_
  rintro _ _ ⟨rfl, rfl⟩
  go_wp2_with fail
  refine (rnew_any 1 (by decide) (by decide) w4).mono ?_
  rintro _ w5 ⟨rfl, hr5, hb5⟩
  obtain ⟨s, hs⟩ : ∃ s, s = w4.heap.size + 1 := ⟨_, rfl⟩
  obtain ⟨m, hmm⟩ : ∃ m, m = w4.heap.size := ⟨_, rfl⟩
  rw [← hs] at hr5 ⊢
  rw [← hmm] at hr5
  have HSM : Hid ((w.heap.size ≤ s ∧ w.heap.size ≤ m) ∧ w.heap.size ≠ s ∧ w.heap.size ≠ m) := by
    have h1 := HL4.out
    exact ⟨⟨by omega, by omega⟩, by omega, by omega⟩
  have HR5 := Lib.hid hr5
  have HC5 := Lib.hid ((hb5.block _ HL4.out).trans HC4.out)
  have HB5 := Lib.hid (HB4.out.trans (hb5.mono HB4.out.size))
  have HL5 := Lib.hid (Nat.lt_of_lt_of_le HL4.out hb5.size)
  have HRI := Lib.hid (refItem_any x A n c w5 HX.out.2.1 (by have := HX.out.2.2.1; unfold maxLen; omega) ((HX.out.2.2.2.2.below HB5.out).more HB5.out.size) HX.out.1)
  clear hr5 hb5 hs hmm HC4 HB4 HL4
  go_wp2_with (first
    | (refine wpList_load_row rfl _ _ rfl w.heap.size rfl _ _ _ _ HC5.out Try.underlying43 rfl (by kernel_rfl) ?_)
    | fail)
  refine HRI.out.mono ?_
  rintro _ w6 ⟨rfl, hb6⟩
  have HR6 := Lib.hid (HR5.out.below hb6)
  have HC6 := Lib.hid ((hb6.block _ HL5.out).trans HC5.out)
  have HB6 := Lib.hid (HB5.out.trans (hb6.mono HB5.out.size))
  have HL6 := Lib.hid (Nat.lt_of_lt_of_le HL5.out hb6.size)
  clear hb6 HRI HR5 HC5 HB5 HL5
  rw [HC.out]
  have hr6 := range_of_row (cs := [.bool x.g, .int .u8 x.o, .int .u64 x.q, .int .u64 x.t, .string x.r, .slice A n c, .int .u8 x.s, .int .u8 x.p, .int .i64 x.v, .int .u8 x.w, .int .u8 x.ga, .int .u64 x.gf, .int .u64 x.gt]) HC6.out
  go_wp2_with (first
    | ((with_reducible refine wpList_at8 (op := ⟨some 79, _, _, _, _, _⟩) ?_); refine wpList_load_wanted8 (by rfl) _ _ rfl w.heap.size 0 rfl [.bool x.g, .int .u8 x.o, .int .u64 x.q, .int .u64 x.t, .string x.r, .slice A n c, .int .u8 x.s, .int .u8 x.p, .int .i64 x.v, .int .u8 x.w, .int .u8 x.ga, .int .u64 x.gf, .int .u64 x.gt] _ hr6 Try.underlying43 rfl Try.infoIt ?_)
    | fail)
  clear hr6
  refine (rtake_nil q x A n c w6).mono ?_
  rintro _ w7 ⟨rfl, hb7⟩
  have HR7 := Lib.hid (HR6.out.below hb7)
  have HC7 := Lib.hid ((hb7.block _ HL6.out).trans HC6.out)
  have HB7 := Lib.hid (HB6.out.trans (hb7.mono HB6.out.size))
  clear hb7 HR6 HC6 HB6 HL6
  go_wp2_with fail
  refine (rnext_nil w7).mono ?_
  rintro _ _ ⟨rfl, rfl⟩
  have HT := Lib.hid (rtake_ok (q := 1) (n := 1) (x := x) (A := A) (N := n) (c := c) w7 HR7.out rfl (by decide) (by decide) (by decide) (by decide) (by decide) rfl (by decide) HC.out HX.out.2.1 HX.out.2.2.2.1 (by have := HX.out.2.2.1; omega) ((HX.out.2.2.2.2.below HB7.out).more HB7.out.size))
  have hr7 := range_of_row (cs := [.bool x.g, .int .u8 x.o, .int .u64 x.q, .int .u64 x.t, .string x.r, .slice A n c, .int .u8 x.s, .int .u8 x.p, .int .i64 x.v, .int .u8 x.w, .int .u8 x.ga, .int .u64 x.gf, .int .u64 x.gt]) HC7.out
  go_wp2_with (first
    | ((with_reducible refine wpList_at8 (op := ⟨some 108, _, _, _, _, _⟩) ?_); refine wpList_load_wanted8 (by rfl) _ _ rfl w.heap.size 0 rfl [.bool x.g, .int .u8 x.o, .int .u64 x.q, .int .u64 x.t, .string x.r, .slice A n c, .int .u8 x.s, .int .u8 x.p, .int .i64 x.v, .int .u8 x.w, .int .u8 x.ga, .int .u64 x.gf, .int .u64 x.gt] _ hr7 Try.underlying43 rfl Try.infoIt ?_)
    | fail)
  clear hr7
  refine HT.out.mono ?_
  rintro _ w8 ⟨rfl, A8, c8, hr8, -, ho8⟩
  have HN8 := Lib.hid (rnext_some (n := 1) (x := ⟨x, A8, c8⟩) w8 hr8 rfl (by decide) rfl)
  have HB8 := Lib.hid (only_two_below HB7.out ho8 HSM.out.1.1 HSM.out.1.2)
  clear hr8 ho8 HT HR7 HC7 HB7
  go_wp2_with fail
  refine HN8.out.mono ?_
  rintro _ w9 ⟨rfl, -, ho9⟩
  have HB9 := Lib.hid (only_two_below HB8.out ho9 HSM.out.1.1 HSM.out.1.2)
  clear ho9 HN8 HB8
  go_wp2
  go_ret
  exact ⟨rfl, HB9.out⟩
set_option maxRecDepth 100000 in
set_option maxHeartbeats 4000000 in
theorem walk_hino (z : Int) (q : Nat) (x : It) (A : Option Addr) (n c : Nat) (hok : OkI x) (hn : n = x.l.length) (hm : n ≤ 12) (hA : A = none → n = 0) (w : World) (hr : RdP w w.heap.size A x.l) (hz : 64 < z) (hc : itemN x ≠ 0) :
    Calls Try.prog 6 #[.int .i64 z, .int .u64 q, .agg #[.bool x.g, .int .u8 x.o, .int .u64 x.q, .int .u64 x.t, .string x.r, .slice A n c, .int .u8 x.s, .int .u8 x.p, .int .i64 x.v, .int .u8 x.w, .int .u8 x.ga, .int .u64 x.gf, .int .u64 x.gt]] w fun e w' => e = .returned (.bool true) ∧ Below w.heap.size w w' := by
  obtain ⟨V, hV⟩ : ∃ V, V = w.alloc (.cells #[.bool x.g, .int .u8 x.o, .int .u64 x.q, .int .u64 x.t, .string x.r, .slice A n c, .int .u8 x.s, .int .u8 x.p, .int .i64 x.v, .int .u8 x.w, .int .u8 x.ga, .int .u64 x.gf, .int .u64 x.gt] 43) := ⟨_, rfl⟩
  have hbV : Below w.heap.size w V := by rw [hV]; exact (Below.refl _ _).alloc (Nat.le_refl _) _
  have hcV : V.heap[w.heap.size]? = some (.cells #[.bool x.g, .int .u8 x.o, .int .u64 x.q, .int .u64 x.t, .string x.r, .slice A n c, .int .u8 x.s, .int .u8 x.p, .int .i64 x.v, .int .u8 x.w, .int .u8 x.ga, .int .u64 x.gf, .int .u64 x.gt] 43 (0, 0)) := by rw [hV]; exact heap_alloc_new _ _
  have hlV : w.heap.size < V.heap.size := by rw [hV]; simp
  have HV := Lib.hid hV
  have HX := Lib.hid (⟨hok, hn, hm, hA, hr⟩ : _ ∧ _ ∧ _ ∧ _ ∧ _)
  have HC := Lib.hid hc
  have HAW := Lib.hid (awake11_any V)
  have HBV := Lib.hid (⟨hbV, hlV⟩ : _ ∧ _)
  have HCV := Lib.hid hcV
  have d0 : decide (12 < n) = false := decide_eq_false (by omega)
  have d1 : decide ((12 : Int) < (n : Int)) = false := decide_eq_false (by omega)
  have z1 : decide (1 ≤ z) = true := decide_eq_true (by omega)
  have z2 : decide (z ≤ 64) = false := decide_eq_false (by omega)
  have HZ := Lib.hid (show z < 1 ∨ 64 < z from .inr hz)
  clear hok hn hm hA hr hz hc hV hbV hcV hlV
  go_enter Try.func6, Try.ntmps6
  go_upto_region 1 with fail
  rw [← HV.out]
  go_wp2_with fail
  refine HAW.out.mono ?_
  rintro _ w1 ⟨rfl, hb1⟩
  have HC1 := Lib.hid ((hb1.block _ HBV.out.2).trans HCV.out)
  have c5 : w1.cell? ⟨w.heap.size, 5, none⟩ = some (.slice A n c) := cell_of_row _ _ 5 _ _ _ HC1.out
  have HB1 := Lib.hid (HBV.out.1.trans (hb1.mono HBV.out.1.size))
  have HL1 := Lib.hid (Nat.lt_of_lt_of_le HBV.out.2 hb1.size)
  clear hb1 HCV HAW HBV HV
  go_upto_region 5 with fail
  clear d0 d1 c5
  go_wp2_with fail
  refine (rnew_wrong z HZ.out w1).mono ?_
  rintro _ w2 ⟨rfl, hw2⟩
  have hb2 : Below w1.heap.size w1 w2 := hw2 ▸ Below.refl _ _
  clear hw2
  have HC2 := Lib.hid ((hb2.block _ HL1.out).trans HC1.out)
  have HB2 := Lib.hid (HB1.out.trans (hb2.mono HB1.out.size))
  have HL2 := Lib.hid (Nat.lt_of_lt_of_le HL1.out hb2.size)
  clear hb2 HC1 HB1 HL1
  go_wp2_with fail
  refine (rpeek_nil w2).mono ?_
  rintro _ w3 ⟨rfl, hb3⟩
  have hb3' : Below w2.heap.size w2 w3 := hb3
  clear hb3
  go_upto_region 8 with (first | (refine wpList_store_row rfl _ _ _ rfl w3.heap.size #[.bool false, .int .u8 0, .int .u64 0, .int .u64 0, .string ⟨#[]⟩, .slice none 0 0, .int .u8 0, .int .u8 0, .int .i64 0, .int .u8 0, .int .u8 0, .int .u64 0, .int .u64 0] rfl rfl _ _ (heap_alloc_new _ _) Try.infoIt rfl (by simp [Value.oneCell']) ?_) | fail)
  obtain ⟨w4, hw4, -, hb4, -⟩ := boxI w3 #[.bool false, .int .u8 0, .int .u64 0, .int .u64 0, .string ⟨#[]⟩, .slice none 0 0, .int .u8 0, .int .u8 0, .int .i64 0, .int .u8 0, .int .u8 0, .int .u64 0, .int .u64 0] #[.bool false, .int .u8 0, .int .u64 0, .int .u64 0, .string ⟨#[]⟩, .slice none 0 0, .int .u8 0, .int .u8 0, .int .i64 0, .int .u8 0, .int .u8 0, .int .u64 0, .int .u64 0]
  rw [← hw4]
  have hb34 := hb3'.trans (hb4.mono hb3'.size)
  have HC4 := Lib.hid ((hb34.block _ HL2.out).trans HC2.out)
  have HB4 := Lib.hid (HB2.out.trans (hb34.mono HB2.out.size))
  have HL4 := Lib.hid (Nat.lt_of_lt_of_le HL2.out hb34.size)
  clear hb3' hw4 hb4 hb34 HC2 HB2 HL2
  go_wp2_with fail
  refine (rack_nil w4).mono ?_
  rintro _ _ ⟨rfl, rfl⟩
  go_wp2_with fail
  refine (rcounts_nil w4).mono ?_
  rintro _ _ ⟨rfl, rfl⟩
  go_wp2_with fail
  refine (rnew_any 1 (by decide) (by decide) w4).mono ?_
  rintro _ w5 ⟨rfl, hr5, hb5⟩
  obtain ⟨s, hs⟩ : ∃ s, s = w4.heap.size + 1 := ⟨_, rfl⟩
  obtain ⟨m, hmm⟩ : ∃ m, m = w4.heap.size := ⟨_, rfl⟩
  rw [← hs] at hr5 ⊢
  rw [← hmm] at hr5
  have HSM : Hid ((w.heap.size ≤ s ∧ w.heap.size ≤ m) ∧ w.heap.size ≠ s ∧ w.heap.size ≠ m) := by
    have h1 := HL4.out
    exact ⟨⟨by omega, by omega⟩, by omega, by omega⟩
  have HR5 := Lib.hid hr5
  have HC5 := Lib.hid ((hb5.block _ HL4.out).trans HC4.out)
  have HB5 := Lib.hid (HB4.out.trans (hb5.mono HB4.out.size))
  have HL5 := Lib.hid (Nat.lt_of_lt_of_le HL4.out hb5.size)
  have HRI := Lib.hid (refItem_any x A n c w5 HX.out.2.1 (by have := HX.out.2.2.1; unfold maxLen; omega) ((HX.out.2.2.2.2.below HB5.out).more HB5.out.size) HX.out.1)
  clear hr5 hb5 hs hmm HC4 HB4 HL4
  go_wp2_with (first
    | (refine wpList_load_row rfl _ _ rfl w.heap.size rfl _ _ _ _ HC5.out Try.underlying43 rfl (by kernel_rfl) ?_)
    | fail)
  refine HRI.out.mono ?_
  rintro _ w6 ⟨rfl, hb6⟩
  have HR6 := Lib.hid (HR5.out.below hb6)
  have HC6 := Lib.hid ((hb6.block _ HL5.out).trans HC5.out)
  have HB6 := Lib.hid (HB5.out.trans (hb6.mono HB5.out.size))
  have HL6 := Lib.hid (Nat.lt_of_lt_of_le HL5.out hb6.size)
  clear hb6 HRI HR5 HC5 HB5 HL5
  obtain ⟨y, hy⟩ : ∃ y, y = itemN x := ⟨_, rfl⟩
  rw [← hy]
  have y0 : ((y : Int) == 0) = false := by rw [beq_eq_false_iff_ne]; have := HC.out; omega
  have HY := Lib.hid hy
  clear hy
  have hr6 := range_of_row (cs := [.bool x.g, .int .u8 x.o, .int .u64 x.q, .int .u64 x.t, .string x.r, .slice A n c, .int .u8 x.s, .int .u8 x.p, .int .i64 x.v, .int .u8 x.w, .int .u8 x.ga, .int .u64 x.gf, .int .u64 x.gt]) HC6.out
  go_wp2_with (first
    | ((with_reducible refine wpList_at8 (op := ⟨some 79, _, _, _, _, _⟩) ?_); refine wpList_load_wanted8 (by rfl) _ _ rfl w.heap.size 0 rfl [.bool x.g, .int .u8 x.o, .int .u64 x.q, .int .u64 x.t, .string x.r, .slice A n c, .int .u8 x.s, .int .u8 x.p, .int .i64 x.v, .int .u8 x.w, .int .u8 x.ga, .int .u64 x.gf, .int .u64 x.gt] _ hr6 Try.underlying43 rfl Try.infoIt ?_)
    | fail)
  clear hr6
  refine (rtake_nil q x A n c w6).mono ?_
  rintro _ w7 ⟨rfl, hb7⟩
  have HR7 := Lib.hid (HR6.out.below hb7)
  have HC7 := Lib.hid ((hb7.block _ HL6.out).trans HC6.out)
  have HB7 := Lib.hid (HB6.out.trans (hb7.mono HB6.out.size))
  clear hb7 HR6 HC6 HB6 HL6
  go_wp2_with fail
  refine (rnext_nil w7).mono ?_
  rintro _ _ ⟨rfl, rfl⟩
  have HT := Lib.hid (rtake_bad (q := 1) (n := 1) (z := y) (x := x) (A := A) (N := n) (c := c) w7 HR7.out rfl (by decide) (by decide) (by decide) (by decide) rfl (by decide) HY.out.symm (by rw [HY.out]; exact HC.out) HX.out.2.1 (by have := HX.out.2.2.1; unfold maxLen; omega) ((HX.out.2.2.2.2.below HB7.out).more HB7.out.size))
  have hr7 := range_of_row (cs := [.bool x.g, .int .u8 x.o, .int .u64 x.q, .int .u64 x.t, .string x.r, .slice A n c, .int .u8 x.s, .int .u8 x.p, .int .i64 x.v, .int .u8 x.w, .int .u8 x.ga, .int .u64 x.gf, .int .u64 x.gt]) HC7.out
  go_wp2_with (first
    | ((with_reducible refine wpList_at8 (op := ⟨some 108, _, _, _, _, _⟩) ?_); refine wpList_load_wanted8 (by rfl) _ _ rfl w.heap.size 0 rfl [.bool x.g, .int .u8 x.o, .int .u64 x.q, .int .u64 x.t, .string x.r, .slice A n c, .int .u8 x.s, .int .u8 x.p, .int .i64 x.v, .int .u8 x.w, .int .u8 x.ga, .int .u64 x.gf, .int .u64 x.gt] _ hr7 Try.underlying43 rfl Try.infoIt ?_)
    | fail)
  clear hr7
  refine HT.out.mono ?_
  rintro _ w8 ⟨rfl, hb8⟩
  have HN8 := Lib.hid (rnext_none (n := 1) w8 (HR7.out.below hb8) rfl (by decide) rfl)
  have HB8 := Lib.hid (HB7.out.trans (hb8.mono HB7.out.size))
  clear hb8 HT HR7 HC7 HB7
  go_wp2_with fail
  refine HN8.out.mono ?_
  rintro _ w9 ⟨rfl, hb9⟩
  have HB9 := Lib.hid (HB8.out.trans (hb9.mono HB8.out.size))
  clear hb9 HN8 HB8
  go_wp2
  go_ret
  exact ⟨rfl, HB9.out⟩
set_option maxRecDepth 100000 in
set_option maxHeartbeats 4000000 in
theorem walk_okok (z : Int) (q : Nat) (x : It) (A : Option Addr) (n c : Nat) (hok : OkI x) (hn : n = x.l.length) (hm : n ≤ 12) (hA : A = none → n = 0) (w : World) (hr : RdP w w.heap.size A x.l) (hz : 1 ≤ z ∧ z ≤ 64) (hc : itemN x = 0) :
    Calls Try.prog 6 #[.int .i64 z, .int .u64 q, .agg #[.bool x.g, .int .u8 x.o, .int .u64 x.q, .int .u64 x.t, .string x.r, .slice A n c, .int .u8 x.s, .int .u8 x.p, .int .i64 x.v, .int .u8 x.w, .int .u8 x.ga, .int .u64 x.gf, .int .u64 x.gt]] w fun e w' => e = .returned (.bool true) ∧ Below w.heap.size w w' := by
  obtain ⟨V, hV⟩ : ∃ V, V = w.alloc (.cells #[.bool x.g, .int .u8 x.o, .int .u64 x.q, .int .u64 x.t, .string x.r, .slice A n c, .int .u8 x.s, .int .u8 x.p, .int .i64 x.v, .int .u8 x.w, .int .u8 x.ga, .int .u64 x.gf, .int .u64 x.gt] 43) := ⟨_, rfl⟩
  have hbV : Below w.heap.size w V := by rw [hV]; exact (Below.refl _ _).alloc (Nat.le_refl _) _
  have hcV : V.heap[w.heap.size]? = some (.cells #[.bool x.g, .int .u8 x.o, .int .u64 x.q, .int .u64 x.t, .string x.r, .slice A n c, .int .u8 x.s, .int .u8 x.p, .int .i64 x.v, .int .u8 x.w, .int .u8 x.ga, .int .u64 x.gf, .int .u64 x.gt] 43 (0, 0)) := by rw [hV]; exact heap_alloc_new _ _
  have hlV : w.heap.size < V.heap.size := by rw [hV]; simp
  have HV := Lib.hid hV
  have HX := Lib.hid (⟨hok, hn, hm, hA, hr⟩ : _ ∧ _ ∧ _ ∧ _ ∧ _)
  have HC := Lib.hid hc
  have HAW := Lib.hid (awake11_any V)
  have HBV := Lib.hid (⟨hbV, hlV⟩ : _ ∧ _)
  have HCV := Lib.hid hcV
  have d0 : decide (12 < n) = false := decide_eq_false (by omega)
  have d1 : decide ((12 : Int) < (n : Int)) = false := decide_eq_false (by omega)
  have z1 : decide (1 ≤ z) = true := decide_eq_true (by omega)
  have z2 : decide (z ≤ 64) = true := decide_eq_true (by omega)
  obtain ⟨zn, rfl⟩ : ∃ zn : Nat, z = zn := ⟨z.toNat, by omega⟩
  have z3 : decide (1 ≤ zn) = true := decide_eq_true (by omega)
  have z4 : decide (zn ≤ 64) = true := decide_eq_true (by omega)
  have HZ : Hid (1 ≤ zn ∧ zn ≤ 64) := ⟨by omega, by omega⟩
  clear hok hn hm hA hr hz hc hV hbV hcV hlV
  go_enter Try.func6, Try.ntmps6
  go_upto_region 1 with fail
  rw [← HV.out]
  go_wp2_with fail
  refine HAW.out.mono ?_
  rintro _ w1 ⟨rfl, hb1⟩
  have HC1 := Lib.hid ((hb1.block _ HBV.out.2).trans HCV.out)
  have c5 : w1.cell? ⟨w.heap.size, 5, none⟩ = some (.slice A n c) := cell_of_row _ _ 5 _ _ _ HC1.out
  have HB1 := Lib.hid (HBV.out.1.trans (hb1.mono HBV.out.1.size))
  have HL1 := Lib.hid (Nat.lt_of_lt_of_le HBV.out.2 hb1.size)
  clear hb1 HCV HAW HBV HV
  go_upto_region 5 with fail
  clear d0 d1 c5
  go_wp2_with fail
  refine (rnew_any zn HZ.out.1 HZ.out.2 w1).mono ?_
  rintro _ w2 ⟨rfl, -, hb2⟩
  have HC2 := Lib.hid ((hb2.block _ HL1.out).trans HC1.out)
  have HB2 := Lib.hid (HB1.out.trans (hb2.mono HB1.out.size))
  have HL2 := Lib.hid (Nat.lt_of_lt_of_le HL1.out hb2.size)
  clear hb2 HC1 HB1 HL1
  go_wp2_with fail
  refine (rpeek_nil w2).mono ?_
  rintro _ w3 ⟨rfl, hb3⟩
  have hb3' : Below w2.heap.size w2 w3 := hb3
  clear hb3
  go_upto_region 8 with (first | (refine wpList_store_row rfl _ _ _ rfl w3.heap.size #[.bool false, .int .u8 0, .int .u64 0, .int .u64 0, .string ⟨#[]⟩, .slice none 0 0, .int .u8 0, .int .u8 0, .int .i64 0, .int .u8 0, .int .u8 0, .int .u64 0, .int .u64 0] rfl rfl _ _ (heap_alloc_new _ _) Try.infoIt rfl (by simp [Value.oneCell']) ?_) | fail)
  obtain ⟨w4, hw4, -, hb4, -⟩ := boxI w3 #[.bool false, .int .u8 0, .int .u64 0, .int .u64 0, .string ⟨#[]⟩, .slice none 0 0, .int .u8 0, .int .u8 0, .int .i64 0, .int .u8 0, .int .u8 0, .int .u64 0, .int .u64 0] #[.bool false, .int .u8 0, .int .u64 0, .int .u64 0, .string ⟨#[]⟩, .slice none 0 0, .int .u8 0, .int .u8 0, .int .i64 0, .int .u8 0, .int .u8 0, .int .u64 0, .int .u64 0]
  rw [← hw4]
  have hb34 := hb3'.trans (hb4.mono hb3'.size)
  have HC4 := Lib.hid ((hb34.block _ HL2.out).trans HC2.out)
  have HB4 := Lib.hid (HB2.out.trans (hb34.mono HB2.out.size))
  have HL4 := Lib.hid (Nat.lt_of_lt_of_le HL2.out hb34.size)
  clear hb3' hw4 hb4 hb34 HC2 HB2 HL2
  go_wp2_with fail
  refine (rack_nil w4).mono ?_
  rintro _ _ ⟨rfl, rfl⟩
  go_wp2_with fail
  refine (rcounts_nil w4).mono ?_
  rintro _ _ ⟨rfl, rfl⟩
  go_wp2_with fail
  refine (rnew_any 1 (by decide) (by decide) w4).mono ?_
  rintro _ w5 ⟨rfl, hr5, hb5⟩
  obtain ⟨s, hs⟩ : ∃ s, s = w4.heap.size + 1 := ⟨_, rfl⟩
  obtain ⟨m, hmm⟩ : ∃ m, m = w4.heap.size := ⟨_, rfl⟩
  rw [← hs] at hr5 ⊢
  rw [← hmm] at hr5
  have HSM : Hid ((w.heap.size ≤ s ∧ w.heap.size ≤ m) ∧ w.heap.size ≠ s ∧ w.heap.size ≠ m) := by
    have h1 := HL4.out
    exact ⟨⟨by omega, by omega⟩, by omega, by omega⟩
  have HR5 := Lib.hid hr5
  have HC5 := Lib.hid ((hb5.block _ HL4.out).trans HC4.out)
  have HB5 := Lib.hid (HB4.out.trans (hb5.mono HB4.out.size))
  have HL5 := Lib.hid (Nat.lt_of_lt_of_le HL4.out hb5.size)
  have HRI := Lib.hid (refItem_any x A n c w5 HX.out.2.1 (by have := HX.out.2.2.1; unfold maxLen; omega) ((HX.out.2.2.2.2.below HB5.out).more HB5.out.size) HX.out.1)
  clear hr5 hb5 hs hmm HC4 HB4 HL4
  go_wp2_with (first
    | (refine wpList_load_row rfl _ _ rfl w.heap.size rfl _ _ _ _ HC5.out Try.underlying43 rfl (by kernel_rfl) ?_)
    | fail)
  refine HRI.out.mono ?_
  rintro _ w6 ⟨rfl, hb6⟩
  have HR6 := Lib.hid (HR5.out.below hb6)
  have HC6 := Lib.hid ((hb6.block _ HL5.out).trans HC5.out)
  have HB6 := Lib.hid (HB5.out.trans (hb6.mono HB5.out.size))
  have HL6 := Lib.hid (Nat.lt_of_lt_of_le HL5.out hb6.size)
  clear hb6 HRI HR5 HC5 HB5 HL5
  rw [HC.out]
  have hr6 := range_of_row (cs := [.bool x.g, .int .u8 x.o, .int .u64 x.q, .int .u64 x.t, .string x.r, .slice A n c, .int .u8 x.s, .int .u8 x.p, .int .i64 x.v, .int .u8 x.w, .int .u8 x.ga, .int .u64 x.gf, .int .u64 x.gt]) HC6.out
  go_wp2_with (first
    | ((with_reducible refine wpList_at8 (op := ⟨some 79, _, _, _, _, _⟩) ?_); refine wpList_load_wanted8 (by rfl) _ _ rfl w.heap.size 0 rfl [.bool x.g, .int .u8 x.o, .int .u64 x.q, .int .u64 x.t, .string x.r, .slice A n c, .int .u8 x.s, .int .u8 x.p, .int .i64 x.v, .int .u8 x.w, .int .u8 x.ga, .int .u64 x.gf, .int .u64 x.gt] _ hr6 Try.underlying43 rfl Try.infoIt ?_)
    | fail)
  clear hr6
  refine (rtake_nil q x A n c w6).mono ?_
  rintro _ w7 ⟨rfl, hb7⟩
  have HR7 := Lib.hid (HR6.out.below hb7)
  have HC7 := Lib.hid ((hb7.block _ HL6.out).trans HC6.out)
  have HB7 := Lib.hid (HB6.out.trans (hb7.mono HB6.out.size))
  clear hb7 HR6 HC6 HB6 HL6
  go_wp2_with fail
  refine (rnext_nil w7).mono ?_
  rintro _ _ ⟨rfl, rfl⟩
  have HT := Lib.hid (rtake_ok (q := 1) (n := 1) (x := x) (A := A) (N := n) (c := c) w7 HR7.out rfl (by decide) (by decide) (by decide) (by decide) (by decide) rfl (by decide) HC.out HX.out.2.1 HX.out.2.2.2.1 (by have := HX.out.2.2.1; omega) ((HX.out.2.2.2.2.below HB7.out).more HB7.out.size))
  have hr7 := range_of_row (cs := [.bool x.g, .int .u8 x.o, .int .u64 x.q, .int .u64 x.t, .string x.r, .slice A n c, .int .u8 x.s, .int .u8 x.p, .int .i64 x.v, .int .u8 x.w, .int .u8 x.ga, .int .u64 x.gf, .int .u64 x.gt]) HC7.out
  go_wp2_with (first
    | ((with_reducible refine wpList_at8 (op := ⟨some 108, _, _, _, _, _⟩) ?_); refine wpList_load_wanted8 (by rfl) _ _ rfl w.heap.size 0 rfl [.bool x.g, .int .u8 x.o, .int .u64 x.q, .int .u64 x.t, .string x.r, .slice A n c, .int .u8 x.s, .int .u8 x.p, .int .i64 x.v, .int .u8 x.w, .int .u8 x.ga, .int .u64 x.gf, .int .u64 x.gt] _ hr7 Try.underlying43 rfl Try.infoIt ?_)
    | fail)
  clear hr7
  refine HT.out.mono ?_
  rintro _ w8 ⟨rfl, A8, c8, hr8, -, ho8⟩
  have HN8 := Lib.hid (rnext_some (n := 1) (x := ⟨x, A8, c8⟩) w8 hr8 rfl (by decide) rfl)
  have HB8 := Lib.hid (only_two_below HB7.out ho8 HSM.out.1.1 HSM.out.1.2)
  clear hr8 ho8 HT HR7 HC7 HB7
  go_wp2_with fail
  refine HN8.out.mono ?_
  rintro _ w9 ⟨rfl, -, ho9⟩
  have HB9 := Lib.hid (only_two_below HB8.out ho9 HSM.out.1.1 HSM.out.1.2)
  clear ho9 HN8 HB8
  go_wp2
  go_ret
  exact ⟨rfl, HB9.out⟩
set_option maxRecDepth 100000 in
set_option maxHeartbeats 4000000 in
theorem walk_okno (z : Int) (q : Nat) (x : It) (A : Option Addr) (n c : Nat) (hok : OkI x) (hn : n = x.l.length) (hm : n ≤ 12) (hA : A = none → n = 0) (w : World) (hr : RdP w w.heap.size A x.l) (hz : 1 ≤ z ∧ z ≤ 64) (hc : itemN x ≠ 0) :
    Calls Try.prog 6 #[.int .i64 z, .int .u64 q, .agg #[.bool x.g, .int .u8 x.o, .int .u64 x.q, .int .u64 x.t, .string x.r, .slice A n c, .int .u8 x.s, .int .u8 x.p, .int .i64 x.v, .int .u8 x.w, .int .u8 x.ga, .int .u64 x.gf, .int .u64 x.gt]] w fun e w' => e = .returned (.bool true) ∧ Below w.heap.size w w' := by
  obtain ⟨V, hV⟩ : ∃ V, V = w.alloc (.cells #[.bool x.g, .int .u8 x.o, .int .u64 x.q, .int .u64 x.t, .string x.r, .slice A n c, .int .u8 x.s, .int .u8 x.p, .int .i64 x.v, .int .u8 x.w, .int .u8 x.ga, .int .u64 x.gf, .int .u64 x.gt] 43) := ⟨_, rfl⟩
  have hbV : Below w.heap.size w V := by rw [hV]; exact (Below.refl _ _).alloc (Nat.le_refl _) _
  have hcV : V.heap[w.heap.size]? = some (.cells #[.bool x.g, .int .u8 x.o, .int .u64 x.q, .int .u64 x.t, .string x.r, .slice A n c, .int .u8 x.s, .int .u8 x.p, .int .i64 x.v, .int .u8 x.w, .int .u8 x.ga, .int .u64 x.gf, .int .u64 x.gt] 43 (0, 0)) := by rw [hV]; exact heap_alloc_new _ _
  have hlV : w.heap.size < V.heap.size := by rw [hV]; simp
  have HV := Lib.hid hV
  have HX := Lib.hid (⟨hok, hn, hm, hA, hr⟩ : _ ∧ _ ∧ _ ∧ _ ∧ _)
  have HC := Lib.hid hc
  have HAW := Lib.hid (awake11_any V)
  have HBV := Lib.hid (⟨hbV, hlV⟩ : _ ∧ _)
  have HCV := Lib.hid hcV
  have d0 : decide (12 < n) = false := decide_eq_false (by omega)
  have d1 : decide ((12 : Int) < (n : Int)) = false := decide_eq_false (by omega)
  have z1 : decide (1 ≤ z) = true := decide_eq_true (by omega)
  have z2 : decide (z ≤ 64) = true := decide_eq_true (by omega)
  obtain ⟨zn, rfl⟩ : ∃ zn : Nat, z = zn := ⟨z.toNat, by omega⟩
  have z3 : decide (1 ≤ zn) = true := decide_eq_true (by omega)
  have z4 : decide (zn ≤ 64) = true := decide_eq_true (by omega)
  have HZ : Hid (1 ≤ zn ∧ zn ≤ 64) := ⟨by omega, by omega⟩
  clear hok hn hm hA hr hz hc hV hbV hcV hlV
  go_enter Try.func6, Try.ntmps6
  go_upto_region 1 with fail
  rw [← HV.out]
  go_wp2_with fail
  refine HAW.out.mono ?_
  rintro _ w1 ⟨rfl, hb1⟩
  have HC1 := Lib.hid ((hb1.block _ HBV.out.2).trans HCV.out)
  have c5 : w1.cell? ⟨w.heap.size, 5, none⟩ = some (.slice A n c) := cell_of_row _ _ 5 _ _ _ HC1.out
  have HB1 := Lib.hid (HBV.out.1.trans (hb1.mono HBV.out.1.size))
  have HL1 := Lib.hid (Nat.lt_of_lt_of_le HBV.out.2 hb1.size)
  clear hb1 HCV HAW HBV HV
  go_upto_region 5 with fail
  clear d0 d1 c5
  go_wp2_with fail
  refine (rnew_any zn HZ.out.1 HZ.out.2 w1).mono ?_
  rintro _ w2 ⟨rfl, -, hb2⟩
  have HC2 := Lib.hid ((hb2.block _ HL1.out).trans HC1.out)
  have HB2 := Lib.hid (HB1.out.trans (hb2.mono HB1.out.size))
  have HL2 := Lib.hid (Nat.lt_of_lt_of_le HL1.out hb2.size)
  clear hb2 HC1 HB1 HL1
  go_wp2_with fail
  refine (rpeek_nil w2).mono ?_
  rintro _ w3 ⟨rfl, hb3⟩
  have hb3' : Below w2.heap.size w2 w3 := hb3
  clear hb3
  go_upto_region 8 with (first | (refine wpList_store_row rfl _ _ _ rfl w3.heap.size #[.bool false, .int .u8 0, .int .u64 0, .int .u64 0, .string ⟨#[]⟩, .slice none 0 0, .int .u8 0, .int .u8 0, .int .i64 0, .int .u8 0, .int .u8 0, .int .u64 0, .int .u64 0] rfl rfl _ _ (heap_alloc_new _ _) Try.infoIt rfl (by simp [Value.oneCell']) ?_) | fail)
  obtain ⟨w4, hw4, -, hb4, -⟩ := boxI w3 #[.bool false, .int .u8 0, .int .u64 0, .int .u64 0, .string ⟨#[]⟩, .slice none 0 0, .int .u8 0, .int .u8 0, .int .i64 0, .int .u8 0, .int .u8 0, .int .u64 0, .int .u64 0] #[.bool false, .int .u8 0, .int .u64 0, .int .u64 0, .string ⟨#[]⟩, .slice none 0 0, .int .u8 0, .int .u8 0, .int .i64 0, .int .u8 0, .int .u8 0, .int .u64 0, .int .u64 0]
  rw [← hw4]
  have hb34 := hb3'.trans (hb4.mono hb3'.size)
  have HC4 := Lib.hid ((hb34.block _ HL2.out).trans HC2.out)
  have HB4 := Lib.hid (HB2.out.trans (hb34.mono HB2.out.size))
  have HL4 := Lib.hid (Nat.lt_of_lt_of_le HL2.out hb34.size)
  clear hb3' hw4 hb4 hb34 HC2 HB2 HL2
  go_wp2_with fail
  refine (rack_nil w4).mono ?_
  rintro _ _ ⟨rfl, rfl⟩
  go_wp2_with fail
  refine (rcounts_nil w4).mono ?_
  rintro _ _ ⟨rfl, rfl⟩
  go_wp2_with fail
  refine (rnew_any 1 (by decide) (by decide) w4).mono ?_
  rintro _ w5 ⟨rfl, hr5, hb5⟩
  obtain ⟨s, hs⟩ : ∃ s, s = w4.heap.size + 1 := ⟨_, rfl⟩
  obtain ⟨m, hmm⟩ : ∃ m, m = w4.heap.size := ⟨_, rfl⟩
  rw [← hs] at hr5 ⊢
  rw [← hmm] at hr5
  have HSM : Hid ((w.heap.size ≤ s ∧ w.heap.size ≤ m) ∧ w.heap.size ≠ s ∧ w.heap.size ≠ m) := by
    have h1 := HL4.out
    exact ⟨⟨by omega, by omega⟩, by omega, by omega⟩
  have HR5 := Lib.hid hr5
  have HC5 := Lib.hid ((hb5.block _ HL4.out).trans HC4.out)
  have HB5 := Lib.hid (HB4.out.trans (hb5.mono HB4.out.size))
  have HL5 := Lib.hid (Nat.lt_of_lt_of_le HL4.out hb5.size)
  have HRI := Lib.hid (refItem_any x A n c w5 HX.out.2.1 (by have := HX.out.2.2.1; unfold maxLen; omega) ((HX.out.2.2.2.2.below HB5.out).more HB5.out.size) HX.out.1)
  clear hr5 hb5 hs hmm HC4 HB4 HL4
  go_wp2_with (first
    | (refine wpList_load_row rfl _ _ rfl w.heap.size rfl _ _ _ _ HC5.out Try.underlying43 rfl (by kernel_rfl) ?_)
    | fail)
  refine HRI.out.mono ?_
  rintro _ w6 ⟨rfl, hb6⟩
  have HR6 := Lib.hid (HR5.out.below hb6)
  have HC6 := Lib.hid ((hb6.block _ HL5.out).trans HC5.out)
  have HB6 := Lib.hid (HB5.out.trans (hb6.mono HB5.out.size))
  have HL6 := Lib.hid (Nat.lt_of_lt_of_le HL5.out hb6.size)
  clear hb6 HRI HR5 HC5 HB5 HL5
  obtain ⟨y, hy⟩ : ∃ y, y = itemN x := ⟨_, rfl⟩
  rw [← hy]
  have y0 : ((y : Int) == 0) = false := by rw [beq_eq_false_iff_ne]; have := HC.out; omega
  have HY := Lib.hid hy
  clear hy
  have hr6 := range_of_row (cs := [.bool x.g, .int .u8 x.o, .int .u64 x.q, .int .u64 x.t, .string x.r, .slice A n c, .int .u8 x.s, .int .u8 x.p, .int .i64 x.v, .int .u8 x.w, .int .u8 x.ga, .int .u64 x.gf, .int .u64 x.gt]) HC6.out
  go_wp2_with (first
    | ((with_reducible refine wpList_at8 (op := ⟨some 79, _, _, _, _, _⟩) ?_); refine wpList_load_wanted8 (by rfl) _ _ rfl w.heap.size 0 rfl [.bool x.g, .int .u8 x.o, .int .u64 x.q, .int .u64 x.t, .string x.r, .slice A n c, .int .u8 x.s, .int .u8 x.p, .int .i64 x.v, .int .u8 x.w, .int .u8 x.ga, .int .u64 x.gf, .int .u64 x.gt] _ hr6 Try.underlying43 rfl Try.infoIt ?_)
    | fail)
  clear hr6
  refine (rtake_nil q x A n c w6).mono ?_
  rintro _ w7 ⟨rfl, hb7⟩
  have HR7 := Lib.hid (HR6.out.below hb7)
  have HC7 := Lib.hid ((hb7.block _ HL6.out).trans HC6.out)
  have HB7 := Lib.hid (HB6.out.trans (hb7.mono HB6.out.size))
  clear hb7 HR6 HC6 HB6 HL6
  go_wp2_with fail
  refine (rnext_nil w7).mono ?_
  rintro _ _ ⟨rfl, rfl⟩
  have HT := Lib.hid (rtake_bad (q := 1) (n := 1) (z := y) (x := x) (A := A) (N := n) (c := c) w7 HR7.out rfl (by decide) (by decide) (by decide) (by decide) rfl (by decide) HY.out.symm (by rw [HY.out]; exact HC.out) HX.out.2.1 (by have := HX.out.2.2.1; unfold maxLen; omega) ((HX.out.2.2.2.2.below HB7.out).more HB7.out.size))
  have hr7 := range_of_row (cs := [.bool x.g, .int .u8 x.o, .int .u64 x.q, .int .u64 x.t, .string x.r, .slice A n c, .int .u8 x.s, .int .u8 x.p, .int .i64 x.v, .int .u8 x.w, .int .u8 x.ga, .int .u64 x.gf, .int .u64 x.gt]) HC7.out
  go_wp2_with (first
    | ((with_reducible refine wpList_at8 (op := ⟨some 108, _, _, _, _, _⟩) ?_); refine wpList_load_wanted8 (by rfl) _ _ rfl w.heap.size 0 rfl [.bool x.g, .int .u8 x.o, .int .u64 x.q, .int .u64 x.t, .string x.r, .slice A n c, .int .u8 x.s, .int .u8 x.p, .int .i64 x.v, .int .u8 x.w, .int .u8 x.ga, .int .u64 x.gf, .int .u64 x.gt] _ hr7 Try.underlying43 rfl Try.infoIt ?_)
    | fail)
  clear hr7
  refine HT.out.mono ?_
  rintro _ w8 ⟨rfl, hb8⟩
  have HN8 := Lib.hid (rnext_none (n := 1) w8 (HR7.out.below hb8) rfl (by decide) rfl)
  have HB8 := Lib.hid (HB7.out.trans (hb8.mono HB7.out.size))
  clear hb8 HT HR7 HC7 HB7
  go_wp2_with fail
  refine HN8.out.mono ?_
  rintro _ w9 ⟨rfl, hb9⟩
  have HB9 := Lib.hid (HB8.out.trans (hb9.mono HB8.out.size))
  clear hb9 HN8 HB8
  go_wp2
  go_ret
  exact ⟨rfl, HB9.out⟩
set_option maxRecDepth 100000 in
set_option maxHeartbeats 1000000 in
theorem walk (z : Int) (q : Nat) (x : It) (A : Option Addr) (n c : Nat) (hok : OkI x) (hn : n = x.l.length) (hm : n ≤ maxLen) (hA : A = none → n = 0) (w : World) (hr : RdP w w.heap.size A x.l) :
    Calls Try.prog 6 #[.int .i64 z, .int .u64 q, .agg #[.bool x.g, .int .u8 x.o, .int .u64 x.q, .int .u64 x.t, .string x.r, .slice A n c, .int .u8 x.s, .int .u8 x.p, .int .i64 x.v, .int .u8 x.w, .int .u8 x.ga, .int .u64 x.gf, .int .u64 x.gt]] w fun e w' => e = .returned (.bool true) ∧ Below w.heap.size w w' := by
  by_cases h12 : 12 < n
  · obtain ⟨V, hV⟩ : ∃ V, V = w.alloc (.cells #[.bool x.g, .int .u8 x.o, .int .u64 x.q, .int .u64 x.t, .string x.r, .slice A n c, .int .u8 x.s, .int .u8 x.p, .int .i64 x.v, .int .u8 x.w, .int .u8 x.ga, .int .u64 x.gf, .int .u64 x.gt] 43) := ⟨_, rfl⟩
    have hbV : Below w.heap.size w V := by rw [hV]; exact (Below.refl _ _).alloc (Nat.le_refl _) _
    have hcV : V.heap[w.heap.size]? = some (.cells #[.bool x.g, .int .u8 x.o, .int .u64 x.q, .int .u64 x.t, .string x.r, .slice A n c, .int .u8 x.s, .int .u8 x.p, .int .i64 x.v, .int .u8 x.w, .int .u8 x.ga, .int .u64 x.gf, .int .u64 x.gt] 43 (0, 0)) := by rw [hV]; exact heap_alloc_new _ _
    have hlV : w.heap.size < V.heap.size := by rw [hV]; simp
    have HV := Lib.hid hV
    have HAW := Lib.hid (awake11_any V)
    have HBV := Lib.hid (⟨hbV, hlV⟩ : _ ∧ _)
    have HCV := Lib.hid hcV
    have d0 : decide (12 < n) = true := decide_eq_true h12
    have d1 : decide ((12 : Int) < (n : Int)) = true := decide_eq_true (by omega)
    clear hok hn hm hA hr hV hbV hcV hlV
    go_enter Try.func6, Try.ntmps6
    go_upto_region 1 with fail
    rw [← HV.out]
    go_wp2_with fail
    refine HAW.out.mono ?_
    rintro _ w1 ⟨rfl, hb1⟩
    have c5 : w1.cell? ⟨w.heap.size, 5, none⟩ = some (.slice A n c) := cell_of_row _ _ 5 _ _ _ ((hb1.block _ HBV.out.2).trans HCV.out)
    have HB1 := Lib.hid (HBV.out.1.trans (hb1.mono HBV.out.1.size))
    clear hb1
    go_wp2
    go_ret
    exact ⟨rfl, HB1.out⟩
  · have h1 : n ≤ 12 := by omega
    by_cases hc : itemN x = 0
    · by_cases hz : z < 1
      · exact walk_look z q x A n c hok hn h1 hA w hr hz hc
      by_cases hz2 : 64 < z
      · exact walk_hiok z q x A n c hok hn h1 hA w hr hz2 hc
      · exact walk_okok z q x A n c hok hn h1 hA w hr ⟨by omega, by omega⟩ hc
    · by_cases hz : z < 1
      · exact walk_lono z q x A n c hok hn h1 hA w hr hz hc
      by_cases hz2 : 64 < z
      · exact walk_hino z q x A n c hok hn h1 hA w hr hz2 hc
      · exact walk_okno z q x A n c hok hn h1 hA w hr ⟨by omega, by omega⟩ hc
end recvNone
end Go.Proofs.Ytileaoanekphaaa
