/- Several texts in one: SpoolNone. -/
import Derived.Test.YtgcfofnlgdfmoaaMb38
import Derived.Test.YtgcfofnlgdfmoaaMb39
import Derived.Test.YtgcfofnlgdfmoaaMb40
/- Layer 8: SpoolNone: nil spools, quotas that can't be, a copy goes its own way. -/
namespace Go.Proofs.Ytgcfofnlgdfmoaa
open Go.RowKit

theorem like_len {x : It} (ho : OkI x) (hr : x.r.size ≤ 100) (hl : (labsB x.l).length ≤ 12) (hll : x.l.length ≤ 3) : (itemB x).length ≤ 300 := by
  have b1 := leb_le10 ho.q
  have b2 := leb_le10 ho.t
  have b3 := leb_le10 ho.gf
  have b4 := leb_le10 ho.gt
  have b5 := leb_le10 (zig_lt ho.v0 ho.v1)
  have b6 := leb_le10 (n := x.r.size) (by omega)
  have b7 := leb_le10 (n := x.l.length) (by omega)
  unfold itemB
  split
  · unfold gapB
    simp only [List.length_append, List.length_cons, List.length_nil]
    omega
  · unfold evB headB tailB
    simp only [List.length_append, List.length_cons, List.length_nil, textB_length]
    omega
theorem small_r (s : Sm) : (smallI s).r.size ≤ 100 := by
  cases hg : s.g with
  | true => rw [smallI_gap s hg]; exact (show (⟨#[]⟩ : ByteArray).size ≤ _ by decide)
  | false => rw [smallI_ev s hg]; exact ruleI_size s
theorem small_labs (s : Sm) : (labsB (smallI s).l).length ≤ 12 := by
  cases hg : s.g with
  | true => rw [smallI_gap s hg]; simp [labsB]
  | false =>
    rw [smallI_ev s hg]
    show (labsB (labsS s (s.l % 4))).length ≤ 12
    rw [labsS_len]; omega
theorem nextI_l (s : Sm) (h : Nat) : (nextI s h).l = (smallI (nextS s)).l := by unfold nextI; split <;> rfl
theorem nextI_r (s : Sm) (h : Nat) : (nextI s h).r = (smallI (nextS s)).r := by unfold nextI; split <;> rfl
theorem nextI_ok {s : Sm} (hs : OkS s) {h : Nat} (hh : h ≤ 1099511627776) : OkI (nextI s h) := by
  have q := smallI_ok (nextS s) (nextS_ok hs)
  unfold nextI
  split
  · exact ⟨q.o, q.q, q.t, q.r, q.l, q.s, q.p, q.v0, q.v1, q.w, q.ga, (show h + 1 < 18446744073709551616 by omega), (show h + 1 + s.m % 3 < 18446744073709551616 by omega)⟩
  · exact ⟨q.o, (show h + 1 < 18446744073709551616 by omega), q.t, q.r, q.l, q.s, q.p, q.v0, q.v1, q.w, q.ga, q.gf, q.gt⟩
theorem nextI_good {s : Sm} (hs : OkS s) {h : Nat} (hh : h ≤ 1099511627776) : ShortI (nextI s h) ∧ (nextI s h).l.length ≤ 3 ∧ (itemB (nextI s h)).length ≤ 300 := by
  have q := smallI_short (nextS s)
  have hl : (nextI s h).l.length ≤ 3 := by rw [nextI_l]; exact smallI_labs _
  exact ⟨⟨by rw [nextI_r]; exact q.r, by rw [nextI_l]; exact q.l⟩, hl, like_len (nextI_ok hs hh) (by rw [nextI_r]; exact small_r _) (by rw [nextI_l]; exact small_labs _) hl⟩

theorem boxEn (W : World) (Z cs : Array Value) : ∃ V, V = (W.alloc (.cells Z 68)).setRow W.heap.size cs ∧ Below W.heap.size W V := ⟨_, rfl, below_setRow ((Below.refl _ _).alloc (Nat.le_refl _) _) (Nat.le_refl _) _⟩
namespace spoolNone
theorem new_both (z : Int) (w : World) : Calls Try.prog 20 #[.int .i64 z] w fun e w' => ∃ pv : Option Addr, e = .returned (.tuple #[.pointer pv, .int .i64 (if 64 ≤ z ∧ z ≤ 65536 then 0 else 26)]) ∧ (pv = none ↔ ¬ (64 ≤ z ∧ z ≤ 65536)) ∧ Below w.heap.size w w' := by
  by_cases h : 64 ≤ z ∧ z ≤ 65536
  · obtain ⟨k, rfl⟩ : ∃ k : Nat, z = (k : Int) := ⟨z.toNat, by omega⟩
    refine (snew_any k (by omega) (by omega) w).mono ?_
    rintro _ w1 ⟨rfl, _, hb⟩
    exact ⟨some ⟨w.heap.size, 0, none⟩, by rw [if_pos h], ⟨fun e => (by cases e), fun e => absurd h e⟩, hb⟩
  · refine (snew_wrong z (by omega) w).mono ?_
    rintro _ w1 ⟨rfl, rfl⟩
    exact ⟨none, by rw [if_neg h], ⟨fun _ => h, fun _ => rfl⟩, Below.refl _ _⟩

theorem field_zero (w : World) : (Instr.field 81 (.agg zeroBase) 0).run Try.prog w = .ok (.int .u64 0) w := by kernel_rfl
set_option maxRecDepth 100000 in
set_option maxHeartbeats 2000000 in
theorem walk (z : Int) (_ : -9223372036854775808 ≤ z) (_ : z < 9223372036854775808) (s : Sm) (hs : OkS s) (n : Nat) (_ : n < 18446744073709551616) (w : World) :
    Calls Try.prog 7 #[.int .i64 z, .agg #[.bool s.g, .int .u8 s.o, .int .u8 s.p, .int .u8 s.w, .int .u16 s.q, .int .u16 s.m, .int .u16 s.t, .int .u8 s.r, .int .u8 s.l, .int .u8 s.v, .bool s.s], .int .u64 n] w fun e w' => e = .returned (.bool true) ∧ Below w.heap.size w w' := by
  obtain ⟨w0, hw0⟩ : ∃ w0, w0 = w.alloc (.cells (smL s).toArray 51) := ⟨_, rfl⟩
  have hb0 : Below w.heap.size w w0 := by rw [hw0]; exact (Below.refl _ _).alloc (Nat.le_refl _) _
  have hbox : w0.heap[w.heap.size]? = some (.cells (smL s).toArray 51 (0, 0)) := by rw [hw0]; exact heap_alloc_new _ _
  have hl0 := (Array.getElem?_eq_some_iff.1 hbox).1
  have HW0 := Lib.hid hw0
  have HB0 := Lib.hid hb0
  have HX0 := Lib.hid hbox
  have HS := Lib.hid hs
  clear hw0 hb0 hbox hs
  go_enter Try.func7, Try.ntmps7
  go_upto_region 1 with fail
  have hw : w.alloc (.cells #[.bool s.g, .int .u8 s.o, .int .u8 s.p, .int .u8 s.w, .int .u16 s.q, .int .u16 s.m, .int .u16 s.t, .int .u8 s.r, .int .u8 s.l, .int .u8 s.v, .bool s.s] 51) = w0 := HW0.out.symm
  rw [hw]
  clear hw
  go_wp2_with fail
  refine (awake8_any w0).mono ?_
  rintro _ w1 ⟨rfl, hb1⟩
  have HB1 := Lib.hid (HB0.out.trans (hb1.mono HB0.out.size))
  have HX1 := Lib.hid ((hb1.block _ hl0).trans HX0.out)
  have hz01 := hb1.size
  clear hb1
  go_wp2_with fail
  refine (new_both z w1).mono ?_
  rintro _ w2 ⟨pv, rfl, hpv, hb2⟩
  have HB2 := Lib.hid (HB1.out.trans (hb2.mono HB1.out.size))
  have HX2 := Lib.hid ((hb2.block _ (by omega)).trans HX1.out)
  have HPV := Lib.hid hpv
  have hz12 := hb2.size
  obtain ⟨er, her⟩ : ∃ er : Int, er = if 64 ≤ z ∧ z ≤ 65536 then 0 else 26 := ⟨_, rfl⟩
  rw [← her]
  have HER := Lib.hid her
  clear hb2 hpv her
  go_wp2_with (first | (refine wpList_load_row rfl _ _ rfl w.heap.size rfl _ _ _ _ HX2.out Try.underlying51 rfl Try.infoSm ?_) | fail)
  refine (smallItem_any s HS.out w2).mono ?_
  rintro _ w3 ⟨A3, n3, c3, rfl, hn3, ho3, hb3⟩
  subst hn3
  have HB3 := Lib.hid (HB2.out.trans (hb3.mono HB2.out.size))
  have HX3 := Lib.hid ((hb3.block _ (by omega)).trans HX2.out)
  have hz23 := hb3.size
  clear ho3 hb3
  go_wp2_with fail
  refine (put_nil (smallI s) A3 c3 w3).mono ?_
  rintro _ w4 ⟨rfl, hb4⟩
  have HB4 := Lib.hid (HB3.out.trans (hb4.mono HB3.out.size))
  have HX4 := Lib.hid ((hb4.block _ (by omega)).trans HX3.out)
  have hz34 := hb4.size
  clear hb4
  go_wp2_with fail
  refine (find_nil _ w4).mono ?_
  rintro _ w5 ⟨rfl, hb5⟩
  have HB5 := Lib.hid (HB4.out.trans (hb5.mono HB4.out.size))
  have HX5 := Lib.hid ((hb5.block _ (by omega)).trans HX4.out)
  have hz45 := hb5.size
  clear hb5
  unfold zeroE
  go_upto_region 7 with (first | (refine wpList_store_row rfl _ _ _ rfl w5.heap.size #[.int .u64 0, .bool false, .int .u8 0, .int .u64 0, .int .u64 0, .string ⟨#[]⟩, .slice none 0 0, .int .u8 0, .int .u8 0, .int .i64 0, .int .u8 0, .int .u8 0, .int .u64 0, .int .u64 0] rfl rfl _ _ (heap_alloc_new _ _) Try.infoEn rfl (by simp [Value.oneCell']) ?_) | fail)
  obtain ⟨w6, hw6, hb6⟩ := boxEn w5 #[.int .u64 0, .bool false, .int .u8 0, .int .u64 0, .int .u64 0, .string ⟨#[]⟩, .slice none 0 0, .int .u8 0, .int .u8 0, .int .i64 0, .int .u8 0, .int .u8 0, .int .u64 0, .int .u64 0] #[.int .u64 0, .bool false, .int .u8 0, .int .u64 0, .int .u64 0, .string ⟨#[]⟩, .slice none 0 0, .int .u8 0, .int .u8 0, .int .i64 0, .int .u8 0, .int .u8 0, .int .u64 0, .int .u64 0]
  rw [← hw6]
  have HB6 := Lib.hid (HB5.out.trans (hb6.mono HB5.out.size))
  have HX6 := Lib.hid ((hb6.block _ (by omega)).trans HX5.out)
  have hz56 := hb6.size
  clear hw6 hb6
  go_wp2_with fail
  refine (scounts_nil w6).mono ?_
  rintro _ w7 ⟨rfl, hb7⟩
  have HB7 := Lib.hid (HB6.out.trans (hb7.mono HB6.out.size))
  have HX7 := Lib.hid ((hb7.block _ (by omega)).trans HX6.out)
  have hz67 := hb7.size
  have hmf : ∀ (fn : Fn) (first cap : Array Value) (w : World), (Instr.makeFunc fn first cap).run Try.prog w = .ok (.func fn first cap) w := fun _ _ _ _ => rfl
  clear hb7
  by_cases h64 : 64 ≤ z
  case' neg =>
    have d1 : decide ((64 : Int) ≤ z) = false := decide_eq_false h64
    have hR : ¬ (64 ≤ z ∧ z ≤ 65536) := fun h => h64 h.1
    have hpv : pv = none := HPV.out.2 hR
    have her : er = 26 := by rw [HER.out, if_neg hR]
    subst hpv
    subst her
  case' pos =>
    have d1 : decide ((64 : Int) ≤ z) = true := decide_eq_true h64
    by_cases h65 : z ≤ 65536
    case' neg =>
      have d2 : decide (z ≤ (65536 : Int)) = false := decide_eq_false h65
      have hR : ¬ (64 ≤ z ∧ z ≤ 65536) := fun h => h65 h.2
      have hpv : pv = none := HPV.out.2 hR
      have her : er = 26 := by rw [HER.out, if_neg hR]
      subst hpv
      subst her
    case' pos =>
      have d2 : decide (z ≤ (65536 : Int)) = true := decide_eq_true h65
      have hR : 64 ≤ z ∧ z ≤ 65536 := ⟨h64, h65⟩
      obtain ⟨av, hpv⟩ : ∃ a, pv = some a := by
        cases pv with
        | none => exact absurd hR (HPV.out.1 rfl)
        | some a => exact ⟨a, rfl⟩
      have her : er = 0 := by rw [HER.out, if_pos hR]
      subst hpv
      subst her
  all_goals
    clear HPV HER hR
    go_wp2_with fail
    refine (snew_any 100 (by decide) (by decide) w7).mono ?_
    rintro _ w8 ⟨rfl, hs8, hb8⟩
    obtain ⟨t, ht⟩ : ∃ t, t = w7.heap.size := ⟨_, rfl⟩
    have HTL := Lib.hid (show t < w8.heap.size by have hl8 := hs8.lt w7.heap.size rfl; omega)
    rw [← ht] at hs8 ⊢
    have HS8 := Lib.hid hs8
    have HB8 := Lib.hid (HB7.out.trans (hb8.mono HB7.out.size))
    have HX8 := Lib.hid ((hb8.block _ (by omega)).trans HX7.out)
    have hz78 := hb8.size
    clear hs8 hb8 ht
    go_wp2_with fail
    refine (scopy_any w8 HS8.out).mono ?_
    rintro _ w9 ⟨rfl, hb9, hs9⟩
    obtain ⟨u, hu⟩ : ∃ u, u = w8.heap.size := ⟨_, rfl⟩
    obtain ⟨S9, hS9⟩ : ∃ S9 : Nat → Prop, S9 = fun k => w8.heap.size ≤ k ∧ k < w9.heap.size := ⟨_, rfl⟩
    rw [← hS9] at hs9
    have hS9l : ∀ k, S9 k → w8.heap.size ≤ k := fun k hk => by rw [hS9] at hk; exact hk.1
    rw [← hu] at hs9 ⊢
    have HS9 := Lib.hid hs9
    have HS9l := Lib.hid hS9l
    have HT9 := Lib.hid (HS8.out.below hb9)
    have HB9 := Lib.hid (HB8.out.trans (hb9.mono HB8.out.size))
    have HX9 := Lib.hid ((hb9.block _ (by omega)).trans HX8.out)
    have hz89 := hb9.size
    clear hs9 hb9 hu hS9 hS9l
    go_wp2_with (first | (refine wpList_load_row rfl _ _ rfl w.heap.size rfl _ _ _ _ HX9.out Try.underlying51 rfl Try.infoSm ?_) | fail)
    refine (next_any s HS.out w9 HS9.out (by show 0 ≤ 1099511627776; decide)).mono ?_
    rintro _ wa ⟨Aa, ca, rfl, hnil, hrd, hba⟩
    obtain ⟨g1, g2, g3⟩ := nextI_good HS.out (h := 0) (by decide)
    have hok := nextI_ok HS.out (h := 0) (by decide)
    have hl := nextI_l s 0
    have HP := Lib.hid (put_any (nextI s 0) Aa ca wa (HS9.out.below hba) hok g1 (by omega) (by omega) (fun h => by rw [hl]; exact hnil h) (by rw [hl]; exact hrd) (fun i _ => by show 0 ≤ 1099511627776; decide) (by show 0 + 0 < 18446744073709551615; decide) (by show 0 < 100000; decide))
    have HTa := Lib.hid (HT9.out.below hba)
    have HBa := Lib.hid (HB9.out.trans (hba.mono HB9.out.size))
    have hz9a := hba.size
    clear hnil hrd hba g1 g2 g3 hok hl
    go_wp2_with fail
    refine HP.out.mono ?_
    rintro _ wb ⟨Ab, cb, rfl, Sb, hsb, hstb⟩
    have htb : SpAt wb (fun k => k = t) t ⟨100, 1, 0, 0, fun _ => 0⟩ [] := HTa.out.keep hstb.only (fun k hk e => by have := HS9l.out k e; have hk : k = t := hk; have := HTL.out; omega) (fun e he => by cases he)
    have HTb := Lib.hid htb
    have HBb := Lib.hid (HBa.out.trans (⟨hstb.only.os, hstb.only.tape, hstb.only.output, hstb.only.size, fun q hq => hstb.only.block q (Nat.lt_of_lt_of_le hq HBa.out.size) (fun e => by have := HS9l.out q e; have := HB8.out.size; omega)⟩ : Below w.heap.size wa wb))
    clear htb hstb hsb
    go_wp2_with fail
    refine (scounts_any wb HTb.out).mono ?_
    rintro _ wc ⟨rfl, hbc⟩
    have HBc := Lib.hid (HBb.out.trans (hbc.mono HBb.out.size))
    clear hbc
    go_wp2_with fail
    refine (ack_nil _ wc).mono ?_
    rintro _ wd ⟨rfl, hbd⟩
    have HBd := Lib.hid (HBc.out.trans (hbd.mono HBc.out.size))
    clear hbd
    go_wp2_with fail
    refine (list_nil _ _ wd).mono ?_
    rintro _ we ⟨rfl, hbe⟩
    have HBe := Lib.hid (HBd.out.trans (hbe.mono HBd.out.size))
    clear hbe
    go_wp2_with fail
    refine (quota_nil  we).mono ?_
    rintro _ wf ⟨rfl, hbf⟩
    have HBf := Lib.hid (HBe.out.trans (hbf.mono HBe.out.size))
    clear hbf
    go_wp2_with fail
    refine (high_nil _ wf).mono ?_
    rintro _ wg ⟨rfl, hbg⟩
    have HBg := Lib.hid (HBf.out.trans (hbg.mono HBf.out.size))
    clear hbg
    go_wp2_with fail
    refine (scopy_nil  wg).mono ?_
    rintro _ wh ⟨rfl, hbh⟩
    have HBh := Lib.hid (HBg.out.trans (hbh.mono HBg.out.size))
    clear hbh
    go_wp2_with fail
    refine (base_nil wh).mono ?_
    rintro _ wi ⟨rfl, hbi⟩
    have HBi := Lib.hid (HBh.out.trans (hbi.mono HBh.out.size))
    clear hbi
    have hfd := field_zero
    go_wp2
    go_ret
    exact ⟨rfl, HBi.out⟩
end spoolNone
end Go.Proofs.Ytgcfofnlgdfmoaa
