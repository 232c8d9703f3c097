/- Layer 13: CondOrder's walk. -/
import Derived.Test.YthggaedpbmjclaaCdOrd
namespace Go.Proofs.Ythggaedpbmjclaa
open Go.RowKit Go.Proofs
namespace condOrder
set_option maxRecDepth 100000 in
set_option maxHeartbeats 4000000 in
theorem walk (N c : Nat) (A : Option Addr) (l : List Nat) (v : Int) (w : World) (hN : N = l.length) (hr : RdU w w.heap.size A l) (hok : ∀ x ∈ l, x < 18446744073709551616) :
    Calls Try.prog 4 #[.slice A N c, .int .i64 v] w fun e w' => e = .returned (.bool true) ∧ Below w.heap.size w w' := by
  have HR := Lib.hid hr
  have HN := Lib.hid hN
  have hz := Try.zeroSer
  clear hr hN hok
  go_enter Try.func4, Try.ntmps4
  go_wp2_with fail
  refine (awake13_any w).mono ?_
  rintro _ w0 ⟨rfl, hb0⟩
  have HB0 := Lib.hid hb0
  clear hb0
  by_cases h60 : 60 < N
  · have p1 : decide ((60 : Int) < (N : Int)) = true := decide_eq_true (by omega)
    have p2 : decide (60 < N) = true := decide_eq_true h60
    go_wp2
    go_ret
    exact ⟨rfl, HB0.out⟩
  have p1 : decide ((60 : Int) < (N : Int)) = false := decide_eq_false (by omega)
  have p2 : decide (60 < N) = false := decide_eq_false h60
  have hN60 : N ≤ 60 := by omega
  go_upto_region 6 with fail
  obtain ⟨V, hV, hs0, hbV, -⟩ := serMade w0
  rw [← hV]
  obtain ⟨s, hs⟩ : ∃ s, s = w0.heap.size := ⟨_, rfl⟩
  rw [← hs] at hs0 ⊢
  have HO := Lib.hid (show OrdI w V s v 0 0 from ⟨⟨[], hs0, rfl, fun _ => rfl, fun h => absurd h (by omega)⟩, HB0.out.trans (hbV.mono HB0.out.size), by have := HB0.out.size; omega, by decide⟩)
  clear hV hs0 hbV hs HB0 hz p1 p2 h60
  go_wp2
  go_loopw [21, 6, 7] (fun iv tv nv wx => ∃ (i t n : Nat), i ≤ N ∧ iv = .int .i64 i ∧ tv = .int .u64 t ∧ nv = .int .i64 n ∧ n ≤ i ∧ Hid (OrdI w wx s v t n)) (fun iv _ _ _ => N - (intOf iv).toNat)
  case atStart => exact ⟨0, 0, 0, Nat.zero_le _, rfl, rfl, rfl, Nat.le_refl _, HO.out⟩
  case round =>
    obtain ⟨i, t, n, hi, rfl, rfl, rfl, hn, HI⟩ := hrel
    clear HO
    by_cases hlt : i < N
    · have q1 : decide ((i : Int) < (N : Int)) = true := decide_eq_true (by omega)
      have q2 : decide (i < N) = true := decide_eq_true hlt
      obtain ⟨b, o, x, rfl, -, hx⟩ := HR.out.at_ HI.out.bl (k := i) (by rw [← HN.out]; exact hlt)
      have HA := Lib.hid (ord_add (x := x) HI.out)
      go_wp2_with fail
      refine HA.out.mono ?_
      intro e w1 hp
      clear HI HA hx q1 q2
      rcases hp with ⟨g1, rfl, hI⟩ | ⟨g1, g2, g3, rfl, hI⟩ | ⟨g1, g2, rfl, hI⟩
      · have HP := Lib.hid (ord_points hI)
        have d1 : decide ((1099511627776 : Int) < (x : Int)) = true := decide_eq_true (by omega)
        have d2 : decide (1099511627776 < x) = true := decide_eq_true g1
        clear hI g1
        obtain ⟨m, hm⟩ : ∃ m, m = min n 32 := ⟨_, rfl⟩
        have e1 : min (n : Int) 32 = (m : Int) := by omega
        rw [← hm] at HP
        clear hm
        go_wp2_with fail
        refine HP.out.mono ?_
        rintro _ w2 ⟨A2, c2, rfl, hI2⟩
        have HI2 := Lib.hid hI2
        clear hI2 HP
        go_wp2
        go_roundw
        case rel => exact ⟨i + 1, t, n, by omega, by go_num, rfl, rfl, by omega, HI2.out⟩
        case measure => simp [intOf]; omega
      · have HP := Lib.hid (ord_points hI)
        have d1 : decide ((1099511627776 : Int) < (x : Int)) = false := decide_eq_false (by omega)
        have d2 : decide (1099511627776 < x) = false := decide_eq_false (by omega)
        have d3 : decide ((0 : Int) < (n : Int)) = true := decide_eq_true (by omega)
        have d4 : decide (0 < n) = true := decide_eq_true g2
        have d5 : decide ((x : Int) < (t : Int)) = true := decide_eq_true (by omega)
        have d6 : decide (x < t) = true := decide_eq_true g3
        clear hI g1 g2 g3
        obtain ⟨m, hm⟩ : ∃ m, m = min n 32 := ⟨_, rfl⟩
        have e1 : min (n : Int) 32 = (m : Int) := by omega
        rw [← hm] at HP
        clear hm
        go_wp2_with fail
        refine HP.out.mono ?_
        rintro _ w2 ⟨A2, c2, rfl, hI2⟩
        have HI2 := Lib.hid hI2
        clear hI2 HP
        go_wp2
        go_roundw
        case rel => exact ⟨i + 1, t, n, by omega, by go_num, rfl, rfl, by omega, HI2.out⟩
        case measure => simp [intOf]; omega
      · have HP := Lib.hid (ord_points hI)
        have d1 : decide ((1099511627776 : Int) < (x : Int)) = false := decide_eq_false (by omega)
        have d2 : decide (1099511627776 < x) = false := decide_eq_false (by omega)
        obtain ⟨k, hk⟩ : ∃ k, k = n + 1 := ⟨_, rfl⟩
        have e0 : (n : Int) + 1 = (k : Int) := by omega
        rw [← hk] at HP
        have hki : k ≤ i + 1 := by omega
        rcases Nat.eq_zero_or_pos n with h0 | h0
        · have d3 : decide ((0 : Int) < (n : Int)) = false := decide_eq_false (by omega)
          have d4 : decide (0 < n) = false := decide_eq_false (by omega)
          clear hI g1 g2 hk h0 hn
          obtain ⟨m, hm⟩ : ∃ m, m = min k 32 := ⟨_, rfl⟩
          have e1 : min (k : Int) 32 = (m : Int) := by omega
          rw [← hm] at HP
          clear hm
          go_wp2_with fail
          refine HP.out.mono ?_
          rintro _ w2 ⟨A2, c2, rfl, hI2⟩
          have HI2 := Lib.hid hI2
          clear hI2 HP
          go_wp2
          go_roundw
          case rel => exact ⟨i + 1, x, k, by omega, by go_num, rfl, rfl, by omega, HI2.out⟩
          case measure => simp [intOf]; omega
        · have d3 : decide ((0 : Int) < (n : Int)) = true := decide_eq_true (by omega)
          have d4 : decide (0 < n) = true := decide_eq_true h0
          have d5 : decide ((x : Int) < (t : Int)) = false := decide_eq_false (by have := g2 h0; omega)
          have d6 : decide (x < t) = false := decide_eq_false (g2 h0)
          clear hI g1 g2 hk h0 hn
          obtain ⟨m, hm⟩ : ∃ m, m = min k 32 := ⟨_, rfl⟩
          have e1 : min (k : Int) 32 = (m : Int) := by omega
          rw [← hm] at HP
          clear hm
          go_wp2_with fail
          refine HP.out.mono ?_
          rintro _ w2 ⟨A2, c2, rfl, hI2⟩
          have HI2 := Lib.hid hI2
          clear hI2 HP
          go_wp2
          go_roundw
          case rel => exact ⟨i + 1, x, k, by omega, by go_num, rfl, rfl, by omega, HI2.out⟩
          case measure => simp [intOf]; omega
    · obtain rfl : i = N := by omega
      have q1 : decide ((i : Int) < (i : Int)) = false := decide_eq_false (by omega)
      have q2 : decide (i < i) = false := decide_eq_false (by omega)
      have HL := Lib.hid (ord_last HI.out)
      clear HI
      go_wp2_with fail
      refine HL.out.mono ?_
      rintro e w1 ⟨h1, hb1⟩
      have HB1 := Lib.hid hb1
      clear hb1 HL q1 q2
      rcases h1 with ⟨h0, rfl⟩ | ⟨h0, rfl⟩
      · subst h0
        go_upto_region 22 with (first | (refine wpList_store_row rfl _ _ _ rfl w1.heap.size #[.int .u64 0, .int .i64 0] rfl rfl _ _ (heap_alloc_new _ _) Try.infoPt rfl (by simp [Value.oneCell']) ?_) | fail)
        obtain ⟨w2, hw2, hc2, hb2, -⟩ := boxP2 w1 32 #[.int .u64 0, .int .i64 0] #[.int .u64 0, .int .i64 0]
        first | rw [← hw2, act_put_pt] | rw [← hw2]
        have HB2 := Lib.hid (HB1.out.trans (hb2.mono HB1.out.size))
        clear hw2 hc2 hb2 HB1
        go_wp2
        go_ret
        exact ⟨rfl, HB2.out⟩
      · have d3 : decide ((0 : Int) < (n : Int)) = true := decide_eq_true (by omega)
        have d4 : decide (0 < n) = true := decide_eq_true h0
        have d5 : ((n : Int) == 0) = false := by rw [beq_eq_false_iff_ne]; omega
        have d6 : (n == 0) = false := by rw [beq_eq_false_iff_ne]; omega
        clear h0
        go_upto_region 22 with (first | (refine wpList_store_row rfl _ _ _ rfl w1.heap.size #[.int .u64 t, .int .i64 v] rfl rfl _ _ (heap_alloc_new _ _) Try.infoPt rfl (by simp [Value.oneCell']) ?_) | fail)
        obtain ⟨w2, hw2, hc2, hb2, -⟩ := boxP2 w1 32 #[.int .u64 0, .int .i64 0] #[.int .u64 t, .int .i64 v]
        first | rw [← hw2, act_put_pt] | rw [← hw2]
        obtain ⟨g, hg⟩ : ∃ g, g = w1.heap.size := ⟨_, rfl⟩
        rw [← hg] at hc2 ⊢
        have HB2 := Lib.hid (HB1.out.trans (hb2.mono HB1.out.size))
        clear hw2 hb2 HB1 hg
        have q30 := fun w => run_eqlPt t t v v w
        rw [show decide (t = t ∧ v = v) = true by simp] at q30
        have c0 : w2.cell? ⟨g, 0, none⟩ = some (.int .u64 t) := cell_of_row _ _ 0 _ _ _ hc2
        have c1 : w2.cell? ⟨g, 1, none⟩ = some (.int .i64 v) := cell_of_row _ _ 1 _ _ _ hc2
        clear hc2
        go_wp2
        go_ret
        exact ⟨rfl, HB2.out⟩
end condOrder
end Go.Proofs.Ythggaedpbmjclaa
