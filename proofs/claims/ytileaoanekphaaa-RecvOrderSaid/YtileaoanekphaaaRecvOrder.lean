/- Layer 11: RecvOrder's walk. -/
import Derived.Test.YtileaoanekphaaaRvOrd
namespace Go.Proofs.Ytileaoanekphaaa
open Go.RowKit
namespace recvOrder
set_option maxRecDepth 100000 in
set_option maxHeartbeats 4000000 in
theorem walk (x0 N c : Nat) (A : Option Addr) (l : List Nat) (w : World) (hN : N = l.length) (hm : N ≤ maxLen) (hr : RdB w w.heap.size A l) (hok : ∀ x ∈ l, x < 256) :
    Calls Try.prog 4 #[.int .u8 x0, .slice A N c] w fun e w' => e = .returned (.bool true) ∧ Below w.heap.size w w' := by
  unfold maxLen at hm
  obtain ⟨r0, hr0⟩ : ∃ r, r = x0 % 64 := ⟨_, rfl⟩
  obtain ⟨W, hW⟩ : ∃ W, W = 1 + r0 := ⟨_, rfl⟩
  have hW1 : 1 ≤ W := by omega
  have hW2 : W ≤ 64 := by omega
  have e1 : (x0 : Int) % 64 = (r0 : Int) := by omega
  have e2 : (1 : Int) + (r0 : Int) = (W : Int) := by omega
  have HR := Lib.hid hr
  have HN := Lib.hid hN
  have HOK := Lib.hid hok
  clear hr hN hok hr0 hW
  go_enter Try.func4, Try.ntmps4
  go_wp2_with fail
  refine (awake11_any w).mono ?_
  rintro _ w0 ⟨rfl, hb0⟩
  have HB0 := Lib.hid hb0
  clear hb0
  have HNW := Lib.hid (rnew_any W hW1 hW2 w0)
  go_wp2_with fail
  refine HNW.out.mono ?_
  rintro _ w1 ⟨rfl, hr1, hb1⟩
  obtain ⟨s, hs⟩ : ∃ s, s = w0.heap.size + 1 := ⟨_, rfl⟩
  obtain ⟨m, hmm⟩ : ∃ m, m = w0.heap.size := ⟨_, rfl⟩
  rw [← hs] at hr1 ⊢
  rw [← hmm] at hr1
  have how : OW w w1 s m W 0 0 0 (fun _ => none) := ⟨⟨0, Nat.le_refl _, hr1⟩, HB0.out.trans (hb1.mono HB0.out.size), Nat.le_refl _, (fun _ _ h => by cases h), (by have := HB0.out.size; exact ⟨by omega, by omega⟩)⟩
  have HOW := Lib.hid how
  clear hr1 hb1 hs hmm how HNW HB0
  go_wp2
  clear e1 e2
  go_loopw [8, 31] (fun nv iv wx => ∃ (i n : Nat), i ≤ N ∧ i ≤ 201 ∧ iv = .int .i64 i ∧ nv = .int .u64 n ∧ n ≤ i + 1 ∧ 1 ≤ n ∧ Hid (∃ t k F, n = t + 1 ∧ OW w wx s m W i t k F)) (fun _ iv _ => N - (intOf iv).toNat)
  case atStart => exact ⟨0, 1, Nat.zero_le _, by decide, rfl, rfl, by decide, by decide, 0, 0, _, rfl, HOW.out⟩
  case round =>
    obtain ⟨i, n, hi, hi201, rfl, rfl, hn1, hn2, HB⟩ := hrel
    clear HOW
    by_cases hlt : i < N
    · have q1 : decide ((i : Int) < (N : Int)) = true := decide_eq_true (by omega)
      have q2 : decide (i < N) = true := decide_eq_true hlt
      have hbw : Below w.heap.size w wr := by
        obtain ⟨t, k, F, -, h⟩ := HB.out
        exact h.bl
      obtain ⟨b, o, x, rfl, -, hx, hc⟩ := (HR.out.below hbw).at_ (k := i) (by rw [← HN.out]; exact hlt)
      have hx8 := HOK.out x (List.mem_of_getElem? hx)
      clear hbw hx
      by_cases h200 : 200 < i
      · have p1 : decide ((200 : Int) < (i : Int)) = true := decide_eq_true (by omega)
        have p2 : decide (200 < i) = true := decide_eq_true h200
        obtain ⟨t, k, F, hn, how⟩ := HB.out
        have HCT := Lib.hid (ow_counts how (by omega) hn)
        clear hn how HB
        go_wp2_with fail
        refine HCT.out.mono ?_
        rintro _ w2 ⟨a, b2, rfl, how⟩
        have HBW := Lib.hid how.bl
        clear how HCT
        go_wp2
        go_ret
        exact ⟨rfl, HBW.out⟩
      have p1 : decide ((200 : Int) < (i : Int)) = false := decide_eq_false (by omega)
      have p2 : decide (200 < i) = false := decide_eq_false h200
      go_upto_region 10 with fail
      clear p1 p2 q1 q2 hc
      have hw64 : IntKind.u64.wrap (W : Int) = (W : Int) := by rw [IntKind.wrap_u64]; omega
      have hx64 : IntKind.u64.wrap (x : Int) = (x : Int) := by rw [IntKind.wrap_u64]; omega
      obtain ⟨d, hd⟩ : ∃ d, d = x % W := ⟨_, rfl⟩
      have hdW : d < W := by rw [hd]; exact Nat.mod_lt _ (by omega)
      have e3 : (x : Int) % (W : Int) = (d : Int) := by rw [hd]; exact (Int.natCast_emod x W).symm
      obtain ⟨y, hy⟩ : ∃ y, y = n + d := ⟨_, rfl⟩
      have e4 : (n : Int) + (d : Int) = (y : Int) := by omega
      have e5 : IntKind.u64.wrap (y : Int) = (y : Int) := by rw [IntKind.wrap_u64]; omega
      have HY : Hid (y < n + W) := by show y < n + W; omega
      clear hd hdW hy
      go_upto_region 11 with fail
      clear hw64 hx64 e3 e4 e5
      obtain ⟨bk, hbk⟩ : ∃ bk : Bool, bk = (decide (200 < x) && decide (1 < n)) := ⟨_, rfl⟩
      have HBK := Lib.hid hbk
      clear hbk
      go_cut [50] from 45 to 50 (fun p wx => p = .bool bk ∧ wx = wr)
      case first =>
        by_cases h1 : 200 < x
        · have p1 : decide ((200 : Int) < (x : Int)) = true := decide_eq_true (by omega)
          have p2 : decide (200 < x) = true := decide_eq_true h1
          by_cases h2 : 1 < n
          · have p3 : decide ((1 : Int) < (n : Int)) = true := decide_eq_true (by omega)
            have p4 : decide (1 < n) = true := decide_eq_true h2
            go_wp2_with fail
            go_meet
            exact ⟨by rw [HBK.out, p2, p4]; rfl, rfl⟩
          · have p3 : decide ((1 : Int) < (n : Int)) = false := decide_eq_false (by omega)
            have p4 : decide (1 < n) = false := decide_eq_false h2
            go_wp2_with fail
            go_meet
            exact ⟨by rw [HBK.out, p2, p4]; rfl, rfl⟩
        · have p1 : decide ((200 : Int) < (x : Int)) = false := decide_eq_false (by omega)
          have p2 : decide (200 < x) = false := decide_eq_false h1
          go_wp2_with fail
          go_meet
          exact ⟨by rw [HBK.out, p2]; rfl, rfl⟩
      case rest =>
        obtain ⟨rfl, rfl⟩ := hcut
        go_upto_if 50 with fail
        go_cut [11] from 51 to 52 (fun p wx => (∃ q : Nat, p = .int .u64 q ∧ q < n + W) ∧ wx = wc)
        case first =>
          cases bk with
          | true =>
            have h1 : 1 < n := by
              have h := HBK.out
              rw [eq_comm, Bool.and_eq_true] at h
              exact of_decide_eq_true h.2
            obtain ⟨z, hz⟩ : ∃ z, z = n - 1 := ⟨_, rfl⟩
            have e3 : (n : Int) - 1 = (z : Int) := by omega
            have e4 : IntKind.u64.wrap (z : Int) = (z : Int) := by rw [IntKind.wrap_u64]; omega
            have HZ : Hid (z < n + W) := by show z < n + W; omega
            clear hz
            go_wp2_with fail
            go_meet
            exact ⟨⟨z, rfl, HZ.out⟩, rfl⟩
          | false =>
            go_wp2_with fail
            go_meet
            exact ⟨⟨y, rfl, HY.out⟩, rfl⟩
        case rest =>
          obtain ⟨⟨q, rfl, hqW⟩, hwc⟩ := hcut
          subst hwc
          obtain ⟨t, k, F, hnt, how⟩ := HB.out
          have q64 : IntKind.u16.wrap (q : Int) = (q : Int) := by rw [IntKind.wrap_u16]; omega
          have HIT := Lib.hid (seqS_item q (by omega))
          have HT : Hid (n = t + 1 ∧ q < n + W) := ⟨hnt, hqW⟩
          have HO := Lib.hid how
          clear HBK HY hnt hqW how HB
          go_wp2_with fail
          refine (HIT.out _).mono ?_
          rintro _ w3 ⟨y3, A3, c3, rfl, hy1, hy2, hy3, hb3⟩
          have HO3 := Lib.hid (HO.out.below hb3)
          have HY3 := Lib.hid (⟨hy1, hy2, hy3⟩ : _ ∧ _ ∧ _)
          clear hy1 hy2 hy3 hb3 HIT HO q64
          go_upto_region 14 with (first | (refine wpList_store_row rfl _ _ _ rfl w3.heap.size #[.bool y3.g, .int .u8 y3.o, .int .u64 y3.q, .int .u64 y3.t, .string y3.r, .slice A3 0 c3, .int .u8 y3.s, .int .u8 y3.p, .int .i64 y3.v, .int .u8 y3.w, .int .u8 y3.ga, .int .u64 y3.gf, .int .u64 y3.gt] rfl rfl _ _ (heap_alloc_new _ _) Try.infoIt rfl (by simp [Value.oneCell']) ?_) | fail)
          obtain ⟨w4, hw4, hc4, hb4, -⟩ := boxI w3 #[.bool false, .int .u8 0, .int .u64 0, .int .u64 0, .string ⟨#[]⟩, .slice none 0 0, .int .u8 0, .int .u8 0, .int .i64 0, .int .u8 0, .int .u8 0, .int .u64 0, .int .u64 0] #[.bool y3.g, .int .u8 y3.o, .int .u64 y3.q, .int .u64 y3.t, .string y3.r, .slice A3 0 c3, .int .u8 y3.s, .int .u8 y3.p, .int .i64 y3.v, .int .u8 y3.w, .int .u8 y3.ga, .int .u64 y3.gf, .int .u64 y3.gt]
          first | rw [← hw4, act_put_no] | rw [← hw4]
          obtain ⟨p4, hp4⟩ : ∃ p, p = w3.heap.size := ⟨_, rfl⟩
          rw [← hp4] at hc4 ⊢
          have HC4 := Lib.hid hc4
          have HTK := Lib.hid (ow_take (c := c3) (A := A3) (HO3.out.below hb4) (by omega) hW2 HT.out.1 HT.out.2 HY3.out.1 HY3.out.2.1 rfl HY3.out.2.2)
          clear hw4 hc4 hb4 hp4 HO3
          go_wp2_with (first
            | (refine wpList_load_row rfl _ _ rfl p4 rfl _ _ _ _ HC4.out Try.underlying43 rfl (by kernel_rfl) ?_)
            | fail)
          refine HTK.out.mono ?_
          rintro _ w5 ⟨z5, k5, F5, rfl, how5⟩
          have HO5 := Lib.hid how5
          have HT5 := Lib.hid HT.out.1
          clear how5 HTK HT HC4 HY3
          go_wp2_with fail
          go_loopw [8] (fun nv wx => ∃ (n : Nat), nv = .int .u64 n ∧ n ≤ i + 2 ∧ 1 ≤ n ∧ Hid (∃ t k F, n = t + 1 ∧ OW w wx s m W (i + 1) t k F)) (fun nv _ => 1000 - (intOf nv).toNat)
          case atStart => exact ⟨n, rfl, by omega, hn2, t, k5, F5, HT5.out, HO5.out⟩
          case round =>
            obtain ⟨n6, rfl, hn61, hn62, HB6⟩ := hrel
            obtain ⟨t6, k6, F6, hn6, how6⟩ := HB6.out
            clear HO5 HT5 HB6
            cases hF : F6 n6 with
            | none =>
              have HPK := Lib.hid (ow_none how6 (by omega) hn6 hF)
              have HT6 := Lib.hid hn6
              clear hF how6 hn6
              go_wp2_with fail
              refine HPK.out.mono ?_
              rintro _ w7 ⟨rfl, how7⟩
              have HO7 := Lib.hid how7
              clear how7 HPK
              go_upto_region 16 with (first | (refine wpList_store_row rfl _ _ _ rfl w7.heap.size #[.bool false, .int .u8 0, .int .u64 0, .int .u64 0, .string ⟨#[]⟩, .slice none 0 0, .int .u8 0, .int .u8 0, .int .i64 0, .int .u8 0, .int .u8 0, .int .u64 0, .int .u64 0] rfl rfl _ _ (heap_alloc_new _ _) Try.infoIt rfl (by simp [Value.oneCell']) ?_) | fail)
              obtain ⟨w8, hw8, -, hb8, -⟩ := boxI w7 #[.bool false, .int .u8 0, .int .u64 0, .int .u64 0, .string ⟨#[]⟩, .slice none 0 0, .int .u8 0, .int .u8 0, .int .i64 0, .int .u8 0, .int .u8 0, .int .u64 0, .int .u64 0] #[.bool false, .int .u8 0, .int .u64 0, .int .u64 0, .string ⟨#[]⟩, .slice none 0 0, .int .u8 0, .int .u8 0, .int .i64 0, .int .u8 0, .int .u8 0, .int .u64 0, .int .u64 0]
              rw [← hw8]
              have HO8 := Lib.hid (HO7.out.below hb8)
              clear hw8 hb8 HO7
              go_wp2
              go_roundw
              case rel => exact ⟨i + 1, n6, by omega, by omega, by go_num, rfl, by omega, hn62, t6, k6, F6, HT6.out, HO8.out⟩
              case measure => simp [intOf]; omega
            | some y6 =>
              have hk6 : 1 ≤ k6 := by
                obtain ⟨o, -, h2⟩ := how6.st
                exact h2.mi.pos hF
              have hc6 := how6.cnt
              have HPK := Lib.hid (ow_some how6 (by omega) hn6 hF)
              have HNX : Hid (∀ w', OW w w' s m W (i + 1) t6 k6 F6 → Calls Try.prog 9 #[.pointer (some ⟨s, 0, none⟩)] w' fun e w'' => e = .returned (.int .i64 0) ∧ OW w w'' s m W (i + 1) n6 (k6 - 1) (delF F6 n6)) := fun w' h => ow_next h (by omega) hn6 hF
              have hn6i : n6 ≤ i + 1 := by omega
              obtain ⟨n7, hn7⟩ : ∃ z, z = n6 + 1 := ⟨_, rfl⟩
              have e3 : (1 : Int) + (n6 : Int) = (n7 : Int) := by omega
              have e4 : (n6 : Int) + 1 = (n7 : Int) := by omega
              have e5 : IntKind.u64.wrap (n7 : Int) = (n7 : Int) := by rw [IntKind.wrap_u64]; omega
              have HT7 := Lib.hid hn7
              clear hF how6 hn6 hk6 hc6 hn7
              go_wp2_with fail
              refine HPK.out.mono ?_
              rintro _ w7 ⟨x7, A7, N7, c7, hx7, rfl, how7⟩
              have HO7 := Lib.hid how7
              have hxq : (x7.q : Int) = (n7 : Int) := by have := HT7.out; omega
              have HXQ := Lib.hid hxq
              clear how7 HPK hx7 hxq
              go_upto_region 16 with (first | (refine wpList_store_row rfl _ _ _ rfl w7.heap.size #[.bool x7.g, .int .u8 x7.o, .int .u64 x7.q, .int .u64 x7.t, .string x7.r, .slice A7 N7 c7, .int .u8 x7.s, .int .u8 x7.p, .int .i64 x7.v, .int .u8 x7.w, .int .u8 x7.ga, .int .u64 x7.gf, .int .u64 x7.gt] rfl rfl _ _ (heap_alloc_new _ _) Try.infoIt rfl (by simp [Value.oneCell']) ?_) | fail)
              obtain ⟨w8, hw8, hc8, hb8, -⟩ := boxI w7 #[.bool false, .int .u8 0, .int .u64 0, .int .u64 0, .string ⟨#[]⟩, .slice none 0 0, .int .u8 0, .int .u8 0, .int .i64 0, .int .u8 0, .int .u8 0, .int .u64 0, .int .u64 0] #[.bool x7.g, .int .u8 x7.o, .int .u64 x7.q, .int .u64 x7.t, .string x7.r, .slice A7 N7 c7, .int .u8 x7.s, .int .u8 x7.p, .int .i64 x7.v, .int .u8 x7.w, .int .u8 x7.ga, .int .u64 x7.gf, .int .u64 x7.gt]
              rw [← hw8]
              obtain ⟨p8, hp8⟩ : ∃ p, p = w7.heap.size := ⟨_, rfl⟩
              rw [← hp8] at hc8 ⊢
              have c2 : w8.cell? ⟨p8, 2, none⟩ = some (.int .u64 n7) := by rw [← HXQ.out]; exact cell_of_row _ _ 2 _ _ _ hc8
              have HNX8 := Lib.hid (HNX.out _ (HO7.out.below hb8))
              clear hw8 hc8 hb8 hp8 HO7 HNX
              go_wp2_with fail
              refine HNX8.out.mono ?_
              rintro _ w9 ⟨rfl, how9⟩
              have HO9 := Lib.hid how9
              clear how9 HNX8 c2
              go_wp2
              go_roundw
              case rel => exact ⟨n7, rfl, by have := HT7.out; omega, by have := HT7.out; omega, n6, _, _, HT7.out, HO9.out⟩
              case measure => have := HT7.out; simp [intOf]; omega
    · obtain rfl : i = N := by omega
      have q1 : decide ((i : Int) < (i : Int)) = false := decide_eq_false (by omega)
      have q2 : decide (i < i) = false := decide_eq_false (by omega)
      obtain ⟨t, k, F, hn, how⟩ := HB.out
      have HCT := Lib.hid (ow_counts how (by omega) hn)
      clear hn how HB
      go_wp2_with fail
      refine HCT.out.mono ?_
      rintro _ w2 ⟨a, b2, rfl, how⟩
      have HBW := Lib.hid how.bl
      clear how HCT
      go_wp2
      go_ret
      exact ⟨rfl, HBW.out⟩
end recvOrder
end Go.Proofs.Ytileaoanekphaaa
