/- Layer 13: CondHolds' walk. -/
import Derived.Test.YthggaedpbmjclaaCdHI2
import Derived.Deep.CutBlock
import Derived.Deep.DeepCutAuto
namespace Go.Proofs.Ythggaedpbmjclaa
open Go.RowKit Go.Proofs
namespace condHolds
theorem Try.infoPi : (Try.prog.info? 38).map (·.size) = some 2 := by kernel_rfl
set_option maxRecDepth 100000 in
set_option maxHeartbeats 4000000 in
theorem walk (N cN : Nat) (A : Option Addr) (l : List Pi) (k tk : Nat) (lim : Int) (K T ah : Nat) (S : Int) (w : World) (hN : N = l.length) (hm : N ≤ maxLen) (hr : RdPi w A l) (hok : ∀ x ∈ l, OkPi x) (hk : k < 256) (htk : tk < 18446744073709551616) (hl : -9223372036854775808 ≤ lim) (hl2 : lim < 9223372036854775808)
    (hK : K < 256) (hT : T < 256) (hS : -32768 ≤ S) (hS2 : S < 32768) (hah : ah < 256) :
    Calls Try.prog 3 #[.slice A N cN, .agg #[.int .u8 k, .int .i64 lim, .int .u64 tk], .agg #[.int .u8 K, .int .i16 S, .int .u8 T], .int .u8 ah] w fun e w' => e = .returned (.bool true) ∧ Below w.heap.size w w' := by
  unfold maxLen at hm
  obtain ⟨w1, hw1, hc1, hb1, hs1⟩ : ∃ w1 : World, w1 = w.alloc (.cells #[.int .u8 k, .int .i64 lim, .int .u64 tk] 26) ∧ w1.heap[w.heap.size]? = some (.cells #[.int .u8 k, .int .i64 lim, .int .u64 tk] 26 (0, 0)) ∧ Below w.heap.size w w1 ∧ w1.heap.size = w.heap.size + 1 := ⟨_, rfl, heap_alloc_new _ _, (Below.refl _ _).alloc (Nat.le_refl _) _, by simp⟩
  obtain ⟨w2, hw2, hc2, hb2, hs2⟩ : ∃ w2 : World, w2 = w1.alloc (.cells #[.int .u8 K, .int .i16 S, .int .u8 T] 29) ∧ w2.heap[w1.heap.size]? = some (.cells #[.int .u8 K, .int .i16 S, .int .u8 T] 29 (0, 0)) ∧ Below w1.heap.size w1 w2 ∧ w2.heap.size = w1.heap.size + 1 := ⟨_, rfl, heap_alloc_new _ _, (Below.refl _ _).alloc (Nat.le_refl _) _, by simp⟩
  have hb02 : Below w.heap.size w w2 := hb1.trans (hb2.mono hb1.size)
  obtain ⟨bc, hbc⟩ : ∃ b, b = w.heap.size := ⟨_, rfl⟩
  obtain ⟨bs, hbs⟩ : ∃ b, b = w1.heap.size := ⟨_, rfl⟩
  have HCS : Hid (∀ W, Below w2.heap.size w2 W → W.heap[bc]? = some (.cells #[.int .u8 k, .int .i64 lim, .int .u64 tk] 26 (0, 0)) ∧ W.heap[bs]? = some (.cells #[.int .u8 K, .int .i16 S, .int .u8 T] 29 (0, 0))) := fun W hW => by
    refine ⟨?_, ?_⟩
    · rw [hbc]; exact (hW.block _ (by omega)).trans ((hb2.block _ (by omega)).trans hc1)
    · rw [hbs]; exact (hW.block _ (by omega)).trans hc2
  have HBE : Hid (bc + 1 = bs) := by show bc + 1 = bs; omega
  have HBC := Lib.hid hbc
  have HW1 := Lib.hid hw1
  have HW2 := Lib.hid hw2
  have HB2 := Lib.hid hb02
  have HR := Lib.hid hr
  have HN := Lib.hid hN
  have HOK := Lib.hid hok
  have HAR : Hid (k < 256 ∧ tk < 18446744073709551616 ∧ -9223372036854775808 ≤ lim ∧ lim < 9223372036854775808 ∧ K < 256 ∧ T < 256 ∧ -32768 ≤ S ∧ S < 32768) := ⟨hk, htk, hl, hl2, hK, hT, hS, hS2⟩
  have hz := Try.zeroSer
  clear hr hN hok hk htk hl hl2 hK hT hS hS2 hw1 hc1 hb1 hs1 hw2 hc2 hb2 hs2 hb02 hbc hbs
  go_enter Try.func3, Try.ntmps3
  go_upto_region 1 with fail
  rw [← HW1.out]
  first | rw [← HW2.out] | skip
  rw [← HBC.out, HBE.out]
  go_wp2_with fail
  refine (awake13_any w2).mono ?_
  rintro _ w3 ⟨rfl, hb3⟩
  have HB3 := Lib.hid hb3
  clear hb3 HBE HW1 HW2
  go_upto_region 4 with fail
  obtain ⟨V, hV, hs0, hbV, -⟩ := serMade w3
  rw [← hV]
  obtain ⟨s, hs⟩ : ∃ s, s = w3.heap.size := ⟨_, rfl⟩
  rw [← hs] at hs0 ⊢
  have HO := Lib.hid (show HoI w2 V s (.slice none 0 0) [] 0 from ⟨hs0, ⟨.inl ⟨rfl, rfl⟩⟩, fun q h => (by cases h), fun p h => (by cases h), HB3.out.trans (hbV.mono HB3.out.size), by have := HB3.out.size; omega⟩)
  clear hV hs0 hbV hs HB3 hz
  go_upto_block 0 with fail
  go_cut [10, 11] (fun mv nv wx => ∃ (now n c : Nat) (A : Option Addr), mv = .slice A n c ∧ nv = .int .u64 now ∧ now ≤ 500 ∧ Hid (∃ L, n = L.length ∧ HoI w2 wx s (.slice A n c) L now))
  case first =>
    go_wp2
    go_loopw [30, 10, 11] (fun iv mv nv wx => ∃ (i now n c : Nat) (A : Option Addr), i ≤ N ∧ i ≤ 61 ∧ iv = .int .i64 i ∧ mv = .slice A n c ∧ nv = .int .u64 now ∧ now ≤ 7 * i ∧ Hid (∃ L, n = L.length ∧ HoI w2 wx s (.slice A n c) L now)) (fun iv _ _ _ => N - (intOf iv).toNat)
    case atStart => exact ⟨0, 0, 0, 0, none, Nat.zero_le _, by decide, rfl, rfl, rfl, by decide, [], rfl, HO.out⟩
    case round =>
      obtain ⟨i, now, n, c, A2, hi, hi61, rfl, rfl, rfl, hnow, HI⟩ := hrel
      clear HO
      by_cases hlt : i < N
      · have q1 : decide ((i : Int) < (N : Int)) = true := decide_eq_true (by omega)
        have q2 : decide (i < N) = true := decide_eq_true hlt
        have hbw : Below w.heap.size w wr := by
          obtain ⟨L, -, h⟩ := HI.out
          exact HB2.out.trans (h.bl.mono HB2.out.size)
        obtain ⟨b, o, x, rfl, hxl, hx⟩ := HR.out.at_ hbw (k := i) (by rw [← HN.out]; exact hlt)
        have HX := Lib.hid hx
        have HXO := Lib.hid (HOK.out x (List.mem_of_getElem? hxl))
        clear hbw hx hxl
        go_upto_region 9 with (first
          | (refine wpList_load_mid rfl _ _ rfl b (o + i * 2) rfl [.int .u8 x.d, .int .i64 x.z] _ HX.out Try.underlying38 rfl Try.infoPi ?_)
          | (refine wpList_store_row rfl _ _ _ rfl wr.heap.size #[.int .u8 x.d, .int .i64 x.z] rfl rfl _ _ (heap_alloc_new _ _) Try.infoPi rfl (by simp [Value.oneCell']) ?_)
          | fail)
        obtain ⟨w4, hw4, hc4, hb4, -⟩ := boxP2 wr 38 #[.int .u8 0, .int .i64 0] #[.int .u8 x.d, .int .i64 x.z]
        first | rw [← hw4, act_put_pt] | rw [← hw4]
        obtain ⟨bp, hbp⟩ : ∃ bp, bp = wr.heap.size := ⟨_, rfl⟩
        rw [← hbp] at hc4 ⊢
        have HI4 : Hid (∃ L, n = L.length ∧ HoI w2 w4 s (.slice A2 n c) L now) := by
          obtain ⟨L, h1, h2⟩ := HI.out
          exact ⟨L, h1, h2.below hb4⟩
        have c0 : w4.cell? ⟨bp, 0, none⟩ = some (.int .u8 x.d) := cell_of_row _ _ 0 _ _ _ hc4
        have c1 : w4.cell? ⟨bp, 1, none⟩ = some (.int .i64 x.z) := cell_of_row _ _ 1 _ _ _ hc4
        have HC4 := Lib.hid hc4
        have hsb : s < bp := by
          obtain ⟨L, -, h⟩ := HI.out
          rw [hbp]; exact h.ser.lt
        clear hw4 hc4 hb4 HI HX hbp
        by_cases h60 : 60 < i
        · have p1 : decide ((60 : Int) < (i : Int)) = true := decide_eq_true (by omega)
          have p2 : decide (60 < i) = true := decide_eq_true h60
          go_wp2
          go_meet
          exact ⟨now, n, c, A2, rfl, rfl, by omega, HI4⟩
        have p1 : decide ((60 : Int) < (i : Int)) = false := decide_eq_false (by omega)
        have p2 : decide (60 < i) = false := decide_eq_false h60
        obtain ⟨d, hd⟩ : ∃ d, d = x.d % 8 := ⟨_, rfl⟩
        have hd8 : d < 8 := by rw [hd]; omega
        have e1 : (x.d : Int) % 8 = (d : Int) := by omega
        have e2 : IntKind.u64.wrap (d : Int) = (d : Int) := by rw [IntKind.wrap_u64]; omega
        obtain ⟨t, ht⟩ : ∃ t, t = now + d := ⟨_, rfl⟩
        have e3 : (now : Int) + (d : Int) = (t : Int) := by omega
        have e4 : IntKind.u64.wrap (t : Int) = (t : Int) := by rw [IntKind.wrap_u64]; omega
        have hnt : now ≤ t := by omega
        have htt : t ≤ 7 * (i + 1) := by omega
        obtain ⟨L, hnL, hI4⟩ := HI4.out
        have HA := Lib.hid (hoi_add (z := x.z) hI4 hnt (by omega))
        have HLK : Hid (n = L.length ∧ L.length ≤ 32 ∧ (∀ q ∈ L, OkPt q) ∧ w2.heap.size ≤ s) := ⟨hnL, hI4.ser.few, hI4.ok, hI4.lo⟩
        have HB4 := Lib.hid hI4.bl
        clear hnL hI4 HI4 hd ht
        go_wp2_with fail
        refine HA.out.mono ?_
        rintro _ w5 ⟨rfl, hs5, hr5, hb5, ho5⟩
        have hbl : bp < w4.heap.size := (Array.getElem?_eq_some_iff.1 HC4.out).1
        have c1 : w5.cell? ⟨bp, 1, none⟩ = some (.int .i64 x.z) := cell_of_row _ _ 1 _ _ _ ((ho5.block bp hbl (by omega)).trans HC4.out)
        obtain ⟨w6, hw6, hc6, hb6, hs6⟩ : ∃ w6 : World, w6 = w5.alloc (.cells #[.int .u64 t, .int .i64 x.z] 41) ∧ w6.heap[w5.heap.size]? = some (.cells #[.int .u64 t, .int .i64 x.z] 41 (0, 0)) ∧ Below w5.heap.size w5 w6 ∧ w6.heap.size = w5.heap.size + 1 := ⟨_, rfl, heap_alloc_new _ _, (Below.refl _ _).alloc (Nat.le_refl _) _, by simp⟩
        have HR6 := Lib.hid (hr5.below hb6)
        have HS6 := Lib.hid (hs5.below hb6)
        have HB6 := Lib.hid (hb5.trans (hb6.mono hb5.size))
        have HX6 : Hid (∀ (j : Nat) u, (ptC ⟨t, x.z⟩)[j]? = some u → w6.cell? ((⟨w5.heap.size, 0, none⟩ : Addr).add j) = some u) := fun j u hj => by
          rw [Addr.add_lit, cell_of_row _ _ _ _ _ _ hc6]
          simpa [ptC] using hj
        have HW6 := Lib.hid hw6
        have HOX := Lib.hid (addP_ok HLK.out.2.2.1 (show OkPt ⟨t, x.z⟩ from ⟨by show t ≤ _; omega, HXO.out.lo, HXO.out.hi⟩))
        clear hs5 hr5 hb5 ho5 hbl hw6 hc6 hb6 hs6 HA HC4 HB4
        go_upto_region 13 with fail
        clear c0 p1 p2 q1 q2 e1 e2 e3 e4
        go_upto_region 14 with (at_builtin; (rw [← HW6.out]); refine wpList_append_pt (v := .slice A2 n c) (B := w2.heap.size) (s := s) (L := L) (p := ⟨t, x.z⟩) rfl _ _ rfl rfl HR6.out (by have := HLK.out.2.1; omega) rfl HX6.out HB6.out.size HS6.out.lt ?_; intro v7 w7 hr7 hb7 hs7; replace hr7 := Lib.hid hr7; replace hb7 := Lib.hid (hb7 w2 HB6.out); replace hs7 := Lib.hid (HS6.out.as hs7))
        clear HR6 HX6 HW6 c1
        obtain ⟨M, hM⟩ : ∃ M, M = L ++ [⟨t, x.z⟩] := ⟨_, rfl⟩
        have hMl : M.length = n + 1 := by rw [hM, HLK.out.1]; simp
        have hap := addP_app L ⟨t, x.z⟩ HLK.out.2.1
        rw [← hM] at hap hr7
        rw [hMl] at hap
        have hi7 : ∀ v, RowP w7 w2.heap.size s v (addP L ⟨t, x.z⟩) → HoI w2 w7 s v (addP L ⟨t, x.z⟩) t := fun v h =>
          ⟨hs7.out, h, HOX.out, fun p hp => by rw [addP_last] at hp; injection hp with hp; subst hp; exact Nat.le_refl _, hb7.out, HLK.out.2.2.2⟩
        obtain ⟨m, hm1⟩ : ∃ m, m = n + 1 := ⟨_, rfl⟩
        rw [← hm1] at hMl hap
        obtain ⟨y, hy⟩ : ∃ y, y = i + 1 := ⟨_, rfl⟩
        have e5 : (i : Int) + 1 = (y : Int) := by omega
        have e6 : IntKind.i64.wrap (y : Int) = (y : Int) := by rw [IntKind.wrap_i64]; omega
        by_cases h32 : 32 < m
        · have p1 : decide ((32 : Int) < (m : Int)) = true := decide_eq_true (by omega)
          have p2 : decide (32 < m) = true := decide_eq_true h32
          rcases hr7.out.ex with ⟨-, h0⟩ | ⟨g7, o7, c7, cur, rfl, -, -, -, h5, -⟩
          · rw [h0] at hMl; simp at hMl; omega
          rw [if_pos h32] at hap
          have hcut := hr7.out.cut (by omega)
          rw [← hap] at hcut
          have hi8 := hi7 _ hcut
          rw [hMl] at hi8 h5 ⊢
          have HI8 : Hid (∃ L, m - 1 = L.length ∧ HoI w2 w7 s (.slice (some ⟨g7, o7 + 2, none⟩) (m - 1) (c7 - 1)) L t) := ⟨_, by rw [hap, List.length_drop, hMl], hi8⟩
          have HY : Hid (y = i + 1 ∧ y ≤ N ∧ y ≤ 61 ∧ t ≤ 7 * y) := ⟨hy, by omega, by omega, by rw [hy]; exact htt⟩
          have k1 : ¬ c7 = 1 := by omega
          have k2 : 1 ≤ m := by omega
          have k5 : (1 : Int) ≤ (m : Int) := by omega
          have k6 : (m : Int) ≤ (c7 : Int) := by omega
          have k7 : m ≤ c7 := by omega
          clear hcut hi8 hi7 hap hMl hr7 hM hy hm1 htt hnt h5 hnow hi
          go_wp2
          go_roundw
          case rel => exact ⟨y, t, _, _, _, HY.out.2.1, HY.out.2.2.1, rfl, rfl, rfl, HY.out.2.2.2, HI8⟩
          case measure => have := HY.out.1; simp [intOf]; omega
        · have p1 : decide ((32 : Int) < (m : Int)) = false := decide_eq_false (by omega)
          have p2 : decide (32 < m) = false := decide_eq_false h32
          obtain ⟨A7, c7, rfl⟩ := hr7.out.slice
          rw [if_neg h32] at hap
          have hi8 := hi7 (.slice A7 M.length c7) (by rw [hap]; exact hr7.out)
          rw [hMl] at hi8 ⊢
          have HI8 : Hid (∃ L, m = L.length ∧ HoI w2 w7 s (.slice A7 m c7) L t) := ⟨_, by rw [hap, hMl], hi8⟩
          have HY : Hid (y = i + 1 ∧ y ≤ N ∧ y ≤ 61 ∧ t ≤ 7 * y) := ⟨hy, by omega, by omega, by rw [hy]; exact htt⟩
          clear hi8 hi7 hap hMl hr7 hM hy hm1 htt hnt hnow hi
          go_wp2
          go_roundw
          case rel => exact ⟨y, t, _, _, _, HY.out.2.1, HY.out.2.2.1, rfl, rfl, rfl, HY.out.2.2.2, HI8⟩
          case measure => have := HY.out.1; simp [intOf]; omega
      · obtain rfl : i = N := by omega
        have q1 : decide ((i : Int) < (i : Int)) = false := decide_eq_false (by omega)
        have q2 : decide (i < i) = false := decide_eq_false (by omega)
        go_wp2
        go_meet
        exact ⟨now, n, c, A2, rfl, rfl, by omega, HI⟩
  case rest =>
    obtain ⟨now, n, c, A2, rfl, rfl, hnow, HI⟩ := hcut
    obtain ⟨L, hnL, hI⟩ := HI.out
    clear HI HO HR HN HOK
    have HNL := Lib.hid hnL
    have HP := Lib.hid (hoi_points hI)
    rw [← hnL] at HP
    have hL32 : n ≤ 32 := by rw [hnL]; exact hI.ser.few
    have HI := Lib.hid hI
    clear hI hnL
    go_wp2_with fail
    refine HP.out.mono ?_
    rintro _ w8 ⟨A8, c8, rfl, hI8, hg8⟩
    have HI8 := Lib.hid hI8
    have HG8 := Lib.hid hg8
    clear hI8 hg8 HP HI
    obtain ⟨t, z, ok, hca, hok, hlast⟩ : ∃ (t : Nat) (z : Int) (ok : Bool), Calls Try.prog 8 #[.pointer (some ⟨s, 0, none⟩)] w8 (fun e w' => e = .returned (.tuple #[.agg #[.int .u64 t, .int .i64 z], .bool ok]) ∧ Below w8.heap.size w8 w') ∧ ok = decide (0 < n) ∧ (0 < n → L[n - 1]? = some ⟨t, z⟩) := by
      cases e : L.getLast? with
      | none =>
        rw [List.getLast?_eq_none_iff] at e
        subst e
        have hn0 : n = 0 := HNL.out
        exact ⟨0, 0, false, clast_none w8 HI8.out.ser, by rw [hn0]; rfl, fun h => by omega⟩
      | some p =>
        obtain ⟨h1, h2⟩ := lastPt e
        rw [← HNL.out] at h1 h2
        exact ⟨p.t, p.v, true, clast_some w8 HI8.out.ser e, (decide_eq_true h1).symm, fun _ => h2⟩
    have HLA := Lib.hid hca
    have HLS := Lib.hid hlast
    have HOKB := Lib.hid hok
    clear hca hok hlast
    go_wp2_with fail
    refine HLA.out.mono ?_
    rintro _ w9 ⟨rfl, hb9⟩
    have HI9 := Lib.hid (HI8.out.below hb9)
    have HG9 : Hid (∀ W, Below w9.heap.size w9 W → ∀ i p, L[i]? = some p → ∃ g, A8 = some ⟨g, 0, none⟩ ∧ W.rangeAt g (i * 2) (ptC p)) := fun W hW => HG8.out W (hb9.trans (hW.mono hb9.size))
    clear hb9 HLA HI8 HG8
    go_upto_region 19 with (first | (refine wpList_store_row rfl _ _ _ rfl w9.heap.size #[.int .u64 t, .int .i64 z] rfl rfl _ _ (heap_alloc_new _ _) Try.infoPt rfl (by simp [Value.oneCell']) ?_) | fail)
    obtain ⟨w10, hw10, hc10, hb10, -⟩ := boxP2 w9 32 #[.int .u64 0, .int .i64 0] #[.int .u64 t, .int .i64 z]
    first | rw [← hw10, act_put_pt] | rw [← hw10]
    obtain ⟨bl, hbl⟩ : ∃ b, b = w9.heap.size := ⟨_, rfl⟩
    rw [← hbl] at hc10 ⊢
    have HI10 := Lib.hid (HI9.out.below hb10)
    have HG10 : Hid (∀ W, Below w10.heap.size w10 W → ∀ i p, L[i]? = some p → ∃ g, A8 = some ⟨g, 0, none⟩ ∧ W.rangeAt g (i * 2) (ptC p)) := fun W hW => HG9.out W (hb10.trans (hW.mono hb10.size))
    have HC10 := Lib.hid hc10
    clear hw10 hc10 hb10 hbl HI9 HG9
    go_cut [90] from 66 to 90 (fun bv wx => bv = .bool false ∧ Hid (Below w10.heap.size w10 wx))
    case first =>
      have l0 : w10.cell? ⟨bl, 0, none⟩ = some (.int .u64 t) := cell_of_row _ _ 0 _ _ _ HC10.out
      have l1 : w10.cell? ⟨bl, 1, none⟩ = some (.int .i64 z) := cell_of_row _ _ 1 _ _ _ HC10.out
      have d1 : ((n : Int) != (n : Int)) = false := by simp
      rcases Nat.eq_zero_or_pos n with h0 | h0
      · obtain rfl : ok = false := by rw [HOKB.out, h0]; rfl
        subst h0
        clear HC10 HLS HOKB
        go_quiet (fail)
        go_wp2
        go_meet
        exact ⟨rfl, ⟨rfl, rfl, rfl, Nat.le_refl _, fun _ _ => rfl⟩⟩
      · obtain rfl : ok = true := by rw [HOKB.out]; exact decide_eq_true h0
        obtain ⟨m, hm⟩ : ∃ m, m + 1 = n := ⟨n - 1, by omega⟩
        have hpl := HLS.out h0
        rw [show n - 1 = m by omega] at hpl
        obtain ⟨gm, om, rfl, hrm⟩ := hoi_row HI10.out hpl
        have hrm10 := hrm w10 HI10.out
        have m0 : w10.cell? ⟨gm, om + m * 2, none⟩ = some (.int .u64 t) := hrm10 0 _ rfl
        have m1 : w10.cell? ⟨gm, om + m * 2 + 1, none⟩ = some (.int .i64 z) := hrm10 1 _ rfl
        have d2 : decide ((0 : Int) < (n : Int)) = true := decide_eq_true (by omega)
        have d3 : decide (0 < n) = true := decide_eq_true h0
        have e1 : (n : Int) - 1 = (m : Int) := by omega
        have e2 : IntKind.i64.wrap (m : Int) = (m : Int) := by rw [IntKind.wrap_i64]; omega
        have d4 : decide ((m : Int) < (n : Int)) = true := decide_eq_true (by omega)
        have d5 : decide (m < n) = true := decide_eq_true (by omega)
        have hmn : m < n := by omega
        have q41 := fun w => run_neqRp t t z z w
        rw [show (!decide (t = t ∧ z = z)) = false by simp] at q41
        clear HC10 HLS HOKB hm hpl hrm hrm10
        go_quiet (fail)
        go_wp2
        go_meet
        exact ⟨rfl, ⟨rfl, rfl, rfl, Nat.le_refl _, fun _ _ => rfl⟩⟩
    case rest =>
    obtain ⟨rfl, hbc⟩ := hcut
    have HI11 := Lib.hid (HI10.out.below hbc.out)
    have HG11 : Hid (∀ W, Below wc.heap.size wc W → ∀ i p, L[i]? = some p → ∃ g, A8 = some ⟨g, 0, none⟩ ∧ W.rangeAt g (i * 2) (ptC p)) := fun W hW => HG10.out W (hbc.out.trans (hW.mono hbc.out.size))
    clear hbc HI10 HG10 HC10 HLS HOKB
    go_upto_block 2 with fail
    go_cut [] (fun wx => Hid (HoI w2 wx s (.slice A2 n c) L now))
    case first =>
      go_wp2
      go_loopw [93] (fun iv wx => ∃ i : Nat, i ≤ n ∧ iv = .int .i64 i ∧ Hid (Below wc.heap.size wc wx)) (fun iv _ => n - (intOf iv).toNat)
      case atStart => exact ⟨0, Nat.zero_le _, rfl, Below.refl _ _⟩
      case round =>
        obtain ⟨i, hi, rfl, HBR⟩ := hrel
        by_cases hlt : i < n
        · have q1 : decide ((i : Int) < (n : Int)) = true := decide_eq_true (by omega)
          have q2 : decide (i < n) = true := decide_eq_true hlt
          obtain ⟨x, hx⟩ : ∃ x, L[i]? = some x := ⟨_, List.getElem?_eq_getElem (by rw [← HNL.out]; exact hlt)⟩
          obtain ⟨gm, om, rfl, hrm⟩ := hoi_row HI11.out hx
          obtain ⟨gp, rfl, hrp⟩ := HG11.out wr HBR.out i x hx
          have hrm := hrm wr (HI11.out.below HBR.out)
          have m0 : wr.cell? ⟨gm, om + i * 2, none⟩ = some (.int .u64 x.t) := hrm 0 _ rfl
          have m1 : wr.cell? ⟨gm, om + i * 2 + 1, none⟩ = some (.int .i64 x.v) := hrm 1 _ rfl
          have n0 : wr.cell? ⟨gp, i * 2, none⟩ = some (.int .u64 x.t) := hrp 0 _ rfl
          have n1 : wr.cell? ⟨gp, i * 2 + 1, none⟩ = some (.int .i64 x.v) := hrp 1 _ rfl
          have q41 := fun w => run_neqRp x.t x.t x.v x.v w
          rw [show (!decide (x.t = x.t ∧ x.v = x.v)) = false by simp] at q41
          obtain ⟨y, hy⟩ : ∃ y, y = i + 1 := ⟨_, rfl⟩
          have e5 : (i : Int) + 1 = (y : Int) := by omega
          have e6 : IntKind.i64.wrap (y : Int) = (y : Int) := by rw [IntKind.wrap_i64]; omega
          have HY : Hid (y = i + 1 ∧ y ≤ n) := ⟨hy, by omega⟩
          clear hy hx hrm hrp
          go_upto_region 24 with fail
          go_quiet (fail)
          go_wp2
          go_roundw
          case rel => exact ⟨y, HY.out.2, rfl, HBR.out.trans ⟨rfl, rfl, rfl, Nat.le_refl _, fun _ _ => rfl⟩⟩
          case measure => have := HY.out; simp [intOf]; omega
        · obtain rfl : i = n := by omega
          have q1 : decide ((i : Int) < (i : Int)) = false := decide_eq_false (by omega)
          have q2 : decide (i < i) = false := decide_eq_false (by omega)
          go_wp2
          go_meet
          exact HI11.out.below HBR.out
    case rest =>
    have HI12 := hcut
    clear hcut HI11 HG11
    have HQ : Hid (∀ W, Below wc.heap.size wc W → W.cell? ⟨bc, 0, none⟩ = some (.int .u8 k) ∧ W.cell? ⟨bc, 1, none⟩ = some (.int .i64 lim) ∧ W.cell? ⟨bc, 2, none⟩ = some (.int .u64 tk) ∧ W.cell? ⟨bs, 0, none⟩ = some (.int .u8 K) ∧ W.cell? ⟨bs, 1, none⟩ = some (.int .i16 S) ∧ W.cell? ⟨bs, 2, none⟩ = some (.int .u8 T)) := fun W hW => by
      obtain ⟨e1, e2⟩ := HCS.out W (HI12.out.bl.trans (hW.mono HI12.out.bl.size))
      exact ⟨cell_of_row _ _ 0 _ _ _ e1, cell_of_row _ _ 1 _ _ _ e1, cell_of_row _ _ 2 _ _ _ e1, cell_of_row _ _ 0 _ _ _ e2, cell_of_row _ _ 1 _ _ _ e2, cell_of_row _ _ 2 _ _ _ e2⟩
    have HSM : Hid (∀ W, Calls Try.prog 9 #[.agg #[.int .u8 K, .int .i16 S, .int .u8 T]] W (SmallRet W)) := fun W => csmall_any K T S W HAR.out.2.2.2.2.1 HAR.out.2.2.2.2.2.1 HAR.out.2.2.2.2.2.2.1 HAR.out.2.2.2.2.2.2.2
    go_upto_region 27 with fail
    refine wp_region_noPanic ?_
    refine wp_region_held_drew (S := fun W => Below wc.heap.size wc W) (by kernel_rfl) ?_ (fun hHeld => ?_)
    · exact (Below.refl _ wc).drew
    try simp only [heldPut, List.set]
    refine heldTake (i := 5) (v := ?_) rfl (by kernel_rfl) (by kernel_rfl) (by kernel_rfl) (fun _ _ _ h => h) (Or.inl ⟨by rfl, ?_⟩) (by assumption) ?_
    rotate_left
    · (intro W hSw; (try dsimp only at hSw); go_simp; try with_reducible rfl)
    try simp only [heldPut, List.set]
    refine heldTake (i := 0) (v := ?_) rfl (by kernel_rfl) (by kernel_rfl) (by kernel_rfl) (fun _ _ _ h => h) (Or.inl ⟨by rfl, ?_⟩) (by assumption) ?_
    rotate_left
    · (intro W hSw; (try dsimp only at hSw); obtain ⟨f1, f2, f3, f4, f5, f6⟩ := HQ.out W hSw; go_simp; try with_reducible rfl)
    try simp only [heldPut, List.set]
    refine heldTake (i := 1) (v := ?_) rfl (by kernel_rfl) (by kernel_rfl) (by kernel_rfl) (fun _ _ _ h => h) (Or.inl ⟨by rfl, ?_⟩) (by assumption) ?_
    rotate_left
    · (intro W hSw; (try dsimp only at hSw); obtain ⟨f1, f2, f3, f4, f5, f6⟩ := HQ.out W hSw; go_simp; try with_reducible rfl)
    try simp only [heldPut, List.set]
    refine heldOne (i := 2) rfl (by kernel_rfl) (fun K hK => ?_)
    go_simp
    refine (HSM.out _).mono ?_
    rintro _ w12 ⟨k2, lim2, tk2, rfl, hok2, hk2, hl2, hl3, -, hb12⟩
    have HB12 := Lib.hid ((Below.refl _ wc).drew.trans hb12)
    have HO2 : Hid (k2 < 256 ∧ lim2 < 9223372036854775808) := ⟨hk2, by omega⟩
    clear hb12 hok2 hk2 hl2 hl3 HSM HQ
    go_wp2_with fail
    refine hK.out _ _ ?_ (fun hHeld => ?_)
    · exact HB12.out
    clear hK K
    try simp only [heldPut, List.set]
    refine heldOne (i := 3) rfl (by kernel_rfl) (fun K hK => ?_)
    go_simp
    obtain ⟨w13, hw13, hc13, hb13⟩ : ∃ w13 : World, w13 = w12.alloc (.cells #[.int .u8 k, .int .i64 lim, .int .u64 tk, .int .u8 k2, .int .i64 lim2, .int .u64 tk2] 26) ∧ w13.heap[w12.heap.size]? = some (.cells #[.int .u8 k, .int .i64 lim, .int .u64 tk, .int .u8 k2, .int .i64 lim2, .int .u64 tk2] 26 (0, 0)) ∧ Below w12.heap.size w12 w13 := ⟨_, rfl, heap_alloc_new _ _, (Below.refl _ _).alloc (Nat.le_refl _) _⟩
    rw [← hw13]
    have HB13 := Lib.hid (HB12.out.trans (hb13.mono HB12.out.size))
    obtain ⟨bq, hbq⟩ : ∃ b, b = w12.heap.size := ⟨_, rfl⟩
    rw [← hbq] at hc13 ⊢
    have HRC := Lib.hid (RowC.mk hc13 HAR.out.1 HAR.out.2.2.2.1 HO2.out.1 HO2.out.2)
    have HI13 := Lib.hid (HI12.out.below HB13.out)
    clear hw13 hc13 hb13 hbq HO2 HB12
    refine hK.out _ _ ?_ (fun hHeld => ?_)
    · exact HB13.out
    clear hK K
    try simp only [heldPut, List.set]
    refine heldTake (i := 4) (v := ?_) rfl (by kernel_rfl) (by kernel_rfl) (by kernel_rfl) (fun _ _ _ h => h) (Or.inl ⟨by rfl, ?_⟩) (by assumption) ?_
    rotate_left
    · (intro W hSw; (try dsimp only at hSw); go_simp; try with_reducible rfl)
    try simp only [heldPut, List.set]
    refine wpAnyH_done (by kernel_rfl) ?_ _
    refine NoPanic.normal ?_
    clear hHeld HB13 HI12
    go_wp2
    go_loopw [111] (fun iv wx => ∃ j : Nat, j ≤ 2 ∧ iv = .int .i64 j ∧ Hid (HoI w2 wx s (.slice A2 n c) L now ∧ RowC wx bq)) (fun iv _ => 2 - (intOf iv).toNat)
    case atStart => exact ⟨0, by decide, rfl, HI13.out, HRC.out⟩
    case round =>
      obtain ⟨j, hj, rfl, HBR⟩ := hrel
      clear HI13 HRC
      by_cases hlt : j < 2
      · have q1 : decide ((j : Int) < 2) = true := decide_eq_true (by omega)
        have q2 : decide (j < 2) = true := decide_eq_true hlt
        obtain ⟨kj, lj, tj, hcj, hkj, hlj⟩ := HBR.out.2 j hlt
        have HCJ := Lib.hid hcj
        have HKJ : Hid (kj < 256 ∧ lj < 9223372036854775808) := ⟨hkj, hlj⟩
        obtain ⟨y, hy⟩ : ∃ y, y = j + 1 := ⟨_, rfl⟩
        have e5 : (j : Int) + 1 = (y : Int) := by omega
        have e6 : IntKind.i64.wrap (y : Int) = (y : Int) := by rw [IntKind.wrap_i64]; omega
        have HY : Hid (y = j + 1 ∧ y ≤ 2) := ⟨hy, by omega⟩
        clear hcj hkj hlj hy
        go_upto_region 30 with (first
          | (refine wpList_load_mid rfl _ _ rfl bq (j * 3) rfl [.int .u8 kj, .int .i64 lj, .int .u64 tj] _ HCJ.out Try.underlying26 rfl Try.infoCc ?_)
          | (refine wpList_store_row rfl _ _ _ rfl wr.heap.size #[.int .u8 kj, .int .i64 lj, .int .u64 tj] rfl rfl _ _ (heap_alloc_new _ _) Try.infoCc rfl (by simp [Value.oneCell']) ?_)
          | fail)
        obtain ⟨w14, hw14, hc14, hb14, hs14⟩ := boxP2 wr 26 #[.int .u8 0, .int .i64 0, .int .u64 0] #[.int .u8 kj, .int .i64 lj, .int .u64 tj]
        first | rw [← hw14, act_put_pt] | rw [← hw14]
        obtain ⟨by_, hby⟩ : ∃ b, b = wr.heap.size := ⟨_, rfl⟩
        rw [← hby] at hc14 hs14 ⊢
        have HI14 : Hid (HoI w2 w14 s (.slice A2 n c) L now ∧ RowC w14 bq) := ⟨HBR.out.1.below hb14, HBR.out.2.below hb14⟩
        have HBX : Hid (∀ W, Below w14.heap.size w14 W → W.heap[by_]? = some (.cells #[.int .u8 kj, .int .i64 lj, .int .u64 tj] 26 (0, 0))) := fun W hW => (hW.block _ hs14).trans hc14
        have HB0 := Lib.hid (HBX.out w14 (Below.refl _ _))
        have HRF := Lib.hid (rref_any kj lj tj w14 HKJ.out.1)
        have HRC : Hid (∀ W, Calls Try.prog 11 #[.agg #[.int .i64 kj, .int .i64 lj, .int .u64 tj]] W fun e w' => e = .returned (.int .i64 (checkC kj lj tj)) ∧ Below W.heap.size W w') := fun W => rccheck_any kj lj tj W
        clear hw14 hc14 hb14 hs14 hby HBR HCJ
        obtain ⟨r, hr⟩ : ∃ r, r = checkC kj lj tj := ⟨_, rfl⟩
        rw [← hr] at HRC
        have HRR := Lib.hid hr
        clear hr
        go_wp2_with (first
          | (refine wpList_load_row rfl _ _ rfl by_ rfl _ _ _ _ HB0.out Try.underlying26 rfl (by kernel_rfl) ?_)
          | fail)
        refine HRF.out.mono ?_
        rintro _ w15 ⟨rfl, hb15⟩
        have HB15 := Lib.hid hb15
        clear hb15 HRF HB0
        go_wp2_with fail
        refine (HRC.out _).mono ?_
        rintro _ w16 ⟨rfl, hb16⟩
        have HB16 := Lib.hid (HB15.out.trans (hb16.mono HB15.out.size))
        clear hb16 HB15 HRC
        by_cases hok2 : okC kj lj tj
        · obtain rfl : r = 0 := by rw [HRR.out]; exact checkC_0.2 hok2
          have HOK2 := Lib.hid hok2
          have HI16 : Hid (HoI w2 w16 s (.slice A2 n c) L now ∧ RowC w16 bq) := ⟨HI14.out.1.below HB16.out, HI14.out.2.below HB16.out⟩
          have HBX16 : Hid (∀ W, Below w16.heap.size w16 W → W.heap[by_]? = some (.cells #[.int .u8 kj, .int .i64 lj, .int .u64 tj] 26 (0, 0))) := fun W hW => HBX.out W (HB16.out.trans (hW.mono HB16.out.size))
          clear hok2 HRR HI14 HBX HB16
          obtain ⟨d, hd⟩ : ∃ d, d = ah % 30 := ⟨_, rfl⟩
          have g1 : (ah : Int) % 30 = (d : Int) := by omega
          have g2 : IntKind.u64.wrap (d : Int) = (d : Int) := by rw [IntKind.wrap_u64]; omega
          obtain ⟨a0, ha0⟩ : ∃ a, a = now + d := ⟨_, rfl⟩
          have g3 : (now : Int) + (d : Int) = (a0 : Int) := by omega
          have g4 : IntKind.u64.wrap (a0 : Int) = (a0 : Int) := by rw [IntKind.wrap_u64]; omega
          have g5 : IntKind.u64.wrap (ah : Int) = (ah : Int) := by rw [IntKind.wrap_u64]; omega
          have HA0 : Hid (a0 ≤ 2000) := by show a0 ≤ 2000; omega
          clear hd ha0
          go_upto_region 32 with fail
          obtain ⟨w17, hw17, hc17, hb17⟩ : ∃ w17 : World, w17 = w16.alloc (.cells #[.int .u64 a0, .int .u64 ah] 24) ∧ w17.heap[w16.heap.size]? = some (.cells #[.int .u64 a0, .int .u64 ah] 24 (0, 0)) ∧ Below w16.heap.size w16 w17 := ⟨_, rfl, heap_alloc_new _ _, (Below.refl _ _).alloc (Nat.le_refl _) _⟩
          rw [← hw17]
          obtain ⟨bt, hbt⟩ : ∃ b, b = w16.heap.size := ⟨_, rfl⟩
          rw [← hbt] at hc17 ⊢
          have hRT : RowT w17 bt := fun i hi => by
            match i, hi with
            | 0, _ => exact ⟨a0, cell_of_row _ _ 0 _ _ _ hc17, HA0.out⟩
            | 1, _ => exact ⟨ah, cell_of_row _ _ 1 _ _ _ hc17, by omega⟩
          have HI17 : Hid (HoI w2 w17 s (.slice A2 n c) L now ∧ RowC w17 bq ∧ RowT w17 bt ∧ w17.heap[by_]? = some (.cells #[.int .u8 kj, .int .i64 lj, .int .u64 tj] 26 (0, 0))) := ⟨HI16.out.1.below hb17, HI16.out.2.below hb17, hRT, HBX16.out w17 hb17⟩
          clear hw17 hc17 hb17 hbt hRT HI16 HBX16 g1 g2 g3 g4 g5
          go_loopw [128] (fun iv wx => ∃ i : Nat, i ≤ 2 ∧ iv = .int .i64 i ∧ Hid (HoI w2 wx s (.slice A2 n c) L now ∧ RowC wx bq ∧ RowT wx bt ∧ wx.heap[by_]? = some (.cells #[.int .u8 kj, .int .i64 lj, .int .u64 tj] 26 (0, 0)))) (fun iv _ => 2 - (intOf iv).toNat)
          case atStart => exact ⟨0, by decide, rfl, HI17.out⟩
          case round =>
            obtain ⟨i, hi, rfl, HBI⟩ := hrel
            clear HI17
            by_cases hlt2 : i < 2
            · have u1 : decide ((i : Int) < 2) = true := decide_eq_true (by omega)
              have u2 : decide (i < 2) = true := decide_eq_true hlt2
              obtain ⟨at_, hat, hat2⟩ := HBI.out.2.2.1 i hlt2
              obtain ⟨rb, rz, hh1, hh2⟩ := hoi_holds HBI.out.1 HOK2.out HKJ.out.2 (at_ := at_) (by omega)
              have HH1 := Lib.hid (hh1 wr HBI.out.1)
              have HH2 := Lib.hid hh2
              obtain ⟨z, hz⟩ : ∃ z, z = i + 1 := ⟨_, rfl⟩
              have v5 : (i : Int) + 1 = (z : Int) := by omega
              have v6 : IntKind.i64.wrap (z : Int) = (z : Int) := by rw [IntKind.wrap_i64]; omega
              have HZ : Hid (z = i + 1 ∧ z ≤ 2) := ⟨hz, by omega⟩
              have HBX := Lib.hid HBI.out.2.2.2
              clear hh1 hh2 hz
              go_wp2_with (first
                | (refine wpList_load_row rfl _ _ rfl by_ rfl _ _ _ _ HBX.out Try.underlying26 rfl (by kernel_rfl) ?_)
                | fail)
              refine HH1.out.mono ?_
              rintro _ w18 ⟨rfl, hb18, hi18⟩
              have HBX18 := Lib.hid ((hb18.block by_ (Array.getElem?_eq_some_iff.1 HBX.out).1).trans HBX.out)
              have HI18 : Hid (HoI w2 w18 s (.slice A2 n c) L now ∧ RowC w18 bq ∧ RowT w18 bt) := ⟨hi18, HBI.out.2.1.below hb18, HBI.out.2.2.1.below hb18⟩
              have HRF := Lib.hid (rref_any kj lj tj w18 HKJ.out.1)
              clear hb18 hi18 HBX HBI HH1 hat
              go_wp2_with (first
                | (refine wpList_load_row rfl _ _ rfl by_ rfl _ _ _ _ HBX18.out Try.underlying26 rfl (by kernel_rfl) ?_)
                | fail)
              refine HRF.out.mono ?_
              rintro _ w19 ⟨rfl, hb19⟩
              have HBX19 := Lib.hid ((hb19.block by_ (Array.getElem?_eq_some_iff.1 HBX18.out).1).trans HBX18.out)
              have HI19 : Hid (HoI w2 w19 s (.slice A2 n c) L now ∧ RowC w19 bq ∧ RowT w19 bt) := ⟨HI18.out.1.below hb19, HI18.out.2.1.below hb19, HI18.out.2.2.below hb19⟩
              clear hb19 HI18 HBX18 HRF
              go_wp2_with fail
              refine (HH2.out _ HI19.out.1).mono ?_
              rintro _ w20 ⟨rfl, hb20, hi20⟩
              have HI20 : Hid (HoI w2 w20 s (.slice A2 n c) L now ∧ RowC w20 bq ∧ RowT w20 bt ∧ w20.heap[by_]? = some (.cells #[.int .u8 kj, .int .i64 lj, .int .u64 tj] 26 (0, 0))) := ⟨hi20, HI19.out.2.1.below hb20, HI19.out.2.2.below hb20, (hb20.block by_ (Array.getElem?_eq_some_iff.1 HBX19.out).1).trans HBX19.out⟩
              clear hb20 hi20 HI19 HBX19 HH2
              have x1 : (rb != rb) = false := by simp
              have x2 : (rz != rz) = false := by simp
              go_wp2
              go_roundw
              case rel => exact ⟨z, HZ.out.2, rfl, HI20.out⟩
              case measure => have := HZ.out; simp [intOf]; omega
            · obtain rfl : i = 2 := by omega
              have HI20 : Hid (HoI w2 wr s (.slice A2 n c) L now ∧ RowC wr bq) := ⟨HBI.out.1, HBI.out.2.1⟩
              go_wp2
              go_roundw
              case rel => exact ⟨y, HY.out.2, rfl, HI20⟩
              case measure => have := HY.out; simp [intOf]; omega
        · have d1 : (r != 0) = true := by rw [bne_iff_ne]; intro h; exact hok2 (checkC_0.1 (HRR.out.symm.trans h))
          have HI16 : Hid (HoI w2 w16 s (.slice A2 n c) L now ∧ RowC w16 bq) := ⟨HI14.out.1.below HB16.out, HI14.out.2.below HB16.out⟩
          clear hok2
          go_wp2
          go_roundw
          case rel => exact ⟨y, HY.out.2, rfl, HI16⟩
          case measure => have := HY.out; simp [intOf]; omega
      · obtain rfl : j = 2 := by omega
        go_wp2
        go_ret
        exact ⟨rfl, HB2.out.trans (HBR.out.1.bl.mono HB2.out.size)⟩
end condHolds
end Go.Proofs.Ythggaedpbmjclaa
