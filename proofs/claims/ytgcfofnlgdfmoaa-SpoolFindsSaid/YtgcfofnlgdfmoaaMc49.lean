/- Several texts in one: SpoolFinds. -/
import Derived.Test.YtgcfofnlgdfmoaaMc44
import Derived.Test.YtgcfofnlgdfmoaaMc45
import Derived.Test.YtgcfofnlgdfmoaaMc46
import Derived.Test.YtgcfofnlgdfmoaaMc48
/- Layer 8: SpoolFinds: any index: the last item up to it; lists behind one, so many at most. -/
namespace Go.Proofs.Ytgcfofnlgdfmoaa
open Go.RowKit

namespace spoolFinds
theorem same_ent (x : It) (A A2 : Option Addr) (c c2 : Nat) (w : World) (hl : x.l.length ≤ 1000) (hr : RdP w w.heap.size A x.l) (hr2 : RdP w w.heap.size A2 x.l) :
    Calls Try.prog 29 #[.agg (itC x A c).toArray, .agg (itC x A2 c2).toArray] w fun e w' => e = .returned (.bool true) ∧ Below w.heap.size w w' :=
  (refSame_any x x A x.l.length c A2 x.l.length c2 w rfl rfl (by unfold maxLen; omega) hr hr2).mono fun e w' h => ⟨by rw [h.1, sameI_refl], h.2⟩
set_option maxRecDepth 100000 in
set_option maxHeartbeats 4000000 in
theorem walk (q0 : Nat) (hq0 : q0 < 65536) (A : Option Addr) (n c : Nat) (l : List Sm) (hn : n = l.length) (hm : n ≤ maxLen) (hok : ∀ s ∈ l, OkS s) (N : Nat) (hN : N < 18446744073709551616) (z : Int) (hz0 : -9223372036854775808 ≤ z) (hz1 : z < 9223372036854775808) (w : World) (hrd : RdM w w.heap.size A l) :
    Calls Try.prog 5 #[.int .u16 q0, .slice A n c, .int .u64 N, .int .i64 z] w fun e w' => e = .returned (.bool true) ∧ Below w.heap.size w w' := by
  unfold maxLen at hm
  have hwq : (q0 : Int).tmod 300 = ((q0 % 300 : Nat) : Int) := by rw [Int.tmod_eq_emod_of_nonneg (by omega)]; rfl
  obtain ⟨r, hr⟩ : ∃ r, r = q0 % 300 := ⟨_, rfl⟩
  rw [← hr] at hwq
  have hr300 : r < 300 := by omega
  have hw50 : (N : Int).tmod 50 = ((N % 50 : Nat) : Int) := by rw [Int.tmod_eq_emod_of_nonneg (by omega)]; rfl
  obtain ⟨N2, hN2⟩ : ∃ r, r = N % 50 := ⟨_, rfl⟩
  rw [← hN2] at hw50
  have HW51 : Hid ((N : Int) % 50 = (N2 : Int)) := by show _ = _; omega
  have hN2 : N2 < 18446744073709551616 := by omega
  have HZZ : Hid (-9223372036854775808 ≤ z ∧ z < 9223372036854775808) := ⟨hz0, hz1⟩
  have HN := Lib.hid hn
  have HOK := Lib.hid hok
  have HRd := Lib.hid hrd
  have hmf : ∀ (fn : Fn) (first cap : Array Value) (w : World), (Instr.makeFunc fn first cap).run Try.prog w = .ok (.func fn first cap) w := fun _ _ _ _ => rfl
  clear hn hok hrd hr hw50
  go_enter Try.func5, Try.ntmps5
  go_wp2_with fail
  refine (awake8_any w).mono ?_
  rintro _ w1 ⟨rfl, hb1⟩
  have HB1 := Lib.hid hb1
  clear hb1
  go_wp2_with fail
  refine (new64 r (by omega) w w1 HB1.out).mono ?_
  rintro _ w2 ⟨rfl, hs2⟩
  obtain ⟨s, hs⟩ : ∃ s, s = w1.heap.size := ⟨_, rfl⟩
  rw [← hs] at hs2 ⊢
  have HS2 := Lib.hid hs2
  clear hs hs2 hwq HB1
  go_wp2_with fail
  go_loopw [36] (fun iv wx => ∃ (k : Nat) (S : Nat → Prop) (X : Sp) (L : List Ett), k ≤ n ∧ iv = .int .i64 k ∧ Hid (SpW w wx S s (64 + r) (min k 40) X L)) (fun iv _ => n - (intOf iv).toNat)
  case atStart => exact ⟨0, _, _, _, Nat.zero_le _, rfl, HS2.out⟩
  case round =>
    obtain ⟨k, S, X, L, hk, rfl, HS⟩ := hrel
    clear HS2
    by_cases hlt : k < n
    · have q1 : decide ((k : Int) < (n : Int)) = true := decide_eq_true (by omega)
      have q2 : decide (k < n) = true := decide_eq_true hlt
      obtain ⟨b, off, m, rfl, hbb, hm, hrg⟩ := HRd.out.at_ (k := k) (by rw [← HN.out]; exact hlt)
      have hrg2 := range_keep hrg (HS.out.bl.block _ hbb)
      have HM := Lib.hid (HOK.out m (List.mem_of_getElem? hm))
      clear hm hbb hrg
      go_upto_region 7 with (first
        | (refine wpList_load_mid rfl _ _ rfl b (off + k * 11) rfl (smC m) _ hrg2 Try.underlying51 rfl Try.infoSm ?_)
        | (refine wpList_store_row rfl _ _ _ rfl wr.heap.size _ rfl rfl _ _ (heap_alloc_new _ _) Try.infoSm rfl (by simp [Value.oneCell', smC]) ?_)
        | fail)
      obtain ⟨w3, hw3⟩ : ∃ V, V = (wr.alloc (.cells #[.bool false, .int .u8 0, .int .u8 0, .int .u8 0, .int .u16 0, .int .u16 0, .int .u16 0, .int .u8 0, .int .u8 0, .int .u8 0, .bool false] 51)).setRow wr.heap.size (smC m).toArray := ⟨_, rfl⟩
      rw [← hw3, act_put_no]
      have hX : w3.heap[wr.heap.size]? = some (.cells (smC m).toArray 51 (0, 0)) := by rw [hw3]; exact setRow_heap _ _ _ _ _ _ (heap_alloc_new _ _)
      have hb3 : Below wr.heap.size wr w3 := by rw [hw3]; exact below_setRow ((Below.refl _ _).alloc (Nat.le_refl _) _) (Nat.le_refl _) _
      have HX := Lib.hid hX
      have HS3 := Lib.hid (HS.out.below hb3)
      clear hw3 hX hb3 hrg2 HS q1 q2
      by_cases h40 : k < 40
      · have d1 : decide ((k : Int) < 40) = true := decide_eq_true (by omega)
        have d2 : decide (k < 40) = true := decide_eq_true h40
        go_wp2_with (first | (refine wpList_load_row rfl _ _ rfl wr.heap.size rfl _ _ _ _ HX.out Try.underlying51 rfl Try.infoSm ?_) | fail)
        refine (next_any m HM.out w3 HS3.out.at_ (HS3.out.ok.hs _)).mono ?_
        rintro _ w4 ⟨A4, c4, rfl, hnil, hrd4, hb4⟩
        have hs4 := HS3.out.below hb4
        have hkk : min k 40 < 100000 := by omega
        have HP := Lib.hid (putNext_any m HM.out A4 c4 w4 hs4.at_ hs4.ok hkk hnil hrd4)
        have HS4 := Lib.hid hs4
        clear hnil hrd4 hb4 hs4 HS3 HX
        go_wp2_with fail
        refine HP.out.mono ?_
        rintro _ w5 ⟨A5, c5, S5, rfl, h5, hk5, hst5⟩
        have HS5 := Lib.hid (HS4.out.step h5 hk5 hst5 (putR_q _ _ _ _ _))
        rw [← min_succ_lt h40] at HS5
        clear h5 hk5 hst5 HP HS4 d1 d2 hkk
        go_wp2_with fail
        exact ⟨⟨k + 1, S5, _, _, by omega, by go_num, HS5.out⟩, by simp [intOf]; omega⟩
      · have d1 : decide ((k : Int) < 40) = false := decide_eq_false (by omega)
        have d2 : decide (k < 40) = false := decide_eq_false h40
        have hmn : min (k + 1) 40 = min k 40 := by omega
        rw [← hmn] at HS3
        clear hmn
        go_wp2_with fail
        exact ⟨⟨k + 1, S, X, L, by omega, by go_num, HS3.out⟩, by simp [intOf]; omega⟩
    · have q1 : decide ((k : Int) < (n : Int)) = false := decide_eq_false (by omega)
      have q2 : decide (k < n) = false := decide_eq_false hlt
      clear hlt hk
      go_wp2_with fail
      refine (listAll_any HS.out (by omega)).mono ?_
      rintro _ w3 ⟨A3, c3, M, rfl, hsm, hrd, hb3⟩
      have HS3 := Lib.hid (HS.out.below hb3)
      have HSM := Lib.hid hsm
      have HM := Lib.hid hrd
      obtain ⟨i0, hi0, hz0, hz1, hz2⟩ := info_parts Try.infoEnt
      have hcap : M.length ≤ 40 := by have h1 := hsm.len; have h2 := HS.out.ok.len; omega
      have HRISE := Lib.hid HS.out.ok.riseE
      clear hsm hrd hb3 HS HRd HOK HN
      go_wp2_with fail
      obtain ⟨w4, hw4⟩ : ∃ V, V = w3.alloc (.cells #[.int .u64 (N : Int), .int .u64 ((N : Int) % 50)] 52) := ⟨_, rfl⟩
      obtain ⟨g, hg⟩ : ∃ g, g = w3.heap.size := ⟨_, rfl⟩
      have hb4 : Below w3.heap.size w3 w4 := by rw [hw4]; exact (Below.refl _ _).alloc (Nat.le_refl _) _
      have htwo : ∀ k, k < 2 → w4.cell? ⟨g, k, none⟩ = some (.int .u64 ((if k = 0 then N else N2 : Nat) : Int)) := fun k hk => by
        rw [hw4, hg]
        match k, hk with
        | 0, _ => exact cell_of_row _ _ 0 _ _ _ (heap_alloc_new _ _)
        | 1, _ => rw [show (if 1 = 0 then N else N2 : Nat) = N2 from rfl, ← HW51.out]; exact cell_of_row _ _ 1 _ _ _ (heap_alloc_new _ _)
      rw [← hw4, ← hg]
      have HF4 : Hid (FAt w w4 S s (64 + r) X L A3 M g N N2) := ⟨(HS3.out.below hb4).forty (by omega), HM.out.below hb4, htwo⟩
      obtain ⟨nm, hnm⟩ : ∃ nm, nm = M.length := ⟨_, rfl⟩
      rw [← hnm] at hcap ⊢
      have HNM := Lib.hid hnm
      clear hw4 hg hb4 htwo HS3 HM hnm
      go_loopw [57] (fun iv wx => ∃ (k : Nat), k ≤ 2 ∧ iv = .int .i64 k ∧ Hid (FAt w wx S s (64 + r) X L A3 M g N N2)) (fun iv _ => 2 - (intOf iv).toNat)
      case atStart => exact ⟨0, Nat.zero_le _, rfl, HF4.out⟩
      case round =>
        obtain ⟨k, hk, rfl, HF⟩ := hrel
        clear HF4
        by_cases hlt : k < 2
        · have q1 : decide ((k : Int) < 2) = true := decide_eq_true (by omega)
          obtain ⟨P, hP⟩ : ∃ P, P = (if k = 0 then N else N2) := ⟨_, rfl⟩
          have hPb : P < 18446744073709551616 := by rw [hP]; split <;> omega
          have x0 := HF.out.two k hlt
          rw [← hP] at x0
          obtain ⟨mc, hcut⟩ := CutAt.ex HRISE.out P
          have hcutM := HSM.out.cut hcut
          have HCUT := Lib.hid hcut
          have HCUTM := Lib.hid hcutM
          obtain ⟨t, ht⟩ : ∃ t, t = z.toNat := ⟨_, rfl⟩
          clear hcut hcutM hP
          go_wp2_with fail
          obtain ⟨wo, hwo⟩ : ∃ wo, wo = wr := ⟨_, rfl⟩
          rw [← hwo] at HF x0 ⊢
          clear hwo
          obtain ⟨B, hB⟩ : ∃ B, B = wo.heap.size := ⟨_, rfl⟩
          have HBB := Lib.hid hB
          have hw0 : WAt wo B (.slice none 0 0) (wantL M mc t 0) := by rw [wantL_zero]; exact ⟨World.ownsRow_nil _ _ _ _, fun _ h => by cases h⟩
          have HW0 := Lib.hid hw0
          have HT := Lib.hid ht
          clear hw0 hB ht x0 q1
          go_loopw [16, 17, 63] (fun wv bv iv wx => ∃ (j : Nat), j ≤ nm ∧ iv = .int .i64 j ∧ bv = .int .i64 (((min j mc : Nat) : Int) - 1) ∧ Hid (WAt wx B wv (wantL M mc t j)) ∧ Hid (Below B wo wx)) (fun _ _ iv _ => nm - (intOf iv).toNat)
          case atStart => exact ⟨0, Nat.zero_le _, rfl, by rw [Nat.zero_min]; rfl, HW0.out, Below.refl _ _⟩
          case round =>
            obtain ⟨j, hj, rfl, rfl, HW, HBX⟩ := hrel
            clear HW0
            by_cases hjn : j < nm
            · have q1 : decide ((j : Int) < (nm : Int)) = true := decide_eq_true (by omega)
              have q2 : decide (j < nm) = true := decide_eq_true hjn
              obtain ⟨e, he⟩ : ∃ e, M[j]? = some e := ⟨_, List.getElem?_eq_getElem (by rw [← HNM.out]; exact hjn)⟩
              have hbx := HBX.out
              rw [HBB.out] at hbx
              obtain ⟨b, o, rfl, hbb, hr1, -, -⟩ := (HF.out.below hbx).m.at_ he
              have HE := Lib.hid he
              clear he hbx hbb
              obtain ⟨Aw, cw, rfl⟩ := own_slice HW.out.own
              obtain ⟨nw, hnw⟩ : ∃ nw, nw = (wantL M mc t j).length := ⟨_, rfl⟩
              have hnw2 := wantL_len M mc t j (by rw [← HNM.out]; exact hj)
              rw [← hnw] at hnw2 ⊢
              have HNW := Lib.hid hnw
              have HNW2 := Lib.hid hnw2
              have hnw40 : nw ≤ 40 := by omega
              clear hnw hnw2
              go_upto_region 19 with (first
                | (refine wpList_load_mid rfl _ _ rfl b (o + j * 14) rfl (entC e) _ hr1 Try.underlying68 rfl Try.infoEn ?_)
                | (refine wpList_store_row rfl _ _ _ rfl wr.heap.size _ rfl rfl _ _ (heap_alloc_new _ _) Try.infoEn rfl (by simp [Value.oneCell', entC, itC]) ?_)
                | fail)
              obtain ⟨V, hV, hbox, hbV, hrV, -⟩ := boxE wr _ e
              rw [← hV, act_put_no]
              have hc0 : V.cell? ⟨wr.heap.size, 0, none⟩ = some (.int .u64 e.i) := cell_of_row _ _ 0 _ _ _ hbox
              have hwV : WAt V B (.slice Aw nw cw) (wantL M mc t j) := by rw [HNW.out]; exact ⟨ownB_below HW.out.own hbV, HW.out.ok.below hbV⟩
              have hbB : Below B wo V := HBX.out.trans (hbV.mono (by rw [HBB.out]; exact HBX.out.size))
              have HBO := Lib.hid hbox
              have HWV := Lib.hid hwV
              have HBV := Lib.hid hbB
              have HOE := Lib.hid (((HF.out.below (by rw [← HBB.out]; exact hbB)).m.ok e (List.mem_of_getElem? HE.out)))
              have hix : idxE M j = e.i := idxE_at HE.out
              clear hV hbV hrV hr1 hwV hbB hbox HW HBX q1 q2
              by_cases hjm : j < mc
              · have hle := HCUTM.out.lo j hjm
                rw [hix] at hle
                have d1 : decide ((e.i : Int) ≤ (P : Int)) = true := decide_eq_true (by omega)
                have d2 : decide (e.i ≤ P) = true := decide_eq_true hle
                have hb1 : ((min (j + 1) mc : Nat) : Int) - 1 = (j : Int) := by omega
                have hw1 := wantL_lo (M := M) (t := t) hjm
                have HB1 := Lib.hid hb1
                have HW1 := Lib.hid hw1
                clear hix hle hb1 hw1 HOE
                go_wp2
                exact ⟨⟨j + 1, by omega, by go_num, by rw [HB1.out], by rw [HW1.out]; exact HWV.out, HBV.out⟩, by simp [intOf]; omega⟩
              · have hhi := HCUTM.out.hi j (by omega) (by rw [← HNM.out]; exact hjn)
                rw [hix] at hhi
                have d1 : decide ((e.i : Int) ≤ (P : Int)) = false := decide_eq_false (by omega)
                have d2 : decide (e.i ≤ P) = false := decide_eq_false (by omega)
                have hb1 : ((min (j + 1) mc : Nat) : Int) - 1 = ((min j mc : Nat) : Int) - 1 := by omega
                have hw1 := wantL_hi (t := t) (by omega : mc ≤ j) HE.out
                rw [← HNW.out] at hw1
                have HB1 := Lib.hid hb1
                have HW1 := Lib.hid hw1
                clear hix hhi hb1 hw1
                by_cases hnt : nw < t
                · have d3 : decide ((nw : Int) < z) = true := decide_eq_true (by have := HT.out; omega)
                  have hw1 := HW1.out
                  rw [if_pos hnt] at hw1
                  have HW2 := Lib.hid hw1
                  clear hw1 HW1
                  have hbox2 : V.heap[wr.heap.size]? = some (.cells #[.int .u64 (e.i : Int), .bool e.x.g, .int .u8 e.x.o, .int .u64 e.x.q, .int .u64 e.x.t, .string e.x.r, .slice e.A e.x.l.length e.c, .int .u8 e.x.s, .int .u8 e.x.p, .int .i64 e.x.v, .int .u8 e.x.w, .int .u8 e.x.ga, .int .u64 e.x.gf, .int .u64 e.x.gt] 68 (0, 0)) := HBO.out
                  have HBO2 := Lib.hid hbox2
                  have HBL : Hid (B ≤ V.heap.size) := by have h1 := HBB.out; have h2 := HBV.out.size; show _ ≤ _; omega
                  have hown := HWV.out.own
                  rw [← HNW.out] at hown
                  have HOWN := Lib.hid hown
                  clear hbox2 HBO hown
                  go_upto_region 22 with fail
                  go_wp2_with (first
                    | (refine wpList_load_row rfl _ _ rfl wr.heap.size rfl _ _ _ _ HBO2.out Try.underlying68 rfl Try.infoEn ?_)
                    | (at_builtin; go_loud (refine wpList_append_src (base := B) rfl _ _ rfl Try.underlying63 hi0 hz0 hz1 hz2 rfl (by decide) rfl (HOWN.out.alloc _) rfl (src_ent (e := e) (heap_alloc_new _ _)) (cellsE_one [e]) (by unfold maxLen; omega) (by omega) (Nat.le_trans HBL.out (by simp)) ?_; intro v5 w5 ho5 hg5 hb5))
                    | fail)
                  have hb5 : Below B V w5 := RowKit.Below.grown ((Below.refl B V).alloc HBL.out _) hg5 (Nat.le_trans HBL.out (by simp)) (fun k hk => (HOWN.out.lt k hk).1)
                  have hB5 := HBV.out.trans hb5
                  have hB5' := hB5
                  rw [HBB.out] at hB5'
                  have HM5 := Lib.hid (HF.out.below hB5').m.ok
                  clear hB5'
                  exact ⟨⟨j + 1, by omega, by go_num, by rw [HB1.out], by rw [HW2.out]; exact ⟨by rw [List.length_append, cellsE_append, ← HNW.out]; exact ho5, fun x hx => (List.mem_append.1 hx).elim (fun h => HM5.out x (wantL_mem h)) (fun h => by rw [List.mem_singleton.1 h]; exact HM5.out e (List.mem_of_getElem? HE.out))⟩, hB5⟩, by simp [intOf]; omega⟩
                · have d3 : decide ((nw : Int) < z) = false := decide_eq_false (by have := HT.out; omega)
                  have hw1 := HW1.out
                  rw [if_neg hnt] at hw1
                  have HW2 := Lib.hid hw1
                  clear hw1 HW1
                  go_wp2
                  exact ⟨⟨j + 1, by omega, by go_num, by rw [HB1.out], by rw [HW2.out]; exact HWV.out, HBV.out⟩, by simp [intOf]; omega⟩
            · obtain rfl : nm = j := by omega
              have hmn : mc ≤ nm := by have h1 := HCUTM.out.le; have h2 := HNM.out; omega
              have hbest : ((min nm mc : Nat) : Int) - 1 = (mc : Int) - 1 := by omega
              rw [hbest]
              obtain ⟨bz, hbz⟩ : ∃ bz : Int, bz = (mc : Int) - 1 := ⟨_, rfl⟩
              rw [← hbz]
              have HBZ := Lib.hid hbz
              have hbx := HBX.out
              rw [HBB.out] at hbx
              have HF6 := Lib.hid (HF.out.below hbx)
              obtain ⟨Aw, cw, rfl⟩ := own_slice HW.out.own
              obtain ⟨nw, hnw⟩ : ∃ nw, nw = (wantL M mc t nm).length := ⟨_, rfl⟩
              have hown := HW.out.own
              rw [← hnw] at hown ⊢
              have hnw40 : nw ≤ 40 := by have h1 := wantL_len M mc t nm (by rw [← HNM.out]; exact Nat.le_refl _); omega
              have HNW := Lib.hid hnw
              have HOWN := Lib.hid hown
              have HOKW := Lib.hid HW.out.ok
              have q1 : decide ((nm : Int) < (nm : Int)) = false := decide_eq_false (by omega)
              clear hbest hbz hbx HW HF HBX hown hnw hjn
              go_wp2_with fail
              refine (find_any _ HF6.out.sp.at_ HRISE.out).mono ?_
              rintro _ w6 ⟨m6, y, rfl, hm6, hlo6, hhi6, hfe, hb6⟩
              obtain rfl : mc = m6 := HCUT.out.eq ⟨hm6, hlo6, hhi6⟩
              have HF7 := Lib.hid (HF6.out.below hb6)
              have HOWN7 := Lib.hid (ownB_below HOWN.out hb6)
              have HOKW7 := Lib.hid (HOKW.out.below hb6)
              have HFE := Lib.hid hfe
              clear hm6 hlo6 hhi6 hfe hb6 HF6 HOWN HOKW q1
              go_upto_region 25 with (first
                | (refine wpList_store_row rfl _ _ _ rfl w6.heap.size _ rfl rfl _ _ (heap_alloc_new _ _) Try.infoEn rfl (by simp [Value.oneCell', entC, itC]) ?_)
                | fail)
              obtain ⟨V, hV, hbox, hbV, hrV, -⟩ := boxE w6 _ y
              rw [← hV]
              obtain ⟨gx, hgx⟩ : ∃ gx, gx = w6.heap.size := ⟨_, rfl⟩
              rw [← hgx] at hbox hrV ⊢
              have HC0 : Hid (V.cell? ⟨gx, 0, none⟩ = some (.int .u64 y.i)) := cell_of_row _ _ 0 _ _ _ hbox
              have HRV := Lib.hid hrV
              have HF8 := Lib.hid (HF7.out.below hbV)
              have HOWN8 := Lib.hid (ownB_below HOWN7.out hbV)
              have HOKW8 := Lib.hid (HOKW7.out.below hbV)
              have HFE8 : Hid (0 < mc → EntOk V (fun _ => False) y) := fun h => (HFE.out.ok h).below hbV
              have HFEQ := Lib.hid HFE.out.eq
              clear hV hbox hbV hrV hgx HF7 HOWN7 HOKW7 HFE
              go_cut [17, 21, 115] from 82 to 115 (fun _ _ p wx => p = .bool false ∧ Below V.heap.size V wx)
              case first =>
                rcases Nat.eq_zero_or_pos mc with h0 | h0
                · have hbm : bz = -1 := by have := HBZ.out; omega
                  rw [decide_eq_false (by omega : ¬ 0 < mc), hbm]
                  clear hbm h0
                  refine wp_region_noPanic ?_
                  refine wp_region_held_drew (S := (fun W => Below V.heap.size V W)) (by kernel_rfl) ?_ (fun hHeld => ?_)
                  · exact (RowKit.Below.refl _ _).drew
                  refine heldTake (i := 0) (v := ?_) rfl (by kernel_rfl) (by kernel_rfl) (by kernel_rfl) (fun _ _ _ h => h) (Or.inl ⟨by rfl, ?_⟩) (by assumption) ?_
                  rotate_left
                  · (intro W hSw; (try dsimp only at hSw);  go_simp; try with_reducible rfl)
                  try simp only [heldPut, List.set]
                  refine heldTake (i := 1) (v := ?_) rfl (by kernel_rfl) (by kernel_rfl) (by kernel_rfl) (fun _ _ _ h => h) (Or.inl ⟨by rfl, ?_⟩) (by assumption) ?_
                  rotate_left
                  · (intro W hSw; (try dsimp only at hSw);  go_simp; try with_reducible rfl)
                  try simp only [heldPut, List.set]
                  refine heldTake (i := 2) (v := ?_) rfl (by kernel_rfl) (by kernel_rfl) (by kernel_rfl) (fun _ _ _ h => h) (Or.inl ⟨by rfl, ?_⟩) (by assumption) ?_
                  rotate_left
                  · (intro W hSw; (try dsimp only at hSw);  go_simp; try with_reducible rfl)
                  try simp only [heldPut, List.set]
                  refine heldTake (i := 3) (v := ?_) rfl (by kernel_rfl) (by kernel_rfl) (by kernel_rfl) (fun _ _ _ h => h) (Or.inl ⟨by rfl, ?_⟩) (by assumption) ?_
                  rotate_left
                  · (intro W hSw; (try dsimp only at hSw);  go_simp; try with_reducible rfl)
                  try simp only [heldPut, List.set]
                  refine heldTake (i := 4) (v := ?_) rfl (by kernel_rfl) (by kernel_rfl) (by kernel_rfl) (fun _ _ _ h => h) (Or.inl ⟨by rfl, ?_⟩) (by assumption) ?_
                  rotate_left
                  · (intro W hSw; (try dsimp only at hSw);  go_simp; try with_reducible rfl)
                  try simp only [heldPut, List.set]
                  refine heldTake (i := 5) (v := ?_) rfl (by kernel_rfl) (by kernel_rfl) (by kernel_rfl) (fun _ _ _ h => h) (Or.inl ⟨by rfl, ?_⟩) (by assumption) ?_
                  rotate_left
                  · (intro W hSw; (try dsimp only at hSw);  go_simp; try with_reducible rfl)
                  try simp only [heldPut, List.set]
                  refine heldTake (i := 6) (v := ?_) rfl (by kernel_rfl) (by kernel_rfl) (by kernel_rfl) (fun _ _ _ h => h) (Or.inl ⟨by rfl, ?_⟩) (by assumption) ?_
                  rotate_left
                  · (intro W hSw; (try dsimp only at hSw);  go_simp; try with_reducible rfl)
                  try simp only [heldPut, List.set]
                  refine heldTake (i := 7) (v := undef) rfl (by kernel_rfl) (by kernel_rfl) (by kernel_rfl) (fun _ _ _ h => h) (Or.inr ⟨by rfl, rfl⟩) (by assumption) ?_
                  try simp only [heldPut, List.set]
                  refine heldTake (i := 8) (v := undef) rfl (by kernel_rfl) (by kernel_rfl) (by kernel_rfl) (fun _ _ _ h => h) (Or.inr ⟨by rfl, rfl⟩) (by assumption) ?_
                  try simp only [heldPut, List.set]
                  refine heldTake (i := 9) (v := undef) rfl (by kernel_rfl) (by kernel_rfl) (by kernel_rfl) (fun _ _ _ h => h) (Or.inr ⟨by rfl, rfl⟩) (by assumption) ?_
                  try simp only [heldPut, List.set]
                  refine heldTake (i := 10) (v := undef) rfl (by kernel_rfl) (by kernel_rfl) (by kernel_rfl) (fun _ _ _ h => h) (Or.inr ⟨by rfl, rfl⟩) (by assumption) ?_
                  try simp only [heldPut, List.set]
                  refine heldTake (i := 11) (v := undef) rfl (by kernel_rfl) (by kernel_rfl) (by kernel_rfl) (fun _ _ _ h => h) (Or.inr ⟨by rfl, rfl⟩) (by assumption) ?_
                  try simp only [heldPut, List.set]
                  refine heldTake (i := 12) (v := undef) rfl (by kernel_rfl) (by kernel_rfl) (by kernel_rfl) (fun _ _ _ h => h) (Or.inr ⟨by rfl, rfl⟩) (by assumption) ?_
                  try simp only [heldPut, List.set]
                  refine heldTake (i := 13) (v := undef) rfl (by kernel_rfl) (by kernel_rfl) (by kernel_rfl) (fun _ _ _ h => h) (Or.inr ⟨by rfl, rfl⟩) (by assumption) ?_
                  try simp only [heldPut, List.set]
                  refine heldTake (i := 14) (v := undef) rfl (by kernel_rfl) (by kernel_rfl) (by kernel_rfl) (fun _ _ _ h => h) (Or.inr ⟨by rfl, rfl⟩) (by assumption) ?_
                  try simp only [heldPut, List.set]
                  refine heldTake (i := 15) (v := undef) rfl (by kernel_rfl) (by kernel_rfl) (by kernel_rfl) (fun _ _ _ h => h) (Or.inr ⟨by rfl, rfl⟩) (by assumption) ?_
                  try simp only [heldPut, List.set]
                  refine heldTake (i := 16) (v := undef) rfl (by kernel_rfl) (by kernel_rfl) (by kernel_rfl) (fun _ _ _ h => h) (Or.inr ⟨by rfl, rfl⟩) (by assumption) ?_
                  try simp only [heldPut, List.set]
                  refine heldTake (i := 17) (v := undef) rfl (by kernel_rfl) (by kernel_rfl) (by kernel_rfl) (fun _ _ _ h => h) (Or.inr ⟨by rfl, rfl⟩) (by assumption) ?_
                  try simp only [heldPut, List.set]
                  refine heldTake (i := 18) (v := undef) rfl (by kernel_rfl) (by kernel_rfl) (by kernel_rfl) (fun _ _ _ h => h) (Or.inr ⟨by rfl, rfl⟩) (by assumption) ?_
                  try simp only [heldPut, List.set]
                  refine heldTake (i := 19) (v := undef) rfl (by kernel_rfl) (by kernel_rfl) (by kernel_rfl) (fun _ _ _ h => h) (Or.inr ⟨by rfl, rfl⟩) (by assumption) ?_
                  try simp only [heldPut, List.set]
                  refine heldTake (i := 20) (v := undef) rfl (by kernel_rfl) (by kernel_rfl) (by kernel_rfl) (fun _ _ _ h => h) (Or.inr ⟨by rfl, rfl⟩) (by assumption) ?_
                  try simp only [heldPut, List.set]
                  refine heldTake (i := 21) (v := undef) rfl (by kernel_rfl) (by kernel_rfl) (by kernel_rfl) (fun _ _ _ h => h) (Or.inr ⟨by rfl, rfl⟩) (by assumption) ?_
                  try simp only [heldPut, List.set]
                  refine heldTake (i := 22) (v := undef) rfl (by kernel_rfl) (by kernel_rfl) (by kernel_rfl) (fun _ _ _ h => h) (Or.inr ⟨by rfl, rfl⟩) (by assumption) ?_
                  try simp only [heldPut, List.set]
                  refine heldTake (i := 23) (v := undef) rfl (by kernel_rfl) (by kernel_rfl) (by kernel_rfl) (fun _ _ _ h => h) (Or.inr ⟨by rfl, rfl⟩) (by assumption) ?_
                  try simp only [heldPut, List.set]
                  refine heldTake (i := 24) (v := undef) rfl (by kernel_rfl) (by kernel_rfl) (by kernel_rfl) (fun _ _ _ h => h) (Or.inr ⟨by rfl, rfl⟩) (by assumption) ?_
                  try simp only [heldPut, List.set]
                  refine heldTake (i := 25) (v := undef) rfl (by kernel_rfl) (by kernel_rfl) (by kernel_rfl) (fun _ _ _ h => h) (Or.inr ⟨by rfl, rfl⟩) (by assumption) ?_
                  try simp only [heldPut, List.set]
                  refine heldTake (i := 26) (v := ?_) rfl (by kernel_rfl) (by kernel_rfl) (by kernel_rfl) (fun _ _ _ h => h) (Or.inl ⟨by rfl, ?_⟩) (by assumption) ?_
                  rotate_left
                  · (intro W hSw; (try dsimp only at hSw);  go_simp; try with_reducible rfl)
                  try simp only [heldPut, List.set]
                  refine heldTake (i := 27) (v := ?_) rfl (by kernel_rfl) (by kernel_rfl) (by kernel_rfl) (fun _ _ _ h => h) (Or.inl ⟨by rfl, ?_⟩) (by assumption) ?_
                  rotate_left
                  · (intro W hSw; (try dsimp only at hSw);  go_simp; try with_reducible rfl)
                  try simp only [heldPut, List.set]
                  refine wpAnyH_done (by kernel_rfl) ?_ _
                  refine NoPanic.normal ?_
                  go_wp2_with fail
                  go_meet
                  exact ⟨rfl, hHeld⟩
                · obtain ⟨p, hp⟩ : ∃ p, mc = p + 1 := ⟨mc - 1, by omega⟩
                  have hbm : bz = (p : Int) := by have := HBZ.out; omega
                  rw [decide_eq_true (by omega : 0 < mc), hbm]
                  obtain ⟨e0, he0, ei0, ex0⟩ := HFEQ.out h0
                  obtain ⟨e, he, ei1, ex1⟩ := HSM.out.at_ he0
                  rw [show mc - 1 = p by omega] at he
                  obtain ⟨b, o, rfl, hbb, hr1, hr2, hok⟩ := HF8.out.m.at_ he
                  have hoy := HFE8.out h0
                  have hyi : y.i = e.i := by rw [ei0, ei1]
                  have hyx : y.x = e.x := by rw [ex0, ex1]
                  have hpn : p < nm := by omega
                  have hcx : ∀ W, Below V.heap.size V W → W.cell? ⟨gx, 0, none⟩ = some (.int .u64 e.i) := fun W hW => (hW.cell (p := ⟨gx, 0, none⟩) (World.block_lt_of_cell? V _ HC0.out)).trans (by rw [HC0.out, hyi])
                  have hrx : ∀ W, Below V.heap.size V W → W.rangeAt gx 1 (itC e.x y.A y.c) := fun W hW => by
                    have h1 := range_keep HRV.out (hW.block _ (World.block_lt_of_cell? V _ HC0.out))
                    rwa [hyx] at h1
                  have hca : ∀ W, Below V.heap.size V W → W.cell? ⟨b, o + p * 14, none⟩ = some (.int .u64 e.i) := fun W hW => by
                    have h1 := hr1 0 (.int .u64 e.i) rfl
                    exact (hW.cell (p := ⟨b, o + p * 14, none⟩) hbb).trans h1
                  have hra : ∀ W, Below V.heap.size V W → W.rangeAt b (o + p * 14 + 1) (itC e.x e.A e.c) := fun W hW => range_keep hr2 (hW.block _ hbb)
                  have hcall : ∀ W, Below V.heap.size V W → Calls Try.prog 29 #[.agg (itC e.x y.A y.c).toArray, .agg (itC e.x e.A e.c).toArray] W fun e w' => e = .returned (.bool true) ∧ Below W.heap.size W w' := fun W hW => same_ent e.x y.A e.A y.c e.c W hok.ln (by have h1 := (hoy.below hW).rd; rwa [hyx] at h1) (hok.below hW).rd
                  have HCX := Lib.hid hcx
                  have HRX := Lib.hid hrx
                  have HCA := Lib.hid hca
                  have HRA := Lib.hid hra
                  have HCALL := Lib.hid hcall
                  clear hbm h0 hp ei0 ex0 he0 ei1 ex1 he hbb hr1 hr2 hok hoy hyi hyx hcx hrx hca hra hcall
                  refine wp_region_noPanic ?_
                  refine wp_region_held_drew (S := (fun W => Below V.heap.size V W)) (by kernel_rfl) ?_ (fun hHeld => ?_)
                  · exact (RowKit.Below.refl _ _).drew
                  refine heldTake (i := 0) (v := ?_) rfl (by kernel_rfl) (by kernel_rfl) (by kernel_rfl) (fun _ _ _ h => h) (Or.inl ⟨by rfl, ?_⟩) (by assumption) ?_
                  rotate_left
                  · (intro W hSw; (try dsimp only at hSw);  go_simp; try with_reducible rfl)
                  try simp only [heldPut, List.set]
                  refine heldTake (i := 1) (v := ?_) rfl (by kernel_rfl) (by kernel_rfl) (by kernel_rfl) (fun _ _ _ h => h) (Or.inl ⟨by rfl, ?_⟩) (by assumption) ?_
                  rotate_left
                  · (intro W hSw; (try dsimp only at hSw);  go_simp; try with_reducible rfl)
                  try simp only [heldPut, List.set]
                  refine heldTake (i := 2) (v := ?_) rfl (by kernel_rfl) (by kernel_rfl) (by kernel_rfl) (fun _ _ _ h => h) (Or.inl ⟨by rfl, ?_⟩) (by assumption) ?_
                  rotate_left
                  · (intro W hSw; (try dsimp only at hSw);  go_simp; try with_reducible rfl)
                  try simp only [heldPut, List.set]
                  refine heldTake (i := 3) (v := ?_) rfl (by kernel_rfl) (by kernel_rfl) (by kernel_rfl) (fun _ _ _ h => h) (Or.inl ⟨by rfl, ?_⟩) (by assumption) ?_
                  rotate_left
                  · (intro W hSw; (try dsimp only at hSw);  go_simp; try with_reducible rfl)
                  try simp only [heldPut, List.set]
                  refine heldTake (i := 4) (v := ?_) rfl (by kernel_rfl) (by kernel_rfl) (by kernel_rfl) (fun _ _ _ h => h) (Or.inl ⟨by rfl, ?_⟩) (by assumption) ?_
                  rotate_left
                  · (intro W hSw; (try dsimp only at hSw);  go_simp; try with_reducible rfl)
                  try simp only [heldPut, List.set]
                  refine heldTake (i := 5) (v := ?_) rfl (by kernel_rfl) (by kernel_rfl) (by kernel_rfl) (fun _ _ _ h => h) (Or.inl ⟨by rfl, ?_⟩) (by assumption) ?_
                  rotate_left
                  · (intro W hSw; (try dsimp only at hSw);  go_simp; try with_reducible rfl)
                  try simp only [heldPut, List.set]
                  refine heldTake (i := 6) (v := ?_) rfl (by kernel_rfl) (by kernel_rfl) (by kernel_rfl) (fun _ _ _ h => h) (Or.inl ⟨by rfl, ?_⟩) (by assumption) ?_
                  rotate_left
                  · (intro W hSw; (try dsimp only at hSw);  go_simp; try with_reducible rfl)
                  try simp only [heldPut, List.set]
                  refine heldTake (i := 7) (v := ?_) rfl (by kernel_rfl) (by kernel_rfl) (by kernel_rfl) (fun _ _ _ h => h) (Or.inl ⟨by rfl, ?_⟩) (by assumption) ?_
                  rotate_left
                  · (intro W hSw; (try dsimp only at hSw);  go_simp; try with_reducible rfl)
                  try simp only [heldPut, List.set]
                  refine heldTake (i := 8) (v := ?_) rfl (by kernel_rfl) (by kernel_rfl) (by kernel_rfl) (fun _ _ _ h => h) (Or.inl ⟨by rfl, ?_⟩) (by assumption) ?_
                  rotate_left
                  · (intro W hSw; (try dsimp only at hSw); have f1 := HCX.out W hSw; go_simp; try with_reducible rfl)
                  try simp only [heldPut, List.set]
                  refine heldTake (i := 9) (v := ?_) rfl (by kernel_rfl) (by kernel_rfl) (by kernel_rfl) (fun _ _ _ h => h) (Or.inl ⟨by rfl, ?_⟩) (by assumption) ?_
                  rotate_left
                  · (intro W hSw; (try dsimp only at hSw);  go_simp; try with_reducible rfl)
                  try simp only [heldPut, List.set]
                  refine heldTake (i := 10) (v := ?_) rfl (by kernel_rfl) (by kernel_rfl) (by kernel_rfl) (fun _ _ _ h => h) (Or.inl ⟨by rfl, ?_⟩) (by assumption) ?_
                  rotate_left
                  · (intro W hSw; (try dsimp only at hSw);  go_simp; try with_reducible rfl)
                  try simp only [heldPut, List.set]
                  refine heldTake (i := 11) (v := ?_) rfl (by kernel_rfl) (by kernel_rfl) (by kernel_rfl) (fun _ _ _ h => h) (Or.inl ⟨by rfl, ?_⟩) (by assumption) ?_
                  rotate_left
                  · (intro W hSw; (try dsimp only at hSw);  go_simp; try with_reducible rfl)
                  try simp only [heldPut, List.set]
                  refine heldTake (i := 12) (v := ?_) rfl (by kernel_rfl) (by kernel_rfl) (by kernel_rfl) (fun _ _ _ h => h) (Or.inl ⟨by rfl, ?_⟩) (by assumption) ?_
                  rotate_left
                  · (intro W hSw; (try dsimp only at hSw);  go_simp; try with_reducible rfl)
                  try simp only [heldPut, List.set]
                  refine heldTake (i := 13) (v := ?_) rfl (by kernel_rfl) (by kernel_rfl) (by kernel_rfl) (fun _ _ _ h => h) (Or.inl ⟨by rfl, ?_⟩) (by assumption) ?_
                  rotate_left
                  · (intro W hSw; (try dsimp only at hSw); have f1 := HCA.out W hSw; go_simp; try with_reducible rfl)
                  try simp only [heldPut, List.set]
                  refine heldTake (i := 14) (v := ?_) rfl (by kernel_rfl) (by kernel_rfl) (by kernel_rfl) (fun _ _ _ h => h) (Or.inl ⟨by rfl, ?_⟩) (by assumption) ?_
                  rotate_left
                  · (intro W hSw; (try dsimp only at hSw);  go_simp; try with_reducible rfl)
                  try simp only [heldPut, List.set]
                  refine heldTake (i := 15) (v := ?_) rfl (by kernel_rfl) (by kernel_rfl) (by kernel_rfl) (fun _ _ _ h => h) (Or.inl ⟨by rfl, ?_⟩) (by assumption) ?_
                  rotate_left
                  · (intro W hSw; (try dsimp only at hSw);  go_simp; try with_reducible rfl)
                  try simp only [heldPut, List.set]
                  refine heldTake (i := 16) (v := ?_) rfl (by kernel_rfl) (by kernel_rfl) (by kernel_rfl) (fun _ _ _ h => h) (Or.inl ⟨by rfl, ?_⟩) (by assumption) ?_
                  rotate_left
                  · (intro W hSw; (try dsimp only at hSw);  go_simp; try with_reducible rfl)
                  try simp only [heldPut, List.set]
                  refine heldTake (i := 17) (v := .agg (itC e.x y.A y.c).toArray) rfl (by kernel_rfl) (by kernel_rfl) (by kernel_rfl) (fun _ _ _ h => h) (Or.inl ⟨by rfl, ?_⟩) (by assumption) ?_
                  · (intro W hSw; exact exec_load_mid 60 _ rfl gx 1 rfl _ _ (HRX.out W hSw) Try.underlying60 rfl Try.infoIt)
                  try simp only [heldPut, List.set]
                  refine heldTake (i := 18) (v := ?_) rfl (by kernel_rfl) (by kernel_rfl) (by kernel_rfl) (fun _ _ _ h => h) (Or.inl ⟨by rfl, ?_⟩) (by assumption) ?_
                  rotate_left
                  · (intro W hSw; (try dsimp only at hSw);  go_simp; try with_reducible rfl)
                  try simp only [heldPut, List.set]
                  refine heldTake (i := 19) (v := ?_) rfl (by kernel_rfl) (by kernel_rfl) (by kernel_rfl) (fun _ _ _ h => h) (Or.inl ⟨by rfl, ?_⟩) (by assumption) ?_
                  rotate_left
                  · (intro W hSw; (try dsimp only at hSw);  go_simp; try with_reducible rfl)
                  try simp only [heldPut, List.set]
                  refine heldTake (i := 20) (v := ?_) rfl (by kernel_rfl) (by kernel_rfl) (by kernel_rfl) (fun _ _ _ h => h) (Or.inl ⟨by rfl, ?_⟩) (by assumption) ?_
                  rotate_left
                  · (intro W hSw; (try dsimp only at hSw);  go_simp; try with_reducible rfl)
                  try simp only [heldPut, List.set]
                  refine heldTake (i := 21) (v := ?_) rfl (by kernel_rfl) (by kernel_rfl) (by kernel_rfl) (fun _ _ _ h => h) (Or.inl ⟨by rfl, ?_⟩) (by assumption) ?_
                  rotate_left
                  · (intro W hSw; (try dsimp only at hSw);  go_simp; try with_reducible rfl)
                  try simp only [heldPut, List.set]
                  refine heldTake (i := 22) (v := .agg (itC e.x e.A e.c).toArray) rfl (by kernel_rfl) (by kernel_rfl) (by kernel_rfl) (fun _ _ _ h => h) (Or.inl ⟨by rfl, ?_⟩) (by assumption) ?_
                  · (intro W hSw; exact exec_load_mid 60 _ rfl b (o + p * 14 + 1) rfl _ _ (HRA.out W hSw) Try.underlying60 rfl Try.infoIt)
                  try simp only [heldPut, List.set]
                  refine heldOne (i := 23) rfl (by kernel_rfl) (fun K hK => ?_)
                  go_simp
                  refine (HCALL.out _ hHeld).mono ?_
                  rintro e' V3 ⟨rfl, hb3⟩
                  go_wp2_with fail
                  refine hK.out _ _ ?_ (fun hHeld => ?_)
                  · exact hHeld.trans (hb3.mono hHeld.size)
                  clear hK K hb3
                  try simp only [heldPut, List.set]
                  refine heldTake (i := 24) (v := ?_) rfl (by kernel_rfl) (by kernel_rfl) (by kernel_rfl) (fun _ _ _ h => h) (Or.inl ⟨by rfl, ?_⟩) (by assumption) ?_
                  rotate_left
                  · (intro W hSw; (try dsimp only at hSw);  go_simp; try with_reducible rfl)
                  try simp only [heldPut, List.set]
                  refine heldTake (i := 25) (v := ?_) rfl (by kernel_rfl) (by kernel_rfl) (by kernel_rfl) (fun _ _ _ h => h) (Or.inl ⟨by rfl, ?_⟩) (by assumption) ?_
                  rotate_left
                  · (intro W hSw; (try dsimp only at hSw);  go_simp; try with_reducible rfl)
                  try simp only [heldPut, List.set]
                  refine heldTake (i := 26) (v := ?_) rfl (by kernel_rfl) (by kernel_rfl) (by kernel_rfl) (fun _ _ _ h => h) (Or.inl ⟨by rfl, ?_⟩) (by assumption) ?_
                  rotate_left
                  · (intro W hSw; (try dsimp only at hSw);  go_simp; try with_reducible rfl)
                  try simp only [heldPut, List.set]
                  refine heldTake (i := 27) (v := ?_) rfl (by kernel_rfl) (by kernel_rfl) (by kernel_rfl) (fun _ _ _ h => h) (Or.inl ⟨by rfl, ?_⟩) (by assumption) ?_
                  rotate_left
                  · (intro W hSw; (try dsimp only at hSw);  go_simp; try with_reducible rfl)
                  try simp only [heldPut, List.set]
                  refine wpAnyH_done (by kernel_rfl) ?_ _
                  refine NoPanic.normal ?_
                  go_wp2_with fail
                  go_meet
                  exact ⟨rfl, hHeld⟩
              case rest =>
                obtain ⟨rfl, hcutb⟩ := hcut
                have HF9 := Lib.hid (HF8.out.below hcutb)
                have HOWN9 := Lib.hid (ownB_below HOWN8.out hcutb)
                have HOKW9 := Lib.hid (HOKW8.out.below hcutb)
                clear hcutb HC0 HRV HF8 HOWN8 HOKW8 HFE8 HFEQ HBZ
                go_wp2_with fail
                refine (list_any z HZZ.out.1 HZZ.out.2 _ HF9.out.sp.at_ HRISE.out).mono ?_
                rintro _ w7 ⟨A7, c7, K7, m7, rfl, hsm7, hrow7, hm7, hlo7, hhi7, hb7⟩
                obtain rfl : mc = m7 := HCUT.out.eq ⟨hm7, hlo7, hhi7⟩
                have hsame : SameE (wantL M mc t nm) K7 := list_want HSM.out (by rw [HT.out]; exact hsm7) HNM.out
                have hr7 := hrow7.rd
                have hnk : K7.length = nw := by rw [HNW.out]; exact hsame.len.symm
                rw [hnk]
                have hown := ownB_below HOWN9.out hb7
                rw [HNW.out] at hown
                have hrw := own_rdE hown (HOKW9.out.below hb7)
                have HSAME := Lib.hid hsame
                have HR7 := Lib.hid hr7
                have HRW := Lib.hid hrw
                have HF10 := Lib.hid (HF9.out.below hb7)
                have HNK := Lib.hid hnk
                clear hsm7 hrow7 hm7 hlo7 hhi7 hb7 hsame hr7 hnk hown hrw HF9 HOWN9 HOKW9
                go_wp2_with fail
                go_loopw [127] (fun iv wx => ∃ (x : Nat), x ≤ nw ∧ iv = .int .i64 x ∧ Hid (Below w7.heap.size w7 wx)) (fun iv _ => nw - (intOf iv).toNat)
                case atStart => exact ⟨0, Nat.zero_le _, rfl, Below.refl _ _⟩
                case round =>
                  obtain ⟨x, hx, rfl, HBX⟩ := hrel
                  by_cases hxn : x < nw
                  · have q1 : decide ((x : Int) < (nw : Int)) = true := decide_eq_true (by omega)
                    have q2 : decide (x < nw) = true := decide_eq_true hxn
                    obtain ⟨U, hU⟩ : ∃ U, U = wr := ⟨_, rfl⟩
                    rw [← hU] at HBX ⊢
                    clear hU
                    have hru := HR7.out.below HBX.out
                    have hrwu := HRW.out.below HBX.out
                    obtain ⟨e, he⟩ : ∃ e, (wantL M mc t nm)[x]? = some e := ⟨_, List.getElem?_eq_getElem (by rw [← HNW.out]; exact hxn)⟩
                    obtain ⟨f, hf, fi, fx⟩ := HSAME.out.at_ he
                    obtain ⟨b, o, rfl, hbb, hr1, hr2, hok⟩ := hrwu.at_ he
                    obtain ⟨b1, o1, rfl, hbb1, hg1, hg2, hokf⟩ := hru.at_ hf
                    have hcx : ∀ W, Below U.heap.size U W → W.cell? ⟨b1, o1 + x * 14, none⟩ = some (.int .u64 e.i) := fun W hW => by
                      have h1 := hg1 0 (.int .u64 f.i) rfl
                      rw [fi] at h1
                      exact (hW.cell (p := ⟨b1, o1 + x * 14, none⟩) hbb1).trans h1
                    have hrx : ∀ W, Below U.heap.size U W → W.rangeAt b1 (o1 + x * 14 + 1) (itC e.x f.A f.c) := fun W hW => by
                      have h1 := range_keep hg2 (hW.block _ hbb1)
                      rwa [fx] at h1
                    have hca : ∀ W, Below U.heap.size U W → W.cell? ⟨b, o + x * 14, none⟩ = some (.int .u64 e.i) := fun W hW => by
                      have h1 := hr1 0 (.int .u64 e.i) rfl
                      exact (hW.cell (p := ⟨b, o + x * 14, none⟩) hbb).trans h1
                    have hra : ∀ W, Below U.heap.size U W → W.rangeAt b (o + x * 14 + 1) (itC e.x e.A e.c) := fun W hW => range_keep hr2 (hW.block _ hbb)
                    have hcall : ∀ W, Below U.heap.size U W → Calls Try.prog 29 #[.agg (itC e.x f.A f.c).toArray, .agg (itC e.x e.A e.c).toArray] W fun e w' => e = .returned (.bool true) ∧ Below W.heap.size W w' := fun W hW => same_ent e.x f.A e.A f.c e.c W hok.ln (by have h1 := (hokf.below hW).rd; rwa [fx] at h1) (hok.below hW).rd
                    have HCX := Lib.hid hcx
                    have HRX := Lib.hid hrx
                    have HCA := Lib.hid hca
                    have HRA := Lib.hid hra
                    have HCALL := Lib.hid hcall
                    clear hru hrwu he hf fi fx hbb hr1 hr2 hok hbb1 hg1 hg2 hokf hcx hrx hca hra hcall HR7 HRW HF10 HSAME
                    go_upto_region 33 with fail
                    refine wp_region_noPanic ?_
                    refine wp_region_held_drew (S := (fun W => Below U.heap.size U W)) (by kernel_rfl) ?_ (fun hHeld => ?_)
                    · exact (RowKit.Below.refl _ _).drew
                    refine heldTake (i := 0) (v := ?_) rfl (by kernel_rfl) (by kernel_rfl) (by kernel_rfl) (fun _ _ _ h => h) (Or.inl ⟨by rfl, ?_⟩) (by assumption) ?_
                    rotate_left
                    · (intro W hSw; (try dsimp only at hSw);  go_simp; try with_reducible rfl)
                    try simp only [heldPut, List.set]
                    refine heldTake (i := 1) (v := ?_) rfl (by kernel_rfl) (by kernel_rfl) (by kernel_rfl) (fun _ _ _ h => h) (Or.inl ⟨by rfl, ?_⟩) (by assumption) ?_
                    rotate_left
                    · (intro W hSw; (try dsimp only at hSw);  go_simp; try with_reducible rfl)
                    try simp only [heldPut, List.set]
                    refine heldTake (i := 2) (v := ?_) rfl (by kernel_rfl) (by kernel_rfl) (by kernel_rfl) (fun _ _ _ h => h) (Or.inl ⟨by rfl, ?_⟩) (by assumption) ?_
                    rotate_left
                    · (intro W hSw; (try dsimp only at hSw);  go_simp; try with_reducible rfl)
                    try simp only [heldPut, List.set]
                    refine heldTake (i := 3) (v := ?_) rfl (by kernel_rfl) (by kernel_rfl) (by kernel_rfl) (fun _ _ _ h => h) (Or.inl ⟨by rfl, ?_⟩) (by assumption) ?_
                    rotate_left
                    · (intro W hSw; (try dsimp only at hSw);  go_simp; try with_reducible rfl)
                    try simp only [heldPut, List.set]
                    refine heldTake (i := 4) (v := ?_) rfl (by kernel_rfl) (by kernel_rfl) (by kernel_rfl) (fun _ _ _ h => h) (Or.inl ⟨by rfl, ?_⟩) (by assumption) ?_
                    rotate_left
                    · (intro W hSw; (try dsimp only at hSw); have f1 := HCX.out W hSw; go_simp; try with_reducible rfl)
                    try simp only [heldPut, List.set]
                    refine heldTake (i := 5) (v := ?_) rfl (by kernel_rfl) (by kernel_rfl) (by kernel_rfl) (fun _ _ _ h => h) (Or.inl ⟨by rfl, ?_⟩) (by assumption) ?_
                    rotate_left
                    · (intro W hSw; (try dsimp only at hSw);  go_simp; try with_reducible rfl)
                    try simp only [heldPut, List.set]
                    refine heldTake (i := 6) (v := ?_) rfl (by kernel_rfl) (by kernel_rfl) (by kernel_rfl) (fun _ _ _ h => h) (Or.inl ⟨by rfl, ?_⟩) (by assumption) ?_
                    rotate_left
                    · (intro W hSw; (try dsimp only at hSw);  go_simp; try with_reducible rfl)
                    try simp only [heldPut, List.set]
                    refine heldTake (i := 7) (v := ?_) rfl (by kernel_rfl) (by kernel_rfl) (by kernel_rfl) (fun _ _ _ h => h) (Or.inl ⟨by rfl, ?_⟩) (by assumption) ?_
                    rotate_left
                    · (intro W hSw; (try dsimp only at hSw);  go_simp; try with_reducible rfl)
                    try simp only [heldPut, List.set]
                    refine heldTake (i := 8) (v := ?_) rfl (by kernel_rfl) (by kernel_rfl) (by kernel_rfl) (fun _ _ _ h => h) (Or.inl ⟨by rfl, ?_⟩) (by assumption) ?_
                    rotate_left
                    · (intro W hSw; (try dsimp only at hSw);  go_simp; try with_reducible rfl)
                    try simp only [heldPut, List.set]
                    refine heldTake (i := 9) (v := ?_) rfl (by kernel_rfl) (by kernel_rfl) (by kernel_rfl) (fun _ _ _ h => h) (Or.inl ⟨by rfl, ?_⟩) (by assumption) ?_
                    rotate_left
                    · (intro W hSw; (try dsimp only at hSw); have f1 := HCA.out W hSw; go_simp; try with_reducible rfl)
                    try simp only [heldPut, List.set]
                    refine heldTake (i := 10) (v := ?_) rfl (by kernel_rfl) (by kernel_rfl) (by kernel_rfl) (fun _ _ _ h => h) (Or.inl ⟨by rfl, ?_⟩) (by assumption) ?_
                    rotate_left
                    · (intro W hSw; (try dsimp only at hSw);  go_simp; try with_reducible rfl)
                    try simp only [heldPut, List.set]
                    refine heldTake (i := 11) (v := ?_) rfl (by kernel_rfl) (by kernel_rfl) (by kernel_rfl) (fun _ _ _ h => h) (Or.inl ⟨by rfl, ?_⟩) (by assumption) ?_
                    rotate_left
                    · (intro W hSw; (try dsimp only at hSw);  go_simp; try with_reducible rfl)
                    try simp only [heldPut, List.set]
                    refine heldTake (i := 12) (v := ?_) rfl (by kernel_rfl) (by kernel_rfl) (by kernel_rfl) (fun _ _ _ h => h) (Or.inl ⟨by rfl, ?_⟩) (by assumption) ?_
                    rotate_left
                    · (intro W hSw; (try dsimp only at hSw);  go_simp; try with_reducible rfl)
                    try simp only [heldPut, List.set]
                    refine heldTake (i := 13) (v := ?_) rfl (by kernel_rfl) (by kernel_rfl) (by kernel_rfl) (fun _ _ _ h => h) (Or.inl ⟨by rfl, ?_⟩) (by assumption) ?_
                    rotate_left
                    · (intro W hSw; (try dsimp only at hSw);  go_simp; try with_reducible rfl)
                    try simp only [heldPut, List.set]
                    refine heldTake (i := 14) (v := ?_) rfl (by kernel_rfl) (by kernel_rfl) (by kernel_rfl) (fun _ _ _ h => h) (Or.inl ⟨by rfl, ?_⟩) (by assumption) ?_
                    rotate_left
                    · (intro W hSw; (try dsimp only at hSw);  go_simp; try with_reducible rfl)
                    try simp only [heldPut, List.set]
                    refine heldTake (i := 15) (v := ?_) rfl (by kernel_rfl) (by kernel_rfl) (by kernel_rfl) (fun _ _ _ h => h) (Or.inl ⟨by rfl, ?_⟩) (by assumption) ?_
                    rotate_left
                    · (intro W hSw; (try dsimp only at hSw);  go_simp; try with_reducible rfl)
                    try simp only [heldPut, List.set]
                    refine heldTake (i := 16) (v := .agg (itC e.x f.A f.c).toArray) rfl (by kernel_rfl) (by kernel_rfl) (by kernel_rfl) (fun _ _ _ h => h) (Or.inl ⟨by rfl, ?_⟩) (by assumption) ?_
                    · (intro W hSw; exact exec_load_mid 60 _ rfl b1 (o1 + x * 14 + 1) rfl _ _ (HRX.out W hSw) Try.underlying60 rfl Try.infoIt)
                    try simp only [heldPut, List.set]
                    refine heldTake (i := 17) (v := ?_) rfl (by kernel_rfl) (by kernel_rfl) (by kernel_rfl) (fun _ _ _ h => h) (Or.inl ⟨by rfl, ?_⟩) (by assumption) ?_
                    rotate_left
                    · (intro W hSw; (try dsimp only at hSw);  go_simp; try with_reducible rfl)
                    try simp only [heldPut, List.set]
                    refine heldTake (i := 18) (v := ?_) rfl (by kernel_rfl) (by kernel_rfl) (by kernel_rfl) (fun _ _ _ h => h) (Or.inl ⟨by rfl, ?_⟩) (by assumption) ?_
                    rotate_left
                    · (intro W hSw; (try dsimp only at hSw);  go_simp; try with_reducible rfl)
                    try simp only [heldPut, List.set]
                    refine heldTake (i := 19) (v := ?_) rfl (by kernel_rfl) (by kernel_rfl) (by kernel_rfl) (fun _ _ _ h => h) (Or.inl ⟨by rfl, ?_⟩) (by assumption) ?_
                    rotate_left
                    · (intro W hSw; (try dsimp only at hSw);  go_simp; try with_reducible rfl)
                    try simp only [heldPut, List.set]
                    refine heldTake (i := 20) (v := ?_) rfl (by kernel_rfl) (by kernel_rfl) (by kernel_rfl) (fun _ _ _ h => h) (Or.inl ⟨by rfl, ?_⟩) (by assumption) ?_
                    rotate_left
                    · (intro W hSw; (try dsimp only at hSw);  go_simp; try with_reducible rfl)
                    try simp only [heldPut, List.set]
                    refine heldTake (i := 21) (v := .agg (itC e.x e.A e.c).toArray) rfl (by kernel_rfl) (by kernel_rfl) (by kernel_rfl) (fun _ _ _ h => h) (Or.inl ⟨by rfl, ?_⟩) (by assumption) ?_
                    · (intro W hSw; exact exec_load_mid 60 _ rfl b (o + x * 14 + 1) rfl _ _ (HRA.out W hSw) Try.underlying60 rfl Try.infoIt)
                    try simp only [heldPut, List.set]
                    refine heldOne (i := 22) rfl (by kernel_rfl) (fun K hK => ?_)
                    go_simp
                    refine (HCALL.out _ hHeld).mono ?_
                    rintro e' V3 ⟨rfl, hb3⟩
                    go_wp2_with fail
                    refine hK.out _ _ ?_ (fun hHeld => ?_)
                    · exact hHeld.trans (hb3.mono hHeld.size)
                    clear hK K hb3
                    try simp only [heldPut, List.set]
                    refine heldTake (i := 23) (v := ?_) rfl (by kernel_rfl) (by kernel_rfl) (by kernel_rfl) (fun _ _ _ h => h) (Or.inl ⟨by rfl, ?_⟩) (by assumption) ?_
                    rotate_left
                    · (intro W hSw; (try dsimp only at hSw);  go_simp; try with_reducible rfl)
                    try simp only [heldPut, List.set]
                    refine heldTake (i := 24) (v := ?_) rfl (by kernel_rfl) (by kernel_rfl) (by kernel_rfl) (fun _ _ _ h => h) (Or.inl ⟨by rfl, ?_⟩) (by assumption) ?_
                    rotate_left
                    · (intro W hSw; (try dsimp only at hSw);  go_simp; try with_reducible rfl)
                    try simp only [heldPut, List.set]
                    refine wpAnyH_done (by kernel_rfl) ?_ _
                    refine NoPanic.normal ?_
                    go_wp2_with fail
                    exact ⟨⟨x + 1, by omega, by go_num, HBX.out.trans (hHeld.mono HBX.out.size)⟩, by simp [intOf]; omega⟩
                  · obtain rfl : nw = x := by omega
                    have q1 : decide ((nw : Int) < (nw : Int)) = false := decide_eq_false (by omega)
                    have HF11 := Lib.hid (HF10.out.below HBX.out)
                    clear HR7 HRW HF10 HSAME HBX
                    go_wp2_with fail
                    exact ⟨⟨k + 1, by omega, by go_num, HF11.out⟩, by simp [intOf]; omega⟩
        · obtain rfl : k = 2 := by omega
          have q1 : decide (((2 : Nat) : Int) < 2) = false := by decide
          go_wp2
          go_ret
          exact ⟨rfl, HF.out.sp.bl⟩
end spoolFinds
end Go.Proofs.Ytgcfofnlgdfmoaa
