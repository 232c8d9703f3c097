/- Several texts in one: SpoolCovers. -/
import Derived.Deep.CutRange
import Derived.Test.YtgcfofnlgdfmoaaMd44
import Derived.Test.YtgcfofnlgdfmoaaMd45
/- Layer 8: SpoolCovers: of each origin's counts, from the first that isn't acknowledged to the last that was put, each is covered once by what waits. -/
namespace Go.Proofs.Ytgcfofnlgdfmoaa
open Go.RowKit Go.Maps

namespace spoolCovers
set_option maxRecDepth 100000 in
set_option maxHeartbeats 8000000 in
theorem walk (q0 : Nat) (hq0 : q0 < 65536) (A : Option Addr) (n c : Nat) (l : List Sm) (hn : n = l.length) (hm : n ≤ maxLen) (hok : ∀ s ∈ l, OkS s) (B : Option Addr) (nb cb : Nat) (bl : List Nat) (hnb : nb = bl.length) (hokb : OkB bl) (w : World) (hrd : RdM w w.heap.size A l) (hrb : RdB w w.heap.size B bl) :
    Calls Try.prog 4 #[.int .u16 q0, .slice A n c, .slice B nb cb] w fun e w' => e = .returned (.bool true) ∧ Below w.heap.size w w' := by
  unfold maxLen at hm
  have hwq : (q0 : Int).tmod 300 = ((q0 % 300 : Nat) : Int) := by rw [Int.tmod_eq_emod_of_nonneg (by omega)]; rfl
  obtain ⟨r, hr⟩ : ∃ r, r = q0 % 300 := ⟨_, rfl⟩
  rw [← hr] at hwq
  have hr300 : r < 300 := by omega
  have HN := Lib.hid hn
  have HOK := Lib.hid hok
  have HRd := Lib.hid hrd
  have HNB := Lib.hid hnb
  have HOKB := Lib.hid hokb
  have HRB := Lib.hid hrb
  have hmf : ∀ (fn : Fn) (first cap : Array Value) (w : World), (Instr.makeFunc fn first cap).run Try.prog w = .ok (.func fn first cap) w := fun _ _ _ _ => rfl
  have hmm := @run_makeMap Try.prog
  clear hn hok hrd hr hnb hokb hrb
  go_enter Try.func4, Try.ntmps4
  go_wp2_with fail
  refine (awake8_any w).mono ?_
  rintro _ w1 ⟨rfl, hb1⟩
  have HB1 := Lib.hid hb1
  clear hb1
  go_wp2_with fail
  refine (new64 r (by omega) w w1 HB1.out).mono ?_
  rintro _ w2 ⟨rfl, hs2⟩
  obtain ⟨s, hs⟩ : ∃ s, s = w1.heap.size := ⟨_, rfl⟩
  rw [← hs] at hs2 ⊢
  have HS2 := Lib.hid hs2
  clear hs hs2 hwq HB1
  go_wp2_with fail
  obtain ⟨b1, hb1⟩ : ∃ b, b = w2.heap.size := ⟨_, rfl⟩
  obtain ⟨w3, hw3⟩ : ∃ V, V = w2.alloc (.map #[] 0) := ⟨_, rfl⟩
  rw [← hb1, ← hw3]
  have hbl : Below w2.heap.size w2 w3 := by rw [hw3]; exact (Below.refl _ _).alloc (Nat.le_refl _) _
  have hc3 : CAt w w3 (fun k => k = s) s (64 + r) b1 0 ⟨64 + r, 1, 0, 0, fun _ => 0⟩ [] (fun _ => 0) 0 :=
    ⟨HS2.out.below hbl, by rw [hw3, hb1]; exact MF.made w2, fun e => by have h1 := HS2.out.at_.lt s rfl; omega, by rw [hb1]; exact HS2.out.bl.size, ⟨fun _ => rfl, fun _ h => by cases h⟩, Nat.le_refl _⟩
  have HC3 := Lib.hid hc3
  clear hb1 hw3 hbl hc3 HS2
  go_loopw [46] (fun iv wx => ∃ (k : Nat) (S : Nat → Prop) (X : Sp) (L : List Ett) (F : Nat → Nat) (n1 : Nat), k ≤ n ∧ k ≤ 81 ∧ iv = .int .i64 k ∧ Hid (CAt w wx S s (64 + r) b1 k X L F n1)) (fun iv _ => n - (intOf iv).toNat)
  case atStart => exact ⟨0, _, _, _, _, _, Nat.zero_le _, by omega, rfl, HC3.out⟩
  case round =>
    obtain ⟨k, S, X, L, F, n1, hk, hk81, rfl, HC⟩ := hrel
    clear HC3
    by_cases hlt : k < n
    · have q1 : decide ((k : Int) < (n : Int)) = true := decide_eq_true (by omega)
      have q2 : decide (k < n) = true := decide_eq_true hlt
      obtain ⟨b, off, m, rfl, hbb, hm, hrg⟩ := HRd.out.at_ (k := k) (by rw [← HN.out]; exact hlt)
      have hrg2 := range_keep hrg (HC.out.sp.bl.block _ hbb)
      have HM := Lib.hid (HOK.out m (List.mem_of_getElem? hm))
      clear hm hbb hrg
      go_upto_region 8 with (first
        | (refine wpList_load_mid rfl _ _ rfl b (off + k * 11) rfl (smC m) _ hrg2 Try.underlying51 rfl Try.infoSm ?_)
        | (refine wpList_store_row rfl _ _ _ rfl wr.heap.size _ rfl rfl _ _ (heap_alloc_new _ _) Try.infoSm rfl (by simp [Value.oneCell', smC]) ?_)
        | fail)
      obtain ⟨w4, hw4⟩ : ∃ V, V = (wr.alloc (.cells #[.bool false, .int .u8 0, .int .u8 0, .int .u8 0, .int .u16 0, .int .u16 0, .int .u16 0, .int .u8 0, .int .u8 0, .int .u8 0, .bool false] 51)).setRow wr.heap.size (smC m).toArray := ⟨_, rfl⟩
      rw [← hw4]
      have hX : w4.heap[wr.heap.size]? = some (.cells (smC m).toArray 51 (0, 0)) := by rw [hw4]; exact setRow_heap _ _ _ _ _ _ (heap_alloc_new _ _)
      have hb4 : Below wr.heap.size wr w4 := by rw [hw4]; exact below_setRow ((Below.refl _ _).alloc (Nat.le_refl _) _) (Nat.le_refl _) _
      obtain ⟨g0, hg0⟩ : ∃ g, g = wr.heap.size := ⟨_, rfl⟩
      rw [← hg0] at hX ⊢
      have HX := Lib.hid hX
      have hsp4 := HC.out.sp.below hb4
      have hmf4 := HC.out.mf.below hb4
      have HSP4 := Lib.hid hsp4
      have HMF4 := Lib.hid hmf4
      have HCOV := Lib.hid HC.out.cov
      have HNS := Lib.hid HC.out.nS
      have HB0 := Lib.hid HC.out.b0
      have HLE := Lib.hid HC.out.le
      clear hw4 hX hb4 hrg2 hg0 hsp4 hmf4 HC q1 q2
      by_cases h80 : 80 < k
      · have d1 : decide ((80 : Int) < (k : Int)) = true := decide_eq_true (by omega)
        have d2 : decide (80 < k) = true := decide_eq_true h80
        have HBL := Lib.hid HSP4.out.bl
        clear HSP4 HMF4 HCOV HNS HB0 HLE HM HX
        go_wp2_with fail
        go_ret
        exact ⟨rfl, HBL.out⟩
      · have d1 : decide ((80 : Int) < (k : Int)) = false := decide_eq_false (by omega)
        have d2 : decide (80 < k) = false := decide_eq_false h80
        go_wp2_with (first | (refine wpList_load_row rfl _ _ rfl g0 rfl _ _ _ _ HX.out Try.underlying51 rfl Try.infoSm ?_) | fail)
        refine (next_new m HM.out w4 HSP4.out.at_ (HSP4.out.ok.hs _)).mono ?_
        rintro _ w5 ⟨A4, c4, rfl, hnil, hrd4, hb5, hnew⟩
        obtain ⟨y, hy⟩ : ∃ y, y = nextI m (X.h (m.o % 4)) := ⟨_, rfl⟩
        rw [← hy]
        have HY := Lib.hid hy
        have HNIL := Lib.hid hnil
        have hyl : y.l = (smallI (nextS m)).l := by rw [hy]; exact nextI_l _ _
        rw [← hyl] at hrd4
        have HRD4 := Lib.hid hrd4
        have HNEW := Lib.hid hnew
        have HYL := Lib.hid hyl
        have HSP5 := Lib.hid (HSP4.out.below hb5)
        have HMF5 := Lib.hid (HMF4.out.below hb5)
        have HLT4 := Lib.hid HSP4.out.at_.lt
        have HZ45 := Lib.hid hb5.size
        clear hy hnil hrd4 hb5 hnew hyl HSP4 HMF4 HX d1 d2
        go_upto_region 10 with (first
          | (refine wpList_store_row rfl _ _ _ rfl w5.heap.size (itC y A4 c4).toArray rfl rfl _ _ (heap_alloc_new _ _) Try.infoIt rfl (by simp [Value.oneCell', itC]) ?_)
          | fail)
        obtain ⟨w6, hw6, hbx6, hb6, hl6⟩ := boxI w5 _ (itC y A4 c4).toArray
        rw [← hw6]
        obtain ⟨g, hg⟩ : ∃ g, g = w5.heap.size := ⟨_, rfl⟩
        rw [← hg] at hbx6 ⊢
        have hit : ItBox8 w6 S g y A4 c4 := ⟨hbx6, fun hk => by have h1 := HLT4.out _ hk; have h2 := HZ45.out; omega, rdP_keep8 HRD4.out hb6, fun a ha _ hk => by have h1 := HLT4.out _ hk; have h2 := HNEW.out a ha; omega⟩
        have HIT := Lib.hid hit
        have HSP6 := Lib.hid (HSP5.out.below hb6)
        have HMF6 := Lib.hid (HMF5.out.below hb6)
        clear hw6 hbx6 hb6 hl6 hg hit HRD4 HSP5 HMF5 HNEW HLT4 HZ45
        go_wp2_with fail
        refine (listAll_new HSP6.out (by omega)).mono ?_
        rintro _ w7 ⟨A6, c6, M6, rfl, hsm6, hrn6, hb7⟩
        obtain ⟨n6, hn6⟩ : ∃ x, x = M6.length := ⟨_, rfl⟩
        rw [← hn6]
        have HN6 := Lib.hid hn6
        have HSM6 := Lib.hid hsm6
        have HM6 := Lib.hid (hrn6.apart (S := S) HSP6.out.at_.lt)
        have HB7 := Lib.hid (Below.refl w7.heap.size w7)
        have HIT7 := Lib.hid (HIT.out.below hb7)
        have HSP7 := Lib.hid (HSP6.out.below hb7)
        have HMF7 := Lib.hid (HMF6.out.below hb7)
        have hbx7 := HIT7.out.box
        have hput := putNext_any m HM.out A4 c4 w7 HSP7.out.at_ HSP7.out.ok (by omega) HNIL.out (by have h1 := HIT7.out.rd; rw [HYL.out] at h1; exact h1)
        rw [← HY.out] at hput
        have HPUT := Lib.hid hput
        clear hn6 hsm6 hrn6 hb7 hput HIT HSP6 HMF6 HNIL
        go_wp2_with (first
          | (refine wpList_load_row rfl _ _ rfl g rfl _ _ _ _ hbx7 Try.underlying60 rfl Try.infoIt ?_)
          | fail)
        refine HPUT.out.mono ?_
        rintro _ w8 ⟨A5, c5, S5, rfl, h5, hk5, hst5⟩
        obtain ⟨R, hR⟩ : ∃ R, R = putR X L y A5 c5 := ⟨_, rfl⟩
        rw [← hR] at h5 hk5 ⊢
        obtain ⟨code, ridx, rfrom, X5, L5⟩ := R
        have hfail : code ≠ 0 → rfrom = 0 ∧ X5 = X ∧ L5 = L := fun h => by
          have h1 := putR_fail (X := X) (L := L) (x := y) (A := A5) (c := c5) (by rw [← hR]; exact h)
          rw [← hR] at h1
          exact h1
        have hcov : Cov F X5.h L5 := by
          have h1 := HCOV.out.put y A5 c5
          rw [← hR] at h1
          exact h1
        have hkp : code = 0 → KeptP (itsE L) (itsE L5) y := fun h => by
          have h1 := kept_put HCOV.out y A5 c5 (by rw [← hR]; exact h)
          rw [← hR] at h1
          exact h1
        have hq5 : X5.q = X.q := by
          have h1 := putR_q X L y A5 c5
          rw [← hR] at h1
          exact h1
        have hll : L.length ≤ 100000 := by have := HSP7.out.ok.len; omega
        have HLL := Lib.hid hll
        have HFAIL := Lib.hid hfail
        have HCOV5 := Lib.hid hcov
        have HKP := Lib.hid hkp
        have HSP8 := Lib.hid (HSP7.out.step h5 hk5 hst5 hq5)
        have HMF8 := Lib.hid (HMF7.out.step hst5 HNS.out)
        have hns5 : ¬ S5 b1 := fun hk => (hst5.new _ hk).elim HNS.out (fun h' => by have := HMF7.out.lt; omega)
        have HNS5 := Lib.hid hns5
        have HM6b := Lib.hid (HM6.out.below HB7.out)
        have HM8 := Lib.hid (HM6b.out.step hst5)
        have HIT8 := Lib.hid (HIT7.out.step hst5)
        clear hll hR hfail hcov hkp hq5 h5 hk5 hst5 hns5 HSP7 HMF7 HIT7 hbx7 HPUT HM6 HM6b HCOV HNS HB7
        go_wp2_with fail
        refine (listAll_new HSP8.out (by omega)).mono ?_
        rintro _ w9 ⟨A8, c8, M8, rfl, hsm8, hrn8, hb9⟩
        obtain ⟨n8, hn8⟩ : ∃ x, x = M8.length := ⟨_, rfl⟩
        rw [← hn8]
        have HN8 := Lib.hid hn8
        have HSM8 := Lib.hid hsm8
        have hck : CK w w9 S5 s (64 + r) b1 (k + 1) X5 L5 F n1 A6 M6 A8 M8 g y A4 c4 :=
          ⟨HSP8.out.below hb9, HMF8.out.below hb9, HNS5.out, HB0.out, HM8.out.below hb9, hrn8.apart (S := S5) HSP8.out.at_.lt, HIT8.out.below hb9⟩
        have HCK := Lib.hid hck
        clear hn8 hsm8 hrn8 hb9 hck HSP8 HMF8 HM8 HIT8
        by_cases hc0 : code = 0
        · subst hc0
          have HKP2 := Lib.hid (HKP.out rfl)
          have hkp3 : KeptP (itsE M6) (itsE M8) y := by
            have h1 := HKP2.out
            unfold itsE at h1 ⊢
            rwa [same_its HSM6.out, same_its HSM8.out] at h1
          have hyl3 : y.l.length ≤ 1000 := by
            rw [HYL.out]
            have := smallI_labs (nextS m)
            omega
          have hn68 : n6 ≤ 100000 ∧ n8 ≤ 100000 := ⟨by rw [HN6.out, ← HSM6.out.len]; exact HLL.out, by rw [HN8.out, ← HSM8.out.len]; have := HCK.out.sp.ok.len; omega⟩
          have HKP3 := Lib.hid hkp3
          have HYL3 := Lib.hid hyl3
          have HN68 := Lib.hid hn68
          clear hkp3 hyl3 hn68 HKP2
          clear HKP HFAIL
          go_upto_region 16 with fail
          obtain ⟨bk, hbk⟩ : ∃ bk : Bool, bk = (decide (k < nb) && decide (bl.getD k 0 % 4 = 0)) := ⟨_, rfl⟩
          have HBK := Lib.hid hbk
          clear hbk
          go_cut [90] from 79 to 90 (fun p wx => p = .bool bk ∧ wx = w9)
          case first =>
            by_cases hia : k < nb
            · obtain ⟨bb, bo, v, rfl, hbb, hv, hcell⟩ := HRB.out.at_ (k := k) (by rw [← HNB.out]; exact hia)
              have hv256 := HOKB.out v (List.mem_of_getElem? hv)
              have hgd : bl.getD k 0 = v := by rw [List.getD_eq_getElem?_getD, hv]; rfl
              have hcv : w9.cell? ⟨bb, bo + k, none⟩ = some (.int .u8 v) := (HCK.out.sp.bl.cell (p := ⟨bb, bo + k, none⟩) hbb).trans hcell
              have hv4 : (v : Int).tmod 4 = ((v % 4 : Nat) : Int) := by rw [Int.tmod_eq_emod_of_nonneg (by omega)]; rfl
              have hbk := HBK.out
              rw [decide_eq_true hia, Bool.true_and, hgd] at hbk
              clear hv hbb hcell hgd HBK
              by_cases hz : v % 4 = 0
              · have hv40 : (v : Int).tmod 4 = 0 := by rw [hv4, hz]; rfl
                rw [decide_eq_true hz] at hbk
                have HBK := Lib.hid hbk
                clear hv4 hbk
                go_wp2_with fail
                go_meet
                exact ⟨by rw [HBK.out], rfl⟩
              · rw [decide_eq_false hz] at hbk
                obtain ⟨v4, hv4e⟩ : ∃ d, d = v % 4 := ⟨_, rfl⟩
                rw [← hv4e] at hv4 hz
                have hz2 : ¬ ((v4 : Int) = 0) := by omega
                have HBK := Lib.hid hbk
                have hz3 : ((v4 : Int) == 0) = false := by
                  rw [beq_eq_false_iff_ne]
                  exact hz2
                have HZ3 := Lib.hid hz3
                clear hv4e hbk hz3
                go_wp2_with fail
                go_meet
                exact ⟨by rw [HBK.out, HZ3.out], rfl⟩
            · have e1 : decide ((k : Int) < (nb : Int)) = false := decide_eq_false (by omega)
              have e2 : decide (k < nb) = false := decide_eq_false hia
              have hbk := HBK.out
              rw [e2, Bool.false_and] at hbk
              have HBK := Lib.hid hbk
              clear hbk
              go_wp2_with fail
              go_meet
              exact ⟨by rw [HBK.out], rfl⟩
          case rest =>
            obtain ⟨rfl, rfl⟩ := hcut
            have hstay : Hid (∃ (X2 : Sp) (L2 : List Ett) (F2 : Nat → Nat) (n2 : Nat), Hid (CK w wc S5 s (64 + r) b1 (k + 1) X2 L2 F2 n2 A6 M6 A8 M8 g y A4 c4) ∧ Hid (Cov F2 X2.h L2) ∧ Hid (n2 ≤ 10 * (k + 1))) := ⟨X5, L5, F, n1, HCK.out, HCOV5.out, (by have := HLE.out; show _ ≤ _; omega)⟩
            go_upto_if 90 with fail
            go_cut [18, 20, 21, 22, 23] from 91 to 129 (fun _ _ _ _ _ wx => ∃ (X2 : Sp) (L2 : List Ett) (F2 : Nat → Nat) (n2 : Nat), Hid (CK w wx S5 s (64 + r) b1 (k + 1) X2 L2 F2 n2 A6 M6 A8 M8 g y A4 c4) ∧ Hid (Cov F2 X2.h L2) ∧ Hid (n2 ≤ 10 * (k + 1)))
            case first =>
              cases bk with
              | false =>
                clear HCK HCOV5 HBK
                go_wp2_with fail
                go_meet
                exact hstay.out
              | true =>
                have hb2 := HBK.out
                have hia : k < nb := by
                  by_cases h : k < nb
                  · exact h
                  · rw [decide_eq_false h, Bool.false_and] at hb2; cases hb2
                obtain ⟨bb, bo, v, rfl, hbb, hv, hcell⟩ := HRB.out.at_ (k := k) (by rw [← HNB.out]; exact hia)
                have hv256 := HOKB.out v (List.mem_of_getElem? hv)
                have hcv : wc.cell? ⟨bb, bo + k, none⟩ = some (.int .u8 v) := (HCK.out.sp.bl.cell (p := ⟨bb, bo + k, none⟩) hbb).trans hcell
                have hvd : (v : Int).tdiv 4 = ((v / 4 : Nat) : Int) := by rw [Int.tdiv_eq_ediv_of_nonneg (by omega)]; rfl
                obtain ⟨d, hd⟩ : ∃ d, d = v / 4 := ⟨_, rfl⟩
                have hd64 : d < 64 := by omega
                rw [← hd] at hvd
                have hd3 : (d : Int).tmod 3 = ((d % 3 : Nat) : Int) := by rw [Int.tmod_eq_emod_of_nonneg (by omega)]; rfl
                obtain ⟨t3, ht3⟩ : ∃ d3, d3 = d % 3 := ⟨_, rfl⟩
                have ht33 : t3 < 3 := by omega
                rw [← ht3] at hd3
                have hw1 : IntKind.i64.wrap (t3 : Int) = (t3 : Int) := by rw [IntKind.wrap_i64]; omega
                have hw2 : IntKind.i64.wrap (1 + (t3 : Int)) = 1 + (t3 : Int) := by rw [IntKind.wrap_i64]; omega
                have hwd : IntKind.u8.wrap (d : Int) = (d : Int) := by rw [IntKind.wrap_u8]; omega
                clear hd ht3 hv hbb hcell HBK hb2
                go_wp2_with fail
                refine (listSome_new t3 (by omega) HCK.out.sp).mono ?_
                rintro _ w10 ⟨A9, c9, M9, rfl, hsm9, hle9, hrn9, hb10⟩
                obtain ⟨n9, hn9⟩ : ∃ x, x = M9.length := ⟨_, rfl⟩
                rw [← hn9] at hsm9 hle9 ⊢
                have HN9 := Lib.hid hn9
                have HSM9 := Lib.hid hsm9
                have hck10 := HCK.out.below hb10
                have HCK10 := Lib.hid hck10
                have HM9 := Lib.hid (hrn9.apart (S := S5) HCK.out.sp.at_.lt)
                clear hn9 hsm9 hrn9 hb10 hck10 HCK hw1 hw2 hwd hvd hd3 hcv
                by_cases h9 : 0 < n9
                · have e1 : decide ((0 : Int) < (n9 : Int)) = true := decide_eq_true (by omega)
                  have hc3 : n9 ≤ 3 := by omega
                  clear hstay
                  go_wp2_with fail
                  have hck0 : CK w w10 S5 s (64 + r) b1 (k + 1) X5 L5 (adv (M9.take 0) F) (n1 + 0) A6 M6 A8 M8 g y A4 c4 := HCK10.out
                  have HCK0 := Lib.hid hck0
                  clear hck0 HCK10
                  go_loopw [106] (fun iv wx => ∃ (j : Nat), j ≤ n9 ∧ iv = .int .i64 j ∧ Hid (CK w wx S5 s (64 + r) b1 (k + 1) X5 L5 (adv (M9.take j) F) (n1 + j) A6 M6 A8 M8 g y A4 c4) ∧ Hid (RdA wx S5 A9 M9)) (fun iv _ => n9 - (intOf iv).toNat)
                  case atStart => exact ⟨0, Nat.zero_le _, rfl, HCK0.out, HM9.out⟩
                  case round =>
                    obtain ⟨j, hj, rfl, HK, HR⟩ := hrel
                    clear HCK0 HM9
                    by_cases hjn : j < n9
                    · have q1 : decide ((j : Int) < (n9 : Int)) = true := decide_eq_true (by omega)
                      have q2 : decide (j < n9) = true := decide_eq_true hjn
                      obtain ⟨e, he⟩ : ∃ e, M9[j]? = some e := ⟨_, List.getElem?_eq_getElem (by rw [← HN9.out]; exact hjn)⟩
                      obtain ⟨b9, o9, rfl, hbb9, hr9, -, -⟩ := HR.out.rd.at_ he
                      have HE9 := Lib.hid he
                      clear he hbb9
                      go_upto_region 22 with (first
                        | (refine wpList_load_mid rfl _ _ rfl b9 (o9 + j * 14) rfl (entC e) _ hr9 Try.underlying68 rfl Try.infoEn ?_)
                        | (refine wpList_store_row rfl _ _ _ rfl wr.heap.size _ rfl rfl _ _ (heap_alloc_new _ _) Try.infoEn rfl (by simp [Value.oneCell', entC, itC]) ?_)
                        | fail)
                      obtain ⟨V, hV, -, hbV, hrV, -⟩ := boxE wr _ e
                      rw [← hV]
                      obtain ⟨gz, hgz⟩ : ∃ g, g = wr.heap.size := ⟨_, rfl⟩
                      rw [← hgz] at hrV ⊢
                      have HKV := Lib.hid (HK.out.below hbV)
                      have HRV := Lib.hid (HR.out.below hbV)
                      have HSPN := Lib.hid (span_C8 e.x e.A e.c V)
                      clear hV hbV hgz hr9 HK HR q1 q2
                      go_wp2_with (first
                        | (refine wpList_load_mid rfl _ _ rfl gz 1 rfl (itC e.x e.A e.c) _ hrV Try.underlying60 rfl Try.infoIt ?_)
                        | fail)
                      refine HSPN.out.mono ?_
                      rintro _ w11 ⟨rfl, hb11⟩
                      have HK11 := Lib.hid (HKV.out.below hb11)
                      have HR11 := Lib.hid (HRV.out.below hb11)
                      have HOKE := Lib.hid (HR11.out.rd.ok e (List.mem_of_getElem? HE9.out)).ok
                      clear hb11 hrV HKV HRV HSPN
                      obtain ⟨so, hso⟩ : ∃ o, o = spO e.x := ⟨_, rfl⟩
                      obtain ⟨sf, hsf⟩ : ∃ o, o = spF e.x := ⟨_, rfl⟩
                      obtain ⟨st, hst⟩ : ∃ o, o = spT e.x := ⟨_, rfl⟩
                      rw [← hso, ← hsf, ← hst]
                      have hso2 : so < 256 := by rw [hso]; exact spO_lt HOKE.out
                      have hst2 : st < 18446744073709551616 := by rw [hst]; exact spT_lt HOKE.out
                      have HSO := Lib.hid hso
                      have HST := Lib.hid hst
                      clear hso hsf hst
                      go_wp2_with (first
                        | (at_mapUpdate; refine wpList_put8 rfl _ _ _ rfl rfl HK11.out.mf (by have := HLE.out; omega) so st hso2 hst2 rfl rfl ?_; intro w12 hm12 hg12)
                        | fail)
                      obtain ⟨es, ck, hmb⟩ := HK11.out.mf.block
                      have hadv := adv_take (F := F) HE9.out
                      have hk12 := HK11.out.first hg12 hm12
                      have hr12 := HR11.out.mapped hg12 hmb
                      have heq : (fun i => if i = so then st else adv (M9.take j) F i) = adv (M9.take (j + 1)) F := by
                        rw [hadv, HSO.out, HST.out]
                        rfl
                      rw [heq] at hk12
                      exact ⟨⟨j + 1, by omega, by go_num, hk12, hr12⟩, by simp [intOf]; omega⟩
                    · obtain rfl : n9 = j := by omega
                      have q1 : decide ((n9 : Int) < (n9 : Int)) = false := decide_eq_false (by omega)
                      obtain ⟨p, hp⟩ : ∃ p, n9 = p + 1 := ⟨n9 - 1, by omega⟩
                      have hp1 : (n9 : Int) - 1 = (p : Int) := by omega
                      have hpn : p < n9 := by omega
                      have hwp : IntKind.i64.wrap ((n9 : Int) - 1) = (p : Int) := by rw [IntKind.wrap_i64]; omega
                      obtain ⟨e, he⟩ : ∃ e, M9[p]? = some e := ⟨_, List.getElem?_eq_getElem (by rw [← HN9.out]; exact hpn)⟩
                      obtain ⟨b9, o9, rfl, hbb9, hr9, -, -⟩ := HR.out.rd.at_ he
                      have hc9 : wr.cell? ⟨b9, o9 + p * 14, none⟩ = some (.int .u64 e.i) := by
                        have := hr9 0 (.int .u64 e.i) rfl
                        exact this
                      have hsm : SameE M9 (L5.take n9) := HSM9.out.symm
                      obtain ⟨e5, he5, ei, -⟩ := hsm.at_ he
                      have he5' : L5[n9 - 1]? = some e5 := by
                        rw [List.getElem?_take, if_pos hpn] at he5
                        rw [show n9 - 1 = p by omega]
                        exact he5
                      have hrise := HK.out.sp.ok.riseE
                      have hcut := cut_of_last hrise h9 he5'
                      have hix := HK.out.sp.ok.ix e5.i (List.mem_map_of_mem (List.mem_of_getElem? he5'))
                      have hack := ack_any wr HK.out.sp.at_ hrise hix.2 hix.1 hcut h9
                      rw [ei] at hack hcut hix
                      have hok2 := HK.out.sp.ok.acked hix.2 hcut
                      have hadv : adv (M9.take n9) F = adv (L5.take n9) F := by
                        rw [HN9.out, List.take_length, ← HN9.out]
                        exact adv_same hsm
                      have hcv := HCOV5.out.drop n9
                      rw [← cutE_zero, ← hadv] at hcv
                      have HACK := Lib.hid hack
                      have HOK2 := Lib.hid hok2
                      have HCV := Lib.hid hcv
                      have HADV := Lib.hid hadv
                      have hl10 : n1 + n9 ≤ 10 * (k + 1) := by have := HLE.out; omega
                      have HL10 := Lib.hid hl10
                      clear he hbb9 hr9 hsm he5 ei he5' hrise hcut hix hack hok2 hcv hadv hl10 HCOV5 HSM9 hp
                      go_wp2_with fail
                      refine HACK.out.mono ?_
                      rintro _ w11 ⟨rfl, hs11, hst11⟩
                      have hfin := HK.out.step hs11 HOK2.out hst11 rfl
                      have hex : ∃ (X2 : Sp) (L2 : List Ett) (F2 : Nat → Nat) (n2 : Nat), Hid (CK w w11 S5 s (64 + r) b1 (k + 1) X2 L2 F2 n2 A6 M6 A8 M8 g y A4 c4) ∧ Hid (Cov F2 X2.h L2) ∧ Hid (n2 ≤ 10 * (k + 1)) := ⟨_, _, _, _, hfin, HCV.out, HL10.out⟩
                      have HEX := Lib.hid hex
                      clear hs11 hst11 hfin hex HK HR HACK HOK2 HCV hc9
                      go_wp2_with fail
                      go_meet
                      exact HEX.out
                · obtain rfl : n9 = 0 := by omega
                  have hck : ∃ (X2 : Sp) (L2 : List Ett) (F2 : Nat → Nat) (n2 : Nat), Hid (CK w w10 S5 s (64 + r) b1 (k + 1) X2 L2 F2 n2 A6 M6 A8 M8 g y A4 c4) ∧ Hid (Cov F2 X2.h L2) ∧ Hid (n2 ≤ 10 * (k + 1)) := ⟨X5, L5, F, n1, HCK10.out, HCOV5.out, (by have := HLE.out; show _ ≤ _; omega)⟩
                  have HE := Lib.hid hck
                  clear hck hstay HCK10 HM9 HSM9 HCOV5
                  go_wp2_with fail
                  go_meet
                  exact HE.out
            case rest =>
              obtain ⟨X2, L2, F2, n2, HK, HCV, HL⟩ := hcut
              clear HCK HCOV5 hstay HBK HLE HB0 HNS5
              go_upto_region 27 with fail
              obtain ⟨b2, hb2⟩ : ∃ b, b = wc.heap.size := ⟨_, rfl⟩
              obtain ⟨w13, hw13⟩ : ∃ V, V = wc.alloc (.map #[] 0) := ⟨_, rfl⟩
              rw [← hb2, ← hw13]
              have hbl : Below wc.heap.size wc w13 := by rw [hw13]; exact (Below.refl _ _).alloc (Nat.le_refl _) _
              have hz13 : w13.heap.size = b2 + 1 := by rw [hw13, hb2]; simp
              have HK13 := Lib.hid (HK.out.below hbl)
              obtain ⟨D0, hD0, hD0r⟩ : ∃ D, OwnU w13 b2 0 D ∧ ReadsU D (fun _ => 0) := by rw [hw13, hb2]; exact (MF.made wc).own
              have HD0 := Lib.hid hD0
              have HD0R := Lib.hid hD0r
              have hb2w : w.heap.size ≤ b2 := by rw [hb2]; exact HK.out.sp.bl.size
              have hb2S : ¬ S5 b2 := fun hk => by have := HK.out.sp.at_.lt _ hk; omega
              have hb12 : b1 ≠ b2 := fun e => by have := HK.out.mf.lt; omega
              obtain ⟨ri, hri⟩ : ∃ i, i = w13.heap.size := ⟨_, rfl⟩
              have hriw : w.heap.size ≤ ri := by omega
              have hriS : ¬ S5 ri := fun hk => by have := HK13.out.sp.at_.lt _ hk; omega
              have hri2 : b2 < ri := by omega
              have hri1 : b1 < ri := by have := HK.out.mf.lt; omega
              obtain ⟨D1, hD1, hD1r⟩ := HK13.out.mf.own
              have HD1R := Lib.hid hD1r
              have HSZ := Lib.hid (World.ownsMap.size_le hD1)
              have HB2W := Lib.hid hb2w
              have HB2S := Lib.hid hb2S
              have HB12 := Lib.hid hb12
              have HRIW := Lib.hid hriw
              have HRIS := Lib.hid hriS
              have HRI2 := Lib.hid hri2
              have HRI1 := Lib.hid hri1
              have HRIE := Lib.hid hri
              clear hb2 hw13 hbl hz13 hD0 hD0r hb2w hb2S hb12 hri hriw hriS hri2 hri1 hD1r HK
              go_wp2_with (first
                | (at_range; refine wpList_range_own _ rfl _ 49 rfl 5 52 lawU8 Try.underlying49 _ b1 n2 D1 rfl hD1 ?_; intro w14 hrg0 hg0 hs0)
                | fail)
              go_frame
              have hbl14 : Below w13.heap.size w13 w14 := ⟨hg0.os, hg0.tape, hg0.output, hg0.size, fun k hk => hg0.block k hk (by simp)⟩
              rw [← HRIE.out] at hrg0 ⊢
              have HRG := Lib.hid hrg0
              have HK14 := Lib.hid (HK13.out.below hbl14)
              have HD014 := Lib.hid (HD0.out.as (hbl14.block _ (by have h1 := HRIE.out; have h2 := HRI2.out; omega)))
              have HSTART : Hid (∀ o, o < 256 → D0.atKey (keyU o) (datU 0) = if Maps.has D1 (keyU o) && !(Maps.has D1 (keyU o)) then datU (F2 o) else datU 0) := fun o ho => by
                rw [HD0R.out o ho]
                cases Maps.has D1 (keyU o) <;> rfl
              clear hrg0 hg0 hs0 hbl14 hD1 HK13 HD0 HD0R
              go_loopw [133] (fun _ wx => ∃ (left : Lit → Bool) (cnt n3 : Nat) (D2 : DataW Unit), Hid (wx.ranges Try.prog 5 (plainElem Try.prog 52) b1 ri n2 D1 left cnt) ∧ Hid (OwnU wx b2 n3 D2) ∧ Hid (n3 + cnt ≤ Maps.size D1) ∧
                  Hid (∀ o, o < 256 → D2.atKey (keyU o) (datU 0) = if Maps.has D1 (keyU o) && !(left (keyU o)) then datU (F2 o) else datU 0) ∧ Hid (CK w wx S5 s (64 + r) b1 (k + 1) X2 L2 F2 n2 A6 M6 A8 M8 g y A4 c4)) (fun _ wx => wx.rangeLeft b1 ri)
              case atStart => exact ⟨_, _, 0, D0, HRG.out, HD014.out, (by show _ ≤ _; omega), HSTART.out, HK14.out⟩
              case round =>
                obtain ⟨left, cnt, n3, D2, HG, HD2, HN3, HD2R, HK⟩ := hrel
                clear HRG HD014 HSTART HK14
                have hrg := HG.out
                go_wp2_with (first
                  | (at_next; refine wpList_next_ranges_ii _ rfl _ rfl 5 52 .u8 .u64 lawU8 Try.underlying5 Try.underlying52 b1 ri n2 _ _ _ rfl hrg ?_ ?_)
                  | fail)
                · intro hc0 hl0
                  have hreads : ReadsU D2 F2 := fun o ho => by
                    rw [HD2R.out o ho, hl0]
                    cases hh : Maps.has D1 (keyU o) with
                    | true => rfl
                    | false =>
                      have h1 := HD1R.out o ho
                      rw [atKey_of_not_has hh] at h1
                      exact h1
                  have hmf2 : MF wr b2 n3 F2 := ⟨_, HD2.out, hreads⟩
                  have hn3 : n3 ≤ 1000 := by have h1 := HN3.out; have h2 := HSZ.out; have h3 := HL.out; omega
                  have HMF2 := Lib.hid hmf2
                  clear hc0 hl0 hreads hmf2 hrg HG HD2 HN3 HD2R HD1R HSZ
                  go_wp2_with fail
                  refine (listAll_new HK.out.sp (by omega)).mono ?_
                  rintro _ w17 ⟨A10, c10, M10, rfl, hsm10, hrn10, hb17⟩
                  obtain ⟨n10, hn10⟩ : ∃ x, x = M10.length := ⟨_, rfl⟩
                  rw [← hn10]
                  have HN10 := Lib.hid hn10
                  have hcv0 : Cov F2 X2.h (M10.drop 0) := HCV.out.same hsm10
                  have hn10b : n10 ≤ 1000 := by have h1 := hsm10.len; have h2 := HK.out.sp.ok.len; omega
                  have hhs : ∀ i, X2.h i ≤ 1099511627776 := HK.out.sp.ok.hs
                  have hck17 : CK w w17 S5 s (64 + r) b1 (k + 1) X2 L2 F2 n2 A6 M6 A8 M8 g y A4 c4 := HK.out.below hb17
                  have hmf17 : MF w17 b2 (n3 + 0) F2 := HMF2.out.below hb17
                  obtain ⟨B10, hB10⟩ : ∃ x, x = wr.heap.size := ⟨_, rfl⟩
                  rw [← hB10] at hrn10
                  have HCV0 := Lib.hid hcv0
                  have HHS := Lib.hid hhs
                  have HK17 := Lib.hid hck17
                  have HMF17 := Lib.hid hmf17
                  have HRN := Lib.hid hrn10
                  clear hn10 hcv0 hhs hck17 hmf17 hB10 hrn10 hsm10 hb17 HK HMF2
                  go_wp2_with fail
                  go_loopw [144] (fun iv wx => ∃ (j : Nat) (G : Nat → Nat), j ≤ n10 ∧ iv = .int .i64 j ∧ Hid (CK w wx S5 s (64 + r) b1 (k + 1) X2 L2 F2 n2 A6 M6 A8 M8 g y A4 c4) ∧ Hid (MF wx b2 (n3 + j) G) ∧ Hid (Cov G X2.h (M10.drop j)) ∧ Hid (RdN wx B10 A10 M10)) (fun iv _ => n10 - (intOf iv).toNat)
                  case atStart => exact ⟨0, F2, Nat.zero_le _, rfl, HK17.out, HMF17.out, HCV0.out, HRN.out⟩
                  case round =>
                    obtain ⟨j, G, hj, rfl, HK, HMF, HC10, HR⟩ := hrel
                    clear HK17 HMF17 HCV0 HRN
                    by_cases hjn : j < n10
                    · have q1 : decide ((j : Int) < (n10 : Int)) = true := decide_eq_true (by omega)
                      have q2 : decide (j < n10) = true := decide_eq_true hjn
                      obtain ⟨e, he⟩ : ∃ e, M10[j]? = some e := ⟨_, List.getElem?_eq_getElem (by rw [← HN10.out]; exact hjn)⟩
                      obtain ⟨hf, hi0, hle, hcn⟩ := HC10.out.next he
                      obtain ⟨b9, o9, rfl, hbb9, hr9, -, -⟩ := HR.out.rd.at_ he
                      have HCN := Lib.hid hcn
                      have HF := Lib.hid hf
                      have HLE2 := Lib.hid hle
                      have HE9 := Lib.hid he
                      clear he hbb9 hf hi0 hle hcn
                      go_upto_region 34 with (first
                        | (refine wpList_load_mid rfl _ _ rfl b9 (o9 + j * 14) rfl (entC e) _ hr9 Try.underlying68 rfl Try.infoEn ?_)
                        | (refine wpList_store_row rfl _ _ _ rfl wr.heap.size _ rfl rfl _ _ (heap_alloc_new _ _) Try.infoEn rfl (by simp [Value.oneCell', entC, itC]) ?_)
                        | fail)
                      obtain ⟨V, hV, -, hbV, hrV, -⟩ := boxE wr _ e
                      rw [← hV]
                      obtain ⟨gz, hgz⟩ : ∃ g, g = wr.heap.size := ⟨_, rfl⟩
                      rw [← hgz] at hrV ⊢
                      have HKV := Lib.hid (HK.out.below hbV)
                      have HMV := Lib.hid (HMF.out.below hbV)
                      have HRV := Lib.hid (HR.out.below hbV)
                      have HSPN := Lib.hid (span_C8 e.x e.A e.c V)
                      clear hV hbV hgz hr9 HK HR HMF HC10 q1 q2
                      go_wp2_with (first
                        | (refine wpList_load_mid rfl _ _ rfl gz 1 rfl (itC e.x e.A e.c) _ hrV Try.underlying60 rfl Try.infoIt ?_)
                        | fail)
                      refine HSPN.out.mono ?_
                      rintro _ w18 ⟨rfl, hb18⟩
                      have HK18 := Lib.hid (HKV.out.below hb18)
                      have HM18 := Lib.hid (HMV.out.below hb18)
                      have HR18 := Lib.hid (HRV.out.below hb18)
                      have HOKE := Lib.hid (HR18.out.rd.ok e (List.mem_of_getElem? HE9.out)).ok
                      clear hb18 hrV HKV HRV HMV HSPN
                      obtain ⟨so, hso⟩ : ∃ o, o = spO e.x := ⟨_, rfl⟩
                      obtain ⟨sf, hsf⟩ : ∃ o, o = spF e.x := ⟨_, rfl⟩
                      obtain ⟨st, hst⟩ : ∃ o, o = spT e.x := ⟨_, rfl⟩
                      rw [← hso, ← hsf, ← hst]
                      have hso2 : so < 256 := by rw [hso]; exact spO_lt HOKE.out
                      have hst2 : st < 18446744073709551616 := by rw [hst]; exact spT_lt HOKE.out
                      have hgs : G so + 1 = sf := by rw [hso, hsf]; exact HF.out.symm
                      have hgb : G so ≤ 1099511627776 := by rw [hso]; exact Nat.le_trans HLE2.out (HHS.out _)
                      obtain ⟨gs, hgse⟩ : ∃ x, x = G so := ⟨_, rfl⟩
                      rw [← hgse] at hgs hgb
                      have hw8 : IntKind.u64.wrap ((gs : Int) + 1) = (sf : Int) := by rw [IntKind.wrap_u64]; omega
                      have HSO := Lib.hid hso
                      have HST := Lib.hid hst
                      have HGSE := Lib.hid hgse
                      clear hso hsf hst hgs hgb hgse HF HLE2
                      go_upto_region 35 with fail
                      go_wp2_with (first
                        | (at_lookup; refine wpList_look8 rfl _ _ rfl rfl HM18.out so hso2 rfl ?_; rw [← HGSE.out])
                        | (at_mapUpdate; refine wpList_put8 rfl _ _ _ rfl rfl HM18.out (by omega) so st hso2 hst2 rfl rfl ?_; intro w19 hm19 hg19)
                        | fail)
                      obtain ⟨es, ck, hmb⟩ := HM18.out.block
                      have hk19 := HK18.out.other hg19 hmb HB2W.out HB2S.out HB12.out
                      have hr19 := HR18.out.mapped hg19 hmb
                      have heq : (fun i => if i = so then st else G i) = upT G e.x := by
                        rw [HSO.out, HST.out]
                        rfl
                      rw [heq] at hm19
                      exact ⟨⟨j + 1, _, by omega, by go_num, hk19, hm19, HCN.out, hr19⟩, by simp [intOf]; omega⟩
                    · obtain rfl : n10 = j := by omega
                      have q1 : decide ((n10 : Int) < (n10 : Int)) = false := decide_eq_false (by omega)
                      have hc10 := HC10.out
                      rw [HN10.out, List.drop_length] at hc10
                      have hend : ∀ o, G o = X2.h o := hc10.end_
                      have HEND := Lib.hid hend
                      clear hc10 hend HC10 HR
                      go_wp2_with fail
                      go_loopw [165] (fun iv wx => ∃ (j : Nat), j ≤ 4 ∧ iv = .int .u8 j ∧ Hid (CK w wx S5 s (64 + r) b1 (k + 1) X2 L2 F2 n2 A6 M6 A8 M8 g y A4 c4) ∧ Hid (MF wx b2 (n3 + n10) G)) (fun iv _ => 4 - (intOf iv).toNat)
                      case atStart => exact ⟨0, Nat.zero_le _, rfl, HK.out, HMF.out⟩
                      case round =>
                        obtain ⟨j, hj, rfl, HKj, HMj⟩ := hrel
                        clear HK HMF
                        by_cases hj4 : j < 4
                        · have q1 : decide ((j : Int) < 4) = true := decide_eq_true (by omega)
                          have q2 : decide (j < 4) = true := decide_eq_true hj4
                          obtain ⟨V, hV⟩ : ∃ V, V = wr := ⟨_, rfl⟩
                          rw [← hV] at HKj HMj ⊢
                          have hrun : ∀ W, Below V.heap.size V W → (Instr.lookup 49 (.map (some b2)) (.int .u8 (j : Int)) false).run Try.prog W = .ok (.int .u64 ((X2.h j : Nat) : Int)) W := fun W hW => by
                            have h1 := (HMj.out.below hW).run (k := j) (by omega)
                            rwa [HEND.out j] at h1
                          have hhigh : ∀ W, Below V.heap.size V W → Calls Try.prog 22 #[.pointer (some ⟨s, 0, none⟩), .int .u8 (j : Int)] W fun e w' => e = .returned (.int .u64 ((X2.h j : Nat) : Int)) ∧ W = w' := fun W hW => high_any j (by omega) W (HKj.out.below hW).sp.at_
                          have HRUN := Lib.hid hrun
                          have HHIGH := Lib.hid hhigh
                          have hw8 : IntKind.u8.wrap ((j : Int) + 1) = (j : Int) + 1 := by rw [IntKind.wrap_u8]; omega
                          clear hrun hhigh hV
                          go_upto_region 42 with fail
                          refine wp_region_noPanic ?_
                          refine wp_region_held_drew (S := (fun W => Below V.heap.size V W)) (by kernel_rfl) ?_ (fun hHeld => ?_)
                          · exact (RowKit.Below.refl _ _).drew
                          refine heldTake (i := 0) (v := ?_) rfl (by kernel_rfl) (by kernel_rfl) (by kernel_rfl) (fun _ _ _ h => h) (Or.inl ⟨by rfl, ?_⟩) (by assumption) ?_
                          rotate_left
                          · (intro W hSw; (try dsimp only at hSw);  go_simp; try with_reducible rfl)
                          try simp only [heldPut, List.set]
                          refine heldTake (i := 1) (v := ?_) rfl (by kernel_rfl) (by kernel_rfl) (by kernel_rfl) (fun _ _ _ h => h) (Or.inl ⟨by rfl, ?_⟩) (by assumption) ?_
                          rotate_left
                          · (intro W hSw; (try dsimp only at hSw);  go_simp; try with_reducible rfl)
                          try simp only [heldPut, List.set]
                          refine heldTake (i := 2) (v := ?_) rfl (by kernel_rfl) (by kernel_rfl) (by kernel_rfl) (fun _ _ _ h => h) (Or.inl ⟨by rfl, ?_⟩) (by assumption) ?_
                          rotate_left
                          · (intro W hSw; (try dsimp only at hSw); have f1 := HRUN.out W hSw; go_simp; try with_reducible rfl)
                          try simp only [heldPut, List.set]
                          refine heldTake (i := 3) (v := ?_) rfl (by kernel_rfl) (by kernel_rfl) (by kernel_rfl) (fun _ _ _ h => h) (Or.inl ⟨by rfl, ?_⟩) (by assumption) ?_
                          rotate_left
                          · (intro W hSw; (try dsimp only at hSw);  go_simp; try with_reducible rfl)
                          try simp only [heldPut, List.set]
                          refine heldTake (i := 4) (v := ?_) rfl (by kernel_rfl) (by kernel_rfl) (by kernel_rfl) (fun _ _ _ h => h) (Or.inl ⟨by rfl, ?_⟩) (by assumption) ?_
                          rotate_left
                          · (intro W hSw; (try dsimp only at hSw);  go_simp; try with_reducible rfl)
                          try simp only [heldPut, List.set]
                          refine heldOne (i := 5) rfl (by kernel_rfl) (fun K hK => ?_)
                          go_simp
                          refine (HHIGH.out _ hHeld).mono ?_
                          rintro e' V3 ⟨rfl, rfl⟩
                          go_wp2_with fail
                          refine hK.out _ _ hHeld (fun hHeld => ?_)
                          clear hK K
                          try simp only [heldPut, List.set]
                          refine heldTake (i := 6) (v := ?_) rfl (by kernel_rfl) (by kernel_rfl) (by kernel_rfl) (fun _ _ _ h => h) (Or.inl ⟨by rfl, ?_⟩) (by assumption) ?_
                          rotate_left
                          · (intro W hSw; (try dsimp only at hSw);  go_simp; try with_reducible rfl)
                          try simp only [heldPut, List.set]
                          refine wpAnyH_done (by kernel_rfl) ?_ _
                          refine NoPanic.normal ?_
                          have HKf := Lib.hid (HKj.out.below hHeld)
                          have HMf := Lib.hid (HMj.out.below hHeld)
                          clear HKj HMj HRUN HHIGH
                          go_wp2_with fail
                          exact ⟨⟨j + 1, by omega, by go_num, HKf.out, HMf.out⟩, by simp [intOf]; omega⟩
                        · obtain rfl : j = 4 := by omega
                          have q1 : decide (((4 : Nat) : Int) < 4) = false := by decide
                          have hbx := HKj.out.it.box
                          have hkept := kept_any A6 n6 c6 M6 A8 n8 c8 M8 y A4 c4 wr HN6.out HN68.out.1 HKj.out.m6.rd HN8.out HN68.out.2 HKj.out.m8.rd HYL3.out HKj.out.it.rd HKP3.out
                          have HKEPT := Lib.hid hkept
                          clear hkept HMj
                          go_wp2_with (first
                            | (refine wpList_load_row rfl _ _ rfl g rfl _ _ _ _ hbx Try.underlying60 rfl Try.infoIt ?_)
                            | fail)
                          refine HKEPT.out.mono ?_
                          rintro _ w20 ⟨rfl, hb20⟩
                          have hkf := HKj.out.below hb20
                          have hcat : CAt w w20 S5 s (64 + r) b1 (k + 1) X2 L2 F2 n2 := ⟨hkf.sp, hkf.mf, hkf.nS, hkf.b0, HCV.out, HL.out⟩
                          have HCAT := Lib.hid hcat
                          clear hkf hcat hb20 hbx HKEPT HKj
                          go_wp2_with fail
                          exact ⟨⟨k + 1, S5, X2, L2, F2, n2, by omega, by omega, by go_num, HCAT.out⟩, by simp [intOf]; omega⟩
                · intro x cc w15 cnt1 hwx hwc hlx hat hrg1 hlt1 hg1 hs1 hen
                  obtain ⟨xo, rfl, hxo⟩ := nat_of_u8 hwx
                  obtain ⟨xc, rfl, hxc⟩ := nat_of_u64 hwc
                  have hxF : xc = F2 xo := datU_inj ((hat (datU 0)).symm.trans (HD1R.out xo hxo))
                  have hhas : Maps.has D1 (keyU xo) = true := has_true_of_atKey hat
                  have hD2b : OwnU w15 b2 n3 D2 := HD2.out.as (hg1.block _ (by obtain ⟨es, ck, hb⟩ := HD2.out.block; exact (Array.getElem?_eq_some_iff.1 hb).1) (fun e => by injection e with e; have := HRI2.out; omega))
                  have hk15 : CK w w15 S5 s (64 + r) b1 (k + 1) X2 L2 F2 n2 A6 M6 A8 M8 g y A4 c4 := by
                    obtain ⟨_, _, _, _, _, _, _, _, _, hri, _⟩ := HG.out
                    exact HK.out.iter hg1 hri HRIW.out HRIS.out
                  have hn3 : n3 < maxLen := by have h1 := HN3.out; have h2 := HSZ.out; have h3 := HL.out; unfold maxLen; omega
                  have HK15 := Lib.hid hk15
                  have HXF := Lib.hid hxF
                  have HHAS := Lib.hid hhas
                  have HLT1 := Lib.hid hlt1
                  have hmeas : wr.rangeLeft b1 ri = cnt := hrg.left_eq
                  have HMS := Lib.hid hmeas
                  clear hmeas hk15 hxF hhas hrg HG HK hlx hat hlt1 hs1 hg1
                  go_wp2_with (first
                    | (at_mapUpdate; refine wpList_mapUpdate_own _ rfl _ _ _ 49 rfl 5 52 lawU8 Try.underlying49 _ b2 _ _ rfl hD2b hn3 _ _ _ rfl rfl (keyOf_int_mk Try.underlying5 hwx) _ [] (plainElem_int Try.underlying52 hwc) ?_; intro w16 hD2c hg2)
                    | fail)
                  have hrg2 := hrg1.kept hg2 (fun e => by injection e with e; exact HB12.out e) (fun e => by injection e with e; have := HRI2.out; omega)
                  obtain ⟨es2, ck2, hmb2⟩ := OwnU.block hD2b
                  have hk16 := HK15.out.other hg2 hmb2 HB2W.out HB2S.out HB12.out
                  have hreads : ∀ o, o < 256 → (D2.put (keyU xo) (datU xc)).atKey (keyU o) (datU 0) = if Maps.has D1 (keyU o) && !((fun z => left z && !z.sameKey (keyU xo)) (keyU o)) then datU (F2 o) else datU 0 := fun o ho => by
                    by_cases e : o = xo
                    · subst e
                      rw [atKey_put_same (World.ownsMap.isMap hD2b) (by unfold keyU; trivial), HHAS.out, HXF.out]
                      have hsk : (keyU o).sameKey (keyU o) = true := by simp [keyU, Lit.sameKey]
                      simp [hsk]
                    · rw [atKey_put_other (keyU_ne e), HD2R.out o ho]
                      have hsk : (keyU o).sameKey (keyU xo) = false := sameKey_ne (keyU_ne e)
                      simp [hsk]
                  have hrel2 : ∃ (left : Lit → Bool) (cnt n3 : Nat) (D2 : DataW Unit), Hid (w16.ranges Try.prog 5 (plainElem Try.prog 52) b1 ri n2 D1 left cnt) ∧ Hid (OwnU w16 b2 n3 D2) ∧ Hid (n3 + cnt ≤ Maps.size D1) ∧
                    Hid (∀ o, o < 256 → D2.atKey (keyU o) (datU 0) = if Maps.has D1 (keyU o) && !(left (keyU o)) then datU (F2 o) else datU 0) ∧ Hid (CK w w16 S5 s (64 + r) b1 (k + 1) X2 L2 F2 n2 A6 M6 A8 M8 g y A4 c4) :=
                    ⟨_, cnt1, n3 + 1, _, hrg2, hD2c, (by have h1 := HN3.out; have h2 := HLT1.out; show _ ≤ _; omega), hreads, hk16⟩
                  have hms2 : w16.rangeLeft b1 ri < wr.rangeLeft b1 ri := by rw [hrg2.left_eq, HMS.out]; exact HLT1.out
                  have HREL2 := Lib.hid hrel2
                  have HMS2 := Lib.hid hms2
                  clear hrel2 hms2 hreads hrg2 hk16 hmb2
                  exact ⟨⟨_, _, _, _, _, _, _, _, _, _, HREL2.out, rfl⟩, HMS2.out⟩
        · obtain ⟨rfl, rfl, rfl⟩ := HFAIL.out hc0
          have hnn : n8 = n6 := by rw [HN8.out, HN6.out, ← HSM8.out.len, ← HSM6.out.len]
          rw [hnn]
          have hc1 : ¬ ((code : Int) = 0) := by omega
          have hcat : CAt w w9 S5 s (64 + r) b1 (k + 1) X5 L5 F n1 := ⟨HCK.out.sp, HCK.out.mf, HCK.out.nS, HCK.out.b0, HCOV5.out, by have := HLE.out; omega⟩
          have HCAT := Lib.hid hcat
          clear hnn hcat HCK HCOV5 HKP HFAIL HM HY HYL HN6 HN8 HSM6 HSM8 HB0 HLE HNS5
          go_wp2_with fail
          exact ⟨⟨k + 1, S5, X5, L5, F, n1, by omega, by omega, by go_num, HCAT.out⟩, by simp [intOf]; omega⟩
    · have q1 : decide ((k : Int) < (n : Int)) = false := decide_eq_false (by omega)
      have q2 : decide (k < n) = false := decide_eq_false hlt
      have HBL := Lib.hid HC.out.sp.bl
      clear HC hlt
      go_wp2_with fail
      go_ret
      exact ⟨rfl, HBL.out⟩
end spoolCovers
end Go.Proofs.Ytgcfofnlgdfmoaa
