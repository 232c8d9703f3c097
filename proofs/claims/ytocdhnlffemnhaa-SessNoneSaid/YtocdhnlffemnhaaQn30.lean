/- Several texts in one: SessNone. -/
import Derived.Deep.DeepCutAuto
import Derived.Deep.CutBlock
import Derived.Test.YtocdhnlffemnhaaQn24
import Derived.Test.YtocdhnlffemnhaaQn28
import Derived.Test.YtocdhnlffemnhaaQn29
/- Layer 12: SessNone's walk. -/
namespace Go.Proofs.Ytocdhnlffemnhaa
open Go.RowKit
set_option maxRecDepth 100000 in
set_option maxHeartbeats 400000 in
theorem ofill_nil (s now : Value) (w : World) : Calls Try.prog 17 #[.pointer none, s, now] w fun e w' => e = .returned (.int .i64 0) ∧ w = w' := by
  go_enter Try.func17, Try.ntmps17
  go_wp2
  go_ret
  exact ⟨rfl, rfl⟩
set_option maxRecDepth 100000 in
set_option maxHeartbeats 400000 in
theorem oframes_nil (s now : Value) (w : World) : Calls Try.prog 18 #[.pointer none, s, now] w fun e w' => e = .returned (.slice none 0 0) ∧ w = w' := by
  go_enter Try.func18, Try.ntmps18
  go_wp2
  go_ret
  exact ⟨rfl, rfl⟩
namespace sessNone
set_option maxRecDepth 100000 in
set_option maxHeartbeats 8000000 in
theorem walk (a b l f m : Nat) (z : Int) (y : Fm) (w : World) (hy : y.x.l.length ≤ maxLen) :
    Calls Try.prog 4 #[.int .u8 a, .int .u8 b, .int .u64 l, .agg #[.int .i64 z, .int .u64 f, .int .u64 m], .agg (frmC y).toArray] w fun e w' => e = .returned (.bool true) ∧ Below w.heap.size w w' := by
  obtain ⟨V, hV⟩ : ∃ V, V = (w.alloc (.cells #[.int .i64 z, .int .u64 f, .int .u64 m] 40)).alloc (.cells (frmC y).toArray 32) := ⟨_, rfl⟩
  have hb : Below w.heap.size w V := by rw [hV]; exact ((Below.refl _ _).alloc (Nat.le_refl _) _).alloc (by simp) _
  have hx : V.heap[w.heap.size + 1]? = some (.cells (frmC y).toArray 32 (0, 0)) := by
    rw [hV]
    have := heap_alloc_new (w.alloc (.cells #[.int .i64 z, .int .u64 f, .int .u64 m] 40)) (.cells (frmC y).toArray 32)
    simpa using this
  have ht : V.heap[w.heap.size]? = some (.cells #[.int .i64 z, .int .u64 f, .int .u64 m] 40 (0, 0)) := by
    rw [hV]
    exact (((Below.refl _ _).alloc (by simp) _ : Below (w.heap.size + 1) _ _).block _ (by simp)).trans (heap_alloc_new _ _)
  have hl2 : w.heap.size + 1 < V.heap.size := (Array.getElem?_eq_some_iff.1 hx).1
  obtain ⟨g, hg⟩ : ∃ g, g = w.heap.size := ⟨_, rfl⟩
  obtain ⟨n, hn⟩ : ∃ n, n = y.x.l.length := ⟨_, rfl⟩
  rw [← hg] at hx ht hl2
  have HR := Lib.hid (fun W (hW : Below V.heap.size V W) => (⟨(hW.block _ (by omega)).trans ht, (hW.block _ hl2).trans hx⟩ : W.heap[g]? = some (.cells #[.int .i64 z, .int .u64 f, .int .u64 m] 40 (0, 0)) ∧ W.heap[g + 1]? = some (.cells (frmC y).toArray 32 (0, 0))))
  have HC : Hid (∀ W, Below V.heap.size V W → W.cell? ⟨g, 0, none⟩ = some (.int .i64 z) ∧ W.cell? ⟨g, 1, none⟩ = some (.int .u64 f) ∧ W.cell? ⟨g, 2, none⟩ = some (.int .u64 m) ∧ W.cell? ⟨g + 1, 10, none⟩ = some (.slice y.A n y.z)) := fun W hW => by
    obtain ⟨h1, h2⟩ := HR.out W hW
    exact ⟨cell_of_row _ _ 0 _ _ _ h1, cell_of_row _ _ 1 _ _ _ h1, cell_of_row _ _ 2 _ _ _ h1, by rw [hn]; exact cell_of_row _ _ 10 _ _ _ h2⟩
  have HB := Lib.hid hb
  have HN : Hid (∀ W, Calls Try.prog 9 #[.int .i64 z, .int .u64 f, .int .u64 m] W (CodeP W (newE z f m))) := fun W => sdnew_code z f m W
  have HRN : Hid (∀ W, Calls Try.prog 10 #[.int .i64 z] W (CodeP W (winE z))) := fun W => rnew_code z W
  have HO : Hid (∀ W, Calls Try.prog 6 #[.int .u8 a, .int .u8 b, .int .u64 l, timV z f m] W (CodeP W (endE a b l (newE z f m)))) := fun W => newOut_code a b l f m z W
  have HI : Hid (∀ W, Calls Try.prog 11 #[.int .u8 a, .int .u8 b, .int .u64 l, .int .i64 z] W (CodeP W (endE a b l (winE z)))) := fun W => newIn_code a b l z W
  have HTC : Hid (∀ W, Calls Try.prog 13 #[timV z f m] W fun e w' => e = .returned (.int .i64 (newE z f m : Nat)) ∧ Below W.heap.size W w') := fun W => tcheck_any f m z W
  obtain ⟨c1, hc1⟩ : ∃ c, c = newE z f m := ⟨_, rfl⟩
  obtain ⟨c2, hc2⟩ : ∃ c, c = winE z := ⟨_, rfl⟩
  rw [← hc1] at HN HO HTC
  rw [← hc2] at HRN HI
  unfold timV at HO HTC
  have hnl : n ≤ 9223372036854775807 := by unfold maxLen at hy; omega
  have HG := Lib.hid hg
  clear hb hx ht hl2 hn hy hc1 hc2
  go_enter Try.func4, Try.ntmps4
  go_upto_region 1 with fail
  rw [← hV, ← hg]
  clear hV hg
  go_wp2_with fail
  refine (awake12_any V).mono ?_
  rintro _ w1 ⟨rfl, hb1⟩
  have HB1 := Lib.hid hb1
  have c10 := (HC.out w1 hb1).2.2.2
  clear hb1
  by_cases h12 : 12 < n
  · have d1 : decide ((12 : Int) < (n : Int)) = true := decide_eq_true (by omega)
    have d2 : decide (12 < n) = true := decide_eq_true h12
    go_wp2
    go_ret
    exact ⟨rfl, HB.out.trans (HB1.out.mono HB.out.size)⟩
  have d1 : decide ((12 : Int) < (n : Int)) = false := decide_eq_false (by omega)
  have d2 : decide (12 < n) = false := decide_eq_false h12
  obtain ⟨k0, k1, k2, -⟩ := HC.out w1 HB1.out
  go_wp2_with fail
  refine (HN.out w1).mono ?_
  rintro _ w2 ⟨v1, rfl, -, -, hb2⟩
  have HB2 := Lib.hid (HB1.out.trans (hb2.mono HB1.out.size))
  clear hb2 c10 d1 d2 k0 k1 k2 HN
  obtain ⟨k0, -⟩ := HC.out w2 HB2.out
  go_wp2_with fail
  refine (HRN.out w2).mono ?_
  rintro _ w3 ⟨v2, rfl, -, -, hb3⟩
  have HB3 := Lib.hid (HB2.out.trans (hb3.mono HB2.out.size))
  clear hb3 k0 HRN HB1 HB2
  obtain ⟨E1, hE1⟩ : ∃ x, x = endE a b l c1 := ⟨_, rfl⟩
  obtain ⟨E2, hE2⟩ : ∃ x, x = endE a b l c2 := ⟨_, rfl⟩
  rw [← hE1] at HO
  rw [← hE2] at HI
  obtain ⟨bk, hbk⟩ : ∃ x, x = decide (31 < a ∨ 31 < b ∨ a = b) := ⟨_, rfl⟩
  obtain ⟨bl, hbl⟩ : ∃ x, x = decide (l < 1 ∨ 1048575 < l) := ⟨_, rfl⟩
  have HEE : Hid (E1 = (if bk then 20 else if bl then 6 else c1) ∧ E2 = (if bk then 20 else if bl then 6 else c2)) := by
    rw [hE1, hE2, hbk, hbl]
    unfold endE
    constructor <;> simp only [decide_eq_true_eq]
  have HBK := Lib.hid hbk
  have HBL := Lib.hid hbl
  clear hE1 hE2 hbk hbl h12
  go_upto_block 0 with fail
  go_cut [15, 16] (fun u v wx => u = .int .i64 E1 ∧ v = .int .i64 E2 ∧ wx = w3)
  case first =>
    go_upto_region 8 with fail
    go_cut [53] (fun v wx => v = .bool bk ∧ wx = w3)
    case first =>
      obtain ⟨b1, hb1⟩ : ∃ b1, b1 = decide (31 < a) := ⟨_, rfl⟩
      obtain ⟨b2, hb2⟩ : ∃ b2, b2 = decide (31 < b) := ⟨_, rfl⟩
      obtain ⟨b3, hb3⟩ : ∃ b3, b3 = ((a : Int) == (b : Int)) := ⟨_, rfl⟩
      have f1 : decide ((31 : Int) < (a : Int)) = b1 := by rw [hb1]; exact decide_eq_decide.2 (by omega)
      have f2 : decide ((31 : Int) < (b : Int)) = b2 := by rw [hb2]; exact decide_eq_decide.2 (by omega)
      have g1 : decide (31 < a) = b1 := hb1.symm
      have g2 : decide (31 < b) = b2 := hb2.symm
      have g3 : ((a : Int) == (b : Int)) = b3 := hb3.symm
      have hbb : bk = (b1 || b2 || b3) := by
        have e3 : b3 = decide (a = b) := by rw [hb3, Bool.eq_iff_iff, beq_iff_eq, decide_eq_true_iff]; omega
        rw [HBK.out, hb1, hb2, e3]
        by_cases h1 : 31 < a <;> by_cases h2 : 31 < b <;> by_cases h3 : a = b <;> simp [h1, h2, h3]
      have HBB := Lib.hid hbb
      clear hb1 hb2 hb3 hbb
      cases b1 <;> cases b2 <;> cases b3
      all_goals
        go_wp2
        go_meet
        exact ⟨by rw [HBB.out]; rfl, rfl⟩
    case rest =>
    obtain ⟨rfl, hwc⟩ := hcut
    have HW3 := Lib.hid hwc
    clear hwc
    cases bk with
    | true =>
      go_wp2
      go_meet
      exact ⟨by rw [HEE.out.1]; rfl, by rw [HEE.out.2]; rfl, HW3.out⟩
    | false =>
      obtain ⟨b1, hb1⟩ : ∃ b1, b1 = decide (l < 1) := ⟨_, rfl⟩
      obtain ⟨b2, hb2⟩ : ∃ b2, b2 = decide (1048575 < l) := ⟨_, rfl⟩
      have f1 : decide ((l : Int) < 1) = b1 := by rw [hb1]; exact decide_eq_decide.2 (by omega)
      have f2 : decide ((1048575 : Int) < (l : Int)) = b2 := by rw [hb2]; exact decide_eq_decide.2 (by omega)
      have g1 : decide (l < 1) = b1 := hb1.symm
      have g2 : decide (1048575 < l) = b2 := hb2.symm
      have g0 : decide (l = 0) = b1 := by rw [hb1]; exact decide_eq_decide.2 (by omega)
      have hbb : bl = (b1 || b2) := by
        rw [HBL.out, hb1, hb2]
        by_cases h1 : l < 1 <;> by_cases h2 : 1048575 < l <;> simp [h1, h2]
      have HBB := Lib.hid hbb
      clear hb1 hb2 hbb
      cases b1 <;> cases b2
      all_goals
        go_wp2
        go_meet
        have e1 := HEE.out
        rw [HBB.out] at e1
        exact ⟨by rw [e1.1]; rfl, by rw [e1.2]; rfl, HW3.out⟩
  case rest =>
  obtain ⟨rfl, rfl, rfl⟩ := hcut
  obtain ⟨hr1, -⟩ := HR.out wc HB3.out
  have HR1 := Lib.hid hr1
  clear hr1 HEE HBK HBL
  go_wp2_with (first
    | (refine wpList_load_row rfl _ _ rfl g rfl _ _ _ _ HR1.out Try.underlying40 rfl Try.infoTim ?_)
    | fail)
  refine (HO.out wc).mono ?_
  rintro _ w4 ⟨v3, rfl, hv3, hv3', hb4⟩
  have HB4 := Lib.hid (HB3.out.trans (hb4.mono HB3.out.size))
  have HV3 := Lib.hid (⟨hv3, hv3'⟩ : _ ∧ _)
  clear hb4 hv3 hv3' HO HB3 HR1
  obtain ⟨k0, -⟩ := HC.out w4 HB4.out
  go_wp2_with fail
  refine (HI.out w4).mono ?_
  rintro _ w5 ⟨v4, rfl, hv4, hv4', hb5⟩
  have HB5 := Lib.hid (HB4.out.trans (hb5.mono HB4.out.size))
  have HV4 := Lib.hid (⟨hv4, hv4'⟩ : _ ∧ _)
  clear hb5 hv4 hv4' HI HB4 k0
  go_upto_region 16 with fail
  have HR5 := Lib.hid (HR.out w5 HB5.out).2
  have HAN := Lib.hid (oack_nil y w5)
  go_wp2_with (first
    | (refine wpList_load_row rfl _ _ rfl (g + 1) rfl _ _ _ _ HR5.out Try.underlying32 rfl Try.infoFr ?_)
    | fail)
  refine HAN.out.mono ?_
  rintro _ w6 ⟨rfl, hb6⟩
  have HB6 := Lib.hid (HB5.out.trans (hb6.mono HB5.out.size))
  clear hb6 HAN HR5 HB5
  have HIN := Lib.hid (ianswer_nil w6)
  go_wp2_with fail
  refine HIN.out.mono ?_
  rintro _ w7 ⟨rfl, hb7⟩
  have HB7 := Lib.hid (HB6.out.trans (hb7.mono HB6.out.size))
  have HX7 := Lib.hid (heap_alloc_new w7 (.cells #[.int .u8 0, .int .u8 0, .int .u8 0, .int .u64 0, .int .u64 0, .bool false, .int .u8 0, .int .u64 0, .int .u64 0, .string ⟨#[]⟩, .slice none 0 0, .int .u8 0, .int .u8 0, .int .i64 0, .int .u8 0, .int .u8 0, .int .u64 0, .int .u64 0, .int .u64 0, .int .u64 0, .int .u64 0] 32))
  clear hb7 HIN HB6
  go_upto_region 18 with (first
    | (refine wpList_store_row rfl _ _ _ rfl w7.heap.size (frmC zFm).toArray rfl rfl _ _ HX7.out Try.infoFr rfl (by simp [Value.oneCell', frmC, itC]) ?_)
    | fail)
  obtain ⟨w8, hw8⟩ : ∃ w8, w8 = (w7.alloc (.cells #[.int .u8 0, .int .u8 0, .int .u8 0, .int .u64 0, .int .u64 0, .bool false, .int .u8 0, .int .u64 0, .int .u64 0, .string ⟨#[]⟩, .slice none 0 0, .int .u8 0, .int .u8 0, .int .i64 0, .int .u8 0, .int .u8 0, .int .u64 0, .int .u64 0, .int .u64 0, .int .u64 0, .int .u64 0] 32)).setRow w7.heap.size (frmC zFm).toArray := ⟨_, rfl⟩
  rw [← hw8]
  have HB8 : Hid (Below V.heap.size V w8) := by
    rw [hw8]
    exact HB7.out.trans (below_row.mono HB7.out.size)
  clear hw8 HX7 HB7
  have HR8 := Lib.hid (range_of_row (cs := [.int .i64 z, .int .u64 f, .int .u64 m]) (HR.out w8 HB8.out).1)
  have HT8 := Lib.hid (HTC.out w8)
  obtain ⟨z1, hz1⟩ : ∃ z1, z1 = ((E1 : Int) == 0) := ⟨_, rfl⟩
  obtain ⟨z2, hz2⟩ : ∃ z2, z2 = ((E2 : Int) == 0) := ⟨_, rfl⟩
  have q1 : ((E1 : Int) == 0) = z1 := hz1.symm
  have q2 : ((E2 : Int) == 0) = z2 := hz2.symm
  have HZ : Hid ((z1 = true → ∃ b, v3 = some ⟨b, 0, none⟩) ∧ (z1 = false → v3 = none) ∧ (z2 = true → ∃ b, v4 = some ⟨b, 0, none⟩) ∧ (z2 = false → v4 = none)) := by
    refine ⟨fun h => HV3.out.1 ?_, fun h => HV3.out.2 ?_, fun h => HV4.out.1 ?_, fun h => HV4.out.2 ?_⟩
    · rw [hz1, beq_iff_eq] at h; omega
    · rw [hz1, beq_eq_false_iff_ne] at h; omega
    · rw [hz2, beq_iff_eq] at h; omega
    · rw [hz2, beq_eq_false_iff_ne] at h; omega
  clear hz1 hz2 HV3 HV4 HTC
  go_cut [127] (fun v wx => v = .bool false ∧ Hid (Below V.heap.size V wx))
  case first =>
    cases z1 with
    | true =>
      obtain ⟨p3, rfl⟩ := HZ.out.1 rfl
      cases z2 with
      | true =>
        obtain ⟨p4, rfl⟩ := HZ.out.2.2.1 rfl
        go_wp2_with (first
          | ((with_reducible refine wpList_at8 (op := ⟨some 109, _, _, _, _, _⟩) ?_); refine wpList_load_wanted8 (by rfl) _ _ rfl g 0 rfl [.int .i64 z, .int .u64 f, .int .u64 m] _ HR8.out Try.underlying40 rfl Try.infoTim ?_)
          | fail)
        refine HT8.out.mono ?_
        rintro _ w9 ⟨rfl, hb9⟩
        have HB9 := Lib.hid (HB8.out.trans (hb9.mono HB8.out.size))
        clear hb9 HT8
        go_wp2
        go_meet
        exact ⟨rfl, HB9.out⟩
      | false =>
        obtain rfl := HZ.out.2.2.2 rfl
        go_wp2_with (first
          | ((with_reducible refine wpList_at8 (op := ⟨some 109, _, _, _, _, _⟩) ?_); refine wpList_load_wanted8 (by rfl) _ _ rfl g 0 rfl [.int .i64 z, .int .u64 f, .int .u64 m] _ HR8.out Try.underlying40 rfl Try.infoTim ?_)
          | fail)
        refine HT8.out.mono ?_
        rintro _ w9 ⟨rfl, hb9⟩
        have HB9 := Lib.hid (HB8.out.trans (hb9.mono HB8.out.size))
        clear hb9 HT8
        go_wp2
        go_meet
        exact ⟨rfl, HB9.out⟩
    | false =>
      obtain rfl := HZ.out.2.1 rfl
      cases z2 with
      | true =>
        obtain ⟨p4, rfl⟩ := HZ.out.2.2.1 rfl
        go_wp2_with (first
          | ((with_reducible refine wpList_at8 (op := ⟨some 109, _, _, _, _, _⟩) ?_); refine wpList_load_wanted8 (by rfl) _ _ rfl g 0 rfl [.int .i64 z, .int .u64 f, .int .u64 m] _ HR8.out Try.underlying40 rfl Try.infoTim ?_)
          | fail)
        refine HT8.out.mono ?_
        rintro _ w9 ⟨rfl, hb9⟩
        have HB9 := Lib.hid (HB8.out.trans (hb9.mono HB8.out.size))
        clear hb9 HT8
        go_wp2
        go_meet
        exact ⟨rfl, HB9.out⟩
      | false =>
        obtain rfl := HZ.out.2.2.2 rfl
        go_wp2_with (first
          | ((with_reducible refine wpList_at8 (op := ⟨some 109, _, _, _, _, _⟩) ?_); refine wpList_load_wanted8 (by rfl) _ _ rfl g 0 rfl [.int .i64 z, .int .u64 f, .int .u64 m] _ HR8.out Try.underlying40 rfl Try.infoTim ?_)
          | fail)
        refine HT8.out.mono ?_
        rintro _ w9 ⟨rfl, hb9⟩
        have HB9 := Lib.hid (HB8.out.trans (hb9.mono HB8.out.size))
        clear hb9 HT8
        go_wp2
        go_meet
        exact ⟨rfl, HB9.out⟩
  case rest =>
  obtain ⟨rfl, hb9⟩ := hcut
  have HB9 := Lib.hid hb9.out
  clear hb9 q1 q2 HZ HR8 HB8 HT8
  have HR9 := Lib.hid (range_of_row (HR.out _ HB9.out).2)
  obtain ⟨w9, hw9⟩ : ∃ w9, w9 = wc := ⟨_, rfl⟩
  rw [← hw9] at HR9 HB9 ⊢
  have HD9 := Lib.hid (idata_nil y w9)
  clear hw9
  go_wp2_with (first
    | ((with_reducible refine wpList_at8 (op := ⟨some 136, _, _, _, _, _⟩) ?_); refine wpList_load_wanted8 (by rfl) _ _ rfl (g + 1) 0 rfl (frmC y) _ HR9.out Try.underlying32 rfl Try.infoFr ?_)
    | fail)
  refine HD9.out.mono ?_
  rintro _ w10 ⟨rfl, hb10⟩
  have HB10 := Lib.hid (HB9.out.trans (hb10.mono HB9.out.size))
  clear hb10 HD9 HR9 HB9
  go_wp2_with fail
  refine (restart_nil w10).mono ?_
  rintro _ _ ⟨rfl, rfl⟩
  go_wp2_with fail
  refine (oepoch_nil w10).mono ?_
  rintro _ _ ⟨rfl, rfl⟩
  go_wp2_with fail
  refine (iepoch_nil w10).mono ?_
  rintro _ _ ⟨rfl, rfl⟩
  go_wp2_with fail
  refine (ofill_nil _ _ w10).mono ?_
  rintro _ _ ⟨rfl, rfl⟩
  go_wp2_with fail
  refine (oframes_nil _ _ w10).mono ?_
  rintro _ _ ⟨rfl, rfl⟩
  go_wp2_with fail
  refine (ochanged_nil 1 w10).mono ?_
  rintro _ _ ⟨rfl, rfl⟩
  go_wp2_with fail
  refine (osender_nil w10).mono ?_
  rintro _ _ ⟨rfl, rfl⟩
  go_wp2_with fail
  refine (ireceiver_nil w10).mono ?_
  rintro _ _ ⟨rfl, rfl⟩
  go_wp2
  go_ret
  exact ⟨rfl, HB.out.trans (HB10.out.mono HB.out.size)⟩
end sessNone
end Go.Proofs.Ytocdhnlffemnhaa
