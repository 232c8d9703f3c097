/- Layer 7: JournalCrashes: behind a crash a journal has what was synced, and so many records of those behind. -/
import Derived.Test.YtgcfofnlgdfmoaaJlWant
import Derived.Test.YtgcfofnlgdfmoaaJlAwake
import Derived.Test.YtgcfofnlgdfmoaaHeld
namespace Go.Proofs.Ytgcfofnlgdfmoaa
open Go.RowKit

namespace journalCrashes
set_option maxRecDepth 100000 in
set_option maxHeartbeats 1000000 in
theorem walk (A : Option Addr) (n c sync ke bi : Nat) (A2 : Option Addr) (n2 c2 : Nat) (w : World) (hr : RdW w w.heap.size A n) (hnm : n ≤ maxLen) (hnc : n ≤ c) (hsync : sync < 256) (hke : ke < 65536) (hbi : bi < 65536) (hr2 : RdW w w.heap.size A2 n2) (hnm2 : n2 ≤ maxLen) :
    Calls Try.prog 3 #[.slice A n c, .int .u8 sync, .agg #[.int .u16 ke, .int .u16 bi], .slice A2 n2 c2] w fun e w' => e = .returned (.bool true) ∧ Below w.heap.size w w' := by
  obtain ⟨i0, hi0, hz0, hz1, hz2⟩ := info_parts Try.infoSl
  obtain ⟨L, hL, hrow⟩ := rdW_list hr
  obtain ⟨M, hM, hrow2⟩ := rdW_list hr2
  have HN := Lib.hid hL
  have HR := Lib.hid hrow
  have HN2 := Lib.hid hM
  have HR2 := Lib.hid hrow2
  have hq1 : (n : Int) ≤ 9223372036854775807 := by unfold maxLen at hnm; omega
  have hq2 : (n2 : Int) ≤ 9223372036854775807 := by unfold maxLen at hnm2; omega
  obtain ⟨w0, hw0⟩ : ∃ w0, w0 = w.alloc (.cells #[.int .u16 (ke : Int), .int .u16 (bi : Int)] 25) := ⟨_, rfl⟩
  have HW := Lib.hid hw0
  have HB0 : Hid (Below w.heap.size w w0) := by show Below _ _ _; rw [hw0]; exact (Below.refl _ _).alloc (Nat.le_refl _) _
  have HX0 : Hid (w0.cell? ⟨w.heap.size, 0, none⟩ = some (.int .u16 (ke : Int))) := by show _ = _; rw [hw0, World.cell?_alloc_at _ _ _ _ rfl]; rfl
  have HX1 : Hid (w0.cell? ⟨w.heap.size, 1, none⟩ = some (.int .u16 (bi : Int))) := by show _ = _; rw [hw0, World.cell?_alloc_at _ _ _ _ rfl]; rfl
  have hbx : w.heap.size < w0.heap.size := by rw [hw0]; simp
  clear hr hL hrow hnm hr2 hM hrow2 hnm2 hw0
  go_enter Try.func3, Try.ntmps3
  go_wp2_with fail
  rw [← HW.out]
  refine (awake7_any w0).mono ?_
  rintro e w1 ⟨rfl, hb⟩
  have HB := Lib.hid hb
  clear hb
  by_cases h1 : 20 < n
  · have d1 : decide ((20 : Int) < (n : Int)) = true := decide_eq_true (by omega)
    go_wp2
    go_ret
    exact ⟨rfl, HB0.out.trans (HB.out.mono HB0.out.size)⟩
  by_cases h2 : 10 < n2
  · have d1 : decide ((20 : Int) < (n : Int)) = false := decide_eq_false (by omega)
    have d2 : decide ((10 : Int) < (n2 : Int)) = true := decide_eq_true (by omega)
    go_wp2
    go_ret
    exact ⟨rfl, HB0.out.trans (HB.out.mono HB0.out.size)⟩
  have d1 : decide ((20 : Int) < (n : Int)) = false := decide_eq_false (by omega)
  have d2 : decide ((10 : Int) < (n2 : Int)) = false := decide_eq_false (by omega)
  go_wp2_with fail
  refine (new_any _).mono ?_
  rintro e w2 ⟨rfl, h5⟩
  obtain ⟨gd, hgd⟩ : ∃ gd, gd = w1.heap.size := ⟨_, rfl⟩
  have hD2 : Disk w2 (fun k => k = gd) gd [] 0 0 := by rw [hgd]; exact h5 ▸ Disk.new w1
  have hB2 : Below w1.heap.size w1 w2 := by rw [h5]; exact (Below.refl _ _).alloc (Nat.le_refl _) _
  rw [← hgd]
  clear h5
  have HD2 := Lib.hid hD2
  have HB2 := Lib.hid hB2
  have hgdl := hD2.ltA gd rfl
  have Hgd := Lib.hid hgd
  clear hD2 hB2 hgd
  go_wp2_with fail
  refine (cnew_any _).mono ?_
  rintro e w3 ⟨rfl, hb, hz, hT⟩
  obtain ⟨g, hg⟩ : ∃ g, g = w2.heap.size := ⟨_, rfl⟩
  rw [← hg] at hT hz
  rw [← hg]
  have HD3 := Lib.hid (HD2.out.below hb)
  have HB3 : Hid (Below w0.heap.size w0 w3) := (HB.out.trans (HB2.out.mono HB.out.size)).trans (hb.mono (Nat.le_trans HB.out.size HB2.out.size))
  have HT3 := Lib.hid hT
  have Hg := Lib.hid hg
  have hg3 := hT.lt
  have hggd : g ≠ gd := by omega
  clear hb hz hT hg
  go_wp2_with fail
  refine (jopen_none nmJ w3 HD3.out nmJ_size rfl).mono ?_
  rintro e w4 ⟨jb, rfl, hjb, hJ, hb⟩
  have HD4 := Lib.hid (HD3.out.below hb)
  have HT4 := Lib.hid (HT3.out.below hb)
  have HJ4 := Lib.hid hJ
  have HB4 : Hid (Below w0.heap.size w0 w4) := HB3.out.trans (hb.mono HB3.out.size)
  have hjg : jb ≠ g := by omega
  have hjgd : jb ≠ gd := by have := HD3.out.ltA gd rfl; omega
  clear hjb hJ hb
  go_wp2_with fail
  refine (names_any w4 HD4.out).mono ?_
  rintro e w5 ⟨v5, rfl, hown, hb⟩
  obtain ⟨A5, c5, rfl⟩ := ownB_slice hown
  have HDT0 : Hid (DT w0 w5 gd g (fun k => k = gd) (joinR (L.take 0)) (joinR (L.take 0)).length 0 0 0 0) := by
    refine ⟨⟨[], 0, 0, Nat.le_refl _, Nat.le_refl _, HD4.out.below hb, .inl ⟨rfl, rfl, rfl⟩⟩, ⟨0, 0, 0, by decide, Nat.le_refl _, Nat.le_refl _, HT4.out.below hb⟩, fun i hi => ?_, fun e => hggd e, ?_, HB4.out.trans (hb.mono HB4.out.size)⟩
    · have hi : i = gd := hi
      have := HB.out.size
      have := Hgd.out
      omega
    · have := HB.out.size
      have := HB2.out.size
      have := Hg.out
      omega
  have HJ5 := Lib.hid (HJ4.out.below hb)
  have HS5 : Hid (Sml (L.take 0)) := fun c hc => by simp at hc
  clear hown hb
  obtain ⟨q, hq⟩ : ∃ q, q = sync % 20 := ⟨_, rfl⟩
  have hwq : IntKind.i64.wrap (q : Int) = q := by rw [IntKind.wrap_i64]; omega
  have hwq8 : IntKind.u8.wrap (q : Int) = q := by rw [IntKind.wrap_u8]; omega
  have ha1 : (sync : Int).tmod 20 = (q : Int) := by rw [Int.tmod_eq_emod_of_nonneg (by omega), hq]; rfl
  have ha2 : (sync : Int) % 20 = (q : Int) := by rw [hq]; rfl
  clear hq
  go_wp2_with fail
  go_loopw [14, 62] (fun sv iv wx => ∃ (k sc : Nat) (S : Nat → Prop), k ≤ n ∧ sc ≤ k ∧ sv = .int .i64 sc ∧ iv = .int .i64 k ∧ Hid (DT w0 wx gd g S (joinR (L.take k)) (joinR (L.take sc)).length k k k (104 * k)) ∧ Hid (JAt wx jb gd g nmJ) ∧ Hid (¬ S jb) ∧ Hid (Sml (L.take k))) (fun _ iv _ => n - (intOf iv).toNat)
  case atStart => exact ⟨0, 0, _, Nat.zero_le _, Nat.le_refl _, rfl, rfl, HDT0.out, HJ5.out, hjgd, HS5.out⟩
  case round =>
    obtain ⟨k, sc, S, hk, hsc, rfl, rfl, HDT, HJ, HSj, HS⟩ := hrel
    by_cases hlt : k < n
    · obtain ⟨x, hx⟩ : ∃ x, L[k]? = some x := ⟨L[k]'(by rw [← HN.out]; exact hlt), List.getElem?_eq_getElem _⟩
      obtain ⟨b, o, rfl, hbl, hrow⟩ := HR.out.row (by rw [← HN.out]; omega)
      obtain ⟨Ar, cr, hcx, hxm, hnil, hrd⟩ := hrow k x hx
      have hox : OkB x := HR.out.ok x (List.mem_iff_getElem?.2 ⟨k, hx⟩)
      have x0 := (HDT.out.bl.cell (p := ⟨b, o + k, none⟩) (by have := HB0.out.size; show b < _; omega)).trans ((HB0.out.cell (p := ⟨b, o + k, none⟩) hbl).trans hcx)
      obtain ⟨xl, hxl⟩ : ∃ xl, xl = x.length := ⟨_, rfl⟩
      rw [← hxl] at x0 hxm hnil
      have Hxl := Lib.hid hxl
      have Hx := Lib.hid hx
      have Hrd : Hid (RdB wr w0.heap.size Ar x) := (((hrd.below HB0.out).more HB0.out.size).below HDT.out.bl)
      have Hox := Lib.hid hox
      clear hcx hrd hox hrow hxl hx hxm
      by_cases h100 : 100 < xl
      · have d4 : decide ((100 : Int) < (xl : Int)) = true := decide_eq_true (by omega)
        go_wp2
        go_ret
        exact ⟨rfl, HB0.out.trans (HDT.out.bl.mono HB0.out.size)⟩
      · have d4 : decide ((100 : Int) < (xl : Int)) = false := decide_eq_false (by omega)
        have hjl := HS.out.len
        rw [List.length_take] at hjl
        go_wp2_with fail
        refine (jd_append Ar xl cr x wr HDT.out HJ.out HSj.out hjg Hxl.out (by omega) Hrd.out Hox.out (by omega) (by omega) (by omega) (by omega)).mono ?_
        rintro e w6 ⟨rfl, S6, hDT, hMv, hJ⟩
        rw [← joinR_take Hx.out] at hDT
        have HDT6 : Hid (DT w0 w6 gd g S6 (joinR (L.take (k + 1))) (joinR (L.take sc)).length (k + 1) k (k + 1) (104 * (k + 1))) := hDT.weak (Nat.le_refl _) (Nat.le_refl _) (Nat.le_refl _) (by omega)
        have HJ6 := Lib.hid hJ
        have HSj6 : Hid (¬ S6 jb) := hMv.out HSj.out HJ.out.lt
        have HS6 : Hid (Sml (L.take (k + 1))) := HS.out.step Hx.out (by rw [← Hxl.out]; omega)
        clear hDT hMv hJ hjl
        by_cases hkq : k = q
        · have d5 : ((k : Int) == (q : Int)) = true := by simp [hkq]
          go_wp2_with fail
          refine (jd_sync w6 HDT6.out HJ6.out HSj6.out (by omega)).mono ?_
          rintro e w7 ⟨rfl, S7, hDT, hMv, hJ⟩
          have HDT7 : Hid (DT w0 w7 gd g S7 (joinR (L.take (k + 1))) (joinR (L.take (k + 1))).length (k + 1) (k + 1) (k + 1) (104 * (k + 1))) := hDT
          have HJ7 := Lib.hid hJ
          have HSj7 : Hid (¬ S7 jb) := hMv.out HSj6.out HJ6.out.lt
          clear hDT hMv hJ
          go_wp2
          go_roundw
          case rel => exact ⟨k + 1, k + 1, S7, by omega, Nat.le_refl _, by go_num, by go_num, HDT7.out, HJ7.out, HSj7.out, HS6.out⟩
          case measure => simp [intOf]; omega
        · have d5 : ((k : Int) == (q : Int)) = false := by simp; omega
          have HDT7 : Hid (DT w0 w6 gd g S6 (joinR (L.take (k + 1))) (joinR (L.take sc)).length (k + 1) (k + 1) (k + 1) (104 * (k + 1))) := HDT6.out.weak (Nat.le_refl _) (by omega) (Nat.le_refl _) (Nat.le_refl _)
          go_wp2
          go_roundw
          case rel => exact ⟨k + 1, sc, S6, by omega, by omega, by go_num, by go_num, HDT7.out, HJ6.out, HSj6.out, HS6.out⟩
          case measure => simp [intOf]; omega
    · obtain rfl : k = n := by omega
      have HbX : Hid (wr.cell? ⟨w.heap.size, 0, none⟩ = some (.int .u16 (ke : Int))) := (HDT.out.bl.cell (p := ⟨w.heap.size, 0, none⟩) hbx).trans HX0.out
      have x0 := HbX.out
      have x1 := (HDT.out.bl.cell (p := ⟨w.heap.size, 1, none⟩) hbx).trans HX1.out
      go_wp2_with fail
      refine (jd_crash (n := 1) (ts := [(ke, bi)]) _ (HDT.out.beneath ((Below.refl _ _).alloc (Nat.le_refl _) _)) rfl (by decide) (fun _ => ⟨wr.heap.size, 0, rfl, by simp, fun i t ht => ?_⟩) (fun a ha _ hs => ?_) (fun t ht => ?_)).mono ?_
      · cases i with
        | zero =>
          simp at ht
          subst ht
          exact ⟨by rw [World.cell?_alloc_at _ _ _ _ rfl]; rfl, by rw [World.cell?_alloc_at _ _ _ _ rfl]; rfl⟩
        | succ i => simp at ht
      · injection ha with ha
        subst ha
        have := HDT.out.lt _ hs
        exact Nat.lt_irrefl _ this
      · simp at ht
        subst ht
        exact ⟨hke, hbi⟩
      rintro e w6 ⟨rfl, S6, hDT, hMv⟩
      have hLk : L.take k = L := List.take_of_length_le (by rw [← HN.out]; exact Nat.le_refl _)
      have hSL : Sml L := by have := HS.out; rw [hLk] at this; exact this
      have hOk := hSL.okR HR.out.ok
      have hDT : DT w0 w6 gd g S6 (tornF ⟨joinR L, (joinR (L.take sc)).length⟩ ke bi).by_ (tornF ⟨joinR L, (joinR (L.take sc)).length⟩ ke bi).syn k k k (104 * k) := by
        rw [hLk] at hDT
        exact hDT
      have hd0 := HDT.out.ok.2.1
      rw [hLk] at hd0
      obtain ⟨m, hm1, hm2, hscan⟩ := crash_scan (f := ⟨joinR L, (joinR (L.take sc)).length⟩) hOk rfl (k := sc) rfl hd0 (by rw [← HN.out]; exact hsc) ke bi
      have hkp := crash_keep (tornF_ok (f := ⟨joinR L, (joinR (L.take sc)).length⟩) (joinR_ok hOk) ke bi) hscan
      rw [← HN.out] at hm2
      obtain ⟨G, hG⟩ : ∃ G, G = L.take m := ⟨_, rfl⟩
      have hGl : G.length = m := by rw [hG, List.length_take, ← HN.out]; omega
      rw [← hG] at hscan hkp
      have hb6 := hDT.ok.2.2
      obtain ⟨tb, htb⟩ : ∃ tb, tb = (tornF ⟨joinR L, (joinR (L.take sc)).length⟩ ke bi).by_ := ⟨_, rfl⟩
      rw [← htb] at hDT hscan hkp hb6
      have HSG : Hid (Sml G) := by show Sml G; rw [hG]; exact hSL.take m
      have HGok : Hid (∀ l ∈ G, OkB l) := fun l hl => HR.out.ok l (List.mem_of_mem_take (hG ▸ hl))
      have HDT6 := Lib.hid hDT
      have Hscan := Lib.hid hscan
      have Hkp := Lib.hid hkp
      have HG := Lib.hid hG
      have HGl := Lib.hid hGl
      clear hDT hMv hLk hSL hOk hd0 hscan hkp hG hGl htb
      go_wp2_with fail
      refine (jd_open (G := G) w6 HDT6.out Hscan.out (by omega) (by omega) (by omega)).mono ?_
      rw [Hkp.out, HGl.out]
      rintro e w7 ⟨A7, c7, rfl, S7, hRs, hDT, hMv, hJ, hSj⟩
      obtain ⟨kb, hkb⟩ : ∃ kb, kb = w6.heap.size := ⟨_, rfl⟩
      rw [← hkb] at hJ hSj
      rw [← hkb]
      have HDT7 : Hid (DT w0 w7 gd g S7 (joinR (G ++ M.take 0)) (joinR G).length 20 21 2000000 3000000) := by
        have := hDT.weak (wr2 := 20) (sy2 := 21) (t2 := 2000000) (u2 := 3000000) (by omega) (by omega) (by omega) (by omega)
        rw [List.take_zero, List.append_nil]
        exact this
      have HRs := Lib.hid hRs
      have HJ7 := Lib.hid hJ
      have HSj7 := Lib.hid hSj
      have hkg : kb ≠ g := by have := HDT6.out.glt; omega
      have d7 : decide ((m : Int) < (sc : Int)) = false := decide_eq_false (by omega)
      have d8 : decide ((k : Int) < (m : Int)) = false := decide_eq_false (by omega)
      have HslL : Hid (∀ W : World, (Instr.sliceAt 22 (.slice A k c) none (some (.int .i64 m)) none).run Try.prog W = .ok (.slice A m c) W) := fun W => slL_h A k c m (m : Int) rfl (by omega) W
      clear hRs hDT hMv hJ hSj hkb
      go_wp2_with fail
      refine (same7_any A7 m c7 G A m c (L.take m) w7 HGl.out.symm (by rw [← HG.out]; exact HGl.out.symm) HRs.out.rs.rdL.1 ((HR.out.rdL (HB0.out.trans (HDT7.out.bl.mono HB0.out.size))).pre m) (by omega)).mono ?_
      rintro e w8 ⟨he, hb⟩
      have he : e = .returned (.bool true) := by rw [he, HG.out]; simp
      subst he
      have HDT8 := Lib.hid (HDT7.out.beneath hb)
      have HJ8 := Lib.hid (HJ7.out.below hb)
      obtain ⟨X, hX, hX1, hX2⟩ := HRs.out.below hb
      have hba : Below w8.heap.size w8 (w8.alloc (.cells #[] 37)) := (Below.refl _ _).alloc (Nat.le_refl _) _
      have hXo := hX.own
      rw [HGl.out] at hXo
      have Hs8 : Hid (Src (w8.alloc (.cells #[] 37)) A7 m 1 (X.map rowC)) := src_of_own1 (ownB_below hXo hba)
      have Hown8 : Hid ((w8.alloc (.cells #[] 37)).ownsRow 0 37 1 (.slice (some ⟨w8.heap.size, 0, none⟩) 0 0) 0 []) := World.ownsRow_made w8 #[] 0 (Nat.zero_le _) (by decide) rfl
      have HX := Lib.hid hX
      have HX1 := Lib.hid hX1
      have Hba := Lib.hid hba
      clear hb hX hX1 hX2 hba hXo
      go_wp2_with (at_builtin; (
        refine wpList_append_src (base := 0) rfl _ _ rfl Try.underlying22 hi0 hz0 hz1 hz2 rfl (by decide) rfl Hown8.out rfl Hs8.out (rowC_one X) (by unfold maxLen; omega) (by omega) (Nat.zero_le _) ?_
        intro v9 w9 ho9 hg9 hb9
        have hlow : Below w8.heap.size w8 w9 := Hba.out.trans ⟨hg9.os, hg9.tape, hg9.output, hg9.size, fun k hk => hg9.block k (Nat.lt_of_lt_of_le hk Hba.out.size) (fun e => by injection e with e; have e : k = w8.heap.size := e; omega)⟩
        have HDT9 := Lib.hid (HDT8.out.beneath hlow)
        have HJ9 := Lib.hid (HJ8.out.below hlow)
        rw [show 0 + m = 0 + G.length from by rw [HGl.out]] at ho9
        have HRs9 : Hid (RsS S7 w9 g v9 (G ++ M.take 0)) := by
          have := RsS.copy HX.out HX1.out HDT8.out.lt HDT8.out.glt Hba.out (fun k hk => by injection hk with hk; have hk : w8.heap.size = k := hk; omega) hg9 hb9 ho9
          show RsS _ _ _ _ _
          rw [List.take_zero, List.append_nil]
          exact this
        have HvB9 : Hid (∀ i, v9.ownBlock = some i → w0.heap.size ≤ i ∧ i ≠ kb) := own_vP (fun i hi => by injection hi with hi; have hi : w8.heap.size = i := hi; have := HDT8.out.bl.size; have := HJ8.out.lt; omega) hb9 (by have := HDT8.out.bl.size; have := Hba.out.size; have := HJ8.out.lt; omega)
        clear hlow ho9 hg9 hb9))
      obtain ⟨A9, c9, rfl⟩ : ∃ A c, v9 = .slice A (m + 0) c := by
        obtain ⟨A, c, h⟩ := HRs9.out.rs.slice
        rw [List.length_append, HGl.out, List.length_take, Nat.zero_min] at h
        exact ⟨A, c, h⟩
      have HSM0 : Hid (Sml (M.take 0)) := fun c hc => by simp at hc
      go_wp2_with fail
      go_loopw [19, 130] (fun wv iv wx => ∃ (k2 : Nat) (S : Nat → Prop), k2 ≤ n2 ∧ iv = .int .i64 k2 ∧ Hid (DT w0 wx gd g S (joinR (G ++ M.take k2)) (joinR G).length (20 + k2) 21 (2000000 + k2) (3000000 + 104 * k2)) ∧ Hid (JAt wx kb gd g nmJ) ∧ Hid (¬ S kb) ∧ Hid (RsS S wx g wv (G ++ M.take k2)) ∧ Hid (∀ i, wv.ownBlock = some i → w0.heap.size ≤ i ∧ i ≠ kb) ∧ Hid (Sml (M.take k2))) (fun _ iv _ => n2 - (intOf iv).toNat)
      case atStart => exact ⟨0, S7, Nat.zero_le _, rfl, HDT9.out, HJ9.out, HSj7.out, HRs9.out, HvB9.out, HSM0.out⟩
      case round =>
        obtain ⟨k2, S, hk2, rfl, HDT, HJ, HSj, HRs, HvB, HSM⟩ := hrel
        obtain ⟨A', c', hAc⟩ := HRs.out.rs.slice
        rw [List.length_append, HGl.out, List.length_take, ← HN2.out, show min k2 n2 = k2 by omega] at hAc
        subst hAc
        by_cases hlt : k2 < n2
        · obtain ⟨x, hx⟩ : ∃ x, M[k2]? = some x := ⟨M[k2]'(by rw [← HN2.out]; exact hlt), List.getElem?_eq_getElem _⟩
          obtain ⟨b, o, rfl, hbl, hrow⟩ := HR2.out.row (by rw [← HN2.out]; omega)
          obtain ⟨Ar, cr, hcx, hxm, hnil, hrd⟩ := hrow k2 x hx
          have hox : OkB x := HR2.out.ok x (List.mem_iff_getElem?.2 ⟨k2, hx⟩)
          have x0 := (HDT.out.bl.cell (p := ⟨b, o + k2, none⟩) (by have := HB0.out.size; show b < _; omega)).trans ((HB0.out.cell (p := ⟨b, o + k2, none⟩) hbl).trans hcx)
          obtain ⟨xl, hxl⟩ : ∃ xl, xl = x.length := ⟨_, rfl⟩
          rw [← hxl] at x0 hxm hnil
          have Hxl := Lib.hid hxl
          have Hx := Lib.hid hx
          have Hrd0 : Hid (RdB w0 w0.heap.size Ar x) := (hrd.below HB0.out).more HB0.out.size
          have Hrd : Hid (RdB wr w0.heap.size Ar x) := Hrd0.out.below HDT.out.bl
          have Hnil := Lib.hid hnil
          have Hox := Lib.hid hox
          clear hcx hrd hox hrow hxl hx hxm hnil
          by_cases h100 : 100 < xl
          · have d4 : decide ((100 : Int) < (xl : Int)) = true := decide_eq_true (by omega)
            go_wp2
            go_ret
            exact ⟨rfl, HB0.out.trans (HDT.out.bl.mono HB0.out.size)⟩
          · have d4 : decide ((100 : Int) < (xl : Int)) = false := decide_eq_false (by omega)
            have hjl := (HSG.out.app HSM.out).len
            rw [List.length_append, List.length_take, HGl.out] at hjl
            go_wp2_with fail
            refine (jd_append Ar xl cr x wr HDT.out HJ.out HSj.out hkg Hxl.out (by omega) Hrd.out Hox.out (by omega) (by omega) (by omega) (by omega)).mono ?_
            rintro e w6 ⟨rfl, S6, hDT, hMv, hJ⟩
            rw [← joinR_step Hx.out] at hDT
            have HDT6 : Hid (DT w0 w6 gd g S6 (joinR (G ++ M.take (k2 + 1))) (joinR G).length (20 + (k2 + 1)) 21 (2000000 + (k2 + 1)) (3000000 + 104 * (k2 + 1))) := hDT.weak (by omega) (Nat.le_refl _) (by omega) (by omega)
            have HJ6 := Lib.hid hJ
            have HSj6 : Hid (¬ S6 kb) := hMv.out HSj.out HJ.out.lt
            have HSM6 : Hid (Sml (M.take (k2 + 1))) := HSM.out.step Hx.out (by rw [← Hxl.out]; omega)
            have hba : Below w6.heap.size w6 (w6.alloc (.cells #[.slice Ar xl cr] 37)) := (Below.refl _ _).alloc (Nat.le_refl _) _
            obtain ⟨X, hX, hX1, hX2⟩ := (HRs.out.mv hMv).below hba
            have hlen : (G ++ M.take k2).length = m + k2 := by rw [List.length_append, HGl.out, List.length_take, ← HN2.out]; omega
            have Ho6 := Lib.hid hX.own
            rw [hlen] at Ho6
            have Hs6 : Hid (Src (w6.alloc (.cells #[.slice Ar xl cr] 37)) (some ⟨w6.heap.size, 0, none⟩) 1 1 [.slice Ar xl cr]) := src_cell _ _ _
            have HX := Lib.hid hX
            have HX1 := Lib.hid hX1
            have HX2 := Lib.hid hX2
            have Hba := Lib.hid hba
            have Hlen := Lib.hid hlen
            clear hDT hMv hJ hjl hba hX hX1 hX2 hlen
            go_wp2_with (at_builtin; (
              refine wpList_append_src (base := 0) rfl _ _ rfl Try.underlying22 hi0 hz0 hz1 hz2 rfl (by decide) rfl Ho6.out rfl Hs6.out (fun u hu => by simp at hu; rw [hu]; rfl) (by unfold maxLen; omega) (by omega) (Nat.zero_le _) ?_
              intro v9 w9 ho9 hg9 hb9
              have hlow : Below w0.heap.size w0 w9 := (HDT6.out.bl.trans (Hba.out.mono HDT6.out.bl.size)).trans ⟨hg9.os, hg9.tape, hg9.output, hg9.size, fun k hk => hg9.block k (Nat.lt_of_lt_of_le hk (Nat.le_trans HDT6.out.bl.size Hba.out.size)) (fun e => by have := (HvB.out k e.symm).1; omega)⟩
              rw [← Hlen.out] at ho9
              have HRs9 : Hid (RsS S6 w9 g v9 (G ++ M.take (k2 + 1))) := by
                have := RsS.app HX.out HX1.out HX2.out (fun k hk => Nat.lt_of_lt_of_le (HDT6.out.lt k hk) Hba.out.size) (Nat.lt_of_lt_of_le HDT6.out.glt Hba.out.size) Hxl.out Hnil.out (Hrd0.out.below (HDT6.out.bl.trans (Hba.out.mono HDT6.out.bl.size))) (Nat.le_trans HDT6.out.bl.size Hba.out.size) Hox.out HDT6.out.SB HDT6.out.gB (fun i hi => (HvB.out i hi).1) ho9 hg9 hb9
                show RsS _ _ _ _ _
                rw [List.append_assoc] at this
                rw [List.take_add_one, Hx.out]
                exact this
              have HvB9 : Hid (∀ i, v9.ownBlock = some i → w0.heap.size ≤ i ∧ i ≠ kb) := own_vP HvB.out hb9 ⟨Nat.le_trans HDT6.out.bl.size Hba.out.size, fun e => by have := HJ6.out.lt; have := Hba.out.size; omega⟩
              have hon : Only (fun k => (Value.slice A' (m + k2) c').ownBlock = some k) w6 w9 := (Only.of_below Hba.out _).trans ⟨hg9.os, hg9.tape, hg9.output, hg9.size, fun k hk hne => hg9.block k hk (fun e => hne e.symm)⟩ (fun i hi => .inl hi)
              have HDT9 := Lib.hid (HDT6.out.apart hon hlow (fun k hk => HX2.out k hk) (fun e => HX.out.vg e))
              have HJ9 := Lib.hid (HJ6.out.only hon (fun e => (HvB.out kb e).2 rfl))
              clear hlow ho9 hg9 hb9 hon))
            refine ⟨⟨_, _, _, _, _, _, _, _, _, _, _, _, _, _, _, _, _, _, _, ?rel, rfl⟩, ?measure⟩
            case rel => exact ⟨k2 + 1, S6, by omega, by go_num, HDT9.out, HJ9.out, HSj6.out, HRs9.out, HvB9.out, HSM6.out⟩
            case measure => simp [intOf]; omega
        · obtain rfl : k2 = n2 := by omega
          go_wp2_with fail
          have hMk : M.take k2 = M := List.take_of_length_le (by rw [← HN2.out]; exact Nat.le_refl _)
          obtain ⟨R, hR⟩ : ∃ R, R = G ++ M := ⟨_, rfl⟩
          have HSR : Hid (Sml R) := by have := HSM.out; rw [hMk] at this; show Sml R; rw [hR]; exact HSG.out.app this
          have HokR : Hid (∀ l ∈ R, OkB l) := fun l hl => by rw [hR] at hl; exact (List.mem_append.1 hl).elim (HGok.out l) (HR2.out.ok l)
          have hRl : R.length = m + k2 := by rw [hR, List.length_append, HGl.out, ← HN2.out]
          obtain ⟨r, hr⟩ : ∃ r, r = m + k2 := ⟨_, rfl⟩
          rw [← hr] at hRl HRs ⊢
          have hr30 : r ≤ 30 := by omega
          have HDT0 : Hid (DT w0 wr gd g S (joinR R) (joinR G).length 30 21 2000010 3001040) := by
            have := HDT.out.weak (wr2 := 30) (sy2 := 21) (t2 := 2000010) (u2 := 3001040) (by omega) (by omega) (by omega) (by omega)
            rw [hMk, ← hR] at this
            exact this
          have HRs0 : Hid (RsS S wr g (.slice A' r c') R) := by have := HRs.out; rw [hMk, ← hR] at this; exact this
          have HRl := Lib.hid hRl
          clear HDT HRs hMk hR hRl hr HSM
          go_wp2_with fail
          refine (jd_sync wr HDT0.out HJ.out HSj.out (by decide)).mono ?_
          rintro e w6 ⟨rfl, S6, hDT, hMv, hJ⟩
          have HDT6 := Lib.hid hDT
          have HRs6 := Lib.hid (HRs0.out.mv hMv)
          clear hDT hMv hJ
          go_wp2_with fail
          refine (jd_crash (n := 0) (ts := []) w6 HDT6.out rfl (by decide) (fun h => absurd h (by decide)) (fun a ha => by cases ha) (fun t ht => by cases ht)).mono ?_
          rintro e w7 ⟨rfl, S7', hDT, hMv⟩
          have hDT : DT w0 w7 gd g S7' (joinR R) (joinR R).length 30 22 2000010 3001040 := by
            rw [show tornF ⟨joinR R, (joinR R).length⟩ (tearAt [] 0).1 (tearAt [] 0).2 = ⟨joinR R, (joinR R).length⟩ from tornF_full _] at hDT
            exact hDT
          have HDT7' := Lib.hid hDT
          have HRs7 := Lib.hid (HRs6.out.mv hMv)
          have hjr := HSR.out.len
          rw [HRl.out] at hjr
          clear hDT hMv
          go_wp2_with fail
          refine (jd_open (G := R) w7 HDT7'.out (scanJ_full (HSR.out.okR HokR.out)) (by decide) (by decide) (by decide)).mono ?_
          rw [HRl.out, List.take_length]
          rintro e w8 ⟨A8, c8, rfl, S8, hRs8, hDT, hMv, hJ, hSj⟩
          obtain ⟨mb, hmb⟩ : ∃ mb, mb = w7.heap.size := ⟨_, rfl⟩
          rw [← hmb] at hJ hSj
          rw [← hmb]
          have HDT8' := Lib.hid hDT
          have HRs8 := Lib.hid hRs8
          have HW8 := Lib.hid (HRs7.out.mv hMv)
          have HJ8' := Lib.hid hJ
          clear hRs8 hDT hMv hJ hSj hmb
          go_wp2_with fail
          go_loopw [25, 159] (fun nv iv wx => ∃ k3 : Nat, k3 ≤ r ∧ iv = .int .i64 k3 ∧ nv = .int .i64 ((joinR (R.take k3)).length : Nat) ∧ Hid (wx = w8)) (fun _ iv _ => r - (intOf iv).toNat)
          case atStart => exact ⟨0, Nat.zero_le _, rfl, by simp [joinR], rfl⟩
          case round =>
            obtain ⟨k3, hk3, rfl, rfl, hw8⟩ := hrel
            have hw := hw8.out.symm
            subst hw
            clear hw8
            by_cases hlt : k3 < r
            · obtain ⟨x, hx⟩ : ∃ x, R[k3]? = some x := ⟨R[k3]'(by rw [HRl.out]; exact hlt), List.getElem?_eq_getElem _⟩
              obtain ⟨b, o, rfl, hbl, hrow⟩ := HRs8.out.rs.rdL.1 (by rw [HRl.out]; omega)
              obtain ⟨Ar, cr, hcx, hrd, hnil, hox⟩ := hrow k3 x hx
              have hs3 := joinR_take hx
              have hl3 := congrArg List.length hs3
              rw [List.length_append, laidR_length] at hl3
              have hb3 := joinR_take_le R k3
              have hx100 := HSR.out x (List.mem_iff_getElem?.2 ⟨k3, hx⟩)
              obtain ⟨xl, hxl⟩ : ∃ xl, xl = x.length := ⟨_, rfl⟩
              rw [← hxl] at hcx hl3 hx100
              obtain ⟨s3, hs3⟩ : ∃ s3, s3 = (joinR (R.take k3)).length := ⟨_, rfl⟩
              obtain ⟨s4, hs4⟩ : ∃ s4, s4 = (joinR (R.take (k3 + 1))).length := ⟨_, rfl⟩
              rw [← hs3] at hl3 hb3 ⊢
              rw [← hs4] at hl3
              have hw1 : IntKind.i64.wrap ((xl : Int) + 8) = ((xl + 8 : Nat) : Int) := by rw [IntKind.wrap_i64]; omega
              have hw2 : IntKind.i64.wrap ((s3 : Int) + ((xl + 8 : Nat) : Int)) = (s4 : Int) := by rw [IntKind.wrap_i64]; omega
              have Hs4 := Lib.hid hs4
              have Hl3 := Lib.hid hl3
              clear hrow hx hxl hs3 hs4 hl3 hox hnil hrd
              go_wp2
              go_roundw
              case rel => exact ⟨k3 + 1, by omega, by go_num, by rw [← Hs4.out]; have := Hl3.out; congr 1; omega, trivial⟩
              case measure => simp [intOf]; omega
            · obtain rfl : k3 = r := by omega
              have hRt : R.take k3 = R := List.take_of_length_le (by rw [HRl.out]; exact Nat.le_refl _)
              rw [hRt]
              clear hRt
              go_wp2_with fail
              refine (same7_any A8 k3 c8 R A' k3 c' R w8 HRl.out.symm HRl.out.symm HRs8.out.rs.rdL.1 HW8.out.rs.rdL.1 (by omega)).mono ?_
              rintro e w9' ⟨he, hb⟩
              have he : e = .returned (.bool true) := by rw [he]; simp
              subst he
              have HDT9' := Lib.hid (HDT8'.out.beneath hb)
              have HJ9' := Lib.hid (HJ8'.out.below hb)
              clear hb
              go_wp2_with fail
              refine (jd_size w9' HDT9'.out HJ9'.out).mono ?_
              rintro e wa ⟨rfl, hb⟩
              have HJa := Lib.hid (HJ9'.out.below hb)
              have HBa := Lib.hid ((HB0.out.trans (HDT9'.out.bl.mono HB0.out.size)).trans (hb.mono (Nat.le_trans HB0.out.size HDT9'.out.bl.size)))
              clear hb
              go_wp2_with fail
              refine (jname_any wa HJa.out).mono ?_
              rintro e wb ⟨rfl, rfl⟩
              go_wp2
              go_ret
              exact ⟨rfl, HBa.out⟩
end journalCrashes
end Go.Proofs.Ytgcfofnlgdfmoaa
