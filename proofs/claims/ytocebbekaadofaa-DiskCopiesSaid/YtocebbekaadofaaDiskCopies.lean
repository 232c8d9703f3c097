/- Layer 6: DiskCopies' walk. -/
import Derived.Test.YtocebbekaadofaaDkActs
import Derived.Test.YtocebbekaadofaaDkCopy
import Derived.Test.YtocebbekaadofaaDkAwake
namespace Go.Proofs.Ytocebbekaadofaa
open Go.RowKit Go.Maps

theorem Disk.lt_ {w : World} {S : Nat → Prop} {g wr sy : Nat} {L : List (ByteArray × Fl)} (h : Disk w S g L wr sy) : ∀ i, S i → i < w.heap.size := by
  obtain ⟨_, _, _, h1, _⟩ := h; exact h1.lt
abbrev nmC : ByteArray := ⟨#[99, 111, 112, 121]⟩
theorem nmC_value : valueB nmC = true := by decide +kernel
theorem nmC_size : nmC.size ≤ maxLen := by decide +kernel
/-- the three names -/
def isABS (s : ByteArray) : Bool := eqS s (nmOf 0) || eqS s (nmOf 1) || eqS s (nmOf 2)
theorem abs_of (k : Nat) : isABS (nmOf (k % 3 % 4)) = true := by
  have : k % 3 % 4 = 0 ∨ k % 3 % 4 = 1 ∨ k % 3 % 4 = 2 := by omega
  rcases this with h | h | h <;> rw [h] <;> decide +kernel
theorem abs_value (k : Nat) : valueB (nmOf (k % 3 % 4)) = true := by
  have : k % 3 % 4 = 0 ∨ k % 3 % 4 = 1 ∨ k % 3 % 4 = 2 := by omega
  rcases this with h | h | h <;> rw [h] <;> decide +kernel
theorem abs_size (k : Nat) : (nmOf (k % 3 % 4)).size ≤ maxLen := by
  have : k % 3 % 4 = 0 ∨ k % 3 % 4 = 1 ∨ k % 3 % 4 = 2 := by omega
  rcases this with h | h | h <;> rw [h] <;> decide +kernel
/-- the files that there are after k rounds -/
def Small (L : List (ByteArray × Fl)) (k : Nat) : Prop := ∀ p ∈ L, isABS p.1 = true ∧ p.2.by_.length ≤ 100 * k
theorem Small.had {L : List (ByteArray × Fl)} {k : Nat} (h : Small L k) (s : ByteArray) : (had L s).by_.length ≤ 100 * k := by
  unfold Proofs.Ytocebbekaadofaa.had
  cases e : findP L s with
  | none => simp
  | some f => exact (h _ (findP_some e)).2
theorem Small.put {L : List (ByteArray × Fl)} {k : Nat} (h : Small L k) {s : ByteArray} {f : Fl} (hs : isABS s = true) (hf : f.by_.length ≤ 100 * (k + 1)) : Small (putP L s f) (k + 1) := fun p hp => by
  rcases mem_putP.1 hp with rfl | ⟨hp, _⟩
  · exact ⟨hs, hf⟩
  · have := h p hp; exact ⟨this.1, by omega⟩
theorem Small.sync {L : List (ByteArray × Fl)} {k : Nat} (h : Small L k) {s : ByteArray} {f : Fl} (hf : findP L s = some f) (n : Nat) : Small (putP L s ⟨f.by_, n⟩) k := fun p hp => by
  rcases mem_putP.1 hp with rfl | ⟨hp, _⟩
  · have := h _ (findP_some hf); exact this
  · exact h p hp
namespace diskCopies

set_option maxRecDepth 100000 in
set_option maxHeartbeats 4000000 in
theorem walk (A : Option Addr) (n c : Nat) (MA : Option Addr) (mn mc : Nat) (ml : List Nat) (w : World) (hr : RdA w A n) (hnm : n ≤ maxLen) (hmn : mn = ml.length) (hmr : RdB w w.heap.size MA ml) (hmo : OkB ml) :
    Calls Try.prog 5 #[.slice A n c, .slice MA mn mc] w fun e w' => e = .returned (.bool true) ∧ Below w.heap.size w w' := by
  have HR := Lib.hid hr
  have HMn := Lib.hid hmn
  have HMr := Lib.hid hmr
  have HMo := Lib.hid hmo
  have HNm := Lib.hid hnm
  clear hr hmn hmr hmo hnm
  go_enter Try.func5, Try.ntmps5
  go_wp2_with fail
  refine (awake_any w).mono ?_
  rintro e w1 ⟨rfl, hb⟩
  have HB := Lib.hid hb
  clear hb
  by_cases h1 : 100 < mn
  · have d1 : decide ((100 : Int) < (mn : Int)) = true := decide_eq_true (by omega)
    go_wp2
    go_ret
    exact ⟨rfl, HB.out⟩
  · have d1 : decide ((100 : Int) < (mn : Int)) = false := decide_eq_false (by omega)
    go_wp2_with fail
    refine (new_any _).mono ?_
    rintro e w2 ⟨rfl, h5⟩
    have D2 := Lib.hid (h5 ▸ Disk.new w1 : Disk w2 (fun k => k = w1.heap.size) w1.heap.size [] 0 0)
    have HB2 := Lib.hid (h5 ▸ HB.out.alloc HB.out.size _ : Below w.heap.size w w2)
    have hg := HB.out.size
    have hnm2 : (n : Int) ≤ 9223372036854775807 := by have := HNm.out; unfold maxLen at this; omega
    clear h5
    go_wp2
    go_loopw [26] (fun iv wr => ∃ (k : Nat) (L : List (ByteArray × Fl)) (sy : Nat) (S : Nat → Prop), k ≤ n ∧ k ≤ 31 ∧ iv = .int .i64 k ∧ L.length ≤ k ∧ sy ≤ k ∧ Hid (Small L k) ∧
        Hid (Disk wr S w1.heap.size L k sy) ∧ Hid (∀ i, S i → w.heap.size ≤ i) ∧ Hid (Below w.heap.size w wr)) (fun iv _ => n - (intOf iv).toNat)
    case atStart => exact ⟨0, [], 0, _, Nat.zero_le _, Nat.zero_le _, rfl, Nat.le_refl _, Nat.le_refl _, (fun _ h => nomatch h), D2.out, (fun i hi => by subst hi; exact hg), HB2.out⟩
    case round =>
      obtain ⟨k, L, sy, S, hk, hk31, rfl, hLk, hsy, HM, Hd, HSb, Hbl⟩ := hrel
      by_cases hlt : k < n
      · obtain ⟨b, o, rfl, hbl, hrow⟩ := HR.out (by omega)
        obtain ⟨x, hxc, hxo⟩ := hrow k hlt
        have hblr : b < wr.heap.size := Nat.lt_of_lt_of_le hbl Hbl.out.size
        have cx : ∀ j v, (actC x)[j]? = some v → wr.cell? ⟨b, o + k * 8 + j, none⟩ = some v := fun j v hv => (Hbl.out.cell (p := ⟨b, o + k * 8 + j, none⟩) hbl).trans (hxc j v hv)
        have x0 := cx 0 _ rfl
        have x1 := cx 1 _ rfl
        have x2 := cx 2 _ rfl
        have x3 := cx 3 _ rfl
        have x4 := cx 4 _ rfl
        have x5 := cx 5 _ rfl
        have x6 := cx 6 _ rfl
        have x7 := cx 7 _ rfl
        rw [Nat.add_zero] at x0
        have HX := Lib.hid (hxo.below (show Below w.heap.size w wr from Hbl.out))
        clear hrow hxc hxo cx
        by_cases hbrk : 30 < k ∨ 100 < x.bn
        · have Hd' := Lib.hid (Hd.out.below ((Below.refl _ _).alloc (Nat.le_refl _) (.cells #[.int .u8 x.kd, .int .u8 x.a, .int .u8 x.b, .slice x.bA x.bn x.bc, .int .i64 x.n, .string x.nm, .bool x.raw, .slice x.tA x.tn x.tc] 33)))
          have Hbl' := Lib.hid (Hbl.out.alloc Hbl.out.size (.cells #[.int .u8 x.kd, .int .u8 x.a, .int .u8 x.b, .slice x.bA x.bn x.bc, .int .i64 x.n, .string x.nm, .bool x.raw, .slice x.tA x.tn x.tc] 33))
          rcases Nat.lt_or_ge 30 k with hk30 | hk30
          · have e1 : decide ((30 : Int) < (k : Int)) = true := decide_eq_true (by omega)
            clear hbrk
            go_wp2_with fail
            clear HX x0 x1 x2 x3 x4 x5 x6 x7 Hd Hbl hblr
            generalize wr.alloc (.cells #[.int .u8 x.kd, .int .u8 x.a, .int .u8 x.b, .slice x.bA x.bn x.bc, .int .i64 x.n, .string x.nm, .bool x.raw, .slice x.tA x.tn x.tc] 33) = wo at *
            have Hd := Hd'
            have Hbl := Hbl'
            clear Hd' Hbl'
            refine (copy_any _ Hd.out).mono ?_
            rintro e w3 ⟨g2, S2, rfl, c3, hb, hS2⟩
            have D3 := Lib.hid (Hd.out.below hb)
            have C3 := Lib.hid c3
            have HB3 := Lib.hid (Hbl.out.trans (hb.mono Hbl.out.size))
            have HSd := Lib.hid (fun i hi => (Hd.out.lt_ i hi) : ∀ i, S i → i < wo.heap.size)
            have HS2 := Lib.hid hS2
            have HZ3 := Lib.hid hb.size
            clear hb c3 hS2
            go_wp2_with fail
            refine (names_any _ D3.out).mono ?_
            rintro e w4 ⟨v, rfl, ho, hb⟩
            obtain ⟨V, vc, rfl⟩ := ownB_slice ho
            have HO := Lib.hid ho
            have D4 := Lib.hid (D3.out.below hb)
            have C4 := Lib.hid (C3.out.below hb)
            have HB4 := Lib.hid (HB3.out.trans (hb.mono HB3.out.size))
            have HLf := Lib.hid D3.out.few
            have HZ4 := Lib.hid hb.size
            clear hb ho
            go_wp2
            go_loopw [67] (fun iv w5 => ∃ (k : Nat), k ≤ L.length ∧ iv = .int .i64 k ∧ Hid (Below w4.heap.size w4 w5)) (fun iv _ => L.length - (intOf iv).toNat)
            case atStart => exact ⟨0, Nat.zero_le _, rfl, Below.refl _ _⟩
            case round =>
              obtain ⟨j, hj, rfl, Hb5⟩ := hrel
              have D5 := Lib.hid (D4.out.below Hb5.out)
              have C5 := Lib.hid (C4.out.below Hb5.out)
              have hLf := HLf.out
              by_cases hlt : j < L.length
              · obtain ⟨s, f, hLk⟩ : ∃ s f, L[j]? = some (s, f) := ⟨L[j].1, L[j].2, List.getElem?_eq_getElem hlt⟩
                have hfd := find_at D5.out.rise hLk
                have hsn := D5.out.name_le _ (findP_some hfd)
                obtain ⟨r, cap, hV, hrb, hrl⟩ := HO.out.form (by omega)
                injection hV with hV1 hV2 hV3
                subst hV1
                subst hV3
                clear hV2
                have hnm1 : w4.cell? ⟨r, j, none⟩ = some (.string s) := by
                  have := HO.out.cells (g := r) rfl j (.string s) (by unfold nmCells; rw [List.getElem?_map, hLk]; rfl)
                  rw [Addr.add_lit] at this
                  rw [← this]
                  congr 2
                  omega
                have hnm2 := (Hb5.out.cell (p := ⟨r, j, none⟩) hrl).trans hnm1
                have hfm : f.by_.length ≤ 1048576 := by
                  obtain ⟨E, mo, hE, _, q2⟩ := D5.out
                  obtain ⟨x, hx, hxf⟩ := fl_some hE hfd
                  have := (q2.each _ (findP_some hx)).max
                  rw [← hxf]; exact this
                have HFd := Lib.hid hfd
                have HSn := Lib.hid hsn
                clear hLk hfd hsn hnm1
                go_wp2_with fail
                refine (read_some _ D5.out HSn.out HFd.out).mono ?_
                rintro e w6 ⟨v1, rfl, o6, b6⟩
                obtain ⟨A6, c6, rfl⟩ := ownB_slice o6
                have D6 := Lib.hid (D5.out.below b6)
                have C6 := Lib.hid (C5.out.below b6)
                have Hb6 := Lib.hid (Hb5.out.trans (b6.mono Hb5.out.size))
                have O6 := Lib.hid o6
                clear o6 b6
                go_wp2_with fail
                refine (read_some _ C6.out HSn.out HFd.out).mono ?_
                rintro e w7 ⟨v2, rfl, o7, b7⟩
                obtain ⟨A7, c7, rfl⟩ := ownB_slice o7
                have D7 := Lib.hid (D6.out.below b7)
                have C7 := Lib.hid (C6.out.below b7)
                have Hb7 := Lib.hid (Hb6.out.trans (b7.mono Hb6.out.size))
                obtain ⟨r1, r2, r3⟩ := rdB_of_own (ownB_below O6.out b7)
                obtain ⟨s1, s2, s3⟩ := rdB_of_own o7
                have hcv1 := conv_any (w := w7) (n := f.by_.length) (c := c6) r1 r2 r3
                have hcv2 := conv_any (w := w7) (n := f.by_.length) (c := c7) s1 s2 s3
                clear o7 b7 r1 r2 r3 s1 s2 s3
                go_wp2_with fail
                refine (loose_some _ C7.out HSn.out HFd.out).mono ?_
                rintro e w8 ⟨rfl, b8⟩
                have D8 := Lib.hid (D7.out.below b8)
                have Hb8 := Lib.hid (Hb7.out.trans (b8.mono Hb7.out.size))
                clear b8
                go_wp2_with fail
                refine (loose_some _ D8.out HSn.out HFd.out).mono ?_
                rintro e w9 ⟨rfl, b9⟩
                have Hb9 := Lib.hid (Hb8.out.trans (b9.mono Hb8.out.size))
                clear b9
                go_wp2
                go_roundw
                case rel => exact ⟨j + 1, by omega, by go_num, Hb9.out⟩
                case measure => simp [intOf]; omega
              · obtain rfl : j = L.length := by omega
                have hd0 : decide (L.length < L.length) = false := decide_eq_false (Nat.lt_irrefl _)
                have hnoc : findP L nmC = none := by
                  cases e : findP L nmC with
                  | none => rfl
                  | some f => exact absurd (show isABS nmC = true from (HM.out _ (findP_some e)).1) (by decide +kernel)
                have hhad : had L nmC = ⟨[], 0⟩ := by unfold had; rw [hnoc]; rfl
                have HNoc := Lib.hid hnoc
                have HHad := Lib.hid hhad
                clear hnoc hhad
                go_wp2_with fail
                refine (append_ok (l := ml) _ C5.out nmC_value nmC_size (fun _ => by omega) HMn.out HMo.out (by rw [HHad.out]; show 0 + mn ≤ _; omega) ((HMr.out.below (HB4.out.trans (Hb5.out.mono HB4.out.size))).more (HB4.out.trans (Hb5.out.mono HB4.out.size)).size) (by decide)).mono ?_
                rintro e w6 ⟨rfl, S6, c6, st6⟩
                rw [HHad.out] at c6
                have HbW := HB4.out.trans (Hb5.out.mono HB4.out.size)
                have hdis5 : ∀ i, S i → ¬ S2 i := fun i hi hs => by have := HSd.out i hi; have := HS2.out i hs; omega
                have D6 := Lib.hid (D5.out.keep st6.only hdis5)
                have hsz5 : wo.heap.size ≤ wr.heap.size := Nat.le_trans (Nat.le_trans HZ3.out HZ4.out) Hb5.out.size
                have hdis6 : ∀ i, S i → ¬ S6 i := fun i hi hs => by
                  rcases st6.new i hs with h | h
                  · exact hdis5 i hi h
                  · have := HSd.out i hi; omega
                have hlow6 : ∀ i, S6 i → w.heap.size ≤ i := fun i hs => by
                  rcases st6.new i hs with h | h
                  · exact Nat.le_trans Hbl.out.size (HS2.out i h)
                  · exact Nat.le_trans HbW.size h
                have HB6 := Lib.hid (HbW.trans (st6.only.below HbW.size (fun i hs => Nat.le_trans Hbl.out.size (HS2.out i hs))))
                have C6 := Lib.hid c6
                have Hdis6 := Lib.hid hdis6
                have Hlow6 := Lib.hid hlow6
                clear c6 st6 hdis5 hdis6 hlow6 HbW hsz5
                go_wp2_with fail
                refine (crash_any (ts := []) _ C6.out rfl (by decide) (fun h => absurd h (by decide)) (fun _ _ h => absurd h (by decide)) (fun _ h => absurd h (by simp))).mono ?_
                rintro e w7 ⟨rfl, S7, c7, st7⟩
                have D7 := Lib.hid (D6.out.keep st7.only Hdis6.out)
                have HB7 := Lib.hid (HB6.out.trans (st7.only.below HB6.out.size Hlow6.out))
                have C7 := Lib.hid c7
                clear c7 st7
                go_wp2_with fail
                refine (copy_any _ D7.out).mono ?_
                rintro e w8 ⟨g8, S8, rfl, c8, b8, _⟩
                have D8 := Lib.hid (D7.out.below b8)
                have C8 := Lib.hid (C7.out.below b8)
                have K8 := Lib.hid c8
                have HB8 := Lib.hid (HB7.out.trans (b8.mono HB7.out.size))
                clear b8 c8
                go_wp2_with fail
                refine (counts_some _ K8.out).mono ?_
                rintro e w9 ⟨rfl, b9⟩
                have D9 := Lib.hid (D8.out.below b9)
                have C9 := Lib.hid (C8.out.below b9)
                have HB9 := Lib.hid (HB8.out.trans (b9.mono HB8.out.size))
                clear b9
                go_wp2_with fail
                refine (names_any _ D9.out).mono ?_
                rintro e w10 ⟨v, rfl, ho, b10⟩
                obtain ⟨V10, c10, rfl⟩ := ownB_slice ho
                have C10 := Lib.hid (C9.out.below b10)
                have HB10 := Lib.hid (HB9.out.trans (b10.mono HB9.out.size))
                clear b10 ho
                go_wp2_with fail
                refine (names_any _ C10.out).mono ?_
                rintro e w11 ⟨v, rfl, ho, b11⟩
                obtain ⟨V11, c11, rfl⟩ := ownB_slice ho
                have HB11 := Lib.hid (HB10.out.trans (b11.mono HB10.out.size))
                have hln : (crashL (putP L nmC ⟨[] ++ ml, 0⟩) []).length = L.length + 1 := by
                  unfold crashL
                  rw [crashK_length, putP_length_none HNoc.out]
                clear b11 ho
                rw [hln]
                have hLb : (L.length : Int) + 1 < 100 := by omega
                have hz2 : ((1 : Int) == 1) = true := rfl
                go_wp2
                go_ret
                exact ⟨rfl, HB11.out⟩
          · have hbn : 100 < x.bn := by rcases hbrk with h | h; omega; exact h
            have e1 : decide ((30 : Int) < (k : Int)) = false := decide_eq_false (by omega)
            have e2 : decide ((100 : Int) < (x.bn : Int)) = true := decide_eq_true (by omega)
            clear hbrk
            go_wp2_with fail
            clear HX x0 x1 x2 x3 x4 x5 x6 x7 Hd Hbl hblr
            generalize wr.alloc (.cells #[.int .u8 x.kd, .int .u8 x.a, .int .u8 x.b, .slice x.bA x.bn x.bc, .int .i64 x.n, .string x.nm, .bool x.raw, .slice x.tA x.tn x.tc] 33) = wo at *
            have Hd := Hd'
            have Hbl := Hbl'
            clear Hd' Hbl'
            refine (copy_any _ Hd.out).mono ?_
            rintro e w3 ⟨g2, S2, rfl, c3, hb, hS2⟩
            have D3 := Lib.hid (Hd.out.below hb)
            have C3 := Lib.hid c3
            have HB3 := Lib.hid (Hbl.out.trans (hb.mono Hbl.out.size))
            have HSd := Lib.hid (fun i hi => (Hd.out.lt_ i hi) : ∀ i, S i → i < wo.heap.size)
            have HS2 := Lib.hid hS2
            have HZ3 := Lib.hid hb.size
            clear hb c3 hS2
            go_wp2_with fail
            refine (names_any _ D3.out).mono ?_
            rintro e w4 ⟨v, rfl, ho, hb⟩
            obtain ⟨V, vc, rfl⟩ := ownB_slice ho
            have HO := Lib.hid ho
            have D4 := Lib.hid (D3.out.below hb)
            have C4 := Lib.hid (C3.out.below hb)
            have HB4 := Lib.hid (HB3.out.trans (hb.mono HB3.out.size))
            have HLf := Lib.hid D3.out.few
            have HZ4 := Lib.hid hb.size
            clear hb ho
            go_wp2
            go_loopw [67] (fun iv w5 => ∃ (k : Nat), k ≤ L.length ∧ iv = .int .i64 k ∧ Hid (Below w4.heap.size w4 w5)) (fun iv _ => L.length - (intOf iv).toNat)
            case atStart => exact ⟨0, Nat.zero_le _, rfl, Below.refl _ _⟩
            case round =>
              obtain ⟨j, hj, rfl, Hb5⟩ := hrel
              have D5 := Lib.hid (D4.out.below Hb5.out)
              have C5 := Lib.hid (C4.out.below Hb5.out)
              have hLf := HLf.out
              by_cases hlt : j < L.length
              · obtain ⟨s, f, hLk⟩ : ∃ s f, L[j]? = some (s, f) := ⟨L[j].1, L[j].2, List.getElem?_eq_getElem hlt⟩
                have hfd := find_at D5.out.rise hLk
                have hsn := D5.out.name_le _ (findP_some hfd)
                obtain ⟨r, cap, hV, hrb, hrl⟩ := HO.out.form (by omega)
                injection hV with hV1 hV2 hV3
                subst hV1
                subst hV3
                clear hV2
                have hnm1 : w4.cell? ⟨r, j, none⟩ = some (.string s) := by
                  have := HO.out.cells (g := r) rfl j (.string s) (by unfold nmCells; rw [List.getElem?_map, hLk]; rfl)
                  rw [Addr.add_lit] at this
                  rw [← this]
                  congr 2
                  omega
                have hnm2 := (Hb5.out.cell (p := ⟨r, j, none⟩) hrl).trans hnm1
                have hfm : f.by_.length ≤ 1048576 := by
                  obtain ⟨E, mo, hE, _, q2⟩ := D5.out
                  obtain ⟨x, hx, hxf⟩ := fl_some hE hfd
                  have := (q2.each _ (findP_some hx)).max
                  rw [← hxf]; exact this
                have HFd := Lib.hid hfd
                have HSn := Lib.hid hsn
                clear hLk hfd hsn hnm1
                go_wp2_with fail
                refine (read_some _ D5.out HSn.out HFd.out).mono ?_
                rintro e w6 ⟨v1, rfl, o6, b6⟩
                obtain ⟨A6, c6, rfl⟩ := ownB_slice o6
                have D6 := Lib.hid (D5.out.below b6)
                have C6 := Lib.hid (C5.out.below b6)
                have Hb6 := Lib.hid (Hb5.out.trans (b6.mono Hb5.out.size))
                have O6 := Lib.hid o6
                clear o6 b6
                go_wp2_with fail
                refine (read_some _ C6.out HSn.out HFd.out).mono ?_
                rintro e w7 ⟨v2, rfl, o7, b7⟩
                obtain ⟨A7, c7, rfl⟩ := ownB_slice o7
                have D7 := Lib.hid (D6.out.below b7)
                have C7 := Lib.hid (C6.out.below b7)
                have Hb7 := Lib.hid (Hb6.out.trans (b7.mono Hb6.out.size))
                obtain ⟨r1, r2, r3⟩ := rdB_of_own (ownB_below O6.out b7)
                obtain ⟨s1, s2, s3⟩ := rdB_of_own o7
                have hcv1 := conv_any (w := w7) (n := f.by_.length) (c := c6) r1 r2 r3
                have hcv2 := conv_any (w := w7) (n := f.by_.length) (c := c7) s1 s2 s3
                clear o7 b7 r1 r2 r3 s1 s2 s3
                go_wp2_with fail
                refine (loose_some _ C7.out HSn.out HFd.out).mono ?_
                rintro e w8 ⟨rfl, b8⟩
                have D8 := Lib.hid (D7.out.below b8)
                have Hb8 := Lib.hid (Hb7.out.trans (b8.mono Hb7.out.size))
                clear b8
                go_wp2_with fail
                refine (loose_some _ D8.out HSn.out HFd.out).mono ?_
                rintro e w9 ⟨rfl, b9⟩
                have Hb9 := Lib.hid (Hb8.out.trans (b9.mono Hb8.out.size))
                clear b9
                go_wp2
                go_roundw
                case rel => exact ⟨j + 1, by omega, by go_num, Hb9.out⟩
                case measure => simp [intOf]; omega
              · obtain rfl : j = L.length := by omega
                have hd0 : decide (L.length < L.length) = false := decide_eq_false (Nat.lt_irrefl _)
                have hnoc : findP L nmC = none := by
                  cases e : findP L nmC with
                  | none => rfl
                  | some f => exact absurd (show isABS nmC = true from (HM.out _ (findP_some e)).1) (by decide +kernel)
                have hhad : had L nmC = ⟨[], 0⟩ := by unfold had; rw [hnoc]; rfl
                have HNoc := Lib.hid hnoc
                have HHad := Lib.hid hhad
                clear hnoc hhad
                go_wp2_with fail
                refine (append_ok (l := ml) _ C5.out nmC_value nmC_size (fun _ => by omega) HMn.out HMo.out (by rw [HHad.out]; show 0 + mn ≤ _; omega) ((HMr.out.below (HB4.out.trans (Hb5.out.mono HB4.out.size))).more (HB4.out.trans (Hb5.out.mono HB4.out.size)).size) (by decide)).mono ?_
                rintro e w6 ⟨rfl, S6, c6, st6⟩
                rw [HHad.out] at c6
                have HbW := HB4.out.trans (Hb5.out.mono HB4.out.size)
                have hdis5 : ∀ i, S i → ¬ S2 i := fun i hi hs => by have := HSd.out i hi; have := HS2.out i hs; omega
                have D6 := Lib.hid (D5.out.keep st6.only hdis5)
                have hsz5 : wo.heap.size ≤ wr.heap.size := Nat.le_trans (Nat.le_trans HZ3.out HZ4.out) Hb5.out.size
                have hdis6 : ∀ i, S i → ¬ S6 i := fun i hi hs => by
                  rcases st6.new i hs with h | h
                  · exact hdis5 i hi h
                  · have := HSd.out i hi; omega
                have hlow6 : ∀ i, S6 i → w.heap.size ≤ i := fun i hs => by
                  rcases st6.new i hs with h | h
                  · exact Nat.le_trans Hbl.out.size (HS2.out i h)
                  · exact Nat.le_trans HbW.size h
                have HB6 := Lib.hid (HbW.trans (st6.only.below HbW.size (fun i hs => Nat.le_trans Hbl.out.size (HS2.out i hs))))
                have C6 := Lib.hid c6
                have Hdis6 := Lib.hid hdis6
                have Hlow6 := Lib.hid hlow6
                clear c6 st6 hdis5 hdis6 hlow6 HbW hsz5
                go_wp2_with fail
                refine (crash_any (ts := []) _ C6.out rfl (by decide) (fun h => absurd h (by decide)) (fun _ _ h => absurd h (by decide)) (fun _ h => absurd h (by simp))).mono ?_
                rintro e w7 ⟨rfl, S7, c7, st7⟩
                have D7 := Lib.hid (D6.out.keep st7.only Hdis6.out)
                have HB7 := Lib.hid (HB6.out.trans (st7.only.below HB6.out.size Hlow6.out))
                have C7 := Lib.hid c7
                clear c7 st7
                go_wp2_with fail
                refine (copy_any _ D7.out).mono ?_
                rintro e w8 ⟨g8, S8, rfl, c8, b8, _⟩
                have D8 := Lib.hid (D7.out.below b8)
                have C8 := Lib.hid (C7.out.below b8)
                have K8 := Lib.hid c8
                have HB8 := Lib.hid (HB7.out.trans (b8.mono HB7.out.size))
                clear b8 c8
                go_wp2_with fail
                refine (counts_some _ K8.out).mono ?_
                rintro e w9 ⟨rfl, b9⟩
                have D9 := Lib.hid (D8.out.below b9)
                have C9 := Lib.hid (C8.out.below b9)
                have HB9 := Lib.hid (HB8.out.trans (b9.mono HB8.out.size))
                clear b9
                go_wp2_with fail
                refine (names_any _ D9.out).mono ?_
                rintro e w10 ⟨v, rfl, ho, b10⟩
                obtain ⟨V10, c10, rfl⟩ := ownB_slice ho
                have C10 := Lib.hid (C9.out.below b10)
                have HB10 := Lib.hid (HB9.out.trans (b10.mono HB9.out.size))
                clear b10 ho
                go_wp2_with fail
                refine (names_any _ C10.out).mono ?_
                rintro e w11 ⟨v, rfl, ho, b11⟩
                obtain ⟨V11, c11, rfl⟩ := ownB_slice ho
                have HB11 := Lib.hid (HB10.out.trans (b11.mono HB10.out.size))
                have hln : (crashL (putP L nmC ⟨[] ++ ml, 0⟩) []).length = L.length + 1 := by
                  unfold crashL
                  rw [crashK_length, putP_length_none HNoc.out]
                clear b11 ho
                rw [hln]
                have hLb : (L.length : Int) + 1 < 100 := by omega
                have hz2 : ((1 : Int) == 1) = true := rfl
                go_wp2
                go_ret
                exact ⟨rfl, HB11.out⟩
        · have hk30 : ¬ 30 < k := fun h => hbrk (.inl h)
          have hbn : ¬ 100 < x.bn := fun h => hbrk (.inr h)
          have e1 : decide ((30 : Int) < (k : Int)) = false := decide_eq_false (by omega)
          have e2 : decide ((100 : Int) < (x.bn : Int)) = false := decide_eq_false (by omega)
          clear hbrk
          go_wp2
          obtain ⟨y, hy⟩ : ∃ y : Proofs.Ytocebbekaadofaa.Act, y = { x with raw := false } := ⟨_, rfl⟩
          have hn1 := actname_any y (x.a % 3) (wr.alloc (.cells #[.int .u8 x.kd, .int .u8 x.a, .int .u8 x.b, .slice x.bA x.bn x.bc, .int .i64 x.n, .string x.nm, .bool false, .slice x.tA x.tn x.tc] 33)).drew
          have hn2 := fun w5 => actname_any y (x.b % 3) w5
          have hraw : y.raw = false := by rw [hy]
          have hN1 : nameA y (x.a % 3) = nmOf (x.a % 3 % 4) := by unfold nameA; rw [if_neg (by rw [hraw]; decide)]
          have hN2 : nameA y (x.b % 3) = nmOf (x.b % 3 % 4) := by unfold nameA; rw [if_neg (by rw [hraw]; decide)]
          rw [hN1, show ((x.a % 3 : Nat) : Int) = (x.a : Int).tmod 3 from by rw [Int.tmod_eq_emod_of_nonneg (by omega)]; omega] at hn1
          rw [hN2, show ((x.b % 3 : Nat) : Int) = (x.b : Int) % 3 from by omega] at hn2
          have hcs : (actC y).toArray = #[.int .u8 x.kd, .int .u8 x.a, .int .u8 x.b, .slice x.bA x.bn x.bc, .int .i64 x.n, .string x.nm, .bool false, .slice x.tA x.tn x.tc] := by rw [hy]; rfl
          rw [hcs] at hn1 hn2
          have HN1 := Lib.hid hn1
          have HN2 := Lib.hid hn2
          clear hn1 hn2 hN1 hN2 hcs hraw hy y x0 x1 x2 x3 x4 x5 x6 x7
          obtain ⟨s1, hs1⟩ : ∃ s1, s1 = nmOf (x.a % 3 % 4) := ⟨_, rfl⟩
          obtain ⟨s2, hs2⟩ : ∃ s2, s2 = nmOf (x.b % 3 % 4) := ⟨_, rfl⟩
          rw [← hs1] at HN1
          rw [← hs2] at HN2
          have S1v : Hid (valueB s1 = true ∧ s1.size ≤ maxLen ∧ isABS s1 = true) := by rw [hs1]; exact ⟨abs_value _, abs_size _, abs_of _⟩
          have S2z : Hid (s2.size ≤ maxLen) := by rw [hs2]; exact abs_size _
          clear hs1 hs2
          have hba : Below wr.heap.size wr (wr.alloc (.cells #[.int .u8 x.kd, .int .u8 x.a, .int .u8 x.b, .slice x.bA x.bn x.bc, .int .i64 x.n, .string x.nm, .bool false, .slice x.tA x.tn x.tc] 33)).drew := ((Below.refl _ _).alloc (Nat.le_refl _) _).drew
          have hD1 := Hd.out.below hba
          have hX1 := HX.out.below hba
          have hbz : wr.heap.size < (wr.alloc (.cells #[.int .u8 x.kd, .int .u8 x.a, .int .u8 x.b, .slice x.bA x.bn x.bc, .int .i64 x.n, .string x.nm, .bool false, .slice x.tA x.tn x.tc] 33)).drew.heap.size := by show wr.heap.size < (wr.alloc _).heap.size; simp
          have hboxS : ∀ i, S i → i < wr.heap.size := Hd.out.lt_
          have d0 : (wr.alloc (.cells #[.int .u8 x.kd, .int .u8 x.a, .int .u8 x.b, .slice x.bA x.bn x.bc, .int .i64 x.n, .string x.nm, .bool false, .slice x.tA x.tn x.tc] 33)).cell? ⟨wr.heap.size, 0, none⟩ = some (.int .u8 x.kd) := by rw [World.cell?_alloc_at _ _ _ _ rfl]; rfl
          have d1 : (wr.alloc (.cells #[.int .u8 x.kd, .int .u8 x.a, .int .u8 x.b, .slice x.bA x.bn x.bc, .int .i64 x.n, .string x.nm, .bool false, .slice x.tA x.tn x.tc] 33)).cell? ⟨wr.heap.size, 1, none⟩ = some (.int .u8 x.a) := by rw [World.cell?_alloc_at _ _ _ _ rfl]; rfl
          have d2 : (wr.alloc (.cells #[.int .u8 x.kd, .int .u8 x.a, .int .u8 x.b, .slice x.bA x.bn x.bc, .int .i64 x.n, .string x.nm, .bool false, .slice x.tA x.tn x.tc] 33)).cell? ⟨wr.heap.size, 2, none⟩ = some (.int .u8 x.b) := by rw [World.cell?_alloc_at _ _ _ _ rfl]; rfl
          have d3 : (wr.alloc (.cells #[.int .u8 x.kd, .int .u8 x.a, .int .u8 x.b, .slice x.bA x.bn x.bc, .int .i64 x.n, .string x.nm, .bool false, .slice x.tA x.tn x.tc] 33)).cell? ⟨wr.heap.size, 3, none⟩ = some (.slice x.bA x.bn x.bc) := by rw [World.cell?_alloc_at _ _ _ _ rfl]; rfl
          have d4 : (wr.alloc (.cells #[.int .u8 x.kd, .int .u8 x.a, .int .u8 x.b, .slice x.bA x.bn x.bc, .int .i64 x.n, .string x.nm, .bool false, .slice x.tA x.tn x.tc] 33)).cell? ⟨wr.heap.size, 4, none⟩ = some (.int .i64 x.n) := by rw [World.cell?_alloc_at _ _ _ _ rfl]; rfl
          have d5 : (wr.alloc (.cells #[.int .u8 x.kd, .int .u8 x.a, .int .u8 x.b, .slice x.bA x.bn x.bc, .int .i64 x.n, .string x.nm, .bool false, .slice x.tA x.tn x.tc] 33)).cell? ⟨wr.heap.size, 5, none⟩ = some (.string x.nm) := by rw [World.cell?_alloc_at _ _ _ _ rfl]; rfl
          have d6 : (wr.alloc (.cells #[.int .u8 x.kd, .int .u8 x.a, .int .u8 x.b, .slice x.bA x.bn x.bc, .int .i64 x.n, .string x.nm, .bool false, .slice x.tA x.tn x.tc] 33)).cell? ⟨wr.heap.size, 6, none⟩ = some (.bool false) := by rw [World.cell?_alloc_at _ _ _ _ rfl]; rfl
          have d7 : (wr.alloc (.cells #[.int .u8 x.kd, .int .u8 x.a, .int .u8 x.b, .slice x.bA x.bn x.bc, .int .i64 x.n, .string x.nm, .bool false, .slice x.tA x.tn x.tc] 33)).cell? ⟨wr.heap.size, 7, none⟩ = some (.slice x.tA x.tn x.tc) := by rw [World.cell?_alloc_at _ _ _ _ rfl]; rfl
          have HD1 := Lib.hid hD1
          have HX1 := Lib.hid hX1
          have Hbz := Lib.hid hbz
          have HboxS := Lib.hid hboxS
          have HB1 := Lib.hid (Hbl.out.trans (hba.mono Hbl.out.size))
          clear hba hD1 hX1 hbz hboxS
          have hkb : k ≤ 30 := by omega
          have hbn1 : x.bl.length ≤ 100 := by have := HX.out.bn; omega
          have hbn2 : (had L s1).by_.length + x.bn ≤ 1048576 := by have := HM.out.had s1; omega
          have happ : ∀ w4, Below (wr.alloc (.cells #[.int .u8 x.kd, .int .u8 x.a, .int .u8 x.b, .slice x.bA x.bn x.bc, .int .i64 x.n, .string x.nm, .bool false, .slice x.tA x.tn x.tc] 33)).drew.heap.size (wr.alloc (.cells #[.int .u8 x.kd, .int .u8 x.a, .int .u8 x.b, .slice x.bA x.bn x.bc, .int .i64 x.n, .string x.nm, .bool false, .slice x.tA x.tn x.tc] 33)).drew w4 → Calls Try.prog 22 #[.pointer (some ⟨w1.heap.size, 0, none⟩), .string s1, .slice x.bA x.bn x.bc] w4 fun e w' => e = .returned (.int .i64 0) ∧ Leaves w4 w' S w1.heap.size (putP L s1 ⟨(had L s1).by_ ++ x.bl, (had L s1).syn⟩) (k + 1) sy := fun w4 hb4 => by
            refine append_ok (l := x.bl) w4 (HD1.out.below hb4) S1v.out.1 S1v.out.2.1 (fun _ => by omega) HX.out.bn HX.out.bok hbn2 ((HX1.out.below hb4).br) (by omega)
          have HA := Lib.hid happ
          clear happ
          have HBz := Lib.hid (Nat.le_of_lt Hbz.out)
          generalize (wr.alloc (.cells #[.int .u8 x.kd, .int .u8 x.a, .int .u8 x.b, .slice x.bA x.bn x.bc, .int .i64 x.n, .string x.nm, .bool false, .slice x.tA x.tn x.tc] 33)) = W1 at *
          go_region_with ((first
            | (go_at_call 9; (with_reducible refine HN1.out.mono ?_); rintro e w4 ⟨rfl, b4⟩; have f0 := (b4.cell (p := ⟨wr.heap.size, 0, none⟩) Hbz.out).trans d0; have f1 := (b4.cell (p := ⟨wr.heap.size, 1, none⟩) Hbz.out).trans d1; have f2 := (b4.cell (p := ⟨wr.heap.size, 2, none⟩) Hbz.out).trans d2; have f3 := (b4.cell (p := ⟨wr.heap.size, 3, none⟩) Hbz.out).trans d3; have f4 := (b4.cell (p := ⟨wr.heap.size, 4, none⟩) Hbz.out).trans d4; have f5 := (b4.cell (p := ⟨wr.heap.size, 5, none⟩) Hbz.out).trans d5; have f6 := (b4.cell (p := ⟨wr.heap.size, 6, none⟩) Hbz.out).trans d6; have f7 := (b4.cell (p := ⟨wr.heap.size, 7, none⟩) Hbz.out).trans d7; replace b4 := Lib.hid b4)
            | (go_at_call 22; (with_reducible refine (HA.out _ b4.out).mono ?_); rintro e w5 ⟨rfl, S5, da5, st5⟩; replace da5 := Lib.hid da5; replace st5 := Lib.hid st5)))
          all_goals
            have hbS : ¬ S wr.heap.size := fun h => by have := HboxS.out _ h; omega
            have hb4z : wr.heap.size < w4.heap.size := Nat.lt_of_lt_of_le Hbz.out b4.out.size
            have g0 := (st5.out.only.cell (p := ⟨wr.heap.size, 0, none⟩) hb4z hbS).trans f0
            have g1 := (st5.out.only.cell (p := ⟨wr.heap.size, 1, none⟩) hb4z hbS).trans f1
            have g2 := (st5.out.only.cell (p := ⟨wr.heap.size, 2, none⟩) hb4z hbS).trans f2
            have g3 := (st5.out.only.cell (p := ⟨wr.heap.size, 3, none⟩) hb4z hbS).trans f3
            have g4 := (st5.out.only.cell (p := ⟨wr.heap.size, 4, none⟩) hb4z hbS).trans f4
            have g5 := (st5.out.only.cell (p := ⟨wr.heap.size, 5, none⟩) hb4z hbS).trans f5
            have g6 := (st5.out.only.cell (p := ⟨wr.heap.size, 6, none⟩) hb4z hbS).trans f6
            have g7 := (st5.out.only.cell (p := ⟨wr.heap.size, 7, none⟩) hb4z hbS).trans f7
            clear f0 f1 f2 f3 f4 f5 f6 f7 d0 d1 d2 d3 d4 d5 d6 d7
            obtain ⟨hS5, hbb⟩ := st5.out.base HSb.out (Nat.le_trans HB1.out.size b4.out.size)
            have HB5 := Lib.hid ((HB1.out.trans (b4.out.mono HB1.out.size)).trans hbb)
            have HS5 := Lib.hid hS5
            have hM5 : Small (putP L s1 ⟨(had L s1).by_ ++ x.bl, (had L s1).syn⟩) (k + 1) := HM.out.put S1v.out.2.2 (by
              show ((had L s1).by_ ++ x.bl).length ≤ _
              have := HM.out.had s1
              rw [List.length_append]; omega)
            have hl5 := putP_length_le L s1 ⟨(had L s1).by_ ++ x.bl, (had L s1).syn⟩
            have HM5 := Lib.hid hM5
            obtain ⟨L5, hL5⟩ : ∃ L5, L5 = putP L s1 ⟨(had L s1).by_ ++ x.bl, (had L s1).syn⟩ := ⟨_, rfl⟩
            rw [← hL5] at da5 HM5 hl5
            clear hM5 hbb hS5 hL5
            by_cases hpar : x.n.tmod 2 = 0
            · have hp : (x.n.tmod 2 == 0) = true := by rw [beq_iff_eq]; exact hpar
              clear hpar
              go_wp2_with fail
              refine (HN2.out _).mono ?_
              rintro e w6 ⟨rfl, b6⟩
              have D6 := Lib.hid (da5.out.below b6)
              have HB6 := Lib.hid (HB5.out.trans (b6.mono HB5.out.size))
              clear b6
              cases hf : findP L5 s2 with
              | none =>
                have Hf := Lib.hid hf
                clear hf
                go_wp2_with fail
                refine (sync_none _ _ D6.out S2z.out Hf.out).mono ?_
                rintro e w7 ⟨rfl, b7⟩
                have D7 := Lib.hid (D6.out.below b7)
                have HB7 := Lib.hid (HB6.out.trans (b7.mono HB6.out.size))
                clear b7
                go_wp2
                go_roundw
                case rel => exact ⟨k + 1, L5, sy, S5, by omega, by omega, by go_num, by omega, by omega, HM5.out, D7.out, HS5.out, HB7.out⟩
                case measure => simp [intOf]; omega
              | some f =>
                have Hf := Lib.hid hf
                clear hf
                go_wp2_with fail
                refine (sync_some _ D6.out S2z.out Hf.out (by omega)).mono ?_
                rintro e w7 ⟨rfl, S7, d7, st7⟩
                obtain ⟨hS7, hbb⟩ := st7.base HS5.out HB6.out.size
                have D7 := Lib.hid d7
                have HS7 := Lib.hid hS7
                have HB7 := Lib.hid (HB6.out.trans hbb)
                have hl7 : (putP L5 s2 ⟨f.by_, f.by_.length⟩).length ≤ L5.length := putP_length_some Hf.out _
                clear d7 st7 hS7 hbb
                go_wp2
                go_roundw
                case rel => exact ⟨k + 1, _, sy + 1, S7, by omega, by omega, by go_num, by omega, by omega, HM5.out.sync Hf.out _, D7.out, HS7.out, HB7.out⟩
                case measure => simp [intOf]; omega
            · have hp : (x.n.tmod 2 == 0) = false := by rw [beq_eq_false_iff_ne]; exact hpar
              clear hpar
              go_wp2
              go_roundw
              case rel => exact ⟨k + 1, L5, sy, S5, by omega, by omega, by go_num, by omega, by omega, HM5.out, da5.out, HS5.out, HB5.out⟩
              case measure => simp [intOf]; omega
      · obtain rfl : k = n := by omega
        have hd0 : decide (k < k) = false := decide_eq_false (Nat.lt_irrefl _)
        obtain ⟨wo, rfl⟩ : ∃ wo : World, wo = wr := ⟨_, rfl⟩
        go_wp2_with fail
        refine (copy_any _ Hd.out).mono ?_
        rintro e w3 ⟨g2, S2, rfl, c3, hb, hS2⟩
        have D3 := Lib.hid (Hd.out.below hb)
        have C3 := Lib.hid c3
        have HB3 := Lib.hid (Hbl.out.trans (hb.mono Hbl.out.size))
        have HSd := Lib.hid (fun i hi => (Hd.out.lt_ i hi) : ∀ i, S i → i < wo.heap.size)
        have HS2 := Lib.hid hS2
        have HZ3 := Lib.hid hb.size
        clear hb c3 hS2
        go_wp2_with fail
        refine (names_any _ D3.out).mono ?_
        rintro e w4 ⟨v, rfl, ho, hb⟩
        obtain ⟨V, vc, rfl⟩ := ownB_slice ho
        have HO := Lib.hid ho
        have D4 := Lib.hid (D3.out.below hb)
        have C4 := Lib.hid (C3.out.below hb)
        have HB4 := Lib.hid (HB3.out.trans (hb.mono HB3.out.size))
        have HLf := Lib.hid D3.out.few
        have HZ4 := Lib.hid hb.size
        clear hb ho
        go_wp2
        go_loopw [67] (fun iv w5 => ∃ (k : Nat), k ≤ L.length ∧ iv = .int .i64 k ∧ Hid (Below w4.heap.size w4 w5)) (fun iv _ => L.length - (intOf iv).toNat)
        case atStart => exact ⟨0, Nat.zero_le _, rfl, Below.refl _ _⟩
        case round =>
          obtain ⟨j, hj, rfl, Hb5⟩ := hrel
          have D5 := Lib.hid (D4.out.below Hb5.out)
          have C5 := Lib.hid (C4.out.below Hb5.out)
          have hLf := HLf.out
          by_cases hlt : j < L.length
          · obtain ⟨s, f, hLk⟩ : ∃ s f, L[j]? = some (s, f) := ⟨L[j].1, L[j].2, List.getElem?_eq_getElem hlt⟩
            have hfd := find_at D5.out.rise hLk
            have hsn := D5.out.name_le _ (findP_some hfd)
            obtain ⟨r, cap, hV, hrb, hrl⟩ := HO.out.form (by omega)
            injection hV with hV1 hV2 hV3
            subst hV1
            subst hV3
            clear hV2
            have hnm1 : w4.cell? ⟨r, j, none⟩ = some (.string s) := by
              have := HO.out.cells (g := r) rfl j (.string s) (by unfold nmCells; rw [List.getElem?_map, hLk]; rfl)
              rw [Addr.add_lit] at this
              rw [← this]
              congr 2
              omega
            have hnm2 := (Hb5.out.cell (p := ⟨r, j, none⟩) hrl).trans hnm1
            have hfm : f.by_.length ≤ 1048576 := by
              obtain ⟨E, mo, hE, _, q2⟩ := D5.out
              obtain ⟨x, hx, hxf⟩ := fl_some hE hfd
              have := (q2.each _ (findP_some hx)).max
              rw [← hxf]; exact this
            have HFd := Lib.hid hfd
            have HSn := Lib.hid hsn
            clear hLk hfd hsn hnm1
            go_wp2_with fail
            refine (read_some _ D5.out HSn.out HFd.out).mono ?_
            rintro e w6 ⟨v1, rfl, o6, b6⟩
            obtain ⟨A6, c6, rfl⟩ := ownB_slice o6
            have D6 := Lib.hid (D5.out.below b6)
            have C6 := Lib.hid (C5.out.below b6)
            have Hb6 := Lib.hid (Hb5.out.trans (b6.mono Hb5.out.size))
            have O6 := Lib.hid o6
            clear o6 b6
            go_wp2_with fail
            refine (read_some _ C6.out HSn.out HFd.out).mono ?_
            rintro e w7 ⟨v2, rfl, o7, b7⟩
            obtain ⟨A7, c7, rfl⟩ := ownB_slice o7
            have D7 := Lib.hid (D6.out.below b7)
            have C7 := Lib.hid (C6.out.below b7)
            have Hb7 := Lib.hid (Hb6.out.trans (b7.mono Hb6.out.size))
            obtain ⟨r1, r2, r3⟩ := rdB_of_own (ownB_below O6.out b7)
            obtain ⟨s1, s2, s3⟩ := rdB_of_own o7
            have hcv1 := conv_any (w := w7) (n := f.by_.length) (c := c6) r1 r2 r3
            have hcv2 := conv_any (w := w7) (n := f.by_.length) (c := c7) s1 s2 s3
            clear o7 b7 r1 r2 r3 s1 s2 s3
            go_wp2_with fail
            refine (loose_some _ C7.out HSn.out HFd.out).mono ?_
            rintro e w8 ⟨rfl, b8⟩
            have D8 := Lib.hid (D7.out.below b8)
            have Hb8 := Lib.hid (Hb7.out.trans (b8.mono Hb7.out.size))
            clear b8
            go_wp2_with fail
            refine (loose_some _ D8.out HSn.out HFd.out).mono ?_
            rintro e w9 ⟨rfl, b9⟩
            have Hb9 := Lib.hid (Hb8.out.trans (b9.mono Hb8.out.size))
            clear b9
            go_wp2
            go_roundw
            case rel => exact ⟨j + 1, by omega, by go_num, Hb9.out⟩
            case measure => simp [intOf]; omega
          · obtain rfl : j = L.length := by omega
            have hd0 : decide (L.length < L.length) = false := decide_eq_false (Nat.lt_irrefl _)
            have hnoc : findP L nmC = none := by
              cases e : findP L nmC with
              | none => rfl
              | some f => exact absurd (show isABS nmC = true from (HM.out _ (findP_some e)).1) (by decide +kernel)
            have hhad : had L nmC = ⟨[], 0⟩ := by unfold had; rw [hnoc]; rfl
            have HNoc := Lib.hid hnoc
            have HHad := Lib.hid hhad
            clear hnoc hhad
            go_wp2_with fail
            refine (append_ok (l := ml) _ C5.out nmC_value nmC_size (fun _ => by omega) HMn.out HMo.out (by rw [HHad.out]; show 0 + mn ≤ _; omega) ((HMr.out.below (HB4.out.trans (Hb5.out.mono HB4.out.size))).more (HB4.out.trans (Hb5.out.mono HB4.out.size)).size) (by decide)).mono ?_
            rintro e w6 ⟨rfl, S6, c6, st6⟩
            rw [HHad.out] at c6
            have HbW := HB4.out.trans (Hb5.out.mono HB4.out.size)
            have hdis5 : ∀ i, S i → ¬ S2 i := fun i hi hs => by have := HSd.out i hi; have := HS2.out i hs; omega
            have D6 := Lib.hid (D5.out.keep st6.only hdis5)
            have hsz5 : wo.heap.size ≤ wr.heap.size := Nat.le_trans (Nat.le_trans HZ3.out HZ4.out) Hb5.out.size
            have hdis6 : ∀ i, S i → ¬ S6 i := fun i hi hs => by
              rcases st6.new i hs with h | h
              · exact hdis5 i hi h
              · have := HSd.out i hi; omega
            have hlow6 : ∀ i, S6 i → w.heap.size ≤ i := fun i hs => by
              rcases st6.new i hs with h | h
              · exact Nat.le_trans Hbl.out.size (HS2.out i h)
              · exact Nat.le_trans HbW.size h
            have HB6 := Lib.hid (HbW.trans (st6.only.below HbW.size (fun i hs => Nat.le_trans Hbl.out.size (HS2.out i hs))))
            have C6 := Lib.hid c6
            have Hdis6 := Lib.hid hdis6
            have Hlow6 := Lib.hid hlow6
            clear c6 st6 hdis5 hdis6 hlow6 HbW hsz5
            go_wp2_with fail
            refine (crash_any (ts := []) _ C6.out rfl (by decide) (fun h => absurd h (by decide)) (fun _ _ h => absurd h (by decide)) (fun _ h => absurd h (by simp))).mono ?_
            rintro e w7 ⟨rfl, S7, c7, st7⟩
            have D7 := Lib.hid (D6.out.keep st7.only Hdis6.out)
            have HB7 := Lib.hid (HB6.out.trans (st7.only.below HB6.out.size Hlow6.out))
            have C7 := Lib.hid c7
            clear c7 st7
            go_wp2_with fail
            refine (copy_any _ D7.out).mono ?_
            rintro e w8 ⟨g8, S8, rfl, c8, b8, _⟩
            have D8 := Lib.hid (D7.out.below b8)
            have C8 := Lib.hid (C7.out.below b8)
            have K8 := Lib.hid c8
            have HB8 := Lib.hid (HB7.out.trans (b8.mono HB7.out.size))
            clear b8 c8
            go_wp2_with fail
            refine (counts_some _ K8.out).mono ?_
            rintro e w9 ⟨rfl, b9⟩
            have D9 := Lib.hid (D8.out.below b9)
            have C9 := Lib.hid (C8.out.below b9)
            have HB9 := Lib.hid (HB8.out.trans (b9.mono HB8.out.size))
            clear b9
            go_wp2_with fail
            refine (names_any _ D9.out).mono ?_
            rintro e w10 ⟨v, rfl, ho, b10⟩
            obtain ⟨V10, c10, rfl⟩ := ownB_slice ho
            have C10 := Lib.hid (C9.out.below b10)
            have HB10 := Lib.hid (HB9.out.trans (b10.mono HB9.out.size))
            clear b10 ho
            go_wp2_with fail
            refine (names_any _ C10.out).mono ?_
            rintro e w11 ⟨v, rfl, ho, b11⟩
            obtain ⟨V11, c11, rfl⟩ := ownB_slice ho
            have HB11 := Lib.hid (HB10.out.trans (b11.mono HB10.out.size))
            have hln : (crashL (putP L nmC ⟨[] ++ ml, 0⟩) []).length = L.length + 1 := by
              unfold crashL
              rw [crashK_length, putP_length_none HNoc.out]
            clear b11 ho
            rw [hln]
            have hLb : (L.length : Int) + 1 < 100 := by omega
            have hz2 : ((1 : Int) == 1) = true := rfl
            go_wp2
            go_ret
            exact ⟨rfl, HB11.out⟩
end diskCopies
end Go.Proofs.Ytocebbekaadofaa
