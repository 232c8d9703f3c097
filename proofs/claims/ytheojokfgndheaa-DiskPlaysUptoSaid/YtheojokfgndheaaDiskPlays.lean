/- Layer 6: DiskPlays' walk. -/
import Derived.Test.YtheojokfgndheaaDkPl
import Derived.Test.YtheojokfgndheaaDkKb
import Derived.Deep.CutBlock
namespace Go.Proofs.Ytheojokfgndheaa
open Go.RowKit Go.Maps

/-- the slice at A holds n calls, each with a million tears at most -/
def RdAK (w : World) (A : Option Addr) (n : Nat) : Prop :=
  0 < n → ∃ b o, A = some ⟨b, o, none⟩ ∧ b < w.heap.size ∧ ∀ i, i < n → ∃ x : Act, (∀ j v, (actC x)[j]? = some v → w.cell? ⟨b, o + i * 8 + j, none⟩ = some v) ∧ OkAct w x ∧ x.tn ≤ 1048576
namespace diskPlays

set_option maxRecDepth 100000 in
set_option maxHeartbeats 4000000 in
theorem walk (A : Option Addr) (n c : Nat) (w : World) (hr : RdAK w A n) (hnm : n ≤ maxLen) :
    Calls Try.prog 3 #[.slice A n c] w fun e w' => e = .returned (.bool true) ∧ Below w.heap.size w w' := by
  have HR := Lib.hid hr
  have HNm := Lib.hid hnm
  have hnm2 : (n : Int) ≤ 9223372036854775807 := by unfold maxLen at hnm; omega
  clear hr hnm
  go_enter Try.func3, Try.ntmps3
  go_wp2_with fail
  refine (awake_any w).mono ?_
  rintro e w1 ⟨rfl, hb⟩
  have HB := Lib.hid hb
  clear hb
  go_wp2_with fail
  refine (new_any _).mono ?_
  rintro e w2 ⟨rfl, h5⟩
  have D2 := Lib.hid (h5 ▸ Disk.new w1 : Disk w2 (fun k => k = w1.heap.size) w1.heap.size [] 0 0)
  have HB2 := Lib.hid (h5 ▸ HB.out.alloc HB.out.size _ : Below w.heap.size w w2)
  have hz2 : w2.heap.size = w1.heap.size + 1 := by rw [h5]; simp
  have HZ2 := Lib.hid hz2
  have hg := HB.out.size
  obtain ⟨g, hgg⟩ : ∃ g, g = w1.heap.size := ⟨_, rfl⟩
  rw [← hgg] at D2
  have HG := Lib.hid hgg
  rw [← hgg]
  clear h5 hz2 hgg
  go_wp2
  go_loopw [26] (fun iv wx => ∃ (k : Nat) (S T : Nat → Prop) (L : Fls) (wr0 sy : Nat), k ≤ n ∧ k ≤ 61 ∧ iv = .int .i64 k ∧ Hid (PL w.heap.size k wx g w2.heap.size S T L wr0 sy) ∧ Hid (Below w.heap.size w wx)) (fun iv _ => n - (intOf iv).toNat)
  case atStart =>
    have hb2 : Below w2.heap.size w2 (w2.alloc (.cells #[.slice none 0 0, .int .i64 0, .int .i64 0] 29)) := (Below.refl _ _).alloc (Nat.le_refl _) _
    have hz := HB2.out.size
    refine ⟨0, _, _, [], 0, 0, Nat.zero_le _, Nat.zero_le _, rfl, ⟨D2.out.below hb2, ⟨_, [], rfl, Rf.new w2⟩, fun i hi ht => ?_, fun i hi => ?_, fun i hi => ?_, Nat.le_trans hz hb2.size, Nat.le_refl _, (fun p hp => nomatch hp), Nat.le_refl _, Nat.le_refl _⟩, HB2.out.trans (hb2.mono hz)⟩
    · have h1 := HG.out; have h2 := HZ2.out; have : i = g := hi; have : i = w2.heap.size := ht; omega
    · have h1 := HG.out; have : i = g := hi; omega
    · have : i = w2.heap.size := hi; omega
  case round =>
    obtain ⟨k, S, T, L, wr0, sy, hk, hk61, rfl, Hp, Hbl⟩ := hrel
    by_cases hlt : k < n
    · obtain ⟨b, o, rfl, hbl, hrow⟩ := HR.out (by omega)
      obtain ⟨x, hxc, hxo, htn⟩ := hrow k hlt
      have hblr : b < wr.heap.size := Nat.lt_of_lt_of_le hbl Hbl.out.size
      have cx : ∀ j v, (actC x)[j]? = some v → wr.cell? ⟨b, o + k * 8 + j, none⟩ = some v := fun j v hv => (Hbl.out.cell (p := ⟨b, o + k * 8 + j, none⟩) hbl).trans (hxc j v hv)
      have x0 := cx 0 _ rfl
      have x1 := cx 1 _ rfl
      have x2 := cx 2 _ rfl
      have x3 := cx 3 _ rfl
      have x4 := cx 4 _ rfl
      have x5 := cx 5 _ rfl
      have x6 := cx 6 _ rfl
      have x7 := cx 7 _ rfl
      rw [Nat.add_zero] at x0
      have HXo := Lib.hid hxo
      have HX := Lib.hid (hxo.below (show Below w.heap.size w wr from Hbl.out))
      have Htn := Lib.hid htn
      clear hrow hxc hxo cx htn
      have hfin : Hid (Below w.heap.size w (wr.alloc (.cells #[.int .u8 x.kd, .int .u8 x.a, .int .u8 x.b, .slice x.bA x.bn x.bc, .int .i64 x.n, .string x.nm, .bool x.raw, .slice x.tA x.tn x.tc] 33))) := Hbl.out.alloc Hbl.out.size _
      by_cases hk60 : 60 < k
      · have e1 : decide ((60 : Int) < (k : Int)) = true := decide_eq_true (by omega)
        go_wp2
        go_ret
        exact ⟨rfl, hfin.out⟩
      · have e1 : decide ((60 : Int) < (k : Int)) = false := decide_eq_false (by omega)
        by_cases hbn : 200 < x.bn
        · have e2 : decide ((200 : Int) < (x.bn : Int)) = true := decide_eq_true (by omega)
          go_wp2
          go_ret
          exact ⟨rfl, hfin.out⟩
        · have e2 : decide ((200 : Int) < (x.bn : Int)) = false := decide_eq_false (by omega)
          by_cases hnl : 50 < x.nm.size
          · have e3 : decide ((50 : Int) < (x.nm.size : Int)) = true := decide_eq_true (by omega)
            go_wp2
            go_ret
            exact ⟨rfl, hfin.out⟩
          · have e3 : decide ((50 : Int) < (x.nm.size : Int)) = false := decide_eq_false (by omega)
            go_upto_region 8 with fail
            generalize hW1 : wr.alloc (.cells #[.int .u8 x.kd, .int .u8 x.a, .int .u8 x.b, .slice x.bA x.bn x.bc, .int .i64 x.n, .string x.nm, .bool x.raw, .slice x.tA x.tn x.tc] 33) = W1 at *
            obtain ⟨ab, hab⟩ : ∃ ab, ab = wr.heap.size := ⟨_, rfl⟩
            rw [← hab]
            have hb1 : Below wr.heap.size wr W1 := hW1 ▸ (Below.refl _ _).alloc (Nat.le_refl _) _
            have habl : ab < W1.heap.size := by rw [← hW1, hab]; simp
            have HC0 : Hid (∀ W, Below W1.heap.size W1 W → W.cell? ⟨ab, 0, none⟩ = some (.int .u8 x.kd)) := fun W hW => (hW.cell (p := ⟨ab, 0, none⟩) habl).trans (by rw [← hW1, hab, World.cell?_alloc_at _ _ _ _ rfl]; rfl)
            have HC1 : Hid (∀ W, Below W1.heap.size W1 W → W.cell? ⟨ab, 1, none⟩ = some (.int .u8 x.a)) := fun W hW => (hW.cell (p := ⟨ab, 1, none⟩) habl).trans (by rw [← hW1, hab, World.cell?_alloc_at _ _ _ _ rfl]; rfl)
            have HC2 : Hid (∀ W, Below W1.heap.size W1 W → W.cell? ⟨ab, 2, none⟩ = some (.int .u8 x.b)) := fun W hW => (hW.cell (p := ⟨ab, 2, none⟩) habl).trans (by rw [← hW1, hab, World.cell?_alloc_at _ _ _ _ rfl]; rfl)
            have HC3 : Hid (∀ W, Below W1.heap.size W1 W → W.cell? ⟨ab, 3, none⟩ = some (.slice x.bA x.bn x.bc)) := fun W hW => (hW.cell (p := ⟨ab, 3, none⟩) habl).trans (by rw [← hW1, hab, World.cell?_alloc_at _ _ _ _ rfl]; rfl)
            have HC4 : Hid (∀ W, Below W1.heap.size W1 W → W.cell? ⟨ab, 4, none⟩ = some (.int .i64 x.n)) := fun W hW => (hW.cell (p := ⟨ab, 4, none⟩) habl).trans (by rw [← hW1, hab, World.cell?_alloc_at _ _ _ _ rfl]; rfl)
            have HC5 : Hid (∀ W, Below W1.heap.size W1 W → W.cell? ⟨ab, 5, none⟩ = some (.string x.nm)) := fun W hW => (hW.cell (p := ⟨ab, 5, none⟩) habl).trans (by rw [← hW1, hab, World.cell?_alloc_at _ _ _ _ rfl]; rfl)
            have HC6 : Hid (∀ W, Below W1.heap.size W1 W → W.cell? ⟨ab, 6, none⟩ = some (.bool x.raw)) := fun W hW => (hW.cell (p := ⟨ab, 6, none⟩) habl).trans (by rw [← hW1, hab, World.cell?_alloc_at _ _ _ _ rfl]; rfl)
            have HC7 : Hid (∀ W, Below W1.heap.size W1 W → W.cell? ⟨ab, 7, none⟩ = some (.slice x.tA x.tn x.tc)) := fun W hW => (hW.cell (p := ⟨ab, 7, none⟩) habl).trans (by rw [← hW1, hab, World.cell?_alloc_at _ _ _ _ rfl]; rfl)
            have HN : Hid (∀ (k : Nat) (W : World), Calls Try.prog 11 #[.agg #[.int .u8 x.kd, .int .u8 x.a, .int .u8 x.b, .slice x.bA x.bn x.bc, .int .i64 x.n, .string x.nm, .bool x.raw, .slice x.tA x.tn x.tc], .int .u8 k] W fun e w' => e = .returned (.string (nameA x k)) ∧ Below W.heap.size W w') := fun k W => actname_any x k W
            obtain ⟨s1, hs1⟩ : ∃ s1, s1 = nameA x x.a := ⟨_, rfl⟩
            obtain ⟨s2, hs2⟩ : ∃ s2, s2 = nameA x x.b := ⟨_, rfl⟩
            have HS1 : Hid (s1.size ≤ maxLen) := by show _ ≤ _; rw [hs1]; exact nameA_size x _ HX.out.nm
            have HS2 : Hid (s2.size ≤ maxLen) := by show _ ≤ _; rw [hs2]; exact nameA_size x _ HX.out.nm
            have HN1 := Lib.hid (HN.out x.a)
            have HN2 := Lib.hid (HN.out x.b)
            rw [← hs1] at HN1
            rw [← hs2] at HN2
            have Hb1 := Lib.hid hb1
            have Hab := Lib.hid hab
            have HW1 := Lib.hid hW1
            clear hs1 hs2 HN hb1 hab hW1 x0 x1 x2 x3 x4 x5 x6 x7 e1 e2 e3
            refine wp_region_noPanic ?_
            refine wp_region_held_drew (S := fun W => Below W1.heap.size W1 W) (by kernel_rfl) ?_ (fun hHeld => ?_)
            · exact (Below.refl _ _).drew
            try simp only [heldPut, List.set]
            refine heldTake (i := 0) (v := ?_) rfl (by kernel_rfl) (by kernel_rfl) (by kernel_rfl) (fun _ _ _ h => h) (Or.inl ⟨by rfl, ?_⟩) (by assumption) ?_
            rotate_left
            · (intro W hSw; (try dsimp only at hSw); have f0 := HC0.out W hSw; have f1 := HC1.out W hSw; have f2 := HC2.out W hSw; have f3 := HC3.out W hSw; have f4 := HC4.out W hSw; have f5 := HC5.out W hSw; have f6 := HC6.out W hSw; have f7 := HC7.out W hSw; go_simp; try with_reducible rfl)
            try simp only [heldPut, List.set]
            refine heldTake (i := 1) (v := ?_) rfl (by kernel_rfl) (by kernel_rfl) (by kernel_rfl) (fun _ _ _ h => h) (Or.inl ⟨by rfl, ?_⟩) (by assumption) ?_
            rotate_left
            · (intro W hSw; (try dsimp only at hSw); have f0 := HC0.out W hSw; have f1 := HC1.out W hSw; have f2 := HC2.out W hSw; have f3 := HC3.out W hSw; have f4 := HC4.out W hSw; have f5 := HC5.out W hSw; have f6 := HC6.out W hSw; have f7 := HC7.out W hSw; go_simp; try with_reducible rfl)
            try simp only [heldPut, List.set]
            refine heldTake (i := 2) (v := ?_) rfl (by kernel_rfl) (by kernel_rfl) (by kernel_rfl) (fun _ _ _ h => h) (Or.inl ⟨by rfl, ?_⟩) (by assumption) ?_
            rotate_left
            · (intro W hSw; (try dsimp only at hSw); have f0 := HC0.out W hSw; have f1 := HC1.out W hSw; have f2 := HC2.out W hSw; have f3 := HC3.out W hSw; have f4 := HC4.out W hSw; have f5 := HC5.out W hSw; have f6 := HC6.out W hSw; have f7 := HC7.out W hSw; go_simp; try with_reducible rfl)
            try simp only [heldPut, List.set]
            refine heldTake (i := 4) (v := ?_) rfl (by kernel_rfl) (by kernel_rfl) (by kernel_rfl) (fun _ _ _ h => h) (Or.inl ⟨by rfl, ?_⟩) (by assumption) ?_
            rotate_left
            · (intro W hSw; (try dsimp only at hSw); have f0 := HC0.out W hSw; have f1 := HC1.out W hSw; have f2 := HC2.out W hSw; have f3 := HC3.out W hSw; have f4 := HC4.out W hSw; have f5 := HC5.out W hSw; have f6 := HC6.out W hSw; have f7 := HC7.out W hSw; go_simp; try with_reducible rfl)
            try simp only [heldPut, List.set]
            refine heldTake (i := 5) (v := ?_) rfl (by kernel_rfl) (by kernel_rfl) (by kernel_rfl) (fun _ _ _ h => h) (Or.inl ⟨by rfl, ?_⟩) (by assumption) ?_
            rotate_left
            · (intro W hSw; (try dsimp only at hSw); have f0 := HC0.out W hSw; have f1 := HC1.out W hSw; have f2 := HC2.out W hSw; have f3 := HC3.out W hSw; have f4 := HC4.out W hSw; have f5 := HC5.out W hSw; have f6 := HC6.out W hSw; have f7 := HC7.out W hSw; go_simp; try with_reducible rfl)
            try simp only [heldPut, List.set]
            refine heldTake (i := 6) (v := ?_) rfl (by kernel_rfl) (by kernel_rfl) (by kernel_rfl) (fun _ _ _ h => h) (Or.inl ⟨by rfl, ?_⟩) (by assumption) ?_
            rotate_left
            · (intro W hSw; (try dsimp only at hSw); have f0 := HC0.out W hSw; have f1 := HC1.out W hSw; have f2 := HC2.out W hSw; have f3 := HC3.out W hSw; have f4 := HC4.out W hSw; have f5 := HC5.out W hSw; have f6 := HC6.out W hSw; have f7 := HC7.out W hSw; go_simp; try with_reducible rfl)
            try simp only [heldPut, List.set]
            refine heldOne (i := 3) rfl (by kernel_rfl) (fun K hK => ?_)
            go_simp
            refine (HN1.out _).mono ?_
            rintro e w4 ⟨rfl, b4⟩
            go_wp2_with fail
            refine hK.out _ _ ?_ (fun hHeld => ?_)
            · exact hHeld.trans (b4.mono hHeld.size)
            clear hK K
            try simp only [heldPut, List.set]
            refine heldOne (i := 7) rfl (by kernel_rfl) (fun K hK => ?_)
            go_simp
            refine (HN2.out _).mono ?_
            rintro e w5 ⟨rfl, b5⟩
            go_wp2_with fail
            refine hK.out _ _ ?_ (fun hHeld => ?_)
            · exact hHeld.trans (b5.mono hHeld.size)
            clear hK K
            try simp only [heldPut, List.set]
            refine heldTake (i := 8) (v := ?_) rfl (by kernel_rfl) (by kernel_rfl) (by kernel_rfl) (fun _ _ _ h => h) (Or.inl ⟨by rfl, ?_⟩) (by assumption) ?_
            rotate_left
            · (intro W hSw; (try dsimp only at hSw);  go_simp; try with_reducible rfl)
            try simp only [heldPut, List.set]
            refine heldTake (i := 9) (v := ?_) rfl (by kernel_rfl) (by kernel_rfl) (by kernel_rfl) (fun _ _ _ h => h) (Or.inl ⟨by rfl, ?_⟩) (by assumption) ?_
            rotate_left
            · (intro W hSw; (try dsimp only at hSw);  go_simp; try with_reducible rfl)
            try simp only [heldPut, List.set]
            refine wpAnyH_done (by kernel_rfl) ?_ _
            refine NoPanic.normal ?_
            have HBw := Lib.hid (Hb1.out.trans (hHeld.mono Hb1.out.size))
            have Hp1 := Lib.hid (Hp.out.below HBw.out)
            have Hbl1 := Lib.hid (Hbl.out.trans (HBw.out.mono Hbl.out.size))
            have y0 := HC0.out _ hHeld
            have y1 := HC1.out _ hHeld
            have y2 := HC2.out _ hHeld
            have y3 := HC3.out _ hHeld
            have y4 := HC4.out _ hHeld
            have y5 := HC5.out _ hHeld
            have y6 := HC6.out _ hHeld
            have y7 := HC7.out _ hHeld
            have habl5 := Nat.lt_of_lt_of_le habl hHeld.size
            have HX5 := Lib.hid (HX.out.below HBw.out)
            clear HC0 HC1 HC2 HC3 HC4 HC5 HC6 HC7 HN1 HN2
            go_upto_block 2 with fail
            go_cut [9, 10, 11, 12, 13, 14, 15, 16, 18, 26] from 26 to 179 (fun e c _ _ _ _ _ _ _ r wx => ∃ (z : Int) (S' T' : Nat → Prop) (L' : Fls) (wr' sy' : Nat), e = .int .i64 z ∧ c = .int .i64 z ∧ r = .int .i64 k ∧ Hid (PL w.heap.size (k + 1) wx g w2.heap.size S' T' L' wr' sy') ∧ Hid (Below w.heap.size w wx))
            case first =>
              have hr := Hp1.out.D.rise
              have hsy : sy ≤ 1000000 := by have := Hp1.out.sy; omega
              have hwr : wr0 ≤ 1000000 := by have := Hp1.out.wr; omega
              rcases (by omega : x.kd % 9 = 3 ∨ x.kd % 9 = 4 ∨ x.kd % 9 = 5 ∨ x.kd % 9 = 6 ∨ x.kd % 9 = 7 ∨ x.kd % 9 = 8 ∨ x.kd % 9 < 3) with hm | hm | hm | hm | hm | hm | hm
              · have hm1 : (x.kd : Int).tmod 9 = 3 := by rw [Int.tmod_eq_emod_of_nonneg (by omega)]; omega
                have hm2 : (x.kd : Int) % 9 = 3 := by omega
                clear hm
                obtain ⟨z, L', sy', p1, p2, p3⟩ := pair_sync (wr := wr0) hr HS1.out hsy
                have P1 := Lib.hid p1
                have P2 := Lib.hid p2
                have P3 := Lib.hid p3
                clear p1 p2 p3 hr
                go_wp2_with fail
                refine (P1.out _ _ _ Hp1.out.D).mono ?_
                rintro e w6 ⟨rfl, hl⟩
                obtain ⟨⟨S6, hh, _⟩, hb6, _⟩ := Hp1.out.half hl
                have Hh := Lib.hid hh
                have Hb6 := Lib.hid (Hbl1.out.trans hb6)
                clear hl hh hb6
                go_wp2_with fail
                refine (P2.out _ _ _ Hh.out.R).mono ?_
                rintro e w7 ⟨rfl, hl⟩
                obtain ⟨⟨T7, hq⟩, hb7⟩ := Hh.out.whole hl Hp1.out P3.out
                have Hq := Lib.hid hq
                have Hb7 := Lib.hid (Hb6.out.trans hb7)
                clear hl hq hb7
                go_wp2
                go_meet
                exact ⟨z, S6, T7, L', _, _, rfl, rfl, rfl, Hq.out, Hb7.out⟩
              · have hm1 : (x.kd : Int).tmod 9 = 4 := by rw [Int.tmod_eq_emod_of_nonneg (by omega)]; omega
                have hm2 : (x.kd : Int) % 9 = 4 := by omega
                clear hm
                go_upto_if 80 with fail
                go_cut [11, 26] from 26 to 179 (fun p r wx => ∃ z0 : Int, p = .int .i64 z0 ∧ r = .int .i64 k ∧ Below w5.heap.size w5 wx)
                case first =>
                  cases hraw : x.raw with
                  | true =>
                    rw [hraw] at y6
                    go_wp2
                    go_meet
                    exact ⟨_, rfl, rfl, Below.refl _ _⟩
                  | false =>
                    rw [hraw] at y6
                    go_wp2
                    go_meet
                    exact ⟨_, rfl, rfl, Below.refl _ _⟩
                case rest =>
                  obtain ⟨z0, rfl, rfl, hbz⟩ := hcut
                  have Hp1 := Lib.hid (Hp1.out.below hbz)
                  have Hbl1 := Lib.hid (Hbl1.out.trans (hbz.mono Hbl1.out.size))
                  clear hbz y0 y1 y2 y3 y4 y5 y6 y7
                  obtain ⟨z, L', p1, p2, p3⟩ := pair_cut (wr := wr0) (sy := sy) z0 hr HS1.out
                  have P1 := Lib.hid p1
                  have P2 := Lib.hid p2
                  have P3 := Lib.hid p3
                  clear p1 p2 p3 hr
                  go_wp2_with fail
                  refine (P1.out _ _ _ Hp1.out.D).mono ?_
                  rintro e w6 ⟨rfl, hl⟩
                  obtain ⟨⟨S6, hh, _⟩, hb6, _⟩ := Hp1.out.half hl
                  have Hh := Lib.hid hh
                  have Hb6 := Lib.hid (Hbl1.out.trans hb6)
                  clear hl hh hb6
                  go_wp2_with fail
                  refine (P2.out _ _ _ Hh.out.R).mono ?_
                  rintro e w7 ⟨rfl, hl⟩
                  obtain ⟨⟨T7, hq⟩, hb7⟩ := Hh.out.whole hl Hp1.out P3.out
                  have Hq := Lib.hid hq
                  have Hb7 := Lib.hid (Hb6.out.trans hb7)
                  clear hl hq hb7
                  go_wp2
                  go_meet
                  exact ⟨z, S6, T7, L', _, _, rfl, rfl, rfl, Hq.out, Hb7.out⟩
              · have hm1 : (x.kd : Int).tmod 9 = 5 := by rw [Int.tmod_eq_emod_of_nonneg (by omega)]; omega
                have hm2 : (x.kd : Int) % 9 = 5 := by omega
                clear hm
                obtain ⟨z, L', p1, p2, p3⟩ := pair_rename (wr := wr0) (sy := sy) hr HS1.out HS2.out
                have P1 := Lib.hid p1
                have P2 := Lib.hid p2
                have P3 := Lib.hid p3
                clear p1 p2 p3 hr
                go_wp2_with fail
                refine (P1.out _ _ _ Hp1.out.D).mono ?_
                rintro e w6 ⟨rfl, hl⟩
                obtain ⟨⟨S6, hh, _⟩, hb6, _⟩ := Hp1.out.half hl
                have Hh := Lib.hid hh
                have Hb6 := Lib.hid (Hbl1.out.trans hb6)
                clear hl hh hb6
                go_wp2_with fail
                refine (P2.out _ _ _ Hh.out.R).mono ?_
                rintro e w7 ⟨rfl, hl⟩
                obtain ⟨⟨T7, hq⟩, hb7⟩ := Hh.out.whole hl Hp1.out P3.out
                have Hq := Lib.hid hq
                have Hb7 := Lib.hid (Hb6.out.trans hb7)
                clear hl hq hb7
                go_wp2
                go_meet
                exact ⟨z, S6, T7, L', _, _, rfl, rfl, rfl, Hq.out, Hb7.out⟩
              · have hm1 : (x.kd : Int).tmod 9 = 6 := by rw [Int.tmod_eq_emod_of_nonneg (by omega)]; omega
                have hm2 : (x.kd : Int) % 9 = 6 := by omega
                clear hm
                obtain ⟨z, L', p1, p2, p3⟩ := pair_remove (wr := wr0) (sy := sy) hr HS1.out
                have P1 := Lib.hid p1
                have P2 := Lib.hid p2
                have P3 := Lib.hid p3
                clear p1 p2 p3 hr
                go_wp2_with fail
                refine (P1.out _ _ _ Hp1.out.D).mono ?_
                rintro e w6 ⟨rfl, hl⟩
                obtain ⟨⟨S6, hh, _⟩, hb6, _⟩ := Hp1.out.half hl
                have Hh := Lib.hid hh
                have Hb6 := Lib.hid (Hbl1.out.trans hb6)
                clear hl hh hb6
                go_wp2_with fail
                refine (P2.out _ _ _ Hh.out.R).mono ?_
                rintro e w7 ⟨rfl, hl⟩
                obtain ⟨⟨T7, hq⟩, hb7⟩ := Hh.out.whole hl Hp1.out P3.out
                have Hq := Lib.hid hq
                have Hb7 := Lib.hid (Hb6.out.trans hb7)
                clear hl hq hb7
                go_wp2
                go_meet
                exact ⟨z, S6, T7, L', _, _, rfl, rfl, rfl, Hq.out, Hb7.out⟩
              · have hm1 : (x.kd : Int).tmod 9 = 7 := by rw [Int.tmod_eq_emod_of_nonneg (by omega)]; omega
                have hm2 : (x.kd : Int) % 9 = 7 := by omega
                clear hm
                go_wp2_with fail
                cases hf : findP L s1 with
                | none =>
                  have Hf := Lib.hid hf
                  clear hf
                  refine (read_none _ Hp1.out.D HS1.out Hf.out).mono ?_
                  rintro e w6 ⟨rfl, hb⟩
                  have Hp6 := Lib.hid (Hp1.out.below hb)
                  have Hb6 := Lib.hid (Hbl1.out.trans (hb.mono Hbl1.out.size))
                  clear hb
                  go_wp2_with fail
                  refine (rfind_L _ Hp6.out.R HS1.out).mono ?_
                  rintro e w7 ⟨z, rfl, hz, rfl⟩
                  rw [Hf.out] at hz
                  obtain rfl : z = -1 := hz
                  go_wp2
                  go_meet
                  exact ⟨0, S, T, L, wr0, sy, rfl, rfl, rfl, Hp6.out.more, Hb6.out⟩
                | some f =>
                  have Hf := Lib.hid hf
                  clear hf
                  refine (read_some _ Hp1.out.D HS1.out Hf.out).mono ?_
                  rintro e w6 ⟨v, rfl, ho, hb⟩
                  obtain ⟨A6, c6, rfl⟩ := ownB_slice ho
                  have Hp6 := Lib.hid (Hp1.out.below hb)
                  have Hb6 := Lib.hid (Hbl1.out.trans (hb.mono Hbl1.out.size))
                  clear hb ho
                  go_wp2_with fail
                  refine (rfind_L _ Hp6.out.R HS1.out).mono ?_
                  rintro e w7 ⟨z, rfl, hz, rfl⟩
                  rw [Hf.out] at hz
                  replace hz : 0 ≤ z := hz
                  have hz1 : decide (z ≥ 0) = true := decide_eq_true hz
                  have hz2 : decide (0 ≤ z) = true := decide_eq_true hz
                  have hz3 : decide (z < 0) = false := decide_eq_false (by omega)
                  go_wp2
                  go_meet
                  exact ⟨0, S, T, L, wr0, sy, rfl, rfl, rfl, Hp6.out.more, Hb6.out⟩
              · have hm1 : (x.kd : Int).tmod 9 = 8 := by rw [Int.tmod_eq_emod_of_nonneg (by omega)]; omega
                have hm2 : (x.kd : Int) % 9 = 8 := by omega
                clear hm
                clear hr y0 y1 y2 y3 y4 y5 y6 hsy hwr
                obtain ⟨tA, htA⟩ : ∃ tA, tA = x.tA := ⟨_, rfl⟩
                rw [← htA] at y7
                have HTr : Hid (RdT w w.heap.size tA x.tl) := htA ▸ HXo.out.tr
                have HTl := Lib.hid HXo.out.tn
                have HTo := Lib.hid HXo.out.tok
                have HtA := Lib.hid htA
                have htn63 : x.tn ≤ 1048576 := Htn.out
                clear htA
                go_wp2
                go_loopw [15, 16, 145] (fun p q iv wx => ∃ (j : Nat), j ≤ x.tn ∧ iv = .int .i64 j ∧ Hid (KB w5 wx p q ((x.tl.take j).map (·.1)) ((x.tl.take j).map (·.2)))) (fun _ _ iv _ => x.tn - (intOf iv).toNat)
                case atStart => exact ⟨0, Nat.zero_le _, rfl, KB.start w5⟩
                case round =>
                  obtain ⟨j, hj, rfl, Hkb⟩ := hrel
                  by_cases hlt2 : j < x.tn
                  · have hjl : j < x.tl.length := by rw [← HTl.out]; exact hlt2
                    obtain ⟨tb0, tof, rfl, htb, htc⟩ := HTr.out (by omega)
                    obtain ⟨ke, bi, htk⟩ : ∃ ke bi, x.tl[j]? = some (ke, bi) := ⟨x.tl[j].1, x.tl[j].2, List.getElem?_eq_getElem hjl⟩
                    obtain ⟨hke, hbi⟩ := HTo.out _ (List.mem_iff_getElem?.2 ⟨j, htk⟩)
                    have hbw := Hbl1.out.trans (Hkb.out.bl.mono Hbl1.out.size)
                    have t0 := (hbw.cell (p := ⟨tb0, tof + j * 2, none⟩) htb).trans (htc j _ htk).1
                    have t1 := (hbw.cell (p := ⟨tb0, tof + j * 2 + 1, none⟩) htb).trans (htc j _ htk).2
                    have Htk := Lib.hid htk
                    have Hke : Hid (ke < 65536) := hke
                    have Hbi : Hid (bi < 65536) := hbi
                    have hke2 : ke < 65536 := hke
                    have hbi2 : bi < 65536 := hbi
                    clear htc hbw htk hjl hke hbi
                    go_upto_region 33 with fail
                    have hlen1 : ((x.tl.take j).map (·.1)).length ≤ 2000000 := by rw [List.length_map, List.length_take]; omega
                    have hlen2 : ((x.tl.take j).map (·.2)).length ≤ 2000000 := by rw [List.length_map, List.length_take]; omega
                    have hwk : IntKind.i64.wrap (ke : Int) = ke := by rw [IntKind.wrap_i64]; omega
                    have hwb : IntKind.i64.wrap (bi : Int) = bi := by rw [IntKind.wrap_i64]; omega
                    have R0 := Lib.hid (Hkb.out.rw_ (ke := ke) (bi := bi) rfl)
                    have ht0 := R0.out.t
                    obtain ⟨tb, htb2⟩ : ∃ tb, tb = wr.heap.size := ⟨_, rfl⟩
                    rw [← htb2] at R0 ht0
                    rw [← htb2]
                    generalize (wr.alloc (.cells #[.int .u16 ke, .int .u16 bi] 48)) = V0 at *
                    clear htb2
                    have hfin2 : Hid (∀ p' q' V', RW w5 V' tb p' q' ((x.tl.take j).map (·.1) ++ [ke]) ((x.tl.take j).map (·.2) ++ [bi]) ke bi none none → KB w5 V' p' q' ((x.tl.take (j + 1)).map (·.1)) ((x.tl.take (j + 1)).map (·.2))) := fun p' q' V' h => by
                      have e : x.tl.take (j + 1) = x.tl.take j ++ [(ke, bi)] := by rw [List.take_add_one, Htk.out]; rfl
                      rw [e, List.map_append, List.map_append]
                      exact h.k
                    clear t0 t1 Hkb
                    refine wp_region_noPanic ?_
                    refine wp_region_held_drew (S := fun W => W.heap[tb]? = some (.cells #[.int .u16 (ke : Int), .int .u16 (bi : Int)] 48 (0, 0))) (by kernel_rfl) ?_ (fun hHeld => ?_)
                    · exact ht0
                    refine heldTake (i := 0) (v := ?_) rfl (by kernel_rfl) (by kernel_rfl) (by kernel_rfl) (fun _ _ _ h => h) (Or.inl ⟨by rfl, ?_⟩) (by assumption) ?_
                    rotate_left
                    · (intro W hSw; (try dsimp only at hSw); have f0 := cell_of_row _ _ 0 _ _ _ hSw; have f1 := cell_of_row _ _ 1 _ _ _ hSw; go_simp; try with_reducible rfl)
                    try simp only [heldPut, List.set]
                    refine heldTake (i := 1) (v := ?_) rfl (by kernel_rfl) (by kernel_rfl) (by kernel_rfl) (fun _ _ _ h => h) (Or.inl ⟨by rfl, ?_⟩) (by assumption) ?_
                    rotate_left
                    · (intro W hSw; (try dsimp only at hSw); have f0 := cell_of_row _ _ 0 _ _ _ hSw; have f1 := cell_of_row _ _ 1 _ _ _ hSw; go_simp; try with_reducible rfl)
                    try simp only [heldPut, List.set]
                    refine heldTake (i := 2) (v := ?_) rfl (by kernel_rfl) (by kernel_rfl) (by kernel_rfl) (fun _ _ _ h => h) (Or.inl ⟨by rfl, ?_⟩) (by assumption) ?_
                    rotate_left
                    · (intro W hSw; (try dsimp only at hSw); have f0 := cell_of_row _ _ 0 _ _ _ hSw; have f1 := cell_of_row _ _ 1 _ _ _ hSw; go_simp; try with_reducible rfl)
                    try simp only [heldPut, List.set]
                    refine heldTake (i := 3) (v := ?_) rfl (by kernel_rfl) (by kernel_rfl) (by kernel_rfl) (fun _ _ _ h => h) (Or.inl ⟨by rfl, ?_⟩) (by assumption) ?_
                    rotate_left
                    · (intro W hSw; (try dsimp only at hSw); have f0 := cell_of_row _ _ 0 _ _ _ hSw; have f1 := cell_of_row _ _ 1 _ _ _ hSw; go_simp; try with_reducible rfl)
                    try simp only [heldPut, List.set]
                    refine heldTake (i := 6) (v := ?_) rfl (by kernel_rfl) (by kernel_rfl) (by kernel_rfl) (fun _ _ _ h => h) (Or.inl ⟨by rfl, ?_⟩) (by assumption) ?_
                    rotate_left
                    · (intro W hSw; (try dsimp only at hSw); have f0 := cell_of_row _ _ 0 _ _ _ hSw; have f1 := cell_of_row _ _ 1 _ _ _ hSw; go_simp; try with_reducible rfl)
                    try simp only [heldPut, List.set]
                    refine heldTake (i := 7) (v := ?_) rfl (by kernel_rfl) (by kernel_rfl) (by kernel_rfl) (fun _ _ _ h => h) (Or.inl ⟨by rfl, ?_⟩) (by assumption) ?_
                    rotate_left
                    · (intro W hSw; (try dsimp only at hSw); have f0 := cell_of_row _ _ 0 _ _ _ hSw; have f1 := cell_of_row _ _ 1 _ _ _ hSw; go_simp; try with_reducible rfl)
                    try simp only [heldPut, List.set]
                    refine heldTake (i := 8) (v := ?_) rfl (by kernel_rfl) (by kernel_rfl) (by kernel_rfl) (fun _ _ _ h => h) (Or.inl ⟨by rfl, ?_⟩) (by assumption) ?_
                    rotate_left
                    · (intro W hSw; (try dsimp only at hSw); have f0 := cell_of_row _ _ 0 _ _ _ hSw; have f1 := cell_of_row _ _ 1 _ _ _ hSw; go_simp; try with_reducible rfl)
                    try simp only [heldPut, List.set]
                    refine heldTake (i := 9) (v := ?_) rfl (by kernel_rfl) (by kernel_rfl) (by kernel_rfl) (fun _ _ _ h => h) (Or.inl ⟨by rfl, ?_⟩) (by assumption) ?_
                    rotate_left
                    · (intro W hSw; (try dsimp only at hSw); have f0 := cell_of_row _ _ 0 _ _ _ hSw; have f1 := cell_of_row _ _ 1 _ _ _ hSw; go_simp; try with_reducible rfl)
                    try simp only [heldPut, List.set]
                    refine heldTwo (i := 4) (j := 10) rfl rfl (by kernel_rfl) (fun K hK => ?_) (fun K hK => ?_)
                    · go_simp
                      have R1 := Lib.hid (R0.out.build1)
                      refine hK.out _ _ R1.out.t (fun hHeld => ?_)
                      clear hK K
                      try simp only [heldPut, List.set]
                      refine heldTwo (i := 5) (j := 10) rfl rfl (by kernel_rfl) (fun K hK => ?_) (fun K hK => ?_)
                      · refine step_rw1 rfl (.tmp 149) (.tmp 153) rfl R1.out (by first | exact hlen1 | (rw [List.length_append]; exact Nat.succ_le_succ hlen1)) rfl rfl (by simp) ?_
                        intro P2 V2 R2
                        replace R2 := Lib.hid R2
                        refine hK.out _ _ R2.out.t (fun hHeld => ?_)
                        clear hK K
                        try simp only [heldPut, List.set]
                        refine heldOne (i := 10) rfl (by kernel_rfl) (fun K hK => ?_)
                        go_simp
                        have R3 := Lib.hid (R2.out.build2)
                        refine hK.out _ _ R3.out.t (fun hHeld => ?_)
                        clear hK K
                        try simp only [heldPut, List.set]
                        refine heldOne (i := 11) rfl (by kernel_rfl) (fun K hK => ?_)
                        refine step_rw2 rfl (.tmp 155) (.tmp 159) rfl R3.out hlen2 rfl rfl (by simp) ?_
                        intro P4 V4 R4
                        replace R4 := Lib.hid R4
                        refine hK.out _ _ R4.out.t (fun hHeld => ?_)
                        clear hK K
                        try simp only [heldPut, List.set]
                        refine heldTake (i := 12) (v := ?_) rfl (by kernel_rfl) (by kernel_rfl) (by kernel_rfl) (fun _ _ _ h => h) (Or.inl ⟨by rfl, ?_⟩) (by assumption) ?_
                        rotate_left
                        · (intro W hSw; (try dsimp only at hSw);  go_simp; try with_reducible rfl)
                        try simp only [heldPut, List.set]
                        refine heldTake (i := 13) (v := ?_) rfl (by kernel_rfl) (by kernel_rfl) (by kernel_rfl) (fun _ _ _ h => h) (Or.inl ⟨by rfl, ?_⟩) (by assumption) ?_
                        rotate_left
                        · (intro W hSw; (try dsimp only at hSw);  go_simp; try with_reducible rfl)
                        try simp only [heldPut, List.set]
                        refine wpAnyH_done (by kernel_rfl) ?_ _
                        refine NoPanic.normal ?_
                        have hk4 := hfin2.out _ _ _ R4.out
                        go_wp2
                        go_roundw
                        case rel => exact ⟨_, _, _, _, ⟨j + 1, by omega, by go_num, (by show KB _ _ _ _ _ _; rw [← List.map_take, ← List.map_take]; exact hk4)⟩, rfl, rfl, rfl, rfl⟩
                        case measure => simp [intOf]; omega
                      · go_simp
                        have R2 := Lib.hid (R1.out.build2)
                        refine hK.out _ _ R2.out.t (fun hHeld => ?_)
                        clear hK K
                        try simp only [heldPut, List.set]
                        refine heldOne (i := 5) rfl (by kernel_rfl) (fun K hK => ?_)
                        refine step_rw1 rfl (.tmp 149) (.tmp 153) rfl R2.out (by first | exact hlen1 | (rw [List.length_append]; exact Nat.succ_le_succ hlen1)) rfl rfl (by simp) ?_
                        intro P3 V3 R3
                        replace R3 := Lib.hid R3
                        refine hK.out _ _ R3.out.t (fun hHeld => ?_)
                        clear hK K
                        try simp only [heldPut, List.set]
                        refine heldOne (i := 11) rfl (by kernel_rfl) (fun K hK => ?_)
                        refine step_rw2 rfl (.tmp 155) (.tmp 159) rfl R3.out hlen2 rfl rfl (by simp) ?_
                        intro P4 V4 R4
                        replace R4 := Lib.hid R4
                        refine hK.out _ _ R4.out.t (fun hHeld => ?_)
                        clear hK K
                        try simp only [heldPut, List.set]
                        refine heldTake (i := 12) (v := ?_) rfl (by kernel_rfl) (by kernel_rfl) (by kernel_rfl) (fun _ _ _ h => h) (Or.inl ⟨by rfl, ?_⟩) (by assumption) ?_
                        rotate_left
                        · (intro W hSw; (try dsimp only at hSw);  go_simp; try with_reducible rfl)
                        try simp only [heldPut, List.set]
                        refine heldTake (i := 13) (v := ?_) rfl (by kernel_rfl) (by kernel_rfl) (by kernel_rfl) (fun _ _ _ h => h) (Or.inl ⟨by rfl, ?_⟩) (by assumption) ?_
                        rotate_left
                        · (intro W hSw; (try dsimp only at hSw);  go_simp; try with_reducible rfl)
                        try simp only [heldPut, List.set]
                        refine wpAnyH_done (by kernel_rfl) ?_ _
                        refine NoPanic.normal ?_
                        have hk4 := hfin2.out _ _ _ R4.out
                        go_wp2
                        go_roundw
                        case rel => exact ⟨_, _, _, _, ⟨j + 1, by omega, by go_num, (by show KB _ _ _ _ _ _; rw [← List.map_take, ← List.map_take]; exact hk4)⟩, rfl, rfl, rfl, rfl⟩
                        case measure => simp [intOf]; omega
                    · go_simp
                      have R1 := Lib.hid (R0.out.build2)
                      refine hK.out _ _ R1.out.t (fun hHeld => ?_)
                      clear hK K
                      try simp only [heldPut, List.set]
                      refine heldOne (i := 4) rfl (by kernel_rfl) (fun K hK => ?_)
                      go_simp
                      have R2 := Lib.hid (R1.out.build1)
                      refine hK.out _ _ R2.out.t (fun hHeld => ?_)
                      clear hK K
                      try simp only [heldPut, List.set]
                      refine heldOne (i := 5) rfl (by kernel_rfl) (fun K hK => ?_)
                      refine step_rw1 rfl (.tmp 149) (.tmp 153) rfl R2.out (by first | exact hlen1 | (rw [List.length_append]; exact Nat.succ_le_succ hlen1)) rfl rfl (by simp) ?_
                      intro P3 V3 R3
                      replace R3 := Lib.hid R3
                      refine hK.out _ _ R3.out.t (fun hHeld => ?_)
                      clear hK K
                      try simp only [heldPut, List.set]
                      refine heldOne (i := 11) rfl (by kernel_rfl) (fun K hK => ?_)
                      refine step_rw2 rfl (.tmp 155) (.tmp 159) rfl R3.out hlen2 rfl rfl (by simp) ?_
                      intro P4 V4 R4
                      replace R4 := Lib.hid R4
                      refine hK.out _ _ R4.out.t (fun hHeld => ?_)
                      clear hK K
                      try simp only [heldPut, List.set]
                      refine heldTake (i := 12) (v := ?_) rfl (by kernel_rfl) (by kernel_rfl) (by kernel_rfl) (fun _ _ _ h => h) (Or.inl ⟨by rfl, ?_⟩) (by assumption) ?_
                      rotate_left
                      · (intro W hSw; (try dsimp only at hSw);  go_simp; try with_reducible rfl)
                      try simp only [heldPut, List.set]
                      refine heldTake (i := 13) (v := ?_) rfl (by kernel_rfl) (by kernel_rfl) (by kernel_rfl) (fun _ _ _ h => h) (Or.inl ⟨by rfl, ?_⟩) (by assumption) ?_
                      rotate_left
                      · (intro W hSw; (try dsimp only at hSw);  go_simp; try with_reducible rfl)
                      try simp only [heldPut, List.set]
                      refine wpAnyH_done (by kernel_rfl) ?_ _
                      refine NoPanic.normal ?_
                      have hk4 := hfin2.out _ _ _ R4.out
                      go_wp2
                      go_roundw
                      case rel => exact ⟨_, _, _, _, ⟨j + 1, by omega, by go_num, (by show KB _ _ _ _ _ _; rw [← List.map_take, ← List.map_take]; exact hk4)⟩, rfl, rfl, rfl, rfl⟩
                      case measure => simp [intOf]; omega
                  · obtain rfl : j = x.tn := by omega
                    have hall : x.tl.take x.tn = x.tl := by rw [HTl.out]; exact List.take_length
                    have hkb := Hkb.out
                    rw [hall] at hkb
                    obtain ⟨A1, c1, rfl⟩ := ownB_slice hkb.op
                    obtain ⟨B1, d1, rfl⟩ := ownB_slice hkb.oq
                    have hl1 : (x.tl.map (·.1)).length = x.tn := by rw [List.length_map]; exact HTl.out.symm
                    have hl2 : (x.tl.map (·.2)).length = x.tn := by rw [List.length_map]; exact HTl.out.symm
                    have hkp := hkb.op
                    have hkq := hkb.oq
                    rw [hl1] at hkp
                    rw [hl2] at hkq
                    rw [hl1, hl2]
                    have hd0 : decide (x.tn < x.tn) = false := decide_eq_false (Nat.lt_irrefl _)
                    have y7' := (hkb.bl.cell (p := ⟨ab, 7, none⟩) habl5).trans y7
                    have Hp2 := Lib.hid (Hp1.out.below hkb.bl)
                    have Hbl2 := Lib.hid (Hbl1.out.trans (hkb.bl.mono Hbl1.out.size))
                    have HKp := Lib.hid hkp
                    have HKq := Lib.hid hkq
                    have HtrW : Hid (∀ W, Below w.heap.size w W → RdT W W.heap.size tA x.tl) := fun W hW h0 => by
                      obtain ⟨b', o', e, hb', hc⟩ := HTr.out h0
                      exact ⟨b', o', e, Nat.lt_of_lt_of_le hb' hW.size, fun i t ht => ⟨(hW.cell (p := ⟨b', o' + i * 2, none⟩) hb').trans (hc i t ht).1, (hW.cell (p := ⟨b', o' + i * 2 + 1, none⟩) hb').trans (hc i t ht).2⟩⟩
                    have HnS : Hid (∀ a, tA = some a → 0 < x.tl.length → ¬ S a.block) := fun a ha h0 h => by
                      obtain ⟨bb, oo, e, hbb, _⟩ := HTr.out h0
                      rw [ha] at e
                      injection e with e
                      have := Hp2.out.sb _ h
                      rw [e] at this
                      have : w.heap.size ≤ bb := this
                      omega
                    have HS5 : Hid (∀ i, S i → i < w5.heap.size) := Hp1.out.D.ltS
                    have HT5 : Hid (∀ i, T i → i < w5.heap.size) := Hp1.out.R.ltT
                    have P3 : Hid (Grows L wr0 sy (crashL L x.tl) wr0 sy) := ⟨by rw [(crashL_grows L x.tl).1]; omega, fun b hb p hp => by have := (crashL_grows L x.tl).2 b hb p hp; omega, by omega, by omega⟩
                    clear hall hkb hl1 hl2 hkp hkq y7 Hkb
                    go_wp2_with fail
                    refine (crash_any (ts := x.tl) _ Hp2.out.D HTl.out (by omega) (HtrW.out _ Hbl2.out) HnS.out HTo.out).mono ?_
                    rintro e w6 ⟨rfl, hl⟩
                    obtain ⟨⟨S6, hh, _⟩, hb6, ho6⟩ := Hp2.out.half hl
                    have Hh := Lib.hid hh
                    have Hb6 := Lib.hid (Hbl2.out.trans hb6)
                    have k1 := ho6.own HKp.out (fun i hi hs => by have := (HKp.out.lt i hi).1; have := HS5.out i hs; omega)
                    have k2 := ho6.own HKq.out (fun i hi hs => by have := (HKq.out.lt i hi).1; have := HS5.out i hs; omega)
                    have K1 := Lib.hid k1
                    have K2 := Lib.hid k2
                    clear hl hh hb6 ho6 k1 k2
                    go_wp2_with fail
                    refine (rcrash_any (ts := x.tl) _ Hh.out.R HTl.out (by omega) (rdN_of_own K1.out) (rdN_of_own K2.out) (fun a ha h0 ht => ?_) (fun a ha h0 ht => ?_) HTo.out).mono ?_
                    · obtain ⟨g', cap, hv, hge, _⟩ := K1.out.form (by rw [HTl.out]; exact h0)
                      injection hv with hv
                      rw [hv] at ha
                      injection ha with ha
                      have := HT5.out _ ht
                      rw [← ha] at this
                      have : g' < w5.heap.size := this
                      omega
                    · obtain ⟨g', cap, hv, hge, _⟩ := K2.out.form (by rw [HTl.out]; exact h0)
                      injection hv with hv
                      rw [hv] at ha
                      injection ha with ha
                      have := HT5.out _ ht
                      rw [← ha] at this
                      have : g' < w5.heap.size := this
                      omega
                    rintro e w7 ⟨rfl, hl⟩
                    obtain ⟨⟨T7, hq⟩, hb7⟩ := Hh.out.whole hl Hp2.out P3.out
                    have Hq := Lib.hid hq
                    have Hb7 := Lib.hid (Hb6.out.trans hb7)
                    clear hl hq hb7
                    go_wp2
                    go_meet
                    exact ⟨0, S6, T7, _, _, _, rfl, rfl, rfl, Hq.out, Hb7.out⟩
              · have hm3 : ∀ j : Int, 3 ≤ j → (x.kd : Int).tmod 9 ≠ j := fun j hj => by rw [Int.tmod_eq_emod_of_nonneg (by omega)]; omega
                have hm4 : (x.kd : Int) % 9 < 3 := by omega
                have hm5 : 0 ≤ (x.kd : Int) % 9 := by omega
                clear hm
                obtain ⟨q9, hq9⟩ : ∃ q9 : Int, q9 = (x.kd : Int) % 9 := ⟨_, rfl⟩
                obtain ⟨z, L', wr', p1, p2, p3⟩ := pair_append (wr := wr0) (sy := sy) (A := x.bA) (n := x.bn) (c := x.bc) hr HS1.out HX.out.bn HX.out.bok (by omega) (by have := Hp1.out.len; omega) (fun p hp => by have := Hp1.out.by_ p hp; omega) hwr
                have HnS : Hid (¬ S ab) := fun h => by have := Hp.out.D.ltS _ h; have := Hab.out; omega
                have HnT : Hid (¬ T ab) := fun h => by have := Hp.out.R.ltT _ h; have := Hab.out; omega
                have HRd : Hid (∀ W, Below w.heap.size w W → RdB W W.heap.size x.bA x.bl) := fun W hW => (HXo.out.br.below hW).more hW.size
                have HnB : Hid (∀ a, x.bA = some a → 0 < x.bl.length → ¬ T a.block) := fun a ha h0 h => by
                  obtain ⟨bb, oo, e, hbb, _⟩ := HXo.out.br h0
                  rw [ha] at e
                  injection e with e
                  have := Hp1.out.tb _ h
                  rw [e] at this
                  have : w.heap.size ≤ bb := this
                  omega
                have P1 := Lib.hid p1
                have P2 := Lib.hid p2
                have P3 := Lib.hid p3
                clear p1 p2 p3
                clear hr
                go_upto_region 11 with fail
                refine wp_region_noPanic ?_
                refine wp_region_held_drew (S := fun W => W.cell? ⟨ab, 3, none⟩ = some (.slice x.bA x.bn x.bc)) (by kernel_rfl) ?_ (fun hHeld => ?_)
                · exact y3
                try simp only [heldPut, List.set]
                refine heldTake (i := 0) (v := ?_) rfl (by kernel_rfl) (by kernel_rfl) (by kernel_rfl) (fun _ _ _ h => h) (Or.inl ⟨by rfl, ?_⟩) (by assumption) ?_
                rotate_left
                · (intro W hSw; (try dsimp only at hSw); have f3 := hSw; go_simp; try with_reducible rfl)
                try simp only [heldPut, List.set]
                refine heldTake (i := 1) (v := ?_) rfl (by kernel_rfl) (by kernel_rfl) (by kernel_rfl) (fun _ _ _ h => h) (Or.inl ⟨by rfl, ?_⟩) (by assumption) ?_
                rotate_left
                · (intro W hSw; (try dsimp only at hSw); have f3 := hSw; go_simp; try with_reducible rfl)
                try simp only [heldPut, List.set]
                refine heldTake (i := 2) (v := ?_) rfl (by kernel_rfl) (by kernel_rfl) (by kernel_rfl) (fun _ _ _ h => h) (Or.inl ⟨by rfl, ?_⟩) (by assumption) ?_
                rotate_left
                · (intro W hSw; (try dsimp only at hSw); have f3 := hSw; go_simp; try with_reducible rfl)
                try simp only [heldPut, List.set]
                refine heldTake (i := 3) (v := ?_) rfl (by kernel_rfl) (by kernel_rfl) (by kernel_rfl) (fun _ _ _ h => h) (Or.inl ⟨by rfl, ?_⟩) (by assumption) ?_
                rotate_left
                · (intro W hSw; (try dsimp only at hSw); have f3 := hSw; go_simp; try with_reducible rfl)
                try simp only [heldPut, List.set]
                refine heldTake (i := 5) (v := ?_) rfl (by kernel_rfl) (by kernel_rfl) (by kernel_rfl) (fun _ _ _ h => h) (Or.inl ⟨by rfl, ?_⟩) (by assumption) ?_
                rotate_left
                · (intro W hSw; (try dsimp only at hSw); have f3 := hSw; go_simp; try with_reducible rfl)
                try simp only [heldPut, List.set]
                refine heldTake (i := 6) (v := ?_) rfl (by kernel_rfl) (by kernel_rfl) (by kernel_rfl) (fun _ _ _ h => h) (Or.inl ⟨by rfl, ?_⟩) (by assumption) ?_
                rotate_left
                · (intro W hSw; (try dsimp only at hSw); have f3 := hSw; go_simp; try with_reducible rfl)
                try simp only [heldPut, List.set]
                refine heldTake (i := 7) (v := ?_) rfl (by kernel_rfl) (by kernel_rfl) (by kernel_rfl) (fun _ _ _ h => h) (Or.inl ⟨by rfl, ?_⟩) (by assumption) ?_
                rotate_left
                · (intro W hSw; (try dsimp only at hSw); have f3 := hSw; go_simp; try with_reducible rfl)
                try simp only [heldPut, List.set]
                refine heldTake (i := 8) (v := ?_) rfl (by kernel_rfl) (by kernel_rfl) (by kernel_rfl) (fun _ _ _ h => h) (Or.inl ⟨by rfl, ?_⟩) (by assumption) ?_
                rotate_left
                · (intro W hSw; (try dsimp only at hSw); have f3 := hSw; go_simp; try with_reducible rfl)
                try simp only [heldPut, List.set]
                have Hp5 := Lib.hid (Hp1.out.below (Below.refl _ _).drew)
                have Hb5 := Lib.hid (Hbl1.out.drew)
                refine heldOne (i := 4) rfl (by kernel_rfl) (fun K hK => ?_)
                go_simp
                refine (P1.out _ _ _ Hp5.out.D (HRd.out _ Hb5.out)).mono ?_
                rintro e w6 ⟨rfl, hl⟩
                obtain ⟨⟨S6, hh, _⟩, hb6, ho6⟩ := Hp5.out.half hl
                have Hh := Lib.hid hh
                have Hb6 := Lib.hid (Hb5.out.trans hb6)
                have Hc6 : Hid (w6.cell? ⟨ab, 3, none⟩ = some (.slice x.bA x.bn x.bc)) := (ho6.cell (p := ⟨ab, 3, none⟩) habl5 HnS.out).trans hHeld
                have habl6 : ab < w6.heap.size := Nat.lt_of_lt_of_le habl5 ho6.size
                clear hl hh hb6 ho6
                go_wp2_with fail
                refine hK.out _ _ ?_ (fun hHeld => ?_)
                · exact Hc6.out
                clear hK K
                try simp only [heldPut, List.set]
                refine heldOne (i := 9) rfl (by kernel_rfl) (fun K hK => ?_)
                go_simp
                refine (P2.out _ _ _ Hh.out.R (HRd.out _ Hb6.out) HnB.out).mono ?_
                rintro e w7 ⟨rfl, hl⟩
                have Hc7 : Hid (w7.cell? ⟨ab, 3, none⟩ = some (.slice x.bA x.bn x.bc)) := by
                  obtain ⟨_, _, st⟩ := hl
                  exact (st.only.cell (p := ⟨ab, 3, none⟩) habl6 HnT.out).trans Hc6.out
                obtain ⟨⟨T7, hq⟩, hb7⟩ := Hh.out.whole hl Hp5.out P3.out
                have Hq := Lib.hid hq
                have Hb7 := Lib.hid (Hb6.out.trans hb7)
                clear hl hq hb7
                go_wp2_with fail
                refine hK.out _ _ ?_ (fun hHeld => ?_)
                · exact Hc7.out
                clear hK K
                try simp only [heldPut, List.set]
                refine heldTake (i := 10) (v := ?_) rfl (by kernel_rfl) (by kernel_rfl) (by kernel_rfl) (fun _ _ _ h => h) (Or.inl ⟨by rfl, ?_⟩) (by assumption) ?_
                rotate_left
                · (intro W hSw; (try dsimp only at hSw);  go_simp; try with_reducible rfl)
                try simp only [heldPut, List.set]
                refine heldTake (i := 11) (v := ?_) rfl (by kernel_rfl) (by kernel_rfl) (by kernel_rfl) (fun _ _ _ h => h) (Or.inl ⟨by rfl, ?_⟩) (by assumption) ?_
                rotate_left
                · (intro W hSw; (try dsimp only at hSw);  go_simp; try with_reducible rfl)
                try simp only [heldPut, List.set]
                refine wpAnyH_done (by kernel_rfl) ?_ _
                refine NoPanic.normal ?_
                go_wp2
                go_meet
                exact ⟨z, S6, T7, L', _, _, rfl, rfl, rfl, Hq.out, Hb7.out⟩
            case rest =>
              obtain ⟨z, S', T', L', wr', sy', rfl, rfl, rfl, Hp2, Hbl2⟩ := hcut
              go_wp2_with fail
              refine (same_any _ Hp2.out.D Hp2.out.R).mono ?_
              rintro e w6 ⟨rfl, hb6⟩
              have Hp3 := Lib.hid (Hp2.out.below hb6)
              have Hbl3 := Lib.hid (Hbl2.out.trans (hb6.mono Hbl2.out.size))
              clear hb6
              go_wp2
              go_roundw
              case rel => exact ⟨k + 1, S', T', L', wr', sy', by omega, by omega, by go_num, Hp3.out, Hbl3.out⟩
              case measure => simp [intOf]; omega
    · have hd : decide (k < n) = false := decide_eq_false hlt
      go_wp2
      go_ret
      exact ⟨rfl, Hbl.out⟩
end diskPlays
end Go.Proofs.Ytheojokfgndheaa
