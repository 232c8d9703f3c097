/- Several texts in one: CrcBytes, CrcSeal. -/
import Derived.Lib.AppendZeros
import Derived.WalkSpells
import Derived.Lib.SliceRun
import Derived.LoopN
import Derived.Deep.RegionHeld3
import Derived.Test.YtnagmopejblegaaMa6
import Derived.Test.YtnagmopejblegaaMa29
/- Layer 2: bytes.Clone, slices.Grow of nil, slices.Concat of two parts. -/
namespace Go.Proofs.Ytnagmopejblegaa
open Go.RowKit

set_option maxRecDepth 100000 in
set_option maxHeartbeats 400000 in
theorem grow_nil (n : Nat) (w : World) (hm : n ≤ 140737488351232) :
    Calls Try.prog 55 #[.slice none 0 0, .int .i64 n] w fun e w' => ∃ v, e = .returned v ∧ w'.ownsRow w.heap.size 5 1 v 0 [] ∧ Below w.heap.size w w' := by
  obtain ⟨i0, hi, hz0, hz1, hz2⟩ := info_parts Try.infoB
  rcases Nat.eq_zero_or_pos n with rfl | hpos
  · clear hm
    go_enter Try.func55, Try.ntmps55
    go_wp2
    go_ret
    exact ⟨_, rfl, World.ownsRow_nil _ _ _ _, Below.refl _ _⟩
  · have hrz : ∀ ty, (Builtin.append_ #[31, 3] ty #[.slice none 0 0, .int .i64 (n : Int)]).run Try.prog w = _ := fun ty => Lib.run_append_nil_zeros w 31 3 ty 5 i0 (.int .u8 0) .i64 .i64 Try.underlying31 Try.underlying3 hi hz0 n hpos (by omega) (by omega) (by rw [hz2]; omega)
    have hge := grownCap_ge w n 0 5
    have hmx := grownCap_le_maxLen w n 0 5 (by unfold maxLen; omega)
    have Hsz : Hid ((Builtin.zeroCells (Value.int .u8 0).cells n ++ Builtin.zeroCells (Value.int .u8 0).cells (grownCap w n 0 5 - n)).size = grownCap w n 0 5 * 1) := by
      show _ = _
      rw [Array.size_append, size_zeroCells, size_zeroCells]
      simp [Value.cells]
      omega
    generalize grownCap w n 0 5 = G at *
    generalize (Builtin.zeroCells (Value.int .u8 0).cells n ++ Builtin.zeroCells (Value.int .u8 0).cells (G - n)) = C at *
    have hmx2 := hmx
    unfold maxLen at hmx
    go_enter Try.func55, Try.ntmps55
    go_wp2_with (at_builtin; refine Lib.wpList_append_run _ rfl _ _ _ _ rfl _ _ rfl rfl _ _ (hrz _) ?_)
    go_ret
    exact ⟨_, rfl, World.ownsRow_made w.drew C G (Nat.le_refl _) hmx2 Hsz.out, ((Below.refl _ w).drew).alloc (Nat.le_refl _) _⟩

set_option maxRecDepth 100000 in
set_option maxHeartbeats 1000000 in
theorem concat_any (q : Nat) (A : Option Addr) (n c : Nat) (l : List Nat) (A' : Option Addr) (m d : Nat) (l' : List Nat) (B : Nat) (w : World) (hn : n = l.length) (hm : m = l'.length) (hnx : n + m ≤ 140737488351232) (hr : RdB w B A l) (hs : RdB w B A' l') (hB : B ≤ w.heap.size) (hq : q < w.heap.size)
    (hc0 : w.cell? ⟨q, 0, none⟩ = some (.slice A n c)) (hc1 : w.cell? ⟨q, 1, none⟩ = some (.slice A' m d)) :
    Calls Try.prog 35 #[.slice (some ⟨q, 0, none⟩) 2 2] w fun e w' => ∃ v, e = .returned v ∧ w'.ownsRow w.heap.size 5 1 v (n + m) (cellsB (l ++ l')) ∧ Below w.heap.size w w' := by
  obtain ⟨i0, hi, hz0, hz1, hz2⟩ := info_parts Try.infoB
  have Hg := Lib.hid (grow_nil (n + m) w hnx)
  have e1 : ¬ ((n : Int) < 0) := by omega
  have e2 : ¬ ((n : Int) + (m : Int) < 0) := by omega
  have Hn := Lib.hid hn
  have Hm := Lib.hid hm
  have Hr := Lib.hid (hr.more hB)
  have Hs := Lib.hid (hs.more hB)
  clear hn hm hr hs
  go_enter Try.func35, Try.ntmps35
  go_wp2
  refine wp_loop_rounds 3 ?_
  rw [rounds_succ]
  go_wp2
  rw [rounds_succ]
  go_wp2
  rw [rounds_succ]
  go_wp2_with fail
  refine Hg.out.mono ?_
  rintro e w1 ⟨v1, rfl, hown1, hb1⟩
  obtain ⟨A1, c1, rfl⟩ := ownB_slice hown1
  have hge1 := hb1.size
  have Hown1 := Lib.hid hown1
  have d0 := (hb1.cell (p := ⟨q, 0, none⟩) hq).trans hc0
  have d1 := (hb1.cell (p := ⟨q, 1, none⟩) hq).trans hc1
  have Hr1 := Lib.hid (src_of_rdB (Hr.out.below hb1) Hn.out)
  clear hown1 hc0 hc1
  go_wp2
  refine wp_loop_rounds 3 ?_
  rw [rounds_succ]
  go_wp2_with (at_builtin; refine wpList_append_src (base := w.heap.size) rfl (.tmp 31) (.tmp 32) rfl Try.underlying31 hi hz0 hz1 hz2 rfl (by decide) rfl Hown1.out rfl Hr1.out (cellsB_one _) (by unfold maxLen; omega) (by omega) hge1 ?_; intro v2 w2 hr2 hg2 _; obtain ⟨A2, c2, rfl⟩ := ownB_slice hr2; replace hg2 : Below w.heap.size w w2 := hb1.grown hg2 hge1 (fun q hq => (Hown1.out.lt q hq).1); rw [List.nil_append, Nat.zero_add] at hr2; rw [Nat.zero_add]; replace hr2 := Lib.hid hr2)
  have hge2 := hg2.size
  have f1 := (hg2.cell (p := ⟨q, 1, none⟩) hq).trans (((hb1.cell (p := ⟨q, 1, none⟩) hq).symm).trans d1)
  have Hs2 := Lib.hid (src_of_rdB (Hs.out.below hg2) Hm.out)
  clear d0 d1 Hr1 Hown1
  rw [rounds_succ]
  go_wp2_with (at_builtin; refine wpList_append_src (base := w.heap.size) rfl (.tmp 31) (.tmp 32) rfl Try.underlying31 hi hz0 hz1 hz2 rfl (by decide) rfl hr2.out rfl Hs2.out (cellsB_one _) (by unfold maxLen; omega) (by omega) hge2 ?_; intro v3 w3 hr3 hg3 _; obtain ⟨A3, c3, rfl⟩ := ownB_slice hr3; replace hg3 : Below w.heap.size w w3 := hg2.grown hg3 hge2 (fun q hq => (hr2.out.lt q hq).1); replace hr3 := Lib.hid hr3)
  rw [rounds_succ]
  go_wp2
  go_ret
  rw [cellsB_append]
  exact ⟨_, rfl, hr3.out, hg3⟩
end Go.Proofs.Ytnagmopejblegaa
/- Layer 2: (*Table).Seal and Open. -/
namespace Go.Proofs.Ytnagmopejblegaa
open Go.RowKit

theorem TurnsIn.of_below {w w' : World} {g : Nat} {P : Nat → Prop} (hg : g < w.heap.size) (h : Below w.heap.size w w') : TurnsIn w w' g P :=
  ⟨⟨h.os, h.tape, h.output, h.size, fun k hk _ => h.block k hk⟩, fun o _ => h.cell (p := ⟨g, o, none⟩) hg, fun o => h.frozen (p := ⟨g, o, none⟩) hg⟩
theorem Tab.turned {w w' : World} {g d s b : Nat} (h : Tab w g d s b) (ht : TurnsIn w w' g (fun _ => False)) : Tab w' g d s b :=
  { lt := Nat.lt_of_lt_of_le h.lt ht.grown.size
    c0 := (ht.cell 0 id).trans h.c0
    c1 := (ht.cell 1 id).trans h.c1
    tab := fun j hj => by
      obtain ⟨x, hx, hx2⟩ := h.tab j hj
      exact ⟨x, (ht.cell _ id).trans hx, hx2⟩
    sums := (ht.cell 259 id).trans h.sums
    bytes := (ht.cell 260 id).trans h.bytes
    fz := fun o => (ht.fz o).trans (h.fz o) }
theorem Tab.below {w w' : World} {g d s b : Nat} (h : Tab w g d s b) (hb : Below w.heap.size w w') : Tab w' g d s b := h.turned (TurnsIn.of_below h.lt hb)
theorem Tab.drew {w : World} {g d s b : Nat} (h : Tab w g d s b) : Tab w.drew g d s b := h.turned (TurnsIn.refl w g _).drew
theorem Tab.alloc {w : World} {g d s b : Nat} (h : Tab w g d s b) (o : Obj) : Tab (w.alloc o) g d s b := h.turned ((TurnsIn.refl w g _).alloc h.lt o)
theorem TurnsIn.all {w w' : World} {g : Nat} {P : Nat → Prop} (h : TurnsIn w w' g P) : TurnsIn w w' g (fun _ => True) := h.mono fun _ _ => trivial

set_option maxRecDepth 100000 in
set_option maxHeartbeats 1000000 in
theorem seal_any (g d s b : Nat) (hd : d ≤ 1) (A : Option Addr) (n c : Nat) (l : List Nat) (B : Nat) (w : World) (h : Tab w g d s b) (hn : n = l.length) (hm : n ≤ 1048576) (hs : s < 18446744073709551615) (hbn : b + n < 18446744073709551616) (hr : RdB w B A l) (hB : B ≤ w.heap.size) (hok : OkB l) (hoff : Off A g l) :
    Calls Try.prog 15 #[.pointer (some ⟨g, 0, none⟩), .slice A n c] w fun e w' => ∃ v, e = .returned v ∧ w'.ownsRow w.heap.size 5 1 v (n + 4) (cellsB (l ++ four (sumN l))) ∧ TurnsIn w w' g (fun _ => True) ∧ Tab w' g 1 (s + 1) (b + n) := by
  have hba : Below w.heap.size w (w.alloc (.cells #[.slice A n c] 31)) := (Below.refl _ _).alloc (Nat.le_refl _) _
  have hsum := tsum_any g d s b w.heap.size hd A n c l B (w.alloc (.cells #[.slice A n c] 31)) (h.alloc _) hn (by unfold maxLen; omega) hs hbn (hr.below (hba.mono hB)) hok hoff (by have := h.lt; omega) (by rw [World.cell?_alloc_at _ _ _ _ rfl]; rfl)
  have HT := Lib.hid h
  have Hn := Lib.hid hn
  have Hr := Lib.hid hr
  have Hok := Lib.hid hok
  have Hba := Lib.hid hba
  have Hs := Lib.hid hsum
  have hlt := h.lt
  have hx := sumN_lt hok
  have Ht1 := Lib.hid ((TurnsIn.of_below (P := fun _ => True) hlt hba))
  have hp := fun w => cput_any (sumN l) w hx
  obtain ⟨y0, y1, y2, y3, hy⟩ : ∃ y0 y1 y2 y3, four (sumN l) = [y0, y1, y2, y3] := ⟨_, _, _, _, rfl⟩
  have hoky : OkB [y0, y1, y2, y3] := by rw [← hy]; exact okB_four _
  rw [hy] at hp ⊢
  have Hp : Hid (∀ w, Calls Try.prog 33 #[.int .u32 (sumN l : Nat)] w fun e w' => e = .returned (.agg #[.int .u8 y0, .int .u8 y1, .int .u8 y2, .int .u8 y3]) ∧ Below w.heap.size w w') := hp
  have Hoky := Lib.hid hoky
  clear h hn hr hok hba hsum hp hy hoky
  go_enter Try.func15, Try.ntmps15
  go_wp2_with fail
  refine Hs.out.mono ?_
  rintro e w2 ⟨rfl, ht2, hT2⟩
  have HT2 := Lib.hid hT2
  have Ht2 := Lib.hid (Ht1.out.trans ht2)
  clear hT2 ht2
  have hsz2 := Ht2.out.grown.size
  go_wp2_with fail
  refine (Hp.out _).mono ?_
  rintro e w3 ⟨rfl, hb3⟩
  have hsz3 := hb3.size
  have HT3 := Lib.hid (HT2.out.below hb3)
  have Ht3 := Lib.hid (Ht2.out.trans (TurnsIn.of_below (P := fun _ => True) HT2.out.lt hb3))
  have hr3 := Lib.hid (Hr.out.turned hoff Ht3.out)
  clear HT2 Ht2 Hp
  go_wp2_with fail
  have hb4 : Below w3.heap.size w3 ((w3.alloc (.cells #[.int .u8 y0, .int .u8 y1, .int .u8 y2, .int .u8 y3] 94)).alloc (.cells #[.slice A n c, .slice (some ⟨w3.heap.size, 0, none⟩) 4 4] 31)) := ((Below.refl _ _).alloc (Nat.le_refl _) _).alloc (by simp) _
  have hq0 : ((w3.alloc (.cells #[.int .u8 y0, .int .u8 y1, .int .u8 y2, .int .u8 y3] 94)).alloc (.cells #[.slice A n c, .slice (some ⟨w3.heap.size, 0, none⟩) 4 4] 31)).cell? ⟨w3.heap.size + 1, 0, none⟩ = some (.slice A n c) := by rw [World.cell?_alloc_at _ _ _ _ (by simp)]; rfl
  have hq1 : ((w3.alloc (.cells #[.int .u8 y0, .int .u8 y1, .int .u8 y2, .int .u8 y3] 94)).alloc (.cells #[.slice A n c, .slice (some ⟨w3.heap.size, 0, none⟩) 4 4] 31)).cell? ⟨w3.heap.size + 1, 1, none⟩ = some (.slice (some ⟨w3.heap.size, 0, none⟩) 4 4) := by rw [World.cell?_alloc_at _ _ _ _ (by simp)]; rfl
  have hfour : RdB ((w3.alloc (.cells #[.int .u8 y0, .int .u8 y1, .int .u8 y2, .int .u8 y3] 94)).alloc (.cells #[.slice A n c, .slice (some ⟨w3.heap.size, 0, none⟩) 4 4] 31)) (w3.heap.size + 1) (some ⟨w3.heap.size, 0, none⟩) [y0, y1, y2, y3] := fun _ =>
    ⟨w3.heap.size, 0, rfl, by omega, fun i x hx => by
      rw [World.cell?_alloc_past _ _ _ (by simp), World.cell?_alloc_at _ _ _ _ rfl]
      match i, hx with
      | 0, hx => cases hx; rfl
      | 1, hx => cases hx; rfl
      | 2, hx => cases hx; rfl
      | 3, hx => cases hx; rfl⟩
  have hlt4 : w3.heap.size + 1 < ((w3.alloc (.cells #[.int .u8 y0, .int .u8 y1, .int .u8 y2, .int .u8 y3] 94)).alloc (.cells #[.slice A n c, .slice (some ⟨w3.heap.size, 0, none⟩) 4 4] 31)).heap.size := by simp
  generalize ((w3.alloc (.cells #[.int .u8 y0, .int .u8 y1, .int .u8 y2, .int .u8 y3] 94)).alloc (.cells #[.slice A n c, .slice (some ⟨w3.heap.size, 0, none⟩) 4 4] 31)) = w4 at *
  have HT4 := Lib.hid (HT3.out.below hb4)
  have Ht4 := Lib.hid (Ht3.out.trans (TurnsIn.of_below (P := fun _ => True) HT3.out.lt hb4))
  refine (concat_any (w3.heap.size + 1) A n c l (some ⟨w3.heap.size, 0, none⟩) 4 4 [y0, y1, y2, y3] (w3.heap.size + 1) w4 Hn.out rfl (by omega) ((hr3.out.below (hb4.mono (by omega))).more (by omega)) hfour (by omega) hlt4 hq0 hq1).mono ?_
  rintro e w5 ⟨v, rfl, hown, hb5⟩
  have Hown := Lib.hid hown
  have HT5 := Lib.hid (HT4.out.below hb5)
  have Ht5 := Lib.hid (Ht4.out.trans (TurnsIn.of_below (P := fun _ => True) HT4.out.lt hb5))
  clear hown hq0 hq1
  go_wp2
  go_ret
  exact ⟨_, rfl, ownB_mono Hown.out (by have := hb4.size; omega), Ht5.out, HT5.out⟩
end Go.Proofs.Ytnagmopejblegaa
