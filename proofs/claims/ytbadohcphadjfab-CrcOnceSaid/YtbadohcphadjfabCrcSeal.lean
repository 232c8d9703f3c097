/- Layer 2: (*Table).Seal and Open. -/
import Derived.Test.YtbadohcphadjfabCrcBytes
import Derived.Deep.RegionHeld3
namespace Go.Proofs.Ytbadohcphadjfab
open Go.RowKit

theorem TurnsIn.of_below {w w' : World} {g : Nat} {P : Nat → Prop} (hg : g < w.heap.size) (h : Below w.heap.size w w') : TurnsIn w w' g P :=
  ⟨⟨h.os, h.tape, h.output, h.size, fun k hk _ => h.block k hk⟩, fun o _ => h.cell (p := ⟨g, o, none⟩) hg, fun o => h.frozen (p := ⟨g, o, none⟩) hg⟩
theorem Tab.turned {w w' : World} {g d s b : Nat} (h : Tab w g d s b) (ht : TurnsIn w w' g (fun _ => False)) : Tab w' g d s b :=
  { lt := Nat.lt_of_lt_of_le h.lt ht.grown.size
    c0 := (ht.cell 0 id).trans h.c0
    c1 := (ht.cell 1 id).trans h.c1
    tab := fun j hj => by
      obtain ⟨x, hx, hx2⟩ := h.tab j hj
      exact ⟨x, (ht.cell _ id).trans hx, hx2⟩
    sums := (ht.cell 259 id).trans h.sums
    bytes := (ht.cell 260 id).trans h.bytes
    fz := fun o => (ht.fz o).trans (h.fz o) }
theorem Tab.below {w w' : World} {g d s b : Nat} (h : Tab w g d s b) (hb : Below w.heap.size w w') : Tab w' g d s b := h.turned (TurnsIn.of_below h.lt hb)
theorem Tab.drew {w : World} {g d s b : Nat} (h : Tab w g d s b) : Tab w.drew g d s b := h.turned (TurnsIn.refl w g _).drew
theorem Tab.alloc {w : World} {g d s b : Nat} (h : Tab w g d s b) (o : Obj) : Tab (w.alloc o) g d s b := h.turned ((TurnsIn.refl w g _).alloc h.lt o)
theorem TurnsIn.all {w w' : World} {g : Nat} {P : Nat → Prop} (h : TurnsIn w w' g P) : TurnsIn w w' g (fun _ => True) := h.mono fun _ _ => trivial

set_option maxRecDepth 100000 in
set_option maxHeartbeats 1000000 in
theorem seal_any (g d s b : Nat) (hd : d ≤ 1) (A : Option Addr) (n c : Nat) (l : List Nat) (B : Nat) (w : World) (h : Tab w g d s b) (hn : n = l.length) (hm : n ≤ 1048576) (hs : s < 18446744073709551615) (hbn : b + n < 18446744073709551616) (hr : RdB w B A l) (hB : B ≤ w.heap.size) (hok : OkB l) (hoff : Off A g l) :
    Calls Try.prog 9 #[.pointer (some ⟨g, 0, none⟩), .slice A n c] w fun e w' => ∃ v, e = .returned v ∧ w'.ownsRow w.heap.size 5 1 v (n + 4) (cellsB (l ++ four (sumN l))) ∧ TurnsIn w w' g (fun _ => True) ∧ Tab w' g 1 (s + 1) (b + n) := by
  have hba : Below w.heap.size w (w.alloc (.cells #[.slice A n c] 22)) := (Below.refl _ _).alloc (Nat.le_refl _) _
  have hsum := tsum_any g d s b w.heap.size hd A n c l B (w.alloc (.cells #[.slice A n c] 22)) (h.alloc _) hn (by unfold maxLen; omega) hs hbn (hr.below (hba.mono hB)) hok hoff (by have := h.lt; omega) (by rw [World.cell?_alloc_at _ _ _ _ rfl]; rfl)
  have HT := Lib.hid h
  have Hn := Lib.hid hn
  have Hr := Lib.hid hr
  have Hok := Lib.hid hok
  have Hba := Lib.hid hba
  have Hs := Lib.hid hsum
  have hlt := h.lt
  have hx := sumN_lt hok
  have Ht1 := Lib.hid ((TurnsIn.of_below (P := fun _ => True) hlt hba))
  have hp := fun w => put_any (sumN l) w hx
  obtain ⟨y0, y1, y2, y3, hy⟩ : ∃ y0 y1 y2 y3, four (sumN l) = [y0, y1, y2, y3] := ⟨_, _, _, _, rfl⟩
  have hoky : OkB [y0, y1, y2, y3] := by rw [← hy]; exact okB_four _
  rw [hy] at hp ⊢
  have Hp : Hid (∀ w, Calls Try.prog 13 #[.int .u32 (sumN l : Nat)] w fun e w' => e = .returned (.agg #[.int .u8 y0, .int .u8 y1, .int .u8 y2, .int .u8 y3]) ∧ Below w.heap.size w w') := hp
  have Hoky := Lib.hid hoky
  clear h hn hr hok hba hsum hp hy hoky
  go_enter Try.func9, Try.ntmps9
  go_wp2_with fail
  refine Hs.out.mono ?_
  rintro e w2 ⟨rfl, ht2, hT2⟩
  have HT2 := Lib.hid hT2
  have Ht2 := Lib.hid (Ht1.out.trans ht2)
  clear hT2 ht2
  have hsz2 := Ht2.out.grown.size
  go_wp2_with fail
  refine (Hp.out _).mono ?_
  rintro e w3 ⟨rfl, hb3⟩
  have hsz3 := hb3.size
  have HT3 := Lib.hid (HT2.out.below hb3)
  have Ht3 := Lib.hid (Ht2.out.trans (TurnsIn.of_below (P := fun _ => True) HT2.out.lt hb3))
  have hr3 := Lib.hid (Hr.out.turned hoff Ht3.out)
  clear HT2 Ht2 Hp
  go_wp2_with fail
  have hb4 : Below w3.heap.size w3 ((w3.alloc (.cells #[.int .u8 y0, .int .u8 y1, .int .u8 y2, .int .u8 y3] 33)).alloc (.cells #[.slice A n c, .slice (some ⟨w3.heap.size, 0, none⟩) 4 4] 22)) := ((Below.refl _ _).alloc (Nat.le_refl _) _).alloc (by simp) _
  have hq0 : ((w3.alloc (.cells #[.int .u8 y0, .int .u8 y1, .int .u8 y2, .int .u8 y3] 33)).alloc (.cells #[.slice A n c, .slice (some ⟨w3.heap.size, 0, none⟩) 4 4] 22)).cell? ⟨w3.heap.size + 1, 0, none⟩ = some (.slice A n c) := by rw [World.cell?_alloc_at _ _ _ _ (by simp)]; rfl
  have hq1 : ((w3.alloc (.cells #[.int .u8 y0, .int .u8 y1, .int .u8 y2, .int .u8 y3] 33)).alloc (.cells #[.slice A n c, .slice (some ⟨w3.heap.size, 0, none⟩) 4 4] 22)).cell? ⟨w3.heap.size + 1, 1, none⟩ = some (.slice (some ⟨w3.heap.size, 0, none⟩) 4 4) := by rw [World.cell?_alloc_at _ _ _ _ (by simp)]; rfl
  have hfour : RdB ((w3.alloc (.cells #[.int .u8 y0, .int .u8 y1, .int .u8 y2, .int .u8 y3] 33)).alloc (.cells #[.slice A n c, .slice (some ⟨w3.heap.size, 0, none⟩) 4 4] 22)) (w3.heap.size + 1) (some ⟨w3.heap.size, 0, none⟩) [y0, y1, y2, y3] := fun _ =>
    ⟨w3.heap.size, 0, rfl, by omega, fun i x hx => by
      rw [World.cell?_alloc_past _ _ _ (by simp), World.cell?_alloc_at _ _ _ _ rfl]
      match i, hx with
      | 0, hx => cases hx; rfl
      | 1, hx => cases hx; rfl
      | 2, hx => cases hx; rfl
      | 3, hx => cases hx; rfl⟩
  have hlt4 : w3.heap.size + 1 < ((w3.alloc (.cells #[.int .u8 y0, .int .u8 y1, .int .u8 y2, .int .u8 y3] 33)).alloc (.cells #[.slice A n c, .slice (some ⟨w3.heap.size, 0, none⟩) 4 4] 22)).heap.size := by simp
  generalize ((w3.alloc (.cells #[.int .u8 y0, .int .u8 y1, .int .u8 y2, .int .u8 y3] 33)).alloc (.cells #[.slice A n c, .slice (some ⟨w3.heap.size, 0, none⟩) 4 4] 22)) = w4 at *
  have HT4 := Lib.hid (HT3.out.below hb4)
  have Ht4 := Lib.hid (Ht3.out.trans (TurnsIn.of_below (P := fun _ => True) HT3.out.lt hb4))
  refine (concat_any (w3.heap.size + 1) A n c l (some ⟨w3.heap.size, 0, none⟩) 4 4 [y0, y1, y2, y3] (w3.heap.size + 1) w4 Hn.out rfl (by omega) ((hr3.out.below (hb4.mono (by omega))).more (by omega)) hfour (by omega) hlt4 hq0 hq1).mono ?_
  rintro e w5 ⟨v, rfl, hown, hb5⟩
  have Hown := Lib.hid hown
  have HT5 := Lib.hid (HT4.out.below hb5)
  have Ht5 := Lib.hid (Ht4.out.trans (TurnsIn.of_below (P := fun _ => True) HT4.out.lt hb5))
  clear hown hq0 hq1
  go_wp2
  go_ret
  exact ⟨_, rfl, ownB_mono Hown.out (by have := hb4.size; omega), Ht5.out, HT5.out⟩
end Go.Proofs.Ytbadohcphadjfab
