/- Layer 2: a table in memory; filling it; what is done once. -/
import Derived.Test.YtgcfofnlgdfmoaaCrcOnce
import Derived.StillTailTactics
import Derived.Deep.QuietTactic
import Derived.BigQuiet
namespace Go.Proofs.Ytgcfofnlgdfmoaa
open Go.RowKit

/-- w' is w, but for cells of block g that P lets turn, and for new blocks -/
structure TurnsIn (w w' : World) (g : Nat) (P : Nat → Prop) : Prop where
  grown : w.grownBy w' (some g)
  cell : ∀ o, ¬ P o → w'.cell? ⟨g, o, none⟩ = w.cell? ⟨g, o, none⟩
  fz : ∀ o, w'.frozen? ⟨g, o, none⟩ = w.frozen? ⟨g, o, none⟩
theorem TurnsIn.refl (w : World) (g : Nat) (P : Nat → Prop) : TurnsIn w w g P := ⟨World.grownBy.refl w _, fun _ _ => rfl, fun _ => rfl⟩
theorem TurnsIn.trans {w w1 w2 : World} {g : Nat} {P : Nat → Prop} (h : TurnsIn w w1 g P) (k : TurnsIn w1 w2 g P) : TurnsIn w w2 g P :=
  ⟨grownBy_trans h.grown k.grown, fun o ho => (k.cell o ho).trans (h.cell o ho), fun o => (k.fz o).trans (h.fz o)⟩
theorem TurnsIn.mono {w w1 : World} {g : Nat} {P Q : Nat → Prop} (h : TurnsIn w w1 g P) (k : ∀ o, P o → Q o) : TurnsIn w w1 g Q :=
  ⟨h.grown, fun o ho => h.cell o fun hp => ho (k o hp), h.fz⟩
theorem TurnsIn.set (w : World) (g j : Nat) (u : Value) (P : Nat → Prop) (hj : P j) : TurnsIn w (w.setCell ⟨g, j, none⟩ u) g P :=
  ⟨⟨rfl, rfl, rfl, by simp, fun k _ hne => Below.heap_setCell _ _ _ k (fun e => hne (by rw [e]))⟩,
    fun o ho => World.cell?_setCell_other w ⟨g, j, none⟩ ⟨g, o, none⟩ u (fun e => ho (by injection e with _ e2; rw [← e2]; exact hj)), fun o => by simp⟩
theorem TurnsIn.drew {w w1 : World} {g : Nat} {P : Nat → Prop} (h : TurnsIn w w1 g P) : TurnsIn w w1.drew g P :=
  ⟨⟨h.grown.os, h.grown.tape, h.grown.output, h.grown.size, h.grown.block⟩, fun o ho => (World.cell?_drew _ _).trans (h.cell o ho), fun o => (World.frozen?_drew _ _).trans (h.fz o)⟩
theorem TurnsIn.alloc {w w1 : World} {g : Nat} {P : Nat → Prop} (h : TurnsIn w w1 g P) (hg : g < w1.heap.size) (o : Obj) : TurnsIn w (w1.alloc o) g P :=
  ⟨grownBy_trans h.grown (World.grownBy_alloc _ _ _), fun j hj => (World.cell?_alloc_past _ _ _ hg).trans (h.cell j hj), fun j => (World.frozen?_alloc_past _ _ _ hg).trans (h.fz j)⟩

/-- the table at block g: whether it has been filled, its two counters -/
structure Tab (w : World) (g d s b : Nat) : Prop where
  lt : g < w.heap.size
  c0 : w.cell? ⟨g, 0, none⟩ = some (.int .u32 d)
  c1 : w.cell? ⟨g, 1, none⟩ = some (.int .i32 0)
  tab : ∀ j, j < 256 → ∃ x : Nat, w.cell? ⟨g, 3 + j, none⟩ = some (.int .u32 x) ∧ (d = 1 → x = stepN 8 j)
  sums : w.cell? ⟨g, 259, none⟩ = some (.int .u64 s)
  bytes : w.cell? ⟨g, 260, none⟩ = some (.int .u64 b)
  fz : ∀ o, w.frozen? ⟨g, o, none⟩ = false

set_option maxRecDepth 100000 in
set_option maxHeartbeats 1000000 in
theorem fill_any (g : Nat) (w : World) (ht : ∀ j, j < 256 → ∃ x : Nat, w.cell? ⟨g, 3 + j, none⟩ = some (.int .u32 x)) (hz : ∀ o, w.frozen? ⟨g, o, none⟩ = false) :
    Calls Try.prog 108 #[.pointer (some ⟨g, 0, none⟩)] w fun e w' => e = .returned (.tuple #[]) ∧ TurnsIn w w' g (fun o => 3 ≤ o ∧ o < 259) ∧ ∀ j, j < 256 → w'.cell? ⟨g, 3 + j, none⟩ = some (.int .u32 (stepN 8 j : Nat)) := by
  have Ht := Lib.hid ht
  have Hz := Lib.hid hz
  clear ht hz
  go_enter Try.func108, Try.ntmps108
  go_wp2
  go_loopw [3] (fun i wr => ∃ k : Nat, k ≤ 256 ∧ i = .int .i64 k ∧ Hid (TurnsIn w wr g (fun o => 3 ≤ o ∧ o < 3 + k)) ∧ Hid (∀ j, j < k → wr.cell? ⟨g, 3 + j, none⟩ = some (.int .u32 (stepN 8 j : Nat)))) (fun i _ => 256 - (intOf i).toNat)
  case atStart => exact ⟨0, by omega, rfl, TurnsIn.refl _ _ _, fun j hj => by omega⟩
  case round =>
    obtain ⟨k, hk, rfl, Ho, Hd⟩ := hrel
    by_cases hlt : k < 256
    · obtain ⟨x, hx⟩ := Ht.out k hlt
      have hx' : wr.cell? ⟨g, 3 + k, none⟩ = some (.int .u32 x) := (Ho.out.cell _ (by omega)).trans hx
      have hz' : wr.frozen? ⟨g, 3 + k, none⟩ = false := (Ho.out.fz _).trans (Hz.out _)
      clear hx
      have hwr : IntKind.u32.wrap (k : Int) = (k : Nat) := by rw [IntKind.wrap_u32']; omega
      have Hs := Lib.hid (show ∀ w, Calls Try.prog 124 #[.int .u32 (IntKind.u32.wrap (k : Int))] w fun e w' => e = .returned (.int .u32 (stepN 8 k : Nat)) ∧ w' = w from fun w => by rw [hwr]; exact (shift_any k w (by omega)).mono fun e w' (h : _ ∧ _) => And.intro h.1 h.2.symm)
      clear hwr
      go_wp2
      refine wp_region_still_tail 8 (by kernel_rfl) (by kernel_rfl) ?_
      simp only [List.take_succ_cons, List.take_zero, List.drop_succ_cons, List.drop_zero]
      repeat still_step
      still_call (Hs.out _)
      repeat still_step
      refine wpStill_nil ?_
      change wpList _ _ _ _ _ wr.drew
      have hx2 : wr.drew.cell? ⟨g, 3 + k, none⟩ = some (.int .u32 x) := (World.cell?_drew _ _).trans hx'
      have hz2 : wr.drew.frozen? ⟨g, 3 + k, none⟩ = false := (World.frozen?_drew _ _).trans hz'
      have Ho2 := Lib.hid (Ho.out.drew)
      have Hd2 : Hid (∀ j, j < k → wr.drew.cell? ⟨g, 3 + j, none⟩ = some (.int .u32 (stepN 8 j : Nat))) := fun j hj => (World.cell?_drew _ _).trans (Hd.out j hj)
      generalize wr.drew = w2 at *
      go_wp2
      have hsame := World.cell?_setCell_same w2 ⟨g, 3 + k, none⟩ (.int .u32 (stepN 8 k : Nat)) hx2
      refine ⟨⟨k + 1, by omega, by go_num, ?_, fun j hj => ?_⟩, by simp [intOf]; omega⟩
      · exact (Ho2.out.mono fun o ho => ⟨ho.1, by omega⟩).trans (TurnsIn.set w2 g (3 + k) _ _ ⟨by omega, by omega⟩)
      · by_cases hjk : j = k
        · subst hjk; exact hsame
        · exact (World.cell?_setCell_other w2 ⟨g, 3 + k, none⟩ ⟨g, 3 + j, none⟩ _ (by intro e; injection e; omega)).trans (Hd2.out j (by omega))
    · obtain rfl : k = 256 := by omega
      go_wp2
      go_end0
      exact ⟨rfl, Ho.out, Hd.out⟩

set_option maxRecDepth 100000 in
set_option maxHeartbeats 1600000 in
/-- the slow road: not yet filled -/
theorem slow_any (g s b : Nat) (w : World) (h : Tab w g 0 s b) :
    Calls Try.prog 123 #[.pointer (some ⟨g, 0, none⟩), .func (.func 108) #[.pointer (some ⟨g, 0, none⟩)] #[]] w fun e w' => e = .returned (.tuple #[]) ∧ TurnsIn w w' g (· < 259) ∧ Tab w' g 1 s b := by
  have hnot : ∀ (x : Bool) (w : World), (Op.unary .not (.bool x)).run Try.prog w = .ok (.bool (!x)) w := fun _ _ => rfl
  have h0 : (w.setCell ⟨g, 1, none⟩ (.int .i32 1)).cell? ⟨g, 0, none⟩ = some (.int .u32 0) := (World.cell?_setCell_other w ⟨g, 1, none⟩ ⟨g, 0, none⟩ _ (by simp)).trans h.c0
  have h1 : (w.setCell ⟨g, 1, none⟩ (.int .i32 1)).cell? ⟨g, 1, none⟩ = some (.int .i32 1) := World.cell?_setCell_same w _ _ h.c1
  have hl := run_call_load (P := Try.prog) Try.func132 (by kernel_rfl) (by kernel_rfl) (by kernel_rfl) .u32 (by kernel_rfl) h0
  have Hk := Lib.hid (lock_free ⟨g, 1, none⟩ w h.c1 (h.fz 1))
  have Hf := Lib.hid (fill_any g (w.setCell ⟨g, 1, none⟩ (.int .i32 1)) (fun j hj => by
    obtain ⟨x, hx, _⟩ := h.tab j hj
    exact ⟨x, (World.cell?_setCell_other w ⟨g, 1, none⟩ ⟨g, 3 + j, none⟩ _ (by intro e; injection e; omega)).trans hx⟩) (fun o => by simpa using h.fz o))
  have H := Lib.hid h
  have Ho := Lib.hid (TurnsIn.set w g 1 (.int .i32 1) (· < 259) (by decide))
  have H0 := Lib.hid h0
  have H1 := Lib.hid h1
  clear h h0 h1
  go_enter_defers Try.func123, Try.ntmps123
  go_wp2_with (go_at_call 133; refine Hk.out.mono ?_; rintro e w' ⟨rfl, rfl⟩)
  go_wp2_with (first | (go_at_call 108; refine Hf.out.mono ?_; rintro e w2 ⟨rfl, ho2, hd2⟩) | (go_at_call 122; go_in))
  have c0 : w2.cell? ⟨g, 0, none⟩ = some (.int .u32 0) := (ho2.cell 0 (by omega)).trans H0.out
  have c1 : w2.cell? ⟨g, 1, none⟩ = some (.int .i32 1) := (ho2.cell 1 (by omega)).trans H1.out
  have z2 : ∀ o, w2.frozen? ⟨g, o, none⟩ = false := fun o => (ho2.fz o).trans ((Ho.out.fz o).trans (H.out.fz o))
  have Hd2 := Lib.hid hd2
  have Ho2 := Lib.hid (Ho.out.trans (ho2.mono (fun o (ho : _ ∧ _) => ho.2)))
  have C1 := Lib.hid c1
  have Z2 := Lib.hid z2
  have hs2 : w2.cell? ⟨g, 259, none⟩ = some (.int .u64 s) := (Ho2.out.cell 259 (by omega)).trans H.out.sums
  have hb2 : w2.cell? ⟨g, 260, none⟩ = some (.int .u64 b) := (Ho2.out.cell 260 (by omega)).trans H.out.bytes
  have hlt2 : g < w2.heap.size := Nat.lt_of_lt_of_le H.out.lt Ho2.out.grown.size
  clear ho2 hd2 c1 z2
  go_wp2
  refine leaves_cons (f := 135) (args := #[.pointer (some ⟨g, 0, none⟩), .bool true]) (by simp) (by simp [go_sem]) ?_
  refine (store_deferred ⟨g, 0, none⟩ (.int .u32 0) .returning _ c0 (Z2.out 0)).mono ?_
  rintro e u' w'' ⟨rfl, rfl, rfl⟩
  have c0' : w2.drew.cell? ⟨g, 0, none⟩ = some (.int .u32 0) := (World.cell?_drew _ _).trans c0
  have c1' : (w2.drew.setCell ⟨g, 0, none⟩ (.int .u32 1)).cell? ⟨g, 1, none⟩ = some (.int .i32 1) := (World.cell?_setCell_other w2.drew ⟨g, 0, none⟩ ⟨g, 1, none⟩ _ (by simp)).trans ((World.cell?_drew _ _).trans C1.out)
  refine leaves_cons (f := 134) (args := #[.pointer (some ⟨g, 1, none⟩)]) (by simp [settle]) (by simp [go_sem]) ?_
  refine (unlock_deferred ⟨g, 1, none⟩ _ _ c1' (by simp [Z2.out 1])).mono ?_
  rintro e u' w'' ⟨rfl, rfl, rfl⟩
  have Hend : TurnsIn w ((w2.drew.setCell ⟨g, 0, none⟩ (.int .u32 1)).setCell ⟨g, 1, none⟩ (.int .i32 0)) g (· < 259) :=
    (Ho2.out.drew.trans (TurnsIn.set w2.drew g 0 _ _ (by decide))).trans (TurnsIn.set _ g 1 _ _ (by decide))
  have far : ∀ o, 2 ≤ o → ((w2.drew.setCell ⟨g, 0, none⟩ (.int .u32 1)).setCell ⟨g, 1, none⟩ (.int .i32 0)).cell? ⟨g, o, none⟩ = w2.cell? ⟨g, o, none⟩ := fun o ho =>
    ((World.cell?_setCell_other _ ⟨g, 1, none⟩ ⟨g, o, none⟩ _ (by intro e; injection e; omega)).trans (World.cell?_setCell_other _ ⟨g, 0, none⟩ ⟨g, o, none⟩ _ (by intro e; injection e; omega))).trans (World.cell?_drew _ _)
  have Htab : Tab ((w2.drew.setCell ⟨g, 0, none⟩ (.int .u32 1)).setCell ⟨g, 1, none⟩ (.int .i32 0)) g 1 s b :=
    { lt := by simpa using hlt2
      c0 := (World.cell?_setCell_other _ ⟨g, 1, none⟩ ⟨g, 0, none⟩ _ (by simp)).trans (World.cell?_setCell_same _ _ _ c0')
      c1 := World.cell?_setCell_same _ _ _ c1'
      tab := fun j hj => ⟨_, (far _ (by omega)).trans (Hd2.out j hj), fun _ => rfl⟩
      sums := (far _ (by omega)).trans hs2
      bytes := (far _ (by omega)).trans hb2
      fz := fun o => (Hend.fz o).trans (H.out.fz o) }
  simp [Leaves, settle, results, Try.results123]
  exact ⟨Hend, Htab⟩

set_option maxRecDepth 100000 in
set_option maxHeartbeats 400000 in
theorem do_any (g d s b : Nat) (hd : d ≤ 1) (w : World) (h : Tab w g d s b) :
    Calls Try.prog 107 #[.pointer (some ⟨g, 0, none⟩), .func (.func 108) #[.pointer (some ⟨g, 0, none⟩)] #[]] w fun e w' => e = .returned (.tuple #[]) ∧ TurnsIn w w' g (· < 259) ∧ Tab w' g 1 s b := by
  have hnot : ∀ (x : Bool) (w : World), (Op.unary .not (.bool x)).run Try.prog w = .ok (.bool (!x)) w := fun _ _ => rfl
  rcases (by omega : d = 0 ∨ d = 1) with rfl | rfl
  · have hl := run_call_load (P := Try.prog) Try.func132 (by kernel_rfl) (by kernel_rfl) (by kernel_rfl) .u32 (by kernel_rfl) h.c0
    have Hs := Lib.hid (slow_any g s b w h)
    clear h
    go_enter Try.func107, Try.ntmps107
    go_wp2_with (first | (go_at_call 123; refine Hs.out.mono ?_; rintro e w2 ⟨rfl, ho2, ht2⟩) | (go_at_call 122; go_in))
    go_end0
    exact ⟨rfl, ho2, ht2⟩
  · have hl := run_call_load (P := Try.prog) Try.func132 (by kernel_rfl) (by kernel_rfl) (by kernel_rfl) .u32 (by kernel_rfl) h.c0
    have H := Lib.hid h
    clear h
    go_enter Try.func107, Try.ntmps107
    go_wp2
    go_end0
    exact ⟨rfl, TurnsIn.refl _ _ _, H.out⟩
end Go.Proofs.Ytgcfofnlgdfmoaa
