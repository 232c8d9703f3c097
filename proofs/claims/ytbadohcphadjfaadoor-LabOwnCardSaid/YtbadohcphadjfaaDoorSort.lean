/- Layer 1: how pairs are compared and sorted: cmp.Or, lab.comparePairs, slices.SortFunc by its contract. -/
import Derived.Test.YtbadohcphadjfaaDoorRead
import Derived.Test.YtbadohcphadjfaaDoorShelf
import Derived.StillTailTactics
import Derived.Shelf.SlSortCmp.NoneTotal
namespace Go.Proofs.YtbadohcphadjfaaDoor
open Go.RowKit

def orI (x y : Int) : Int := if x = 0 then y else x

theorem ret_int {a b : Int} (h : a = b) : Ending.returned (.int .i64 a) = .returned (.int .i64 b) := by rw [h]

set_option maxRecDepth 100000 in
set_option maxHeartbeats 400000 in
theorem or_any (b cap : Nat) (x y : Int) (w : World) (h1 : w.cell? ⟨b, 0, none⟩ = some (.int .i64 x)) (h2 : w.cell? ⟨b, 1, none⟩ = some (.int .i64 y)) :
    Calls Tryd.prog 61 #[.slice (some ⟨b, 0, none⟩) 2 cap] w fun e w' => e = .returned (.int .i64 (orI x y)) ∧ w = w' := by
  by_cases hx : x = 0
  · subst hx
    by_cases hy : y = 0
    · subst hy
      go_enter Tryd.func61, Tryd.ntmps61
      go_wp2
      refine wp_loop_rounds 3 ?_
      rw [rounds_succ]
      go_wp2
      rw [rounds_succ]
      go_wp2
      rw [rounds_succ]
      go_wp2
      go_ret
      exact ⟨rfl, rfl⟩
    · have hb : (y != 0) = true := by rw [bne_iff_ne]; exact hy
      have Hy := Lib.hid hy
      clear hy
      go_enter Tryd.func61, Tryd.ntmps61
      go_wp2
      refine wp_loop_rounds 2 ?_
      rw [rounds_succ]
      go_wp2
      rw [rounds_succ]
      go_wp2
      go_ret
      exact ⟨rfl, rfl⟩
  · have hb : (x != 0) = true := by rw [bne_iff_ne]; exact hx
    have Hx := Lib.hid hx
    clear hx
    go_enter Tryd.func61, Tryd.ntmps61
    go_wp2
    refine wp_loop_rounds 1 ?_
    rw [rounds_succ]
    go_wp2
    go_ret
    exact ⟨ret_int (if_neg Hx.out).symm, rfl⟩

theorem compare_any (a b : ByteArray) (w : World) :
    Calls Tryd.prog 62 #[.string a, .string b] w fun e w' => e = .returned (.int .i64 (Lib.compareBytes a.data.toList b.data.toList)) ∧ w' = w := Tryd.strings_Compare a b w

def cmpP (p q : Pr) : Int := orI (Lib.compareBytes p.1.data.toList q.1.data.toList) (Lib.compareBytes p.2.data.toList q.2.data.toList)

set_option maxRecDepth 100000 in
set_option maxHeartbeats 1000000 in
theorem comparePairs_any (p q : Pr) (w : World) :
    Calls Tryd.prog 42 #[.agg #[.string p.1, .string p.2], .agg #[.string q.1, .string q.2]] w fun e w' => e = .returned (.int .i64 (cmpP p q)) ∧ ∃ n os, w' = Sort.grow (w.drewN n) os := by
  have hc := compare_any p.1 q.1
  have hd := compare_any p.2 q.2
  unfold cmpP
  generalize Lib.compareBytes p.1.data.toList q.1.data.toList = x at hc ⊢
  generalize Lib.compareBytes p.2.data.toList q.2.data.toList = y at hd ⊢
  have Hc := Lib.hid hc
  have Hd := Lib.hid hd
  clear hc hd
  go_enter Tryd.func42, Tryd.ntmps42
  go_wp2
  have f1 : ((w.alloc (.cells #[.string p.1, .string p.2] 48)).alloc (.cells #[.string q.1, .string q.2] 48)).cell? ⟨w.heap.size, 0, none⟩ = some (.string p.1) := by
    rw [World.cell?_alloc_past _ _ _ (by simp), World.cell?_alloc_at _ _ _ _ rfl]; rfl
  have f2 : ((w.alloc (.cells #[.string p.1, .string p.2] 48)).alloc (.cells #[.string q.1, .string q.2] 48)).cell? ⟨w.heap.size, 1, none⟩ = some (.string p.2) := by
    rw [World.cell?_alloc_past _ _ _ (by simp), World.cell?_alloc_at _ _ _ _ rfl]; rfl
  have f3 : ((w.alloc (.cells #[.string p.1, .string p.2] 48)).alloc (.cells #[.string q.1, .string q.2] 48)).cell? ⟨w.heap.size + 1, 0, none⟩ = some (.string q.1) := by
    rw [World.cell?_alloc_at _ _ _ _ (by simp)]; rfl
  have f4 : ((w.alloc (.cells #[.string p.1, .string p.2] 48)).alloc (.cells #[.string q.1, .string q.2] 48)).cell? ⟨w.heap.size + 1, 1, none⟩ = some (.string q.2) := by
    rw [World.cell?_alloc_at _ _ _ _ (by simp)]; rfl
  have hw : Hid (((w.alloc (.cells #[.string p.1, .string p.2] 48)).alloc (.cells #[.string q.1, .string q.2] 48)) = Sort.grow w #[.cells #[.string p.1, .string p.2] 48, .cells #[.string q.1, .string q.2] 48]) := by
    rw [Sort.alloc_eq_grow, Sort.alloc_eq_grow, Sort.grow_grow]; rfl
  generalize ((w.alloc (.cells #[.string p.1, .string p.2] 48)).alloc (.cells #[.string q.1, .string q.2] 48)) = W at f1 f2 f3 f4 hw ⊢
  refine wp_region_still_tail 10 (by kernel_rfl) (by kernel_rfl) ?_
  simp only [List.take_succ_cons, List.take_zero, List.drop_succ_cons, List.drop_zero]
  repeat still_step
  still_call (Hc.out _)
  repeat still_step
  still_call (Hd.out _)
  refine wpStill_nil ?_
  change wpList _ _ _ _ _ W.drew
  generalize hW1 : W.drew = W1
  have HW1 := Lib.hid hW1
  clear hW1
  go_wp2_with fail
  refine (or_any W1.heap.size _ x y _ ?_ ?_).mono ?_
  · rw [World.cell?_alloc_at _ _ _ _ rfl]; rfl
  · rw [World.cell?_alloc_at _ _ _ _ rfl]; rfl
  rintro e w' ⟨rfl, rfl⟩
  go_wp2
  go_ret
  refine ⟨rfl, 1, #[.cells #[.string p.1, .string p.2] 48, .cells #[.string q.1, .string q.2] 48, .cells #[.int .i64 x, .int .i64 y] 3], ?_⟩
  have h1 : W1 = Sort.grow w.drew #[.cells #[.string p.1, .string p.2] 48, .cells #[.string q.1, .string q.2] 48] := by
    rw [← HW1.out, hw.out, Sort.drew_grow]
  rw [h1, Sort.alloc_eq_grow, Sort.grow_grow]
  rfl

theorem eCmp (args : Array Value) (w : World) : (callFunc 42 args).run Tryd.prog w = .ok (.enter 42 args) w := by
  kernel_rfl

end Go.Proofs.YtbadohcphadjfaaDoor
