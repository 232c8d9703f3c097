/- Layer 1: the document's own Make. -/
import Derived.Test.YtbadohcphadjfaaDoorSorted
namespace Go.Proofs.YtbadohcphadjfaaDoor
open Go.RowKit

theorem OkP.perm {l m : List Pr} (h : OkP l) (hp : m.Perm l) : OkP m := fun i p hi => by
  obtain ⟨j, hj⟩ := List.mem_iff_getElem?.1 (hp.mem_iff.1 (List.mem_iff_getElem?.2 ⟨i, hi⟩))
  exact h j p hj
theorem OkP.sort {l : List Pr} (h : OkP l) : OkP (sortP l) := h.perm (sortP_perm l)

set_option maxRecDepth 100000 in
set_option maxHeartbeats 400000 in
theorem rmake_any (A : Option Addr) (n c : Nat) (l : List Pr) (w : World) (hn : n = l.length) (hm : n * 32 ≤ 140737488351232) (hr : RdP w w.heap.size A l) (hok : OkP l) :
    Calls Tryd.prog 16 #[.slice A n c] w fun e w' => ∃ v, e = .returned (.tuple #[v, .int .i64 ((makeP l).2 : Nat)]) ∧ w'.ownsRow w.heap.size 48 2 v (makeP l).1.length (cellsP (makeP l).1) ∧ Below w.heap.size w w' := by
  have Hc := Lib.hid (rsorted_any A n c l w hn hm hr)
  have Hn := Lib.hid hn
  have hs := sortP_length l
  have Hs := Lib.hid hs
  have Hok := Lib.hid hok.sort
  clear hn hr hs hok
  go_enter Tryd.func16, Tryd.ntmps16
  go_wp2_with fail
  refine Hc.out.mono ?_
  rintro e w2 ⟨v, rfl, hown2, hb2⟩
  obtain ⟨A2, c2, rfl⟩ := own_slice hown2
  have Hr2 := Lib.hid (RdP.of_own hown2)
  have Hown2 := Lib.hid hown2
  clear hown2
  by_cases hc : check (sortP l) = 0
  · have hb0 : ((check (sortP l) : Int) != 0) = false := by rw [hc]; rfl
    have Hk : Hid (makeP l = (sortP l, 0)) := if_pos hc
    have Hch := Lib.hid hc
    clear hc
    go_wp2_with fail
    refine (rcheck_any A2 n c2 (sortP l) w2 (by rw [Hs.out, Hn.out]) (by unfold maxLen; omega) Hr2.out Hok.out).mono ?_
    rintro e w3 ⟨rfl, hb3⟩
    go_wp2
    go_ret2
    refine ⟨.slice A2 n c2, by rw [Hk.out]; rfl, ?_, hb2.trans (hb3.mono hb2.size)⟩
    rw [Hk.out]
    show w3.ownsRow _ _ _ _ (sortP l).length (cellsP (sortP l))
    rw [Hs.out, ← Hn.out]
    exact own_below Hown2.out hb3
  · have hb0 : ((check (sortP l) : Int) != 0) = true := by rw [bne_iff_ne]; omega
    have Hk : Hid (makeP l = ([], check (sortP l))) := if_neg hc
    have Hch := Lib.hid hc
    clear hc
    go_wp2_with fail
    refine (rcheck_any A2 n c2 (sortP l) w2 (by rw [Hs.out, Hn.out]) (by unfold maxLen; omega) Hr2.out Hok.out).mono ?_
    rintro e w3 ⟨rfl, hb3⟩
    go_wp2
    go_ret2
    refine ⟨.slice none 0 0, by rw [Hk.out]; rfl, ?_, hb2.trans (hb3.mono hb2.size)⟩
    rw [Hk.out]
    exact World.ownsRow_nil _ _ _ _
end Go.Proofs.YtbadohcphadjfaaDoor
