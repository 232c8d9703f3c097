/- Layer 11: New, want, has, Counts of a receiver; a nil one. -/
import Derived.Test.YtileaoanekphaaaRvMem
import Derived.Test.YtileaoanekphaaaHeld
import Derived.WalkKit
import Derived.WalkSpells
import Derived.Lib.Hide
import Derived.StillTailTactics
import Derived.RegionTactic
import Derived.BigRegion
import Derived.Deep.QuietTactic
import Derived.BigQuiet
import Derived.Deep.DeepCutAuto
namespace Go.Proofs.Ytileaoanekphaaa
open Go.RowKit

section
variable {w : World} {ops : Array Oper} {rest : List Oper} {o : Oper} {a : Go.Act} {Q : Exit → Go.Act → World → Prop} {b k q : Nat} {F : Hs}
theorem wpList_lookQ_ok (hg : o.guard = none) (m x : Operand) (hop : o.op = Op.lookup 70 m x true) (hm : a.eval m = .map (some b)) (hx : a.eval x = .int .u64 q)
    (h : MI w b F k) (hq : q < 18446744073709551616) {v : Value} {c : Bool} (hv : lookI F q = v) (hc : (F q).isSome = c)
    (hK : wpList Try.prog ops Q rest (a.put o.dst (.tuple #[v, .bool c])) w) : wpList Try.prog ops Q (o :: rest) a w := by
  refine wpList_plain hg fun K' hK' => ?_
  have hrun := h.look_ok hq
  unfold Oper.wp
  simp [execOp, hop, hm, hx, hrun, Result.andThen]
  rw [hv, hc]
  exact hK' _ _ hK
end
theorem results_tmp3 {fn : Func} {t u v : Tmp} (h : fn.results = #[.tmp t, .tmp u, .tmp v]) (tmps : Array Value) (P : Program) (w : World) :
    (results fn tmps).run P w = .ok (.tuple #[tmps.getD t undef, tmps.getD u undef, tmps.getD v undef]) w := by
  simp [results, h]

set_option maxRecDepth 100000 in
set_option maxHeartbeats 400000 in
theorem rnew_wrong (z : Int) (hz : z < 1 ∨ 64 < z) (w : World) :
    Calls Try.prog 8 #[.int .i64 z] w fun e w' => e = .returned (.tuple #[.pointer none, .int .i64 19]) ∧ w = w' := by
  go_enter Try.func8, Try.ntmps8
  by_cases h : z < 1
  · have d1 : decide (z < 1) = true := decide_eq_true h
    go_wp2
    go_ret2
    exact ⟨rfl, rfl⟩
  · have d1 : decide (z < 1) = false := decide_eq_false h
    have d2 : decide (64 < z) = true := decide_eq_true (by omega)
    go_wp2
    go_ret2
    exact ⟨rfl, rfl⟩
set_option maxRecDepth 100000 in
set_option maxHeartbeats 400000 in
theorem rnew_any (z : Nat) (h1 : 1 ≤ z) (h2 : z ≤ 64) (w : World) :
    Calls Try.prog 8 #[.int .i64 z] w fun e w' => e = .returned (.tuple #[.pointer (some ⟨w.heap.size + 1, 0, none⟩), .int .i64 0]) ∧ RvAt w' (w.heap.size + 1) w.heap.size ⟨z, 0, 0⟩ (fun _ => none) 0 ∧ Below w.heap.size w w' := by
  have d1 : decide ((z : Int) < 1) = false := decide_eq_false (by omega)
  have d2 : decide ((64 : Int) < z) = false := decide_eq_false (by omega)
  have hmm := @run_makeMap Try.prog
  have hsz : (w.alloc (.map #[] 0)).heap.size = w.heap.size + 1 := by simp
  go_enter Try.func8, Try.ntmps8
  go_wp2
  go_ret2
  refine ⟨rfl, ⟨?_, ?_, fun _ _ h => by cases h⟩, ((Below.refl _ _).alloc (Nat.le_refl _) _).alloc (by simp) _⟩
  · have := heap_alloc_new (w.alloc (.map #[] 0)) (.cells (rvC ⟨z, 0, 0⟩ w.heap.size) 72)
    rw [hsz] at this
    exact this
  · exact (MI.made w).as (Below.block (B := w.heap.size + 1) ((Below.refl _ _).alloc (by simp) _) _ (by omega))
section
variable {s m k : Nat} {X : Rv} {F : Hs}
set_option maxRecDepth 100000 in
set_option maxHeartbeats 400000 in
theorem rwant_any {n : Nat} (w : World) (h : RvAt w s m X F k) (hn : n = X.t + 1) (ht : X.t ≤ 1099511627776) :
    Calls Try.prog 22 #[.pointer (some ⟨s, 0, none⟩)] w fun e w' => e = .returned (.int .u64 n) ∧ w' = w := by
  have c1 := h.c1
  have e1 : (X.t : Int) + 1 = (n : Int) := by omega
  have e2 : IntKind.u64.wrap ((X.t : Int) + 1) = (n : Int) := by rw [IntKind.wrap_u64]; omega
  clear h hn
  go_enter Try.func22, Try.ntmps22
  go_wp2
  go_ret
  exact ⟨by first | rfl | rw [e1], rfl⟩
set_option maxRecDepth 100000 in
set_option maxHeartbeats 400000 in
theorem rhas_any (q : Nat) {b : Bool} (w : World) (h : RvAt w s m X F k) (hq : q < 18446744073709551616) (hb : (F q).isSome = b) :
    Calls Try.prog 21 #[.pointer (some ⟨s, 0, none⟩), .int .u64 q] w fun e w' => e = .returned (.bool b) ∧ Below w.heap.size w w' := by
  have c2 := h.c2
  have HM := Lib.hid h.mi
  have HQ := Lib.hid hq
  clear hq
  cases e : F q with
  | none =>
    rw [e] at hb
    have HL := Lib.hid (lookI_none e)
    have HE := Lib.hid e
    subst hb
    unfold zItem at HL
    clear h e
    go_enter Try.func21, Try.ntmps21
    go_wp2_with (at_lookup; refine wpList_lookQ_ok rfl _ _ rfl rfl rfl HM.out HQ.out HL.out (c := false) (by rw [HE.out]; rfl) ?_)
    go_ret
    exact ⟨rfl, (Below.refl _ _).alloc (Nat.le_refl _) _⟩
  | some x =>
    rw [e] at hb
    have HL := Lib.hid (lookI_some e)
    have HE := Lib.hid e
    subst hb
    unfold Hd.val at HL
    clear h e
    go_enter Try.func21, Try.ntmps21
    go_wp2_with (at_lookup; refine wpList_lookQ_ok rfl _ _ rfl rfl rfl HM.out HQ.out HL.out (c := true) (by rw [HE.out]; rfl) ?_)
    go_ret
    exact ⟨rfl, (Below.refl _ _).alloc (Nat.le_refl _) _⟩
set_option maxRecDepth 100000 in
set_option maxHeartbeats 400000 in
theorem rcounts_any {n : Nat} (w : World) (h : RvAt w s m X F k) (hn : n = X.t + 1) (ht : X.t ≤ 1099511627776) :
    Calls Try.prog 17 #[.pointer (some ⟨s, 0, none⟩)] w fun e w' => e = .returned (.tuple #[.int .u64 n, .int .i64 k, .int .u64 X.o]) ∧ Below w.heap.size w w' := by
  have HC : Hid (∀ W, Below w.heap.size w W → W.cell? ⟨s, 2, none⟩ = some (.map (some m)) ∧ W.cell? ⟨s, 3, none⟩ = some (.int .u64 X.o)) := fun W hW => ⟨(h.below hW).c2, (h.below hW).c3⟩
  have HW : Hid (∀ W, Below w.heap.size w W → Calls Try.prog 22 #[.pointer (some ⟨s, 0, none⟩)] W fun e w' => e = .returned (.int .u64 n) ∧ w' = W) := fun W hW => rwant_any W (h.below hW) hn ht
  have HL : Hid (∀ W ty, Below w.heap.size w W → (Builtin.len_ #[70] ty #[.map (some m)]).run Try.prog W = .ok (.int .i64 k) W) := fun W ty hW => (h.below hW).mi.len ty
  clear h hn ht
  go_enter Try.func17, Try.ntmps17
  go_upto_region 3 with fail
  refine wp_region_noPanic ?_
  refine wp_region_held_drew (S := fun W => Below w.heap.size w W) (by kernel_rfl) ?_ (fun hHeld => ?_)
  · exact (Below.refl _ _).drew
  try simp only [heldPut, List.set]
  refine heldTake (i := 0) (v := ?_) rfl (by kernel_rfl) (by kernel_rfl) (by kernel_rfl) (fun _ _ _ h => h) (Or.inl ⟨by rfl, ?_⟩) (by assumption) ?_
  rotate_left
  · (intro W hSw; (try dsimp only at hSw); go_simp; try with_reducible rfl)
  try simp only [heldPut, List.set]
  refine heldTake (i := 2) (v := ?_) rfl (by kernel_rfl) (by kernel_rfl) (by kernel_rfl) (fun _ _ _ h => h) (Or.inl ⟨by rfl, ?_⟩) (by assumption) ?_
  rotate_left
  · (intro W hSw; (try dsimp only at hSw); have f1 := (HC.out W hSw).1; go_simp; try with_reducible rfl)
  try simp only [heldPut, List.set]
  refine heldTake (i := 3) (v := ?_) rfl (by kernel_rfl) (by kernel_rfl) (by kernel_rfl) (fun _ _ _ h => h) (Or.inl ⟨by rfl, ?_⟩) (by assumption) ?_
  rotate_left
  · (intro W hSw; (try dsimp only at hSw); have f1 := (HC.out W hSw).1; go_simp; try with_reducible rfl)
  try simp only [heldPut, List.set]
  refine heldTake (i := 4) (v := ?_) rfl (by kernel_rfl) (by kernel_rfl) (by kernel_rfl) (fun _ _ _ h => h) (Or.inl ⟨by rfl, ?_⟩) (by assumption) ?_
  rotate_left
  · (intro W hSw; (try dsimp only at hSw); have f1 := (HC.out W hSw).1; go_simp; try with_reducible rfl)
  try simp only [heldPut, List.set]
  refine heldTake (i := 5) (v := ?_) rfl (by kernel_rfl) (by kernel_rfl) (by kernel_rfl) (fun _ _ _ h => h) (Or.inl ⟨by rfl, ?_⟩) (by assumption) ?_
  rotate_left
  · (intro W hSw; (try dsimp only at hSw); have f1 := (HC.out W hSw).1; go_simp; try with_reducible rfl)
  try simp only [heldPut, List.set]
  refine heldTake (i := 7) (v := ?_) rfl (by kernel_rfl) (by kernel_rfl) (by kernel_rfl) (fun _ _ _ h => h) (Or.inl ⟨by rfl, ?_⟩) (by assumption) ?_
  rotate_left
  · (intro W hSw; (try dsimp only at hSw); have f1 := (HC.out W hSw).2; go_simp; try with_reducible rfl)
  try simp only [heldPut, List.set]
  refine heldTake (i := 8) (v := ?_) rfl (by kernel_rfl) (by kernel_rfl) (by kernel_rfl) (fun _ _ _ h => h) (Or.inl ⟨by rfl, ?_⟩) (by assumption) ?_
  rotate_left
  · (intro W hSw; (try dsimp only at hSw); have f1 := (HC.out W hSw).2; go_simp; try with_reducible rfl)
  try simp only [heldPut, List.set]
  refine heldTake (i := 9) (v := ?_) rfl (by kernel_rfl) (by kernel_rfl) (by kernel_rfl) (fun _ _ _ h => h) (Or.inl ⟨by rfl, ?_⟩) (by assumption) ?_
  rotate_left
  · (intro W hSw; (try dsimp only at hSw); have f1 := (HC.out W hSw).2; go_simp; try with_reducible rfl)
  try simp only [heldPut, List.set]
  refine heldTake (i := 10) (v := ?_) rfl (by kernel_rfl) (by kernel_rfl) (by kernel_rfl) (fun _ _ _ h => h) (Or.inl ⟨by rfl, ?_⟩) (by assumption) ?_
  rotate_left
  · (intro W hSw; (try dsimp only at hSw); have f1 := (HC.out W hSw).2; go_simp; try with_reducible rfl)
  try simp only [heldPut, List.set]
  refine heldOne (i := 1) rfl (by kernel_rfl) (fun K hK => ?_)
  go_simp
  refine (HW.out _ ((Below.refl _ _).drew)).mono ?_
  rintro _ _ ⟨rfl, rfl⟩
  go_wp2_with fail
  refine hK.out _ _ ?_ (fun hHeld => ?_)
  · exact (Below.refl _ _).drew
  clear hK K
  try simp only [heldPut, List.set]
  refine heldTake (i := 6) (v := ?_) rfl (by kernel_rfl) (by kernel_rfl) (by kernel_rfl) (fun _ _ _ h => h) (Or.inl ⟨by rfl, ?_⟩) (by assumption) ?_
  rotate_left
  · (intro W hSw; (try dsimp only at hSw); have f1 := HL.out W 3 hSw; go_simp; try with_reducible rfl)
  try simp only [heldPut, List.set]
  refine heldTake (i := 11) (v := ?_) rfl (by kernel_rfl) (by kernel_rfl) (by kernel_rfl) (fun _ _ _ h => h) (Or.inl ⟨by rfl, ?_⟩) (by assumption) ?_
  rotate_left
  · (intro W hSw; (try dsimp only at hSw); go_simp; try with_reducible rfl)
  try simp only [heldPut, List.set]
  refine heldTake (i := 12) (v := ?_) rfl (by kernel_rfl) (by kernel_rfl) (by kernel_rfl) (fun _ _ _ h => h) (Or.inl ⟨by rfl, ?_⟩) (by assumption) ?_
  rotate_left
  · (intro W hSw; (try dsimp only at hSw); go_simp; try with_reducible rfl)
  try simp only [heldPut, List.set]
  refine heldTake (i := 13) (v := ?_) rfl (by kernel_rfl) (by kernel_rfl) (by kernel_rfl) (fun _ _ _ h => h) (Or.inl ⟨by rfl, ?_⟩) (by assumption) ?_
  rotate_left
  · (intro W hSw; (try dsimp only at hSw); go_simp; try with_reducible rfl)
  try simp only [heldPut, List.set]
  refine wpAnyH_done (by kernel_rfl) ?_ _
  refine NoPanic.normal ?_
  go_wp2
  refine bodyPost_ret (results_tmp3 rfl _ _ _) rfl ?_
  exact ⟨rfl, hHeld⟩
end
set_option maxRecDepth 100000 in
set_option maxHeartbeats 400000 in
theorem rnext_nil (w : World) : Calls Try.prog 9 #[.pointer none] w fun e w' => e = .returned (.int .i64 1) ∧ w = w' := by
  go_enter Try.func9, Try.ntmps9
  go_wp2
  go_ret
  exact ⟨rfl, rfl⟩
set_option maxRecDepth 100000 in
set_option maxHeartbeats 400000 in
theorem rack_nil (w : World) : Calls Try.prog 16 #[.pointer none] w fun e w' => e = .returned (.tuple #[.int .u64 0, .int .u64 0]) ∧ w = w' := by
  go_enter Try.func16, Try.ntmps16
  go_wp2
  go_ret2
  exact ⟨rfl, rfl⟩
set_option maxRecDepth 100000 in
set_option maxHeartbeats 400000 in
theorem rcounts_nil (w : World) : Calls Try.prog 17 #[.pointer none] w fun e w' => e = .returned (.tuple #[.int .u64 0, .int .i64 0, .int .u64 0]) ∧ w = w' := by
  go_enter Try.func17, Try.ntmps17
  go_wp2
  refine bodyPost_ret (results_tmp3 rfl _ _ _) rfl ?_
  exact ⟨rfl, rfl⟩
set_option maxRecDepth 100000 in
set_option maxHeartbeats 400000 in
theorem rtake_nil (q : Nat) (x : It) (A : Option Addr) (n c : Nat) (w : World) : Calls Try.prog 12 #[.pointer none, .int .u64 q, .agg #[.bool x.g, .int .u8 x.o, .int .u64 x.q, .int .u64 x.t, .string x.r, .slice A n c, .int .u8 x.s, .int .u8 x.p, .int .i64 x.v, .int .u8 x.w, .int .u8 x.ga, .int .u64 x.gf, .int .u64 x.gt]] w fun e w' => e = .returned (.int .i64 1) ∧ Below w.heap.size w w' := by
  go_enter Try.func12, Try.ntmps12
  go_wp2
  go_ret
  exact ⟨rfl, (Below.refl _ _).alloc (Nat.le_refl _) _⟩
end Go.Proofs.Ytileaoanekphaaa
