/- Several texts in one: RvOps. -/
import Derived.Test.YtocdhnlffemnhaaQa10
import Derived.Test.YtocdhnlffemnhaaQa14
/- Layer 11: Next, Peek, Take of a receiver. -/
namespace Go.Proofs.Ytocdhnlffemnhaa
open Go.RowKit

/-- the blocks of a receiver -/
def Two (s m : Nat) : Nat → Prop := fun i => i = s ∨ i = m
section
variable {s m k : Nat} {X : Rv} {F : Hs}
/-- Peek where nothing is held -/
theorem boxZ (W : World) : ∃ V, V = W.alloc (.cells #[.bool false, .int .u8 0, .int .u64 0, .int .u64 0, .string ⟨#[]⟩, .slice none 0 0, .int .u8 0, .int .u8 0, .int .i64 0, .int .u8 0, .int .u8 0, .int .u64 0, .int .u64 0] 30) ∧ V.heap[W.heap.size]? = some (.cells #[.bool false, .int .u8 0, .int .u64 0, .int .u64 0, .string ⟨#[]⟩, .slice none 0 0, .int .u8 0, .int .u8 0, .int .i64 0, .int .u8 0, .int .u8 0, .int .u64 0, .int .u64 0] 30 (0, 0)) ∧ Below W.heap.size W V ∧ W.heap.size < V.heap.size :=
  ⟨_, rfl, heap_alloc_new _ _, (Below.refl _ _).alloc (Nat.le_refl _) _, by simp⟩
/-- an item whose labels are its own -/
def PeekRet (x : It) (w : World) (e : Ending) (w' : World) : Prop :=
  ∃ A c, e = .returned (.tuple #[.agg #[.bool x.g, .int .u8 x.o, .int .u64 x.q, .int .u64 x.t, .string x.r, .slice A x.l.length c, .int .u8 x.s, .int .u8 x.p, .int .i64 x.v, .int .u8 x.w, .int .u8 x.ga, .int .u64 x.gf, .int .u64 x.gt], .bool true]) ∧ w'.ownsRow w.heap.size 116 2 (.slice A x.l.length c) x.l.length (cellsP x.l) ∧ Below w.heap.size w w'
set_option maxRecDepth 100000 in
set_option maxHeartbeats 400000 in
theorem rtake_old {q n : Nat} {x : It} {A : Option Addr} {N c : Nat} (w : World) (h : RvAt w s m X F k) (hn : n = X.t + 1) (ht : X.t ≤ 1099511627776) (ho : X.o ≤ 1099511627776) (hq : q < 18446744073709551616) (hc : q < n ∨ (F q).isSome = true) :
    Calls Try.prog 29 #[.pointer (some ⟨s, 0, none⟩), .int .u64 q, .agg #[.bool x.g, .int .u8 x.o, .int .u64 x.q, .int .u64 x.t, .string x.r, .slice A N c, .int .u8 x.s, .int .u8 x.p, .int .i64 x.v, .int .u8 x.w, .int .u8 x.ga, .int .u64 x.gf, .int .u64 x.gt]] w fun e w' => e = .returned (.int .i64 17) ∧ RvAt w' s m ⟨X.W, X.t, X.o + 1⟩ F k ∧ Only (Two s m) w w' := by
  obtain ⟨V, hV⟩ : ∃ V, V = w.alloc (.cells #[.bool x.g, .int .u8 x.o, .int .u64 x.q, .int .u64 x.t, .string x.r, .slice A N c, .int .u8 x.s, .int .u8 x.p, .int .i64 x.v, .int .u8 x.w, .int .u8 x.ga, .int .u64 x.gf, .int .u64 x.gt] 30) := ⟨_, rfl⟩
  have hbV : Below w.heap.size w V := by rw [hV]; exact (Below.refl _ _).alloc (Nat.le_refl _) _
  have HW := Lib.hid (rwant_any V (h.below hbV) hn ht)
  have HH : Hid (∀ b, (F q).isSome = b → Calls Try.prog 39 #[.pointer (some ⟨s, 0, none⟩), .int .u64 q] V fun e w' => e = .returned (.bool b) ∧ Below V.heap.size V w') := fun b hb => rhas_any q V (h.below hbV) hq hb
  have HV := Lib.hid hV
  have HB := Lib.hid hbV
  have HR := Lib.hid (h.below hbV)
  have HC := Lib.hid hc
  obtain ⟨y, hy⟩ : ∃ y, y = X.o + 1 := ⟨_, rfl⟩
  have e1 : (X.o : Int) + 1 = (y : Int) := by omega
  have HWN : Hid (IntKind.u64.wrap (y : Int) = (y : Int)) := by show IntKind.u64.wrap (y : Int) = (y : Int); rw [IntKind.wrap_u64]; omega
  rw [← hy]
  clear h hn ht hV hbV hq hc ho hy
  go_enter Try.func29, Try.ntmps29
  go_upto_region 1 with fail
  rw [← HV.out]
  go_wp2_with fail
  refine HW.out.mono ?_
  rintro _ _ ⟨rfl, rfl⟩
  by_cases hlt : q < n
  · have d1 : decide (q < n) = true := decide_eq_true hlt
    have d2 : decide ((q : Int) < (n : Int)) = true := decide_eq_true (by omega)
    have c3 := HR.out.c3
    have f3 := HR.out.fz 3
    clear HC
    go_wp2_with fail
    go_ret
    rw [HWN.out]
    exact ⟨rfl, HR.out.set 3 (.int .u64 y) rfl, (Only.of_below HB.out (Two s m)).trans (Only.setCell (T := Two s m) _ _ _ (.inl rfl)) (fun _ h => .inl h)⟩
  · have d1 : decide (q < n) = false := decide_eq_false hlt
    have d2 : decide ((q : Int) < (n : Int)) = false := decide_eq_false (by omega)
    have HH2 := Lib.hid (HH.out true (HC.out.resolve_left hlt))
    clear HC HH hlt
    go_wp2_with fail
    refine HH2.out.mono ?_
    rintro _ w1 ⟨rfl, hb1⟩
    have hr1 := HR.out.below hb1
    have c3 := hr1.c3
    have f3 := hr1.fz 3
    have HR1 := Lib.hid hr1
    have HB1 := Lib.hid (HB.out.trans (hb1.mono HB.out.size))
    clear hr1 hb1 HH2
    go_wp2_with fail
    go_ret
    rw [HWN.out]
    exact ⟨rfl, HR1.out.set 3 (.int .u64 y) rfl, (Only.of_below HB1.out (Two s m)).trans (Only.setCell (T := Two s m) _ _ _ (.inl rfl)) (fun _ h => .inl h)⟩
set_option maxRecDepth 100000 in
set_option maxHeartbeats 400000 in
/-- what isn't old: up to the look at the window -/
theorem rtake_far {q n : Nat} {x : It} {A : Option Addr} {N c : Nat} (w : World) (h : RvAt w s m X F k) (hn : n = X.t + 1) (ht : X.t ≤ 1099511627776) (hW : X.W ≤ 64) (hq : q < 18446744073709551616) (hlt : n ≤ q) (hF : F q = none) (hfar : X.W ≤ q - n) :
    Calls Try.prog 29 #[.pointer (some ⟨s, 0, none⟩), .int .u64 q, .agg #[.bool x.g, .int .u8 x.o, .int .u64 x.q, .int .u64 x.t, .string x.r, .slice A N c, .int .u8 x.s, .int .u8 x.p, .int .i64 x.v, .int .u8 x.w, .int .u8 x.ga, .int .u64 x.gf, .int .u64 x.gt]] w fun e w' => e = .returned (.int .i64 19) ∧ Below w.heap.size w w' := by
  obtain ⟨V, hV⟩ : ∃ V, V = w.alloc (.cells #[.bool x.g, .int .u8 x.o, .int .u64 x.q, .int .u64 x.t, .string x.r, .slice A N c, .int .u8 x.s, .int .u8 x.p, .int .i64 x.v, .int .u8 x.w, .int .u8 x.ga, .int .u64 x.gf, .int .u64 x.gt] 30) := ⟨_, rfl⟩
  have hbV : Below w.heap.size w V := by rw [hV]; exact (Below.refl _ _).alloc (Nat.le_refl _) _
  have HW : Hid (∀ W, Below V.heap.size V W → Calls Try.prog 40 #[.pointer (some ⟨s, 0, none⟩)] W fun e w' => e = .returned (.int .u64 n) ∧ w' = W) := fun W hw => rwant_any W ((h.below hbV).below hw) hn ht
  have HH := Lib.hid (rhas_any q V (h.below hbV) hq (b := false) (by rw [hF]; rfl))
  have HV := Lib.hid hV
  have HB := Lib.hid hbV
  have HR := Lib.hid (h.below hbV)
  obtain ⟨d, hd⟩ : ∃ d, d = q - n := ⟨_, rfl⟩
  have e1 : (q : Int) - (n : Int) = (d : Int) := by omega
  have e2 : IntKind.u64.wrap (d : Int) = (d : Int) := by rw [IntKind.wrap_u64]; omega
  have e3 : IntKind.u64.wrap (X.W : Int) = (X.W : Int) := by rw [IntKind.wrap_u64]; omega
  have d1 : decide (q < n) = false := decide_eq_false (by omega)
  have d2 : decide ((q : Int) < (n : Int)) = false := decide_eq_false (by omega)
  have d3 : decide (X.W ≤ d) = true := decide_eq_true (by omega)
  have d4 : decide ((X.W : Int) ≤ (d : Int)) = true := decide_eq_true (by omega)
  clear h hn ht hV hbV hq hd hW hlt hF hfar
  go_enter Try.func29, Try.ntmps29
  go_upto_region 1 with fail
  rw [← HV.out]
  go_wp2_with fail
  refine (HW.out V (Below.refl _ _)).mono ?_
  rintro _ _ ⟨rfl, rfl⟩
  go_wp2_with fail
  refine HH.out.mono ?_
  rintro _ w1 ⟨rfl, hb1⟩
  have HB1 := Lib.hid hb1
  have HC : Hid (∀ W, Below w1.heap.size w1 W → W.cell? ⟨s, 0, none⟩ = some (.int .i64 X.W)) := fun W hw => ((HR.out.below hb1).below hw).c0
  clear hb1
  go_upto_region 6 with fail
  refine wp_region_noPanic ?_
  refine wp_region_held_drew (S := fun W => Below w1.heap.size w1 W) (by kernel_rfl) ?_ (fun hHeld => ?_)
  · exact (Below.refl _ _).drew
  try simp only [heldPut, List.set]
  refine heldTake (i := 0) (v := ?_) rfl (by kernel_rfl) (by kernel_rfl) (by kernel_rfl) (fun _ _ _ h => h) (Or.inl ⟨by rfl, ?_⟩) (by assumption) ?_
  rotate_left
  · (intro W hSw; (try dsimp only at hSw); have f1 := HC.out W hSw; go_simp; try with_reducible rfl)
  try simp only [heldPut, List.set]
  refine heldTake (i := 1) (v := ?_) rfl (by kernel_rfl) (by kernel_rfl) (by kernel_rfl) (fun _ _ _ h => h) (Or.inl ⟨by rfl, ?_⟩) (by assumption) ?_
  rotate_left
  · (intro W hSw; (try dsimp only at hSw); have f1 := HC.out W hSw; go_simp; try with_reducible rfl)
  try simp only [heldPut, List.set]
  refine heldTake (i := 4) (v := ?_) rfl (by kernel_rfl) (by kernel_rfl) (by kernel_rfl) (fun _ _ _ h => h) (Or.inl ⟨by rfl, ?_⟩) (by assumption) ?_
  rotate_left
  · (intro W hSw; (try dsimp only at hSw); have f1 := HC.out W hSw; go_simp; try with_reducible rfl)
  try simp only [heldPut, List.set]
  refine heldTake (i := 5) (v := ?_) rfl (by kernel_rfl) (by kernel_rfl) (by kernel_rfl) (fun _ _ _ h => h) (Or.inl ⟨by rfl, ?_⟩) (by assumption) ?_
  rotate_left
  · (intro W hSw; (try dsimp only at hSw); have f1 := HC.out W hSw; go_simp; try with_reducible rfl)
  try simp only [heldPut, List.set]
  refine heldTake (i := 6) (v := ?_) rfl (by kernel_rfl) (by kernel_rfl) (by kernel_rfl) (fun _ _ _ h => h) (Or.inl ⟨by rfl, ?_⟩) (by assumption) ?_
  rotate_left
  · (intro W hSw; (try dsimp only at hSw); have f1 := HC.out W hSw; go_simp; try with_reducible rfl)
  try simp only [heldPut, List.set]
  refine heldTake (i := 7) (v := ?_) rfl (by kernel_rfl) (by kernel_rfl) (by kernel_rfl) (fun _ _ _ h => h) (Or.inl ⟨by rfl, ?_⟩) (by assumption) ?_
  rotate_left
  · (intro W hSw; (try dsimp only at hSw); have f1 := HC.out W hSw; go_simp; try with_reducible rfl)
  try simp only [heldPut, List.set]
  refine heldTake (i := 8) (v := ?_) rfl (by kernel_rfl) (by kernel_rfl) (by kernel_rfl) (fun _ _ _ h => h) (Or.inl ⟨by rfl, ?_⟩) (by assumption) ?_
  rotate_left
  · (intro W hSw; (try dsimp only at hSw); have f1 := HC.out W hSw; go_simp; try with_reducible rfl)
  try simp only [heldPut, List.set]
  refine heldOne (i := 2) rfl (by kernel_rfl) (fun K hK => ?_)
  go_simp
  refine (HW.out _ (HB1.out.trans ((Below.refl _ w1).drew.mono HB1.out.size))).mono ?_
  rintro _ _ ⟨rfl, rfl⟩
  go_wp2_with fail
  refine hK.out _ _ ?_ (fun hHeld => ?_)
  · exact (Below.refl _ _).drew
  clear hK K
  try simp only [heldPut, List.set]
  refine heldTake (i := 3) (v := ?_) rfl (by kernel_rfl) (by kernel_rfl) (by kernel_rfl) (fun _ _ _ h => h) (Or.inl ⟨by rfl, ?_⟩) (by assumption) ?_
  rotate_left
  · (intro W hSw; (try dsimp only at hSw); go_simp; try with_reducible rfl)
  try simp only [heldPut, List.set]
  refine heldTake (i := 9) (v := ?_) rfl (by kernel_rfl) (by kernel_rfl) (by kernel_rfl) (fun _ _ _ h => h) (Or.inl ⟨by rfl, ?_⟩) (by assumption) ?_
  rotate_left
  · (intro W hSw; (try dsimp only at hSw); go_simp; try with_reducible rfl)
  try simp only [heldPut, List.set]
  refine wpAnyH_done (by kernel_rfl) ?_ _
  refine NoPanic.normal ?_
  clear hHeld
  go_wp2
  go_ret
  exact ⟨rfl, (HB.out.trans (HB1.out.mono HB.out.size)).trans ((Below.refl _ w1).drew.mono (Nat.le_trans HB.out.size HB1.out.size))⟩

set_option maxRecDepth 100000 in
set_option maxHeartbeats 1000000 in
theorem rtake_bad {q n z : Nat} {x : It} {A : Option Addr} {N c : Nat} (w : World) (h : RvAt w s m X F k) (hn : n = X.t + 1) (ht : X.t ≤ 1099511627776) (hW : X.W ≤ 64) (hq : q < 18446744073709551616) (hlt : n ≤ q) (hF : F q = none) (hfar : q - n < X.W)
    (hz : itemN x = z) (hz0 : z ≠ 0) (hN : N = x.l.length) (hm : N ≤ maxLen) (hr : RdP w w.heap.size A x.l) :
    Calls Try.prog 29 #[.pointer (some ⟨s, 0, none⟩), .int .u64 q, .agg #[.bool x.g, .int .u8 x.o, .int .u64 x.q, .int .u64 x.t, .string x.r, .slice A N c, .int .u8 x.s, .int .u8 x.p, .int .i64 x.v, .int .u8 x.w, .int .u8 x.ga, .int .u64 x.gf, .int .u64 x.gt]] w fun e w' => e = .returned (.int .i64 z) ∧ Below w.heap.size w w' := by
  obtain ⟨V, hV⟩ : ∃ V, V = w.alloc (.cells #[.bool x.g, .int .u8 x.o, .int .u64 x.q, .int .u64 x.t, .string x.r, .slice A N c, .int .u8 x.s, .int .u8 x.p, .int .i64 x.v, .int .u8 x.w, .int .u8 x.ga, .int .u64 x.gf, .int .u64 x.gt] 30) := ⟨_, rfl⟩
  have hbV : Below w.heap.size w V := by rw [hV]; exact (Below.refl _ _).alloc (Nat.le_refl _) _
  have hcV : V.heap[w.heap.size]? = some (.cells #[.bool x.g, .int .u8 x.o, .int .u64 x.q, .int .u64 x.t, .string x.r, .slice A N c, .int .u8 x.s, .int .u8 x.p, .int .i64 x.v, .int .u8 x.w, .int .u8 x.ga, .int .u64 x.gf, .int .u64 x.gt] 30 (0, 0)) := by rw [hV]; exact heap_alloc_new _ _
  have hlV : w.heap.size < V.heap.size := by rw [hV]; simp
  have HW : Hid (∀ W, Below V.heap.size V W → Calls Try.prog 40 #[.pointer (some ⟨s, 0, none⟩)] W fun e w' => e = .returned (.int .u64 n) ∧ w' = W) := fun W hw => rwant_any W ((h.below hbV).below hw) hn ht
  have HH := Lib.hid (rhas_any q V (h.below hbV) hq (b := false) (by rw [hF]; rfl))
  have HCK : Hid (∀ W, Below w.heap.size w W → Calls Try.prog 41 #[.agg #[.bool x.g, .int .u8 x.o, .int .u64 x.q, .int .u64 x.t, .string x.r, .slice A N c, .int .u8 x.s, .int .u8 x.p, .int .i64 x.v, .int .u8 x.w, .int .u8 x.ga, .int .u64 x.gf, .int .u64 x.gt]] W fun e w' => e = .returned (.int .i64 z) ∧ Below W.heap.size W w') := fun W hw => by
    have h1 := itemCheck_any x A N c W hN hm ((hr.below hw).more hw.size)
    rw [hz] at h1
    exact h1
  have HV := Lib.hid hV
  have HB := Lib.hid hbV
  have HCV := Lib.hid (⟨hcV, hlV⟩ : _ ∧ _)
  have HR := Lib.hid (h.below hbV)
  obtain ⟨d, hd⟩ : ∃ d, d = q - n := ⟨_, rfl⟩
  have e1 : (q : Int) - (n : Int) = (d : Int) := by omega
  have e2 : IntKind.u64.wrap (d : Int) = (d : Int) := by rw [IntKind.wrap_u64]; omega
  have e3 : IntKind.u64.wrap (X.W : Int) = (X.W : Int) := by rw [IntKind.wrap_u64]; omega
  have d1 : decide (q < n) = false := decide_eq_false (by omega)
  have d2 : decide ((q : Int) < (n : Int)) = false := decide_eq_false (by omega)
  have d3 : decide (X.W ≤ d) = false := decide_eq_false (by omega)
  have d4 : decide ((X.W : Int) ≤ (d : Int)) = false := decide_eq_false (by omega)
  have d5 : ((z : Int) == 0) = false := by rw [beq_eq_false_iff_ne]; omega
  clear h hn ht hV hbV hq hd hW hlt hF hfar hz hz0 hN hm hr hcV hlV
  go_enter Try.func29, Try.ntmps29
  go_upto_region 1 with fail
  rw [← HV.out]
  go_wp2_with fail
  refine (HW.out V (Below.refl _ _)).mono ?_
  rintro _ _ ⟨rfl, rfl⟩
  go_wp2_with fail
  refine HH.out.mono ?_
  rintro _ w1 ⟨rfl, hb1⟩
  have HB1 := Lib.hid hb1
  have HC : Hid (∀ W, Below w1.heap.size w1 W → W.cell? ⟨s, 0, none⟩ = some (.int .i64 X.W)) := fun W hw => ((HR.out.below hb1).below hw).c0
  clear hb1
  go_upto_region 6 with fail
  refine wp_region_noPanic ?_
  refine wp_region_held_drew (S := fun W => Below w1.heap.size w1 W) (by kernel_rfl) ?_ (fun hHeld => ?_)
  · exact (Below.refl _ _).drew
  try simp only [heldPut, List.set]
  refine heldTake (i := 0) (v := ?_) rfl (by kernel_rfl) (by kernel_rfl) (by kernel_rfl) (fun _ _ _ h => h) (Or.inl ⟨by rfl, ?_⟩) (by assumption) ?_
  rotate_left
  · (intro W hSw; (try dsimp only at hSw); have f1 := HC.out W hSw; go_simp; try with_reducible rfl)
  try simp only [heldPut, List.set]
  refine heldTake (i := 1) (v := ?_) rfl (by kernel_rfl) (by kernel_rfl) (by kernel_rfl) (fun _ _ _ h => h) (Or.inl ⟨by rfl, ?_⟩) (by assumption) ?_
  rotate_left
  · (intro W hSw; (try dsimp only at hSw); have f1 := HC.out W hSw; go_simp; try with_reducible rfl)
  try simp only [heldPut, List.set]
  refine heldTake (i := 4) (v := ?_) rfl (by kernel_rfl) (by kernel_rfl) (by kernel_rfl) (fun _ _ _ h => h) (Or.inl ⟨by rfl, ?_⟩) (by assumption) ?_
  rotate_left
  · (intro W hSw; (try dsimp only at hSw); have f1 := HC.out W hSw; go_simp; try with_reducible rfl)
  try simp only [heldPut, List.set]
  refine heldTake (i := 5) (v := ?_) rfl (by kernel_rfl) (by kernel_rfl) (by kernel_rfl) (fun _ _ _ h => h) (Or.inl ⟨by rfl, ?_⟩) (by assumption) ?_
  rotate_left
  · (intro W hSw; (try dsimp only at hSw); have f1 := HC.out W hSw; go_simp; try with_reducible rfl)
  try simp only [heldPut, List.set]
  refine heldTake (i := 6) (v := ?_) rfl (by kernel_rfl) (by kernel_rfl) (by kernel_rfl) (fun _ _ _ h => h) (Or.inl ⟨by rfl, ?_⟩) (by assumption) ?_
  rotate_left
  · (intro W hSw; (try dsimp only at hSw); have f1 := HC.out W hSw; go_simp; try with_reducible rfl)
  try simp only [heldPut, List.set]
  refine heldTake (i := 7) (v := ?_) rfl (by kernel_rfl) (by kernel_rfl) (by kernel_rfl) (fun _ _ _ h => h) (Or.inl ⟨by rfl, ?_⟩) (by assumption) ?_
  rotate_left
  · (intro W hSw; (try dsimp only at hSw); have f1 := HC.out W hSw; go_simp; try with_reducible rfl)
  try simp only [heldPut, List.set]
  refine heldTake (i := 8) (v := ?_) rfl (by kernel_rfl) (by kernel_rfl) (by kernel_rfl) (fun _ _ _ h => h) (Or.inl ⟨by rfl, ?_⟩) (by assumption) ?_
  rotate_left
  · (intro W hSw; (try dsimp only at hSw); have f1 := HC.out W hSw; go_simp; try with_reducible rfl)
  try simp only [heldPut, List.set]
  refine heldOne (i := 2) rfl (by kernel_rfl) (fun K hK => ?_)
  go_simp
  refine (HW.out _ (HB1.out.trans ((Below.refl _ w1).drew.mono HB1.out.size))).mono ?_
  rintro _ _ ⟨rfl, rfl⟩
  go_wp2_with fail
  refine hK.out _ _ ?_ (fun hHeld => ?_)
  · exact (Below.refl _ _).drew
  clear hK K
  try simp only [heldPut, List.set]
  refine heldTake (i := 3) (v := ?_) rfl (by kernel_rfl) (by kernel_rfl) (by kernel_rfl) (fun _ _ _ h => h) (Or.inl ⟨by rfl, ?_⟩) (by assumption) ?_
  rotate_left
  · (intro W hSw; (try dsimp only at hSw); go_simp; try with_reducible rfl)
  try simp only [heldPut, List.set]
  refine heldTake (i := 9) (v := ?_) rfl (by kernel_rfl) (by kernel_rfl) (by kernel_rfl) (fun _ _ _ h => h) (Or.inl ⟨by rfl, ?_⟩) (by assumption) ?_
  rotate_left
  · (intro W hSw; (try dsimp only at hSw); go_simp; try with_reducible rfl)
  try simp only [heldPut, List.set]
  refine wpAnyH_done (by kernel_rfl) ?_ _
  refine NoPanic.normal ?_
  clear hHeld
  have hbD := HB1.out.trans ((Below.refl _ w1).drew.mono HB1.out.size)
  have HCD := Lib.hid ((hbD.block _ HCV.out.2).trans HCV.out.1)
  have HBD := Lib.hid (HB.out.trans (hbD.mono HB.out.size))
  clear hbD
  go_wp2_with (first
    | (refine wpList_load_row rfl _ _ rfl w.heap.size rfl _ _ _ _ HCD.out Try.underlying30 rfl (by kernel_rfl) ?_)
    | fail)
  refine (HCK.out _ HBD.out).mono ?_
  rintro _ w2 ⟨rfl, hb2⟩
  have HB2 := Lib.hid (HBD.out.trans (hb2.mono HBD.out.size))
  clear hb2
  go_wp2
  go_ret
  exact ⟨rfl, HB2.out⟩
set_option maxRecDepth 100000 in
set_option maxHeartbeats 1000000 in
theorem rtake_ok {q n : Nat} {x : It} {A : Option Addr} {N c : Nat} (w : World) (h : RvAt w s m X F k) (hn : n = X.t + 1) (ht : X.t ≤ 1099511627776) (hW : X.W ≤ 64) (hk : k ≤ 1000) (hq : q < 18446744073709551616) (hlt : n ≤ q) (hF : F q = none) (hfar : q - n < X.W)
    (hz : itemN x = 0) (hN : N = x.l.length) (hA : A = none → N = 0) (hm : N ≤ 1000) (hr : RdP w w.heap.size A x.l) :
    Calls Try.prog 29 #[.pointer (some ⟨s, 0, none⟩), .int .u64 q, .agg #[.bool x.g, .int .u8 x.o, .int .u64 x.q, .int .u64 x.t, .string x.r, .slice A N c, .int .u8 x.s, .int .u8 x.p, .int .i64 x.v, .int .u8 x.w, .int .u8 x.ga, .int .u64 x.gf, .int .u64 x.gt]] w fun e w' => e = .returned (.int .i64 0) ∧ ∃ A2 c2, RvAt w' s m X (putF F q ⟨x, A2, c2⟩) (k + 1) ∧ (∀ a, A2 = some a → 0 < x.l.length → w.heap.size ≤ a.block) ∧ Only (Two s m) w w' := by
  subst hN
  obtain ⟨N, hN⟩ : ∃ N, N = x.l.length := ⟨_, rfl⟩
  rw [← hN] at hA hm ⊢
  obtain ⟨V, hV⟩ : ∃ V, V = w.alloc (.cells #[.bool x.g, .int .u8 x.o, .int .u64 x.q, .int .u64 x.t, .string x.r, .slice A N c, .int .u8 x.s, .int .u8 x.p, .int .i64 x.v, .int .u8 x.w, .int .u8 x.ga, .int .u64 x.gf, .int .u64 x.gt] 30) := ⟨_, rfl⟩
  have hbV : Below w.heap.size w V := by rw [hV]; exact (Below.refl _ _).alloc (Nat.le_refl _) _
  have hcV : V.heap[w.heap.size]? = some (.cells #[.bool x.g, .int .u8 x.o, .int .u64 x.q, .int .u64 x.t, .string x.r, .slice A N c, .int .u8 x.s, .int .u8 x.p, .int .i64 x.v, .int .u8 x.w, .int .u8 x.ga, .int .u64 x.gf, .int .u64 x.gt] 30 (0, 0)) := by rw [hV]; exact heap_alloc_new _ _
  have hlV : w.heap.size < V.heap.size := by rw [hV]; simp
  have HW : Hid (∀ W, Below V.heap.size V W → Calls Try.prog 40 #[.pointer (some ⟨s, 0, none⟩)] W fun e w' => e = .returned (.int .u64 n) ∧ w' = W) := fun W hw => rwant_any W ((h.below hbV).below hw) hn ht
  have HH := Lib.hid (rhas_any q V (h.below hbV) hq (b := false) (by rw [hF]; rfl))
  have HCK : Hid (∀ W, Below w.heap.size w W → Calls Try.prog 41 #[.agg #[.bool x.g, .int .u8 x.o, .int .u64 x.q, .int .u64 x.t, .string x.r, .slice A N c, .int .u8 x.s, .int .u8 x.p, .int .i64 x.v, .int .u8 x.w, .int .u8 x.ga, .int .u64 x.gf, .int .u64 x.gt]] W fun e w' => e = .returned (.int .i64 0) ∧ Below W.heap.size W w') := fun W hw => by
    have h1 := itemCheck_any x A N c W hN (by unfold maxLen; omega) ((hr.below hw).more hw.size)
    rw [hz] at h1
    exact h1
  have HK : Hid (∀ W, Below w.heap.size w W → Calls Try.prog 42 #[.agg #[.bool x.g, .int .u8 x.o, .int .u64 x.q, .int .u64 x.t, .string x.r, .slice A N c, .int .u8 x.s, .int .u8 x.p, .int .i64 x.v, .int .u8 x.w, .int .u8 x.ga, .int .u64 x.gf, .int .u64 x.gt]] W (ItRet x W)) := fun W hw =>
    iclone_any x A N c W hN hA (by omega) ((hr.below hw).more hw.size)
  have HV := Lib.hid hV
  have HB := Lib.hid hbV
  have HCV := Lib.hid (⟨hcV, hlV⟩ : _ ∧ _)
  have HR := Lib.hid (h.below hbV)
  have HQ := Lib.hid (⟨hq, hF, hk⟩ : _ ∧ _ ∧ _)
  have HLT : Hid (s < w.heap.size ∧ m < w.heap.size) := ⟨h.slt, h.mi.lt⟩
  have HN : Hid (N = x.l.length ∧ N ≤ 1000) := ⟨hN, hm⟩
  obtain ⟨d, hd⟩ : ∃ d, d = q - n := ⟨_, rfl⟩
  have e1 : (q : Int) - (n : Int) = (d : Int) := by omega
  have e2 : IntKind.u64.wrap (d : Int) = (d : Int) := by rw [IntKind.wrap_u64]; omega
  have e3 : IntKind.u64.wrap (X.W : Int) = (X.W : Int) := by rw [IntKind.wrap_u64]; omega
  have d1 : decide (q < n) = false := decide_eq_false (by omega)
  have d2 : decide ((q : Int) < (n : Int)) = false := decide_eq_false (by omega)
  have d3 : decide (X.W ≤ d) = false := decide_eq_false (by omega)
  have d4 : decide ((X.W : Int) ≤ (d : Int)) = false := decide_eq_false (by omega)
  clear h hn ht hV hbV hq hd hW hlt hF hfar hz hN hm hr hcV hlV hA hk
  go_enter Try.func29, Try.ntmps29
  go_upto_region 1 with fail
  rw [← HV.out]
  go_wp2_with fail
  refine (HW.out V (Below.refl _ _)).mono ?_
  rintro _ _ ⟨rfl, rfl⟩
  go_wp2_with fail
  refine HH.out.mono ?_
  rintro _ w1 ⟨rfl, hb1⟩
  have HB1 := Lib.hid hb1
  have HC : Hid (∀ W, Below w1.heap.size w1 W → W.cell? ⟨s, 0, none⟩ = some (.int .i64 X.W)) := fun W hw => ((HR.out.below hb1).below hw).c0
  clear hb1
  go_upto_region 6 with fail
  refine wp_region_noPanic ?_
  refine wp_region_held_drew (S := fun W => Below w1.heap.size w1 W) (by kernel_rfl) ?_ (fun hHeld => ?_)
  · exact (Below.refl _ _).drew
  try simp only [heldPut, List.set]
  refine heldTake (i := 0) (v := ?_) rfl (by kernel_rfl) (by kernel_rfl) (by kernel_rfl) (fun _ _ _ h => h) (Or.inl ⟨by rfl, ?_⟩) (by assumption) ?_
  rotate_left
  · (intro W hSw; (try dsimp only at hSw); have f1 := HC.out W hSw; go_simp; try with_reducible rfl)
  try simp only [heldPut, List.set]
  refine heldTake (i := 1) (v := ?_) rfl (by kernel_rfl) (by kernel_rfl) (by kernel_rfl) (fun _ _ _ h => h) (Or.inl ⟨by rfl, ?_⟩) (by assumption) ?_
  rotate_left
  · (intro W hSw; (try dsimp only at hSw); have f1 := HC.out W hSw; go_simp; try with_reducible rfl)
  try simp only [heldPut, List.set]
  refine heldTake (i := 4) (v := ?_) rfl (by kernel_rfl) (by kernel_rfl) (by kernel_rfl) (fun _ _ _ h => h) (Or.inl ⟨by rfl, ?_⟩) (by assumption) ?_
  rotate_left
  · (intro W hSw; (try dsimp only at hSw); have f1 := HC.out W hSw; go_simp; try with_reducible rfl)
  try simp only [heldPut, List.set]
  refine heldTake (i := 5) (v := ?_) rfl (by kernel_rfl) (by kernel_rfl) (by kernel_rfl) (fun _ _ _ h => h) (Or.inl ⟨by rfl, ?_⟩) (by assumption) ?_
  rotate_left
  · (intro W hSw; (try dsimp only at hSw); have f1 := HC.out W hSw; go_simp; try with_reducible rfl)
  try simp only [heldPut, List.set]
  refine heldTake (i := 6) (v := ?_) rfl (by kernel_rfl) (by kernel_rfl) (by kernel_rfl) (fun _ _ _ h => h) (Or.inl ⟨by rfl, ?_⟩) (by assumption) ?_
  rotate_left
  · (intro W hSw; (try dsimp only at hSw); have f1 := HC.out W hSw; go_simp; try with_reducible rfl)
  try simp only [heldPut, List.set]
  refine heldTake (i := 7) (v := ?_) rfl (by kernel_rfl) (by kernel_rfl) (by kernel_rfl) (fun _ _ _ h => h) (Or.inl ⟨by rfl, ?_⟩) (by assumption) ?_
  rotate_left
  · (intro W hSw; (try dsimp only at hSw); have f1 := HC.out W hSw; go_simp; try with_reducible rfl)
  try simp only [heldPut, List.set]
  refine heldTake (i := 8) (v := ?_) rfl (by kernel_rfl) (by kernel_rfl) (by kernel_rfl) (fun _ _ _ h => h) (Or.inl ⟨by rfl, ?_⟩) (by assumption) ?_
  rotate_left
  · (intro W hSw; (try dsimp only at hSw); have f1 := HC.out W hSw; go_simp; try with_reducible rfl)
  try simp only [heldPut, List.set]
  refine heldOne (i := 2) rfl (by kernel_rfl) (fun K hK => ?_)
  go_simp
  refine (HW.out _ (HB1.out.trans ((Below.refl _ w1).drew.mono HB1.out.size))).mono ?_
  rintro _ _ ⟨rfl, rfl⟩
  go_wp2_with fail
  refine hK.out _ _ ?_ (fun hHeld => ?_)
  · exact (Below.refl _ _).drew
  clear hK K
  try simp only [heldPut, List.set]
  refine heldTake (i := 3) (v := ?_) rfl (by kernel_rfl) (by kernel_rfl) (by kernel_rfl) (fun _ _ _ h => h) (Or.inl ⟨by rfl, ?_⟩) (by assumption) ?_
  rotate_left
  · (intro W hSw; (try dsimp only at hSw); go_simp; try with_reducible rfl)
  try simp only [heldPut, List.set]
  refine heldTake (i := 9) (v := ?_) rfl (by kernel_rfl) (by kernel_rfl) (by kernel_rfl) (fun _ _ _ h => h) (Or.inl ⟨by rfl, ?_⟩) (by assumption) ?_
  rotate_left
  · (intro W hSw; (try dsimp only at hSw); go_simp; try with_reducible rfl)
  try simp only [heldPut, List.set]
  refine wpAnyH_done (by kernel_rfl) ?_ _
  refine NoPanic.normal ?_
  clear hHeld HC
  have hbD := HB1.out.trans ((Below.refl _ w1).drew.mono HB1.out.size)
  have HCD := Lib.hid ((hbD.block _ HCV.out.2).trans HCV.out.1)
  have HBD := Lib.hid (HB.out.trans (hbD.mono HB.out.size))
  have HRD := Lib.hid (HR.out.below hbD)
  have HLD := Lib.hid (Nat.lt_of_lt_of_le HCV.out.2 hbD.size)
  clear hbD
  go_wp2_with (first
    | (refine wpList_load_row rfl _ _ rfl w.heap.size rfl _ _ _ _ HCD.out Try.underlying30 rfl (by kernel_rfl) ?_)
    | fail)
  refine (HCK.out _ HBD.out).mono ?_
  rintro _ w2 ⟨rfl, hb2⟩
  have HB2 := Lib.hid (HBD.out.trans (hb2.mono HBD.out.size))
  have HR2 := Lib.hid (HRD.out.below hb2)
  have HC2 : Hid (∀ W, Below w2.heap.size w2 W → W.cell? ⟨s, 2, none⟩ = some (.map (some m)) ∧ W.heap[w.heap.size]? = some (.cells #[.bool x.g, .int .u8 x.o, .int .u64 x.q, .int .u64 x.t, .string x.r, .slice A N c, .int .u8 x.s, .int .u8 x.p, .int .i64 x.v, .int .u8 x.w, .int .u8 x.ga, .int .u64 x.gf, .int .u64 x.gt] 30 (0, 0))) := fun W hw =>
    ⟨((HRD.out.below hb2).below hw).c2, (hw.block _ (Nat.lt_of_lt_of_le HLD.out hb2.size)).trans ((hb2.block _ HLD.out).trans HCD.out)⟩
  clear hb2 HCD HRD HLD HBD HH HCK HW HR HB1 HCV HV HB
  go_upto_region 11 with fail
  refine wp_region_noPanic ?_
  refine wp_region_held_drew (S := fun W => W.cell? ⟨s, 2, none⟩ = some (.map (some m)) ∧ W.heap[w.heap.size]? = some (.cells #[.bool x.g, .int .u8 x.o, .int .u64 x.q, .int .u64 x.t, .string x.r, .slice A N c, .int .u8 x.s, .int .u8 x.p, .int .i64 x.v, .int .u8 x.w, .int .u8 x.ga, .int .u64 x.gf, .int .u64 x.gt] 30 (0, 0))) (by kernel_rfl) ?_ (fun hHeld => ?_)
  · exact HC2.out _ (Below.refl _ _).drew
  try simp only [heldPut, List.set]
  refine heldTake (i := 0) (v := ?_) rfl (by kernel_rfl) (by kernel_rfl) (by kernel_rfl) (fun _ _ _ h => h) (Or.inl ⟨by rfl, ?_⟩) (by assumption) ?_
  rotate_left
  · (intro W hSw; (try dsimp only at hSw); have f1 := hSw.1; go_simp; try with_reducible rfl)
  try simp only [heldPut, List.set]
  refine heldTake (i := 1) (v := ?_) rfl (by kernel_rfl) (by kernel_rfl) (by kernel_rfl) (fun _ _ _ h => h) (Or.inl ⟨by rfl, ?_⟩) (by assumption) ?_
  rotate_left
  · (intro W hSw; (try dsimp only at hSw); have f1 := hSw.1; go_simp; try with_reducible rfl)
  try simp only [heldPut, List.set]
  refine heldTake (i := 2) (v := ?_) rfl (by kernel_rfl) (by kernel_rfl) (by kernel_rfl) (fun _ _ _ h => h) (Or.inl ⟨by rfl, ?_⟩) (by assumption) ?_
  rotate_left
  · (intro W hSw; (try dsimp only at hSw); have f1 := hSw.1; go_simp; try with_reducible rfl)
  try simp only [heldPut, List.set]
  refine heldTake (i := 3) (v := ?_) rfl (by kernel_rfl) (by kernel_rfl) (by kernel_rfl) (fun _ _ _ h => h) (Or.inl ⟨by rfl, ?_⟩) (by assumption) ?_
  rotate_left
  · (intro W hSw; (try dsimp only at hSw); have f1 := hSw.1; go_simp; try with_reducible rfl)
  try simp only [heldPut, List.set]
  refine heldTake (i := 4) (v := ?_) rfl (by kernel_rfl) (by kernel_rfl) (by kernel_rfl) (fun _ _ _ h => h) (Or.inl ⟨by rfl, ?_⟩) (by assumption) ?_
  rotate_left
  · (intro W hSw; (try dsimp only at hSw); have f1 := hSw.1; go_simp; try with_reducible rfl)
  try simp only [heldPut, List.set]
  refine heldTake (i := 5) (v := .agg #[.bool x.g, .int .u8 x.o, .int .u64 x.q, .int .u64 x.t, .string x.r, .slice A N c, .int .u8 x.s, .int .u8 x.p, .int .i64 x.v, .int .u8 x.w, .int .u8 x.ga, .int .u64 x.gf, .int .u64 x.gt]) rfl (by kernel_rfl) (by kernel_rfl) (by kernel_rfl) (fun _ _ _ h => h) (Or.inl ⟨by rfl, ?_⟩) (by assumption) ?_
  · (intro W hSw; exact exec_load_row 30 _ rfl (w.heap.size) rfl _ _ _ _ hSw.2 Try.underlying30 rfl Try.infoIt)
  try simp only [heldPut, List.set]
  refine heldOne (i := 6) rfl (by kernel_rfl) (fun K hK => ?_)
  go_simp
  refine (HK.out _ (HB2.out.trans ((Below.refl _ w2).drew.mono HB2.out.size))).mono ?_
  rintro _ w3 ⟨A2, N2, c2, rfl, hn2, ho2, hb2⟩
  obtain rfl : N2 = N := by rw [hn2]; exact HN.out.1.symm
  have hb3 : Below w2.heap.size w2 w3 := (Below.refl _ w2).drew.trans hb2
  have hr3 := HR2.out.below hb3
  obtain ⟨w4, hrun, hm4, hg4⟩ := hr3.mi.store (by have := HQ.out.2.2; omega) HQ.out.1 ⟨x, A2, c2⟩ HQ.out.2.1
  have hrun : (Instr.mapUpdate 76 (.map (some m)) (.int .u64 q) (.agg #[.bool x.g, .int .u8 x.o, .int .u64 x.q, .int .u64 x.t, .string x.r, .slice A2 N2 c2, .int .u8 x.s, .int .u8 x.p, .int .i64 x.v, .int .u8 x.w, .int .u8 x.ga, .int .u64 x.gf, .int .u64 x.gt])).run Try.prog w3 = .ok () w4 := by rw [HN.out.1]; exact hrun
  have hnew : ∀ a, A2 = some a → 0 < x.l.length → w2.heap.size ≤ a.block := fun a ha h0 => (ho2.lt a.block (by rw [ha]; rfl)).1
  have hwl := HB2.out.size
  have hr4 := hr3.turn hg4 hm4 (fun i y hi => by
    unfold putF at hi
    split at hi
    · injection hi with hi
      subst hi
      refine .inr ⟨by show x.l.length ≤ 1000; rw [← hn2]; exact HN.out.2, fun h => by show x.l.length = 0; rw [← hn2]; exact own_nilA ho2 h, ?_, fun a ha h0 => ?_⟩
      · subst hn2
        exact RdP.of_own ho2
      · have h1 := hnew a ha h0
        have h2 := HLT.out.1
        have h3 := HLT.out.2
        exact ⟨by omega, by omega⟩
    · exact .inl hi)
  have HR4 := Lib.hid hr4
  have HO4 : Hid (Only (Two s m) w w4) := (Only.of_below (HB2.out.trans (hb3.mono hwl)) (Two s m)).trans ((only_of_grown hg4).mono (T' := Two s m) (fun i hi => .inr hi)) (fun _ h => .inl h)
  have HNW : Hid (∀ a, A2 = some a → 0 < x.l.length → w.heap.size ≤ a.block) := fun a ha h0 => Nat.le_trans hwl (hnew a ha h0)
  have HC3 := Lib.hid (HC2.out _ hb3)
  have HC4 : Hid (w4.cell? ⟨s, 2, none⟩ = some (.map (some m)) ∧ w4.heap[w.heap.size]? = some (.cells #[.bool x.g, .int .u8 x.o, .int .u64 x.q, .int .u64 x.t, .string x.r, .slice A N2 c, .int .u8 x.s, .int .u8 x.p, .int .i64 x.v, .int .u8 x.w, .int .u8 x.ga, .int .u64 x.gf, .int .u64 x.gt] 30 (0, 0))) := ⟨hr4.c2, ((only_of_grown hg4).block w.heap.size (Array.getElem?_eq_some_iff.1 HC3.out.2).1 (by have := HLT.out.2; show ¬ w.heap.size = m; omega)).trans HC3.out.2⟩
  clear ho2 hb2 hb3 hr3 hm4 hg4 hnew hr4 hn2 hwl
  go_wp2_with fail
  refine hK.out _ _ ?_ (fun hHeld => ?_)
  · exact HC3.out
  clear hK K
  try simp only [heldPut, List.set]
  refine heldOne (i := 7) rfl (by kernel_rfl) (fun K hK => ?_)
  go_simp
  refine hK.out _ _ ?_ (fun hHeld => ?_)
  · exact HC4.out
  clear hK K
  try simp only [heldPut, List.set]
  refine wpAnyH_done (by kernel_rfl) ?_ _
  refine NoPanic.normal ?_
  go_wp2
  go_ret
  exact ⟨rfl, A2, c2, HR4.out, by rw [HN.out.1]; exact HNW.out, HO4.out⟩
end
end Go.Proofs.Ytocdhnlffemnhaa
