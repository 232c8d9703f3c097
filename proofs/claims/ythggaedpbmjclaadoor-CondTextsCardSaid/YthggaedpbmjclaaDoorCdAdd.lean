/- Layer 13: Last, Points, Add of a series. -/
import Derived.Test.YthggaedpbmjclaaDoorCdMem
import Derived.Test.YthggaedpbmjclaaDoorChecked
import Derived.Laws.CopyOwn
import Derived.WalkKit
import Derived.WalkSpells
import Derived.Lib.Hide
import Derived.Lib.SliceRun
import Derived.StillTailTactics
import Derived.RegionTactic
import Derived.BigRegion
import Derived.Deep.QuietTactic
import Derived.BigQuiet
import Derived.Deep.DeepCutAuto
namespace Go.Proofs.YthggaedpbmjclaaDoor
open Go.RowKit

theorem Tryd.infoPt : (Tryd.prog.info? 51).map (·.size) = some 2 := by kernel_rfl
theorem results_pt {P : Program} {fn : Func} {p q : Tmp} {ty : TypeId} {v : Value} (h : fn.results = #[.cell p ty, .tmp q]) (tmps : Array Value) (w : World) (g : Nat) (t : TypeId) (cs : Array Value) (fr : Nat × Nat) (d : TypeDesc)
    (hp : tmps.getD p undef = .pointer (some ⟨g, 0, none⟩)) (hq : tmps.getD q undef = v) (hg : w.heap[g]? = some (.cells cs t fr))
    (hu : P.underlying ty = some d) (hd : (match d with | .struct _ | .array _ _ => true | _ => false) = true) (hi : (P.info? ty).map (·.size) = some cs.size) :
    (results fn tmps).run P w = .ok (.tuple #[.agg cs, v]) w := by
  have hp' : tmps[p]?.getD undef = .pointer (some ⟨g, 0, none⟩) := by simpa using hp
  have hq' : tmps[q]?.getD undef = v := by simpa using hq
  simp [results, h, hp', hq', asAddr, run_loadVar_row w g t ty cs fr d hg hu hd hi]

theorem boxPt (W : World) : ∃ V, V = W.alloc (.cells #[.int .u64 0, .int .i64 0] 51) ∧ V.heap[W.heap.size]? = some (.cells #[.int .u64 0, .int .i64 0] 51 (0, 0)) ∧ Below W.heap.size W V ∧ W.heap.size < V.heap.size :=
  ⟨_, rfl, heap_alloc_new _ _, (Below.refl _ _).alloc (Nat.le_refl _) _, by simp⟩

theorem boxP1 (W : World) (q : Pt) : ∃ V, V = W.alloc (.cells #[.int .u64 q.t, .int .i64 q.v] 51) ∧ V.heap[W.heap.size]? = some (.cells #[.int .u64 q.t, .int .i64 q.v] 51 (0, 0)) ∧ Below W.heap.size W V ∧ W.heap.size < V.heap.size :=
  ⟨_, rfl, heap_alloc_new _ _, (Below.refl _ _).alloc (Nat.le_refl _) _, by simp⟩
section
variable {w : World} {s : Nat} {L : List Pt}
/-- but for block s nothing that was there has turned -/
structure Only13 (s : Nat) (w w' : World) : Prop where
  os : w'.os = w.os
  tape : w'.tape = w.tape
  output : w'.output = w.output
  size : w.heap.size ≤ w'.heap.size
  block : ∀ k, k < w.heap.size → k ≠ s → w'.heap[k]? = w.heap[k]?
theorem Only13.of_below {s : Nat} {w w' : World} (h : Below w.heap.size w w') : Only13 s w w' := ⟨h.os, h.tape, h.output, h.size, fun k hk _ => h.block k hk⟩
theorem Only13.below {s B : Nat} {w0 w w' : World} (h : Only13 s w w') (hb : Below B w0 w) (hB : B ≤ w.heap.size) (hs : B ≤ s) : Below B w0 w' :=
  hb.trans ⟨h.os, h.tape, h.output, h.size, fun k hk => h.block k (by omega) (by omega)⟩
theorem Only13.trans {s : Nat} {w w1 w2 : World} (h : Only13 s w w1) (k : Only13 s w1 w2) : Only13 s w w2 :=
  ⟨k.os.trans h.os, k.tape.trans h.tape, k.output.trans h.output, Nat.le_trans h.size k.size, fun i hi hn => (k.block i (Nat.lt_of_lt_of_le hi h.size) hn).trans (h.block i hi hn)⟩
theorem Only13.setCell (w : World) (s j : Nat) (v : Value) : Only13 s w (w.setCell ⟨s, j, none⟩ v) :=
  ⟨rfl, rfl, rfl, by simp [World.setCell], fun k _ hn => by
    show (w.heap.modify s _)[k]? = _
    rw [Array.getElem?_modify, if_neg (fun h => hn h.symm)]⟩
set_option maxRecDepth 100000 in
set_option maxHeartbeats 400000 in
theorem clast_none (w : World) (h : SerAt w s []) :
    Calls Tryd.prog 29 #[.pointer (some ⟨s, 0, none⟩)] w fun e w' => e = .returned (.tuple #[.agg #[.int .u64 0, .int .i64 0], .bool false]) ∧ Below w.heap.size w w' := by
  obtain ⟨V, hV, hc, hbV, hlV⟩ := boxPt w
  have c64 : V.cell? ⟨s, 64, none⟩ = some (.int .i64 0) := (h.below hbV).many
  have HV := Lib.hid hV
  have HC := Lib.hid (⟨hc, hbV, hlV⟩ : _ ∧ _ ∧ _)
  clear h hV hc hbV hlV
  go_enter Tryd.func29, Tryd.ntmps29
  go_upto_region 1 with fail
  rw [← HV.out]
  go_upto_region 2 with fail
  have f0 := HC.out.1
  go_wp2_with (first | (refine wpList_store_row rfl _ _ _ rfl w.heap.size _ rfl rfl _ _ f0 Tryd.infoPt rfl (by simp [Value.oneCell']) ?_) | fail)
  refine bodyPost_ret (v := .tuple #[.agg #[.int .u64 0, .int .i64 0], .bool false]) ?_ rfl ⟨rfl, ?_⟩
  · exact results_pt rfl _ _ w.heap.size _ _ _ _ rfl rfl (setRow_heap _ _ _ _ _ _ HC.out.1) Tryd.underlying51 rfl (by kernel_rfl)
  · exact below_setRow HC.out.2.1 (Nat.le_refl _) _
theorem lastPt {L : List Pt} {p : Pt} (h : L.getLast? = some p) : 0 < L.length ∧ L[L.length - 1]? = some p := by
  rw [List.getLast?_eq_getElem?] at h
  exact ⟨by have := (List.getElem?_eq_some_iff.1 h).1; omega, h⟩
set_option maxRecDepth 100000 in
set_option maxHeartbeats 400000 in
theorem clast_some {p : Pt} (w : World) (h : SerAt w s L) (hp : L.getLast? = some p) :
    Calls Tryd.prog 29 #[.pointer (some ⟨s, 0, none⟩)] w fun e w' => e = .returned (.tuple #[.agg #[.int .u64 p.t, .int .i64 p.v], .bool true]) ∧ Below w.heap.size w w' := by
  obtain ⟨V, hV, hc, hbV, hlV⟩ := boxPt w
  obtain ⟨h0, hg⟩ := lastPt hp
  have hfew := h.few
  obtain ⟨n, hn⟩ : ∃ n, n = L.length := ⟨_, rfl⟩
  have c64 : V.cell? ⟨s, 64, none⟩ = some (.int .i64 n) := by rw [hn]; exact (h.below hbV).many
  rw [← hn] at h0 hg hfew
  obtain ⟨m, hm⟩ : ∃ m, n = m + 1 := ⟨n - 1, by omega⟩
  subst hm
  rw [Nat.add_sub_cancel] at hg
  have HM : Hid (∀ W, Below w.heap.size w W → W.cell? ⟨s, 64, none⟩ = some (.int .i64 (m + 1 : Nat)) ∧ W.rangeAt s (m * 2) (ptC p)) := fun W hW => ⟨by rw [hn]; exact (h.below hW).many, (h.below hW).pt hg⟩
  have HV := Lib.hid hV
  have HC := Lib.hid (⟨hc, hbV, hlV⟩ : _ ∧ _ ∧ _)
  have d1 : (((m + 1 : Nat) : Int) == 0) = false := by rw [beq_eq_false_iff_ne]; omega
  have e1 : ((m + 1 : Nat) : Int) - 1 = (m : Int) := by omega
  have hm3 : (m : Int) < 32 := by omega
  have hw : IntKind.i64.wrap (m : Int) = (m : Int) := by rw [IntKind.wrap_i64]; omega
  clear h hV hc hbV hlV hp hg hn h0
  obtain ⟨N, hN⟩ : ∃ N, N = m + 1 := ⟨_, rfl⟩
  rw [← hN] at c64 HM d1 e1
  clear hN hfew
  go_enter Tryd.func29, Tryd.ntmps29
  go_upto_region 1 with fail
  rw [← HV.out]
  go_upto_region 3 with fail
  refine wp_region_noPanic ?_
  refine wp_region_held_drew (S := fun W => Below w.heap.size w W) (by kernel_rfl) ?_ (fun hHeld => ?_)
  · exact HC.out.2.1.trans ((Below.refl _ V).drew.mono HC.out.2.1.size)
  try simp only [heldPut, List.set]
  refine heldTake (i := 0) (v := ?_) rfl (by kernel_rfl) (by kernel_rfl) (by kernel_rfl) (fun _ _ _ h => h) (Or.inl ⟨by rfl, ?_⟩) (by assumption) ?_
  rotate_left
  · (intro W hSw; (try dsimp only at hSw); have f1 := (HM.out W hSw).1; go_simp; try with_reducible rfl)
  try simp only [heldPut, List.set]
  refine heldTake (i := 1) (v := ?_) rfl (by kernel_rfl) (by kernel_rfl) (by kernel_rfl) (fun _ _ _ h => h) (Or.inl ⟨by rfl, ?_⟩) (by assumption) ?_
  rotate_left
  · (intro W hSw; (try dsimp only at hSw); have f1 := (HM.out W hSw).1; go_simp; try with_reducible rfl)
  try simp only [heldPut, List.set]
  refine heldTake (i := 2) (v := ?_) rfl (by kernel_rfl) (by kernel_rfl) (by kernel_rfl) (fun _ _ _ h => h) (Or.inl ⟨by rfl, ?_⟩) (by assumption) ?_
  rotate_left
  · (intro W hSw; (try dsimp only at hSw); have f1 := (HM.out W hSw).1; go_simp; try with_reducible rfl)
  try simp only [heldPut, List.set]
  refine heldTake (i := 3) (v := ?_) rfl (by kernel_rfl) (by kernel_rfl) (by kernel_rfl) (fun _ _ _ h => h) (Or.inl ⟨by rfl, ?_⟩) (by assumption) ?_
  rotate_left
  · (intro W hSw; (try dsimp only at hSw); have f1 := (HM.out W hSw).1; go_simp; try with_reducible rfl)
  try simp only [heldPut, List.set]
  refine heldTake (i := 4) (v := ?_) rfl (by kernel_rfl) (by kernel_rfl) (by kernel_rfl) (fun _ _ _ h => h) (Or.inl ⟨by rfl, ?_⟩) (by assumption) ?_
  rotate_left
  · (intro W hSw; (try dsimp only at hSw); have f1 := (HM.out W hSw).1; go_simp; try with_reducible rfl)
  try simp only [heldPut, List.set]
  refine heldTake (i := 5) (v := ?_) rfl (by kernel_rfl) (by kernel_rfl) (by kernel_rfl) (fun _ _ _ h => h) (Or.inl ⟨by rfl, ?_⟩) (by assumption) ?_
  rotate_left
  · (intro W hSw; (try dsimp only at hSw); have f1 := (HM.out W hSw).1; go_simp; try with_reducible rfl)
  try simp only [heldPut, List.set]
  refine heldTake (i := 6) (v := ?_) rfl (by kernel_rfl) (by kernel_rfl) (by kernel_rfl) (fun _ _ _ h => h) (Or.inl ⟨by rfl, ?_⟩) (by assumption) ?_
  rotate_left
  · (intro W hSw; (try dsimp only at hSw); have f1 := (HM.out W hSw).1; go_simp; try with_reducible rfl)
  try simp only [heldPut, List.set]
  refine heldTake (i := 7) (v := ?_) rfl (by kernel_rfl) (by kernel_rfl) (by kernel_rfl) (fun _ _ _ h => h) (Or.inl ⟨by rfl, ?_⟩) (by assumption) ?_
  rotate_left
  · (intro W hSw; (try dsimp only at hSw); have f1 := (HM.out W hSw).1; go_simp; try with_reducible rfl)
  try simp only [heldPut, List.set]
  refine heldTake (i := 8) (v := (.pointer (some ⟨s, m * 2, none⟩))) rfl (by kernel_rfl) (by kernel_rfl) (by kernel_rfl) (fun _ _ _ h => h) (Or.inl ⟨by rfl, ?_⟩) (by assumption) ?_
  · (intro W hSw; go_simp)
  try simp only [heldPut, List.set]
  refine heldTake (i := 9) (v := (.agg (ptC p).toArray)) rfl (by kernel_rfl) (by kernel_rfl) (by kernel_rfl) (fun _ _ _ h => h) (Or.inl ⟨by rfl, ?_⟩) (by assumption) ?_
  · (intro W hSw; exact exec_load_pt 51 _ rfl s (m * 2) rfl _ _ (HM.out W hSw).2 Tryd.underlying51 rfl Tryd.infoPt)
  try simp only [heldPut, List.set]
  refine heldOne (i := 10) rfl (by kernel_rfl) (fun K hK => ?_)
  rw [if_pos (by rfl)]
  refine wp_store_row _ _ _ rfl w.heap.size _ rfl rfl _ _ HC.out.1 Tryd.infoPt rfl (by simp [Value.oneCell', ptC]) ?_
  have HB3 := Lib.hid (below_setRow hHeld (Nat.le_refl _) (ptC p).toArray)
  refine hK.out _ _ ?_ (fun hHeld => ?_)
  · exact HB3.out
  clear hK K
  try simp only [heldPut, List.set]
  refine heldTake (i := 11) (v := ?_) rfl (by kernel_rfl) (by kernel_rfl) (by kernel_rfl) (fun _ _ _ h => h) (Or.inl ⟨by rfl, ?_⟩) (by assumption) ?_
  rotate_left
  · (intro W hSw; (try dsimp only at hSw); go_simp; try with_reducible rfl)
  try simp only [heldPut, List.set]
  refine wpAnyH_done (by kernel_rfl) ?_ _
  refine NoPanic.normal ?_
  go_wp2
  refine bodyPost_ret (v := .tuple #[.agg #[.int .u64 p.t, .int .i64 p.v], .bool true]) ?_ rfl ⟨rfl, HB3.out⟩
  exact results_pt rfl _ _ w.heap.size _ _ _ _ rfl rfl (setRow_heap _ _ _ _ _ _ HC.out.1) Tryd.underlying51 rfl (by kernel_rfl)
/-- a point's box, and what is laid into it -/
theorem boxP2 (W : World) (T : TypeId) (Z cs : Array Value) : ∃ V, V = (W.alloc (.cells Z T)).setRow W.heap.size cs ∧ V.heap[W.heap.size]? = some (.cells cs T (0, 0)) ∧ Below W.heap.size W V ∧ W.heap.size < V.heap.size := by
  have h := setRow_heap (W.alloc (.cells Z T)) W.heap.size Z cs _ _ (heap_alloc_new _ _)
  exact ⟨_, rfl, h, below_setRow ((Below.refl _ _).alloc (Nat.le_refl _) _) (Nat.le_refl _) _, (Array.getElem?_eq_some_iff.1 h).1⟩
theorem act_put_pt (a : Act) (v : Value) : a.put none v = a := rfl
set_option maxRecDepth 100000 in
set_option maxHeartbeats 400000 in
theorem cadd_range {t : Nat} {v : Int} (w : World) (ht : 1099511627776 < t) :
    Calls Tryd.prog 18 #[.pointer (some ⟨s, 0, none⟩), .int .u64 t, .int .i64 v] w fun e w' => e = .returned (.int .i64 6) ∧ w' = w := by
  have d1 : decide ((1099511627776 : Int) < t) = true := decide_eq_true (by omega)
  go_enter Tryd.func18, Tryd.ntmps18
  go_wp2
  go_ret
  exact ⟨rfl, rfl⟩
set_option maxRecDepth 100000 in
set_option maxHeartbeats 400000 in
theorem cadd_order {t : Nat} {v : Int} {p : Pt} (w : World) (h : SerAt w s L) (hp : L.getLast? = some p) (ht : t < p.t) (ht2 : t ≤ 1099511627776) :
    Calls Tryd.prog 18 #[.pointer (some ⟨s, 0, none⟩), .int .u64 t, .int .i64 v] w fun e w' => e = .returned (.int .i64 9) ∧ Below w.heap.size w w' := by
  have d1 : decide ((1099511627776 : Int) < t) = false := decide_eq_false (by omega)
  have d2 : decide ((t : Int) < p.t) = true := decide_eq_true (by omega)
  have d3 : decide (t < p.t) = true := decide_eq_true ht
  have HL := Lib.hid (clast_some w h hp)
  obtain ⟨u, hu⟩ : ∃ u, u = p.t := ⟨_, rfl⟩
  rw [← hu] at HL d2 d3
  clear h hp ht ht2 hu
  go_enter Tryd.func18, Tryd.ntmps18
  go_wp2_with fail
  refine HL.out.mono ?_
  rintro _ w1 ⟨rfl, hb1⟩
  have HB1 := Lib.hid hb1
  clear hb1
  go_upto_region 6 with (first | (refine wpList_store_row rfl _ _ _ rfl w1.heap.size #[.int .u64 u, .int .i64 p.v] rfl rfl _ _ (heap_alloc_new _ _) Tryd.infoPt rfl (by simp [Value.oneCell']) ?_) | fail)
  obtain ⟨w2, hw2, hc2, hb2, -⟩ := boxP2 w1 51 #[.int .u64 0, .int .i64 0] #[.int .u64 u, .int .i64 p.v]
  first | rw [← hw2, act_put_pt] | rw [← hw2]
  have c0 : w2.cell? ⟨w1.heap.size, 0, none⟩ = some (.int .u64 u) := cell_of_row _ _ 0 _ _ _ hc2
  have HB2 := Lib.hid (HB1.out.trans (hb2.mono HB1.out.size))
  clear hw2 hc2 hb2
  go_wp2
  go_ret
  exact ⟨rfl, HB2.out⟩
set_option maxRecDepth 100000 in
set_option maxHeartbeats 1000000 in
/-- Add of a point, where there is room -/
theorem cadd_room {t : Nat} {v : Int} (w : World) (h : SerAt w s L) (hL : L.length < 32) (hp : ∀ p, L.getLast? = some p → p.t ≤ t) (ht : t ≤ 1099511627776) :
    Calls Tryd.prog 18 #[.pointer (some ⟨s, 0, none⟩), .int .u64 t, .int .i64 v] w fun e w' => e = .returned (.int .i64 0) ∧ SerAt w' s (L ++ [⟨t, v⟩]) ∧ Only13 s w w' := by
  have d1 : decide ((1099511627776 : Int) < t) = false := decide_eq_false (by omega)
  obtain ⟨u, z, fnd, hu, hca⟩ : ∃ (u : Nat) (z : Int) (fnd : Bool), (fnd = true → u ≤ t) ∧ Calls Tryd.prog 29 #[.pointer (some ⟨s, 0, none⟩)] w fun e w' => e = .returned (.tuple #[.agg #[.int .u64 u, .int .i64 z], .bool fnd]) ∧ Below w.heap.size w w' := by
    cases e : L.getLast? with
    | none =>
      obtain rfl : L = [] := by simpa using e
      exact ⟨0, 0, false, fun h => (by cases h), clast_none w h⟩
    | some p => exact ⟨p.t, p.v, true, fun _ => hp p e, clast_some w h e⟩
  have d2 : fnd = true → decide ((t : Int) < u) = false ∧ decide (t < u) = false := fun h => ⟨decide_eq_false (by have := hu h; omega), decide_eq_false (by have := hu h; omega)⟩
  obtain ⟨n, hn⟩ : ∃ n, n = L.length := ⟨_, rfl⟩
  have HP : Hid (∀ W : World, SerAt W s L → SerAt ((((W.setCell ⟨s, n * 2, none⟩ (.int .u64 t)).setCell ⟨s, n * 2 + 1, none⟩ (.int .i64 v))).setCell ⟨s, 64, none⟩ (.int .i64 (n + 1 : Nat))) s (L ++ [⟨t, v⟩])) := fun W hW => by
    rw [hn]; exact hW.push hL ⟨t, v⟩ rfl
  have HL := Lib.hid hca
  have HS := Lib.hid h
  have HN := Lib.hid hn
  rw [← hn] at hL
  clear h hp hu hca hn
  go_enter Tryd.func18, Tryd.ntmps18
  go_wp2_with fail
  refine HL.out.mono ?_
  rintro _ w1 ⟨rfl, hb1⟩
  have HB1 := Lib.hid hb1
  clear hb1
  go_upto_region 6 with (first | (refine wpList_store_row rfl _ _ _ rfl w1.heap.size #[.int .u64 u, .int .i64 z] rfl rfl _ _ (heap_alloc_new _ _) Tryd.infoPt rfl (by simp [Value.oneCell']) ?_) | fail)
  obtain ⟨w2, hw2, hc2, hb2, -⟩ := boxP2 w1 51 #[.int .u64 0, .int .i64 0] #[.int .u64 u, .int .i64 z]
  first | rw [← hw2, act_put_pt] | rw [← hw2]
  have c0 : w2.cell? ⟨w1.heap.size, 0, none⟩ = some (.int .u64 u) := cell_of_row _ _ 0 _ _ _ hc2
  have HB2 := Lib.hid (HB1.out.trans (hb2.mono HB1.out.size))
  have HS2 := Lib.hid (HS.out.below HB2.out)
  clear hw2 hc2 hb2 HB1 HL
  have HA : Hid (∀ W3 : World, SerAt W3 s L → Only13 s w W3 → Only13 s w (W3.setCell ⟨s, 64, none⟩ (.int .i64 (n + 1 : Nat)))) := fun W3 _ h2 => h2.trans (Only13.setCell _ _ _ _)
  have hw : IntKind.i64.wrap (n : Int) = (n : Int) := by rw [IntKind.wrap_i64]; omega
  have hn3 : (n : Int) < 32 := by omega
  have d3 : ((n : Int) == 32) = false := by rw [beq_eq_false_iff_ne]; omega
  have d4 : (n == 32) = false := by rw [beq_eq_false_iff_ne]; omega
  have e1 : (n : Int) + 1 = ((n + 1 : Nat) : Int) := by omega
  have hwn : IntKind.i64.wrap ((n + 1 : Nat) : Int) = ((n + 1 : Nat) : Int) := by rw [IntKind.wrap_i64]; omega
  obtain ⟨N, hN⟩ : ∃ N, N = n + 1 := ⟨_, rfl⟩
  rw [← hN] at HA HP e1 hwn
  have c64 : w2.cell? ⟨s, 64, none⟩ = some (.int .i64 n) := by rw [HN.out]; exact HS2.out.many
  have HSB : Hid (∀ W, SerAt W s L → W.cell? ⟨s, 64, none⟩ = some (.int .i64 n)) := fun W hW => by rw [HN.out]; exact hW.many
  have HNN := Lib.hid hN
  clear hN
  rcases fnd with _ | _
  all_goals (try obtain ⟨d5, d6⟩ := d2 rfl)
  all_goals clear d2
  all_goals (
    go_upto_region 11 with fail
    clear c64 c0
    refine wp_region_noPanic ?_
    refine wp_region_held_drew (S := fun W => SerAt W s L ∧ Only13 s w W) (by kernel_rfl) ?_ (fun hHeld => ?_)
    · exact ⟨HS2.out.as rfl, ⟨HB2.out.os, HB2.out.tape, HB2.out.output, HB2.out.size, fun k hk _ => HB2.out.block k hk⟩⟩
    try simp only [heldPut, List.set]
    refine heldTake (i := 0) (v := ?_) rfl (by kernel_rfl) (by kernel_rfl) (by kernel_rfl) (fun _ _ _ h => h) (Or.inl ⟨by rfl, ?_⟩) (by assumption) ?_
    rotate_left
    · (intro W hSw; (try dsimp only at hSw); have f1 := HSB.out W hSw.1; go_simp; try with_reducible rfl)
    try simp only [heldPut, List.set]
    refine heldTake (i := 1) (v := ?_) rfl (by kernel_rfl) (by kernel_rfl) (by kernel_rfl) (fun _ _ _ h => h) (Or.inl ⟨by rfl, ?_⟩) (by assumption) ?_
    rotate_left
    · (intro W hSw; (try dsimp only at hSw); have f1 := HSB.out W hSw.1; go_simp; try with_reducible rfl)
    try simp only [heldPut, List.set]
    refine heldTake (i := 2) (v := ?_) rfl (by kernel_rfl) (by kernel_rfl) (by kernel_rfl) (fun _ _ _ h => h) (Or.inl ⟨by rfl, ?_⟩) (by assumption) ?_
    rotate_left
    · (intro W hSw; (try dsimp only at hSw); have f1 := HSB.out W hSw.1; go_simp; try with_reducible rfl)
    try simp only [heldPut, List.set]
    refine heldTake (i := 3) (v := ?_) rfl (by kernel_rfl) (by kernel_rfl) (by kernel_rfl) (fun _ _ _ h => h) (Or.inl ⟨by rfl, ?_⟩) (by assumption) ?_
    rotate_left
    · (intro W hSw; (try dsimp only at hSw); have f1 := HSB.out W hSw.1; go_simp; try with_reducible rfl)
    try simp only [heldPut, List.set]
    refine heldTake (i := 4) (v := ?_) rfl (by kernel_rfl) (by kernel_rfl) (by kernel_rfl) (fun _ _ _ h => h) (Or.inl ⟨by rfl, ?_⟩) (by assumption) ?_
    rotate_left
    · (intro W hSw; (try dsimp only at hSw); have f1 := HSB.out W hSw.1; go_simp; try with_reducible rfl)
    try simp only [heldPut, List.set]
    refine heldTake (i := 5) (v := ?_) rfl (by kernel_rfl) (by kernel_rfl) (by kernel_rfl) (fun _ _ _ h => h) (Or.inl ⟨by rfl, ?_⟩) (by assumption) ?_
    rotate_left
    · (intro W hSw; (try dsimp only at hSw); have f1 := HSB.out W hSw.1; go_simp; try with_reducible rfl)
    try simp only [heldPut, List.set]
    refine heldTake (i := 6) (v := ?_) rfl (by kernel_rfl) (by kernel_rfl) (by kernel_rfl) (fun _ _ _ h => h) (Or.inl ⟨by rfl, ?_⟩) (by assumption) ?_
    rotate_left
    · (intro W hSw; (try dsimp only at hSw); have f1 := HSB.out W hSw.1; go_simp; try with_reducible rfl)
    try simp only [heldPut, List.set]
    refine heldTake (i := 7) (v := ?_) rfl (by kernel_rfl) (by kernel_rfl) (by kernel_rfl) (fun _ _ _ h => h) (Or.inl ⟨by rfl, ?_⟩) (by assumption) ?_
    rotate_left
    · (intro W hSw; (try dsimp only at hSw); have f1 := HSB.out W hSw.1; go_simp; try with_reducible rfl)
    try simp only [heldPut, List.set]
    refine heldTake (i := 8) (v := ?_) rfl (by kernel_rfl) (by kernel_rfl) (by kernel_rfl) (fun _ _ _ h => h) (Or.inl ⟨by rfl, ?_⟩) (by assumption) ?_
    rotate_left
    · (intro W hSw; (try dsimp only at hSw); have f1 := HSB.out W hSw.1; go_simp; try with_reducible rfl)
    try simp only [heldPut, List.set]
    refine heldTake (i := 9) (v := ?_) rfl (by kernel_rfl) (by kernel_rfl) (by kernel_rfl) (fun _ _ _ h => h) (Or.inl ⟨by rfl, ?_⟩) (by assumption) ?_
    rotate_left
    · (intro W hSw; (try dsimp only at hSw); have f1 := HSB.out W hSw.1; go_simp; try with_reducible rfl)
    try simp only [heldPut, List.set]
    refine heldTake (i := 10) (v := (.pointer (some ⟨s, n * 2, none⟩))) rfl (by kernel_rfl) (by kernel_rfl) (by kernel_rfl) (fun _ _ _ h => h) (Or.inl ⟨by rfl, ?_⟩) (by assumption) ?_
    · (intro W hSw; go_simp)
    try simp only [heldPut, List.set]
    refine heldOne (i := 11) rfl (by kernel_rfl) (fun K hK => ?_)
    rw [if_pos (by rfl)]
    obtain ⟨hF1, hF2⟩ := hHeld.1.fill (by rw [← HN.out]; exact hL) ⟨t, v⟩ HN.out
    refine wp_store_mid _ _ _ rfl s (n * 2) #[.int .u64 t, .int .i64 v] rfl rfl (hHeld.1.there (by simp; omega)) Tryd.infoPt (by simp [Value.oneCell']) ?_
    have hO1 : Only13 s w (w2.drew.setCells s (n * 2) (ptC ⟨t, v⟩)) := hHeld.2.trans ((Only13.setCell _ _ _ _).trans (Only13.setCell _ _ _ _))
    have HF := Lib.hid (⟨hF1, hF2, hO1⟩ : _ ∧ _ ∧ _)
    clear hF1 hF2 hO1
    refine hK.out _ _ ?_ (fun hHeld => ?_)
    · exact ⟨HF.out.1, HF.out.2.2⟩
    clear hK K
    try simp only [heldPut, List.set]
    refine wpAnyH_done (by kernel_rfl) ?_ _
    refine NoPanic.normal ?_
    obtain ⟨W3, hW3⟩ : ∃ W, W = w2.drew.setCells s (n * 2) (ptC ⟨t, v⟩) := ⟨_, rfl⟩
    have HG : Hid (SerAt W3 s L ∧ SerAt (W3.setCell ⟨s, 64, none⟩ (.int .i64 N)) s (L ++ [⟨t, v⟩]) ∧ Only13 s w W3) := by rw [hW3, HNN.out]; exact HF.out
    have c64 := HSB.out W3 HG.out.1
    have f64 := HG.out.1.frozen 64
    first | rw [show w2.drew.setCells s (n * 2) (#[Value.int .u64 t, Value.int .i64 v] : Array Value).toList = W3 from hW3.symm] | rw [show w2.drew.setCells s (n * 2) [Value.int .u64 t, Value.int .i64 v] = W3 from hW3.symm]
    clear hHeld HF hW3
    go_wp2
    go_ret
    exact ⟨rfl, HG.out.2.1, HA.out W3 HG.out.1 HG.out.2.2⟩)
set_option maxRecDepth 100000 in
set_option maxHeartbeats 1000000 in
/-- Add of a point, where the first one goes -/
theorem cadd_full {t : Nat} {v : Int} {p : Pt} (w : World) (h : SerAt w s L) (hL : L.length = 32) (hp : L.getLast? = some p) (hpt : p.t ≤ t) (ht : t ≤ 1099511627776) :
    Calls Tryd.prog 18 #[.pointer (some ⟨s, 0, none⟩), .int .u64 t, .int .i64 v] w fun e w' => e = .returned (.int .i64 0) ∧ SerAt w' s (L.drop 1 ++ [⟨t, v⟩]) ∧ Only13 s w w' := by
  have d1 : decide ((1099511627776 : Int) < t) = false := decide_eq_false (by omega)
  obtain ⟨u, hu⟩ : ∃ u, u = p.t := ⟨_, rfl⟩
  have d5 : decide ((t : Int) < u) = false := decide_eq_false (by omega)
  have d6 : decide (t < u) = false := decide_eq_false (by omega)
  have HL := Lib.hid (clast_some w h hp)
  rw [← hu] at HL
  have HS := Lib.hid h
  have HL32 := Lib.hid hL
  obtain ⟨M, hM⟩ : ∃ M, M = L.drop 1 := ⟨_, rfl⟩
  rw [← hM]
  have HM := Lib.hid hM
  clear h hL hp hpt hu hM
  go_enter Tryd.func18, Tryd.ntmps18
  go_wp2_with fail
  refine HL.out.mono ?_
  rintro _ w1 ⟨rfl, hb1⟩
  have HB1 := Lib.hid hb1
  clear hb1
  go_upto_region 6 with (first | (refine wpList_store_row rfl _ _ _ rfl w1.heap.size #[.int .u64 u, .int .i64 p.v] rfl rfl _ _ (heap_alloc_new _ _) Tryd.infoPt rfl (by simp [Value.oneCell']) ?_) | fail)
  obtain ⟨w2, hw2, hc2, hb2, -⟩ := boxP2 w1 51 #[.int .u64 0, .int .i64 0] #[.int .u64 u, .int .i64 p.v]
  first | rw [← hw2, act_put_pt] | rw [← hw2]
  have c0 : w2.cell? ⟨w1.heap.size, 0, none⟩ = some (.int .u64 u) := cell_of_row _ _ 0 _ _ _ hc2
  have HB2 := Lib.hid (HB1.out.trans (hb2.mono HB1.out.size))
  have HS2 := Lib.hid (HS.out.below HB2.out)
  clear hw2 hc2 hb2 HB1 HL
  have c64 : w2.cell? ⟨s, 64, none⟩ = some (.int .i64 32) := by have := HS2.out.many; rw [HL32.out] at this; exact this
  go_upto_region 9 with fail
  clear c64 c0
  obtain ⟨cur, q1, q2, q3, q4, q5, q6⟩ := HS2.out.shift HL32.out
  have HQ := Lib.hid (⟨q1, q2, q3, q4, q5, q6⟩ : _ ∧ _ ∧ _ ∧ _ ∧ _ ∧ _)
  clear q1 q2 q3 q4 q5 q6
  have HRUN : Hid (∀ W ty, W.heap = w2.heap → (Builtin.copy_ #[77, 77] ty #[.slice (some ⟨s, 0, none⟩) 32 32, .slice (some ⟨s, 2, none⟩) 31 31]).run Tryd.prog W = .ok (.int .i64 31) (W.setRow s (cur.toList.take 0 ++ (cur.toList.drop 2).take 62 ++ cur.toList.drop (0 + 62)).toArray)) := fun W ty hW => by
    have e := run_copy_row2 (P := Tryd.prog) W 77 77 ty 51 s 0 32 32 ⟨s, 2, none⟩ 31 31 cur 54 ((cur.toList.drop 2).take 62) Tryd.underlying77 Tryd.infoPt (by rw [hW]; exact HQ.out.1) (by rw [HQ.out.2.2.2.2.1]; rfl) (fun j v hj => by
      rw [World.cell?_of_block (w' := W) (w := w2) (by rw [hW])]; exact HQ.out.2.2.1 j v hj) (by rw [HQ.out.2.2.2.2.1, HQ.out.2.1]; omega) HQ.out.2.2.2.1
    rw [HQ.out.2.2.2.2.1] at e
    exact e
  refine wp_region_noPanic ?_
  refine wp_region_held_drew (S := fun W => Below w.heap.size w W ∨ Only13 s w W) (by kernel_rfl) ?_ (fun hHeld => ?_)
  · exact .inl (HB2.out.trans ((Below.refl _ w2).drew.mono HB2.out.size))
  try simp only [heldPut, List.set]
  refine heldTake (i := 0) (v := ?_) rfl (by kernel_rfl) (by kernel_rfl) (by kernel_rfl) (fun _ _ _ h => h) (Or.inl ⟨by rfl, ?_⟩) (by assumption) ?_
  rotate_left
  · (intro W hSw; (try dsimp only at hSw); go_simp; try with_reducible rfl)
  try simp only [heldPut, List.set]
  refine heldTake (i := 1) (v := ?_) rfl (by kernel_rfl) (by kernel_rfl) (by kernel_rfl) (fun _ _ _ h => h) (Or.inl ⟨by rfl, ?_⟩) (by assumption) ?_
  rotate_left
  · (intro W hSw; (try dsimp only at hSw); go_simp; try with_reducible rfl)
  try simp only [heldPut, List.set]
  refine heldTake (i := 2) (v := ?_) rfl (by kernel_rfl) (by kernel_rfl) (by kernel_rfl) (fun _ _ _ h => h) (Or.inl ⟨by rfl, ?_⟩) (by assumption) ?_
  rotate_left
  · (intro W hSw; (try dsimp only at hSw); go_simp; try with_reducible rfl)
  try simp only [heldPut, List.set]
  refine heldTake (i := 3) (v := ?_) rfl (by kernel_rfl) (by kernel_rfl) (by kernel_rfl) (fun _ _ _ h => h) (Or.inl ⟨by rfl, ?_⟩) (by assumption) ?_
  rotate_left
  · (intro W hSw; (try dsimp only at hSw); go_simp; try with_reducible rfl)
  try simp only [heldPut, List.set]
  refine heldTake (i := 4) (v := ?_) rfl (by kernel_rfl) (by kernel_rfl) (by kernel_rfl) (fun _ _ _ h => h) (Or.inl ⟨by rfl, ?_⟩) (by assumption) ?_
  rotate_left
  · (intro W hSw; (try dsimp only at hSw); go_simp; try with_reducible rfl)
  try simp only [heldPut, List.set]
  refine heldTake (i := 5) (v := ?_) rfl (by kernel_rfl) (by kernel_rfl) (by kernel_rfl) (fun _ _ _ h => h) (Or.inl ⟨by rfl, ?_⟩) (by assumption) ?_
  rotate_left
  · (intro W hSw; (try dsimp only at hSw); go_simp; try with_reducible rfl)
  try simp only [heldPut, List.set]
  refine heldTake (i := 6) (v := ?_) rfl (by kernel_rfl) (by kernel_rfl) (by kernel_rfl) (fun _ _ _ h => h) (Or.inl ⟨by rfl, ?_⟩) (by assumption) ?_
  rotate_left
  · (intro W hSw; (try dsimp only at hSw); go_simp; try with_reducible rfl)
  try simp only [heldPut, List.set]
  refine heldTake (i := 7) (v := ?_) rfl (by kernel_rfl) (by kernel_rfl) (by kernel_rfl) (fun _ _ _ h => h) (Or.inl ⟨by rfl, ?_⟩) (by assumption) ?_
  rotate_left
  · (intro W hSw; (try dsimp only at hSw); go_simp; try with_reducible rfl)
  try simp only [heldPut, List.set]
  refine heldOne (i := 8) rfl (by kernel_rfl) (fun K hK => ?_)
  have hrun := fun ty => HRUN.out w2.drew ty rfl
  have HOC : Hid (Only13 s w (w2.drew.setRow s (cur.toList.take 0 ++ (cur.toList.drop 2).take 62 ++ cur.toList.drop (0 + 62)).toArray)) := by
    show Only13 _ _ _
    exact ⟨HB2.out.os, HB2.out.tape, HB2.out.output, by simpa [World.setRow] using HB2.out.size, fun k hk hn => by
      rw [setRow_other _ _ _ _ hn]
      exact HB2.out.block k hk⟩
  have HSC := Lib.hid (HQ.out.2.2.2.2.2 _ (setRow_heap w2.drew s _ (cur.toList.take 0 ++ (cur.toList.drop 2).take 62 ++ cur.toList.drop (0 + 62)).toArray _ _ HQ.out.1))
  obtain ⟨V0, hV0⟩ : ∃ V0, V0 = w2.drew.setRow s (cur.toList.take 0 ++ (cur.toList.drop 2).take 62 ++ cur.toList.drop (0 + 62)).toArray := ⟨_, rfl⟩
  rw [← hV0] at HOC HSC hrun
  clear hV0
  go_simp
  refine hK.out _ _ ?_ (fun hHeld => ?_)
  · exact .inr HOC.out
  clear hK K
  try simp only [heldPut, List.set]
  refine wpAnyH_done (by kernel_rfl) ?_ _
  refine NoPanic.normal ?_
  obtain ⟨s1, s2, s3⟩ := HSC.out
  have HS3 := Lib.hid s3
  clear s3
  go_upto_region 11 with fail
  have hM := HM.out
  rw [← hM] at HS3
  obtain ⟨n, hn⟩ : ∃ n, n = 31 := ⟨_, rfl⟩
  have HN : Hid (n = M.length) := by show n = M.length; rw [hM, List.length_drop, HL32.out, hn]
  have hL : n < 32 := by omega
  obtain ⟨V, hV⟩ : ∃ V, V = V0.setCell ⟨s, 64, none⟩ (.int .i64 31) := ⟨_, rfl⟩
  have HOV : Hid (Only13 s w V) := by rw [hV]; exact HOC.out.trans (Only13.setCell _ _ _ _)
  have HSV : Hid (SerAt V s M) := by rw [hV]; exact HS3.out
  rw [← hV]
  clear hV HOC HS3 s1 s2 HQ HRUN hrun hn hM HSC
  have HA : Hid (∀ W3 : World, SerAt W3 s M → Only13 s w W3 → Only13 s w (W3.setCell ⟨s, 64, none⟩ (.int .i64 (n + 1 : Nat)))) := fun W3 _ h2 => h2.trans (Only13.setCell _ _ _ _)
  have hw : IntKind.i64.wrap (n : Int) = (n : Int) := by rw [IntKind.wrap_i64]; omega
  have hn3 : (n : Int) < 32 := by omega
  have d3 : ((n : Int) == 32) = false := by rw [beq_eq_false_iff_ne]; omega
  have d4 : (n == 32) = false := by rw [beq_eq_false_iff_ne]; omega
  have e1 : (n : Int) + 1 = ((n + 1 : Nat) : Int) := by omega
  have hwn : IntKind.i64.wrap ((n + 1 : Nat) : Int) = ((n + 1 : Nat) : Int) := by rw [IntKind.wrap_i64]; omega
  obtain ⟨N, hN⟩ : ∃ N, N = n + 1 := ⟨_, rfl⟩
  rw [← hN] at HA e1 hwn
  have c64 : V.cell? ⟨s, 64, none⟩ = some (.int .i64 n) := by rw [HN.out]; exact HSV.out.many
  have HSB : Hid (∀ W, SerAt W s M → W.cell? ⟨s, 64, none⟩ = some (.int .i64 n)) := fun W hW => by rw [HN.out]; exact hW.many
  have HNN := Lib.hid hN
  clear hN
  (
    go_upto_region 11 with fail
    clear c64
    refine wp_region_noPanic ?_
    refine wp_region_held_drew (S := fun W => SerAt W s M ∧ Only13 s w W) (by kernel_rfl) ?_ (fun hHeld => ?_)
    · exact ⟨HSV.out.as rfl, ⟨HOV.out.os, HOV.out.tape, HOV.out.output, HOV.out.size, HOV.out.block⟩⟩
    try simp only [heldPut, List.set]
    refine heldTake (i := 0) (v := ?_) rfl (by kernel_rfl) (by kernel_rfl) (by kernel_rfl) (fun _ _ _ h => h) (Or.inl ⟨by rfl, ?_⟩) (by assumption) ?_
    rotate_left
    · (intro W hSw; (try dsimp only at hSw); have f1 := HSB.out W hSw.1; go_simp; try with_reducible rfl)
    try simp only [heldPut, List.set]
    refine heldTake (i := 1) (v := ?_) rfl (by kernel_rfl) (by kernel_rfl) (by kernel_rfl) (fun _ _ _ h => h) (Or.inl ⟨by rfl, ?_⟩) (by assumption) ?_
    rotate_left
    · (intro W hSw; (try dsimp only at hSw); have f1 := HSB.out W hSw.1; go_simp; try with_reducible rfl)
    try simp only [heldPut, List.set]
    refine heldTake (i := 2) (v := ?_) rfl (by kernel_rfl) (by kernel_rfl) (by kernel_rfl) (fun _ _ _ h => h) (Or.inl ⟨by rfl, ?_⟩) (by assumption) ?_
    rotate_left
    · (intro W hSw; (try dsimp only at hSw); have f1 := HSB.out W hSw.1; go_simp; try with_reducible rfl)
    try simp only [heldPut, List.set]
    refine heldTake (i := 3) (v := ?_) rfl (by kernel_rfl) (by kernel_rfl) (by kernel_rfl) (fun _ _ _ h => h) (Or.inl ⟨by rfl, ?_⟩) (by assumption) ?_
    rotate_left
    · (intro W hSw; (try dsimp only at hSw); have f1 := HSB.out W hSw.1; go_simp; try with_reducible rfl)
    try simp only [heldPut, List.set]
    refine heldTake (i := 4) (v := ?_) rfl (by kernel_rfl) (by kernel_rfl) (by kernel_rfl) (fun _ _ _ h => h) (Or.inl ⟨by rfl, ?_⟩) (by assumption) ?_
    rotate_left
    · (intro W hSw; (try dsimp only at hSw); have f1 := HSB.out W hSw.1; go_simp; try with_reducible rfl)
    try simp only [heldPut, List.set]
    refine heldTake (i := 5) (v := ?_) rfl (by kernel_rfl) (by kernel_rfl) (by kernel_rfl) (fun _ _ _ h => h) (Or.inl ⟨by rfl, ?_⟩) (by assumption) ?_
    rotate_left
    · (intro W hSw; (try dsimp only at hSw); have f1 := HSB.out W hSw.1; go_simp; try with_reducible rfl)
    try simp only [heldPut, List.set]
    refine heldTake (i := 6) (v := ?_) rfl (by kernel_rfl) (by kernel_rfl) (by kernel_rfl) (fun _ _ _ h => h) (Or.inl ⟨by rfl, ?_⟩) (by assumption) ?_
    rotate_left
    · (intro W hSw; (try dsimp only at hSw); have f1 := HSB.out W hSw.1; go_simp; try with_reducible rfl)
    try simp only [heldPut, List.set]
    refine heldTake (i := 7) (v := ?_) rfl (by kernel_rfl) (by kernel_rfl) (by kernel_rfl) (fun _ _ _ h => h) (Or.inl ⟨by rfl, ?_⟩) (by assumption) ?_
    rotate_left
    · (intro W hSw; (try dsimp only at hSw); have f1 := HSB.out W hSw.1; go_simp; try with_reducible rfl)
    try simp only [heldPut, List.set]
    refine heldTake (i := 8) (v := ?_) rfl (by kernel_rfl) (by kernel_rfl) (by kernel_rfl) (fun _ _ _ h => h) (Or.inl ⟨by rfl, ?_⟩) (by assumption) ?_
    rotate_left
    · (intro W hSw; (try dsimp only at hSw); have f1 := HSB.out W hSw.1; go_simp; try with_reducible rfl)
    try simp only [heldPut, List.set]
    refine heldTake (i := 9) (v := ?_) rfl (by kernel_rfl) (by kernel_rfl) (by kernel_rfl) (fun _ _ _ h => h) (Or.inl ⟨by rfl, ?_⟩) (by assumption) ?_
    rotate_left
    · (intro W hSw; (try dsimp only at hSw); have f1 := HSB.out W hSw.1; go_simp; try with_reducible rfl)
    try simp only [heldPut, List.set]
    refine heldTake (i := 10) (v := (.pointer (some ⟨s, n * 2, none⟩))) rfl (by kernel_rfl) (by kernel_rfl) (by kernel_rfl) (fun _ _ _ h => h) (Or.inl ⟨by rfl, ?_⟩) (by assumption) ?_
    · (intro W hSw; go_simp)
    try simp only [heldPut, List.set]
    refine heldOne (i := 11) rfl (by kernel_rfl) (fun K hK => ?_)
    rw [if_pos (by rfl)]
    obtain ⟨hF1, hF2⟩ := hHeld.1.fill (by rw [← HN.out]; exact hL) ⟨t, v⟩ HN.out
    refine wp_store_mid _ _ _ rfl s (n * 2) #[.int .u64 t, .int .i64 v] rfl rfl (hHeld.1.there (by simp; omega)) Tryd.infoPt (by simp [Value.oneCell']) ?_
    have hO1 : Only13 s w (V.drew.setCells s (n * 2) (ptC ⟨t, v⟩)) := hHeld.2.trans ((Only13.setCell _ _ _ _).trans (Only13.setCell _ _ _ _))
    have HF := Lib.hid (⟨hF1, hF2, hO1⟩ : _ ∧ _ ∧ _)
    clear hF1 hF2 hO1
    refine hK.out _ _ ?_ (fun hHeld => ?_)
    · exact ⟨HF.out.1, HF.out.2.2⟩
    clear hK K
    try simp only [heldPut, List.set]
    refine wpAnyH_done (by kernel_rfl) ?_ _
    refine NoPanic.normal ?_
    obtain ⟨W3, hW3⟩ : ∃ W, W = V.drew.setCells s (n * 2) (ptC ⟨t, v⟩) := ⟨_, rfl⟩
    have HG : Hid (SerAt W3 s M ∧ SerAt (W3.setCell ⟨s, 64, none⟩ (.int .i64 N)) s (M ++ [⟨t, v⟩]) ∧ Only13 s w W3) := by rw [hW3, HNN.out]; exact HF.out
    have c64 := HSB.out W3 HG.out.1
    have f64 := HG.out.1.frozen 64
    first | rw [show V.drew.setCells s (n * 2) (#[Value.int .u64 t, Value.int .i64 v] : Array Value).toList = W3 from hW3.symm] | rw [show V.drew.setCells s (n * 2) [Value.int .u64 t, Value.int .i64 v] = W3 from hW3.symm]
    clear hHeld HF hW3
    go_wp2
    go_ret
    exact ⟨rfl, HG.out.2.1, HA.out W3 HG.out.1 HG.out.2.2⟩)
end
end Go.Proofs.YthggaedpbmjclaaDoor
