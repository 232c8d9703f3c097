/- Layer 13: the closures of Holds; some; Holds. -/
import Derived.Test.YthggaedpbmjclaaDoorCdHolds
namespace Go.Proofs.YthggaedpbmjclaaDoor
open Go.RowKit Go.Proofs

/-- what the closures have caught: the condition, the time, the last point -/
structure Caught (w : World) (bc bn bl : Nat) (lim : Int) (tk now : Nat) (p : Pt) : Prop where
  c1 : w.cell? ⟨bc, 1, none⟩ = some (.int .i64 lim)
  c2 : w.cell? ⟨bc, 2, none⟩ = some (.int .u64 tk)
  n0 : w.cell? ⟨bn, 0, none⟩ = some (.int .u64 now)
  l1 : w.cell? ⟨bl, 1, none⟩ = some (.int .i64 p.v)
theorem Caught.below {w w' : World} {bc bn bl : Nat} {lim : Int} {tk now : Nat} {p : Pt} (h : Caught w bc bn bl lim tk now p) (hb : Below w.heap.size w w') : Caught w' bc bn bl lim tk now p := by
  have hl : ∀ {b o : Nat} {v : Value}, w.cell? ⟨b, o, none⟩ = some v → w'.cell? ⟨b, o, none⟩ = some v := fun {b o v} hc => (hb.cell (p := ⟨b, o, none⟩) (World.block_lt_of_cell? _ _ hc)).trans hc
  exact ⟨hl h.c1, hl h.c2, hl h.n0, hl h.l1⟩
section
variable {w : World} {bc bn bl : Nat} {lim : Int} {tk now : Nat} {p : Pt}
set_option maxRecDepth 100000 in
set_option maxHeartbeats 400000 in
theorem rises_pred (h : Caught w bc bn bl lim tk now p) (hl : 0 ≤ lim) (hl2 : lim < 9223372036854775808) (htk : tk < 18446744073709551616) (hn : now < 18446744073709551616) (hp : OkPt p) :
    PredBelow Tryd.prog 31 #[.pointer (some ⟨bc, 0, none⟩), .pointer (some ⟨bn, 0, none⟩), .pointer (some ⟨bl, 0, none⟩)] (fun x : Pto => .agg (ptC x.1).toArray) (fun x => risesB p lim tk now x.1) w := by
  intro W ⟨q, hq⟩ hb
  have hC := h.below hb
  obtain ⟨V, hV, hc, hbV, -⟩ := boxP1 W q
  have hC2 := hC.below hbV
  have c1 := hC2.c1
  have c2 := hC2.c2
  have n0 := hC2.n0
  have l1 := hC2.l1
  have HW := Lib.hid (within_any q tk now V hq.t htk hn)
  have HE : Hid (∀ W, Calls Tryd.prog 33 #[.int .i64 p.v, .int .i64 q.v, .int .i64 lim] W fun e w' => e = .returned (.bool (overB p.v q.v lim)) ∧ w' = W) := fun W => exceeds_any p.v q.v lim W hp.lo hp.hi hq.lo hq.hi hl hl2
  have HV := Lib.hid hV
  have HC := Lib.hid (⟨hc, hb.trans (hbV.mono hb.size)⟩ : _ ∧ _)
  have HC2 := Lib.hid hC2
  have hVs : W.heap.size < V.heap.size := by rw [hV]; simp
  show Calls Tryd.prog 31 #[.agg #[.int .u64 q.t, .int .i64 q.v], .pointer (some ⟨bc, 0, none⟩), .pointer (some ⟨bn, 0, none⟩), .pointer (some ⟨bl, 0, none⟩)] W fun e w' => e = .returned (.bool (inTk tk now q && overB p.v q.v lim)) ∧ Below w.heap.size w w'
  generalize inTk tk now q = bq at HW ⊢
  generalize overB p.v q.v lim = bo at HE ⊢
  clear hC hV hc hbV hC2 h hq hp hl hl2 htk hn hb
  go_enter Tryd.func31, Tryd.ntmps31
  go_upto_region 1 with fail
  rw [← HV.out]
  have f0 := HC.out.1
  go_wp2_with (first
    | (refine wpList_load_row rfl _ _ rfl W.heap.size rfl _ _ _ _ f0 Tryd.underlying51 rfl (by kernel_rfl) ?_)
    | fail)
  refine HW.out.mono ?_
  rintro _ w1 ⟨rfl, hb1⟩
  have hC1 := HC2.out.below hb1
  have c1 := hC1.c1
  have c2 := hC1.c2
  have n0 := hC1.n0
  have l1 := hC1.l1
  have b1 : w1.cell? ⟨W.heap.size, 1, none⟩ = some (.int .i64 q.v) := cell_of_row _ _ 1 _ _ _ ((hb1.block _ hVs).trans HC.out.1)
  have HB := Lib.hid (HC.out.2.trans (hb1.mono HC.out.2.size))
  clear hC1 hb1 HW f0
  cases bq with
  | true =>
    go_wp2_with fail
    refine (HE.out _).mono ?_
    rintro _ _ ⟨rfl, rfl⟩
    go_wp2
    go_ret
    exact ⟨by simp, HB.out⟩
  | false =>
    go_wp2
    go_ret
    exact ⟨by simp, HB.out⟩
set_option maxRecDepth 100000 in
set_option maxHeartbeats 400000 in
theorem falls_pred (h : Caught w bc bn bl lim tk now p) (hl : 0 ≤ lim) (hl2 : lim < 9223372036854775808) (htk : tk < 18446744073709551616) (hn : now < 18446744073709551616) (hp : OkPt p) :
    PredBelow Tryd.prog 34 #[.pointer (some ⟨bc, 0, none⟩), .pointer (some ⟨bn, 0, none⟩), .pointer (some ⟨bl, 0, none⟩)] (fun x : Pto => .agg (ptC x.1).toArray) (fun x => fallsB p lim tk now x.1) w := by
  intro W ⟨q, hq⟩ hb
  have hC := h.below hb
  obtain ⟨V, hV, hc, hbV, -⟩ := boxP1 W q
  have hC2 := hC.below hbV
  have c1 := hC2.c1
  have c2 := hC2.c2
  have n0 := hC2.n0
  have l1 := hC2.l1
  have HW := Lib.hid (within_any q tk now V hq.t htk hn)
  have HE : Hid (∀ W, Calls Tryd.prog 33 #[.int .i64 q.v, .int .i64 p.v, .int .i64 lim] W fun e w' => e = .returned (.bool (overB q.v p.v lim)) ∧ w' = W) := fun W => exceeds_any q.v p.v lim W hq.lo hq.hi hp.lo hp.hi hl hl2
  have HV := Lib.hid hV
  have HC := Lib.hid (⟨hc, hb.trans (hbV.mono hb.size)⟩ : _ ∧ _)
  have HC2 := Lib.hid hC2
  have hVs : W.heap.size < V.heap.size := by rw [hV]; simp
  show Calls Tryd.prog 34 #[.agg #[.int .u64 q.t, .int .i64 q.v], .pointer (some ⟨bc, 0, none⟩), .pointer (some ⟨bn, 0, none⟩), .pointer (some ⟨bl, 0, none⟩)] W fun e w' => e = .returned (.bool (inTk tk now q && overB q.v p.v lim)) ∧ Below w.heap.size w w'
  generalize inTk tk now q = bq at HW ⊢
  generalize overB q.v p.v lim = bo at HE ⊢
  clear hC hV hc hbV hC2 h hq hp hl hl2 htk hn hb
  go_enter Tryd.func34, Tryd.ntmps34
  go_upto_region 1 with fail
  rw [← HV.out]
  have f0 := HC.out.1
  go_wp2_with (first
    | (refine wpList_load_row rfl _ _ rfl W.heap.size rfl _ _ _ _ f0 Tryd.underlying51 rfl (by kernel_rfl) ?_)
    | fail)
  refine HW.out.mono ?_
  rintro _ w1 ⟨rfl, hb1⟩
  have hC1 := HC2.out.below hb1
  have c1 := hC1.c1
  have c2 := hC1.c2
  have n0 := hC1.n0
  have l1 := hC1.l1
  have b1 : w1.cell? ⟨W.heap.size, 1, none⟩ = some (.int .i64 q.v) := cell_of_row _ _ 1 _ _ _ ((hb1.block _ hVs).trans HC.out.1)
  have HB := Lib.hid (HC.out.2.trans (hb1.mono HC.out.2.size))
  clear hC1 hb1 HW f0
  cases bq with
  | true =>
    go_wp2_with fail
    refine (HE.out _).mono ?_
    rintro _ _ ⟨rfl, rfl⟩
    go_wp2
    go_ret
    exact ⟨by simp, HB.out⟩
  | false =>
    go_wp2
    go_ret
    exact ⟨by simp, HB.out⟩
end
section
variable {w : World} {s : Nat} {L : List Pt}
theorem pto_get (hok : ∀ q ∈ L, OkPt q) {j : Nat} (hj : j < (L.pmap Subtype.mk hok).length) : ∃ q, L[j]? = some q ∧ ((L.pmap Subtype.mk hok)[j]! : Pto).1 = q := by
  have h1 : j < L.length := by simpa using hj
  refine ⟨L[j], List.getElem?_eq_getElem h1, ?_⟩
  rw [getElem!_pos (L.pmap Subtype.mk hok : List Pto) j hj]
  simp
theorem pto_any (hok : ∀ q ∈ L, OkPt q) (f : Pt → Bool) : (L.pmap Subtype.mk hok : List Pto).any (fun x => f x.1) = L.any f := by
  induction L with
  | nil => rfl
  | cons q L ih => simp only [List.pmap, List.any_cons]; rw [ih]
set_option maxRecDepth 100000 in
set_option maxHeartbeats 400000 in
theorem csome_any (w : World) (h : SerAt w s L) (hok : ∀ q ∈ L, OkPt q) (f : Pt → Bool) (g : Nat) (lb : Array Value) (eg : ∀ args w, (callFunc g args).run Tryd.prog w = .ok (.enter g args) w)
    (hp : PredBelow Tryd.prog g lb (fun x : Pto => .agg (ptC x.1).toArray) (fun x => f x.1) w.drew) :
    Calls Tryd.prog 30 #[.pointer (some ⟨s, 0, none⟩), .func (.func g) #[] lb] w fun e w' => e = .returned (.bool (L.any f)) ∧ Below w.heap.size w w' := by
  have h2 := h.below (Below.refl _ w).drew
  have hcon := AnyQ.slices_ContainsFunc Tryd.contP 2 Tryd.isAgg51 Tryd.sizeOf51 (fun x : Pto => ptC x.1) (fun _ => rfl) (fun x => f x.1) g lb eg s 0 L.length 32 (L.pmap Subtype.mk hok) w.drew hp (by simp) (by have := h.few; omega) h2.lt (fun j hj i v hi => by
    obtain ⟨q, hq, he⟩ := pto_get hok hj
    have hi : (ptC ((L.pmap Subtype.mk hok)[j]! : Pto).1)[i]? = some v := hi
    rw [he] at hi
    have := h2.pt hq i v hi
    rw [show 0 + j * 2 + i = j * 2 + i from by omega]
    exact this)
  change Calls Tryd.prog 43 _ _ _ at hcon
  have et : (L.pmap Subtype.mk hok : List Pto).take L.length = L.pmap Subtype.mk hok := List.take_of_length_le (by simp)
  rw [et, pto_any hok f] at hcon
  have hm := h.few
  obtain ⟨n, hn⟩ : ∃ n, n = L.length := ⟨_, rfl⟩
  have HM : Hid (∀ W, Below w.heap.size w W → W.cell? ⟨s, 64, none⟩ = some (.int .i64 n)) := fun W hW => by rw [hn]; exact (h.below hW).many
  rw [← hn] at hm hcon
  generalize L.any f = r at hcon ⊢
  have HC := Lib.hid hcon
  have hm1 : (n : Int) ≤ 32 := by omega
  have hw : IntKind.i64.wrap (n : Int) = (n : Int) := by rw [IntKind.wrap_i64]; omega
  clear h h2 hcon et hp eg hok hn
  go_enter Tryd.func30, Tryd.ntmps30
  go_upto_region 1 with fail
  refine wp_region_noPanic ?_
  refine wp_region_held_drew (S := fun W => Below w.heap.size w W) (by kernel_rfl) ?_ (fun hHeld => ?_)
  · exact (Below.refl _ w).drew
  try simp only [heldPut, List.set]
  refine heldTake (i := 0) (v := ?_) rfl (by kernel_rfl) (by kernel_rfl) (by kernel_rfl) (fun _ _ _ h => h) (Or.inl ⟨by rfl, ?_⟩) (by assumption) ?_
  rotate_left
  · (intro W hSw; (try dsimp only at hSw); have f1 := HM.out W hSw; go_simp; try with_reducible rfl)
  try simp only [heldPut, List.set]
  refine heldTake (i := 1) (v := ?_) rfl (by kernel_rfl) (by kernel_rfl) (by kernel_rfl) (fun _ _ _ h => h) (Or.inl ⟨by rfl, ?_⟩) (by assumption) ?_
  rotate_left
  · (intro W hSw; (try dsimp only at hSw); have f1 := HM.out W hSw; go_simp; try with_reducible rfl)
  try simp only [heldPut, List.set]
  refine heldTake (i := 2) (v := ?_) rfl (by kernel_rfl) (by kernel_rfl) (by kernel_rfl) (fun _ _ _ h => h) (Or.inl ⟨by rfl, ?_⟩) (by assumption) ?_
  rotate_left
  · (intro W hSw; (try dsimp only at hSw); have f1 := HM.out W hSw; go_simp; try with_reducible rfl)
  try simp only [heldPut, List.set]
  refine heldTake (i := 3) (v := ?_) rfl (by kernel_rfl) (by kernel_rfl) (by kernel_rfl) (fun _ _ _ h => h) (Or.inl ⟨by rfl, ?_⟩) (by assumption) ?_
  rotate_left
  · (intro W hSw; (try dsimp only at hSw); have f1 := HM.out W hSw; go_simp; try with_reducible rfl)
  try simp only [heldPut, List.set]
  refine heldTake (i := 4) (v := ?_) rfl (by kernel_rfl) (by kernel_rfl) (by kernel_rfl) (fun _ _ _ h => h) (Or.inl ⟨by rfl, ?_⟩) (by assumption) ?_
  rotate_left
  · (intro W hSw; (try dsimp only at hSw); have f1 := HM.out W hSw; go_simp; try with_reducible rfl)
  try simp only [heldPut, List.set]
  refine heldTake (i := 5) (v := ?_) rfl (by kernel_rfl) (by kernel_rfl) (by kernel_rfl) (fun _ _ _ h => h) (Or.inl ⟨by rfl, ?_⟩) (by assumption) ?_
  rotate_left
  · (intro W hSw; (try dsimp only at hSw); have f1 := HM.out W hSw; go_simp; try with_reducible rfl)
  try simp only [heldPut, List.set]
  refine heldTake (i := 6) (v := ?_) rfl (by kernel_rfl) (by kernel_rfl) (by kernel_rfl) (fun _ _ _ h => h) (Or.inl ⟨by rfl, ?_⟩) (by assumption) ?_
  rotate_left
  · (intro W hSw; (try dsimp only at hSw); have f1 := HM.out W hSw; go_simp; try with_reducible rfl)
  try simp only [heldPut, List.set]
  refine heldTake (i := 7) (v := (.slice (some ⟨s, 0, none⟩) n 32)) rfl (by kernel_rfl) (by kernel_rfl) (by kernel_rfl) (fun _ _ _ h => h) (Or.inl ⟨by rfl, ?_⟩) (by assumption) ?_
  · (intro W hSw; go_simp)
  try simp only [heldPut, List.set]
  refine heldTake (i := 8) (v := ?_) rfl (by kernel_rfl) (by kernel_rfl) (by kernel_rfl) (fun _ _ _ h => h) (Or.inl ⟨by rfl, ?_⟩) (by assumption) ?_
  rotate_left
  · (intro W hSw; (try dsimp only at hSw); go_simp; try with_reducible rfl)
  try simp only [heldPut, List.set]
  refine heldOne (i := 9) rfl (by kernel_rfl) (fun K hK => ?_)
  go_simp
  refine HC.out.mono ?_
  rintro _ w1 ⟨rfl, hb1⟩
  have HB := Lib.hid ((Below.refl _ w).drew.trans hb1)
  clear hb1
  go_wp2_with fail
  refine hK.out _ _ ?_ (fun hHeld => ?_)
  · exact HB.out
  clear hK K
  try simp only [heldPut, List.set]
  refine heldTake (i := 10) (v := ?_) rfl (by kernel_rfl) (by kernel_rfl) (by kernel_rfl) (fun _ _ _ h => h) (Or.inl ⟨by rfl, ?_⟩) (by assumption) ?_
  rotate_left
  · (intro W hSw; (try dsimp only at hSw); go_simp; try with_reducible rfl)
  try simp only [heldPut, List.set]
  refine wpAnyH_done (by kernel_rfl) ?_ _
  refine NoPanic.normal ?_
  go_wp2
  go_ret
  exact ⟨rfl, HB.out⟩
end
end Go.Proofs.YthggaedpbmjclaaDoor
