/- Several texts in one: FrSmall. -/
import Derived.Deep.MidRow
import Derived.Deep.CutRange
import Derived.Test.YtnagmopejblegaaGreatMb30
/- Layer 5: the statements' own small frame: the walk. -/
namespace Go.Proofs.YtnagmopejblegaaGreat
open Go.RowKit

/-- cells, some of them written over -/
def putAll (cs : Array Value) : Nat → List Value → Array Value
  | _, [] => cs
  | o, v :: r => putAll (cs.setIfInBounds o v) (o + 1) r
theorem setRow_setRow (w : World) (g : Nat) (a b : Array Value) : (w.setRow g a).setRow g b = w.setRow g b := by
  unfold World.setRow
  congr 1
  apply Array.ext
  · simp
  · intro i h1 h2
    have hi : i < w.heap.size := by simpa using h2
    simp only [Array.getElem_modify]
    split
    · cases w.heap[i]'hi <;> rfl
    · rfl
theorem setCells_row : ∀ (vs : List Value) (w : World) (b o : Nat) (cs : Array Value) (t : TypeId), w.heap[b]? = some (.cells cs t (0, 0)) → w.setCells b o vs = w.setRow b (putAll cs o vs)
  | [], w, b, o, cs, t, h => by
    show w = w.setRow b cs
    obtain ⟨hl, hv⟩ := Array.getElem?_eq_some_iff.1 h
    have e : (w.setRow b cs).heap = w.heap := by
      unfold World.setRow
      apply Array.ext
      · simp
      · intro i h1 h2
        rw [Array.getElem_modify]
        split
        · subst_vars; rw [hv]
        · rfl
    have e2 : w.setRow b cs = { w with heap := (w.setRow b cs).heap } := rfl
    rw [e2, e]
  | v :: r, w, b, o, cs, t, h => by
    show (w.setCell ⟨b, o, none⟩ v).setCells b (o + 1) r = _
    rw [setCells_row r _ b (o + 1) (cs.setIfInBounds o v) t (heap_setCell_same w b o cs t v h), setCell_eq_setRow w b o cs t (0, 0) v h, setRow_setRow]
    rfl
/-- what the fields were, in the ways through 'Frame' -/
structure SfAt (w0 V : World) (s : Sf) (X : Nat) (cs : Array Value) (tS tF : TypeId) : Prop where
  b : Below w0.heap.size w0 V
  sm : V.heap[w0.heap.size]? = some (.cells #[.int .u8 s.k, .int .u8 s.f, .int .u8 s.t, .int .u16 s.e, .int .u16 s.q, .int .u16 s.c, .int .u16 s.l, .int .u64 s.b, .bool s.i.g, .int .u8 s.i.o, .int .u8 s.i.p, .int .u8 s.i.w, .int .u16 s.i.q, .int .u16 s.i.m, .int .u16 s.i.t, .int .u8 s.i.r, .int .u8 s.i.l, .int .u8 s.i.v, .bool s.i.s] tS (0, 0))
  re : V.heap[w0.heap.size + 1]? = some (.cells #[.int .u8 0, .int .u8 0, .int .u8 0, .int .u64 0, .int .u64 0, .bool false, .int .u8 0, .int .u64 0, .int .u64 0, .string ⟨#[]⟩, .slice none 0 0, .int .u8 0, .int .u8 0, .int .i64 0, .int .u8 0, .int .u8 0, .int .u64 0, .int .u64 0, .int .u64 0, .int .u64 0, .int .u64 0] tF (0, 0))
  fr : V.heap[X]? = some (.cells cs tF (0, 0))
  x : w0.heap.size + 1 < X
theorem SfAt.lt {w0 V : World} {s : Sf} {X : Nat} {cs : Array Value} {tS tF : TypeId} (h : SfAt w0 V s X cs tS tF) : X < V.heap.size := (Array.getElem?_eq_some_iff.1 h.fr).1
theorem SfAt.below {w0 V V2 : World} {s : Sf} {X : Nat} {cs : Array Value} {tS tF : TypeId} (h : SfAt w0 V s X cs tS tF) (hb : Below V.heap.size V V2) : SfAt w0 V2 s X cs tS tF :=
  have hl := h.lt
  have hx := h.x
  ⟨h.b.trans (hb.mono h.b.size), (hb.block _ (by omega)).trans h.sm, (hb.block _ (by omega)).trans h.re, (hb.block _ hl).trans h.fr, hx⟩
theorem SfAt.set {w0 V : World} {s : Sf} {X : Nat} {cs : Array Value} {tS tF : TypeId} (h : SfAt w0 V s X cs tS tF) (cs2 : Array Value) : SfAt w0 (V.setRow X cs2) s X cs2 tS tF :=
  have hx := h.x
  ⟨below_setRow h.b (by omega) _, (setRow_other _ _ _ _ (by omega)).trans h.sm, (setRow_other _ _ _ _ (by omega)).trans h.re, setRow_heap _ _ _ _ _ _ h.fr, hx⟩
theorem SfAt.cell {w0 V : World} {s : Sf} {X : Nat} {cs : Array Value} {tS tF : TypeId} (h : SfAt w0 V s X cs tS tF) (j : Nat) : V.cell? ⟨X, j, none⟩ = cs[j]? := cell_of_row _ _ _ _ _ _ h.fr
theorem SfAt.frz {w0 V : World} {s : Sf} {X : Nat} {cs : Array Value} {tS tF : TypeId} (h : SfAt w0 V s X cs tS tF) (j : Nat) : V.frozen? ⟨X, j, none⟩ = false := frozen_of_row _ _ _ _ _ h.fr
theorem SfAt.setc {w0 V : World} {s : Sf} {X : Nat} {cs : Array Value} {tS tF : TypeId} (h : SfAt w0 V s X cs tS tF) (j : Nat) (v : Value) : SfAt w0 (V.setCell ⟨X, j, none⟩ v) s X (cs.setIfInBounds j v) tS tF := by
  rw [setCell_eq_setRow V X j cs tF (0, 0) v h.fr]; exact h.set _
theorem SfAt.drew {w0 V : World} {s : Sf} {X : Nat} {cs : Array Value} {tS tF : TypeId} (h : SfAt w0 V s X cs tS tF) : SfAt w0 V.drew s X cs tS tF := h.below (Below.refl _ _).drew
theorem smallF_range {w : World} {b : Nat} {s : Sf} {t : TypeId} (h : w.heap[b]? = some (.cells #[.int .u8 s.k, .int .u8 s.f, .int .u8 s.t, .int .u16 s.e, .int .u16 s.q, .int .u16 s.c, .int .u16 s.l, .int .u64 s.b, .bool s.i.g, .int .u8 s.i.o, .int .u8 s.i.p, .int .u8 s.i.w, .int .u16 s.i.q, .int .u16 s.i.m, .int .u16 s.i.t, .int .u8 s.i.r, .int .u8 s.i.l, .int .u8 s.i.v, .bool s.i.s] t (0, 0))) : w.rangeAt b 8 [.bool s.i.g, .int .u8 s.i.o, .int .u8 s.i.p, .int .u8 s.i.w, .int .u16 s.i.q, .int .u16 s.i.m, .int .u16 s.i.t, .int .u8 s.i.r, .int .u8 s.i.l, .int .u8 s.i.v, .bool s.i.s] := fun j v hv => by
  rw [cell_of_row w b (8 + j) _ t _ h]
  match j, hv with
  | 0, hv | 1, hv | 2, hv | 3, hv | 4, hv | 5, hv | 6, hv | 7, hv | 8, hv | 9, hv | 10, hv => exact hv
theorem sf_there {w : World} {b o n : Nat} {C : Array Value} {t : TypeId} (h : w.heap[b]? = some (.cells C t (0, 0))) (hn : o + n ≤ C.size) : w.there b o n := fun j hj =>
  ⟨by rw [cell_of_row w b (o + j) C t _ h, Array.getElem?_eq_getElem (by omega)]; rfl, frozen_of_row w b (o + j) C t h⟩
theorem Tryz.infoSm : (Tryz.prog.info? 26).map (·.size) = some 11 := by kernel_rfl

set_option maxRecDepth 100000 in
set_option maxHeartbeats 4000000 in
theorem smallF_any (s : Sf) (hs : OkSf s) (w0 : World) :
    Calls Tryz.prog 7 #[.agg #[.int .u8 s.k, .int .u8 s.f, .int .u8 s.t, .int .u16 s.e, .int .u16 s.q, .int .u16 s.c, .int .u16 s.l, .int .u64 s.b, .bool s.i.g, .int .u8 s.i.o, .int .u8 s.i.p, .int .u8 s.i.w, .int .u16 s.i.q, .int .u16 s.i.m, .int .u16 s.i.t, .int .u8 s.i.r, .int .u8 s.i.l, .int .u8 s.i.v, .bool s.i.s]] w0 (FrRet (smallF s) w0) := by
  obtain ⟨W, hW⟩ : ∃ W, W = (w0.alloc (.cells #[.int .u8 s.k, .int .u8 s.f, .int .u8 s.t, .int .u16 s.e, .int .u16 s.q, .int .u16 s.c, .int .u16 s.l, .int .u64 s.b, .bool s.i.g, .int .u8 s.i.o, .int .u8 s.i.p, .int .u8 s.i.w, .int .u16 s.i.q, .int .u16 s.i.m, .int .u16 s.i.t, .int .u8 s.i.r, .int .u8 s.i.l, .int .u8 s.i.v, .bool s.i.s] 28)).alloc (.cells #[.int .u8 0, .int .u8 0, .int .u8 0, .int .u64 0, .int .u64 0, .bool false, .int .u8 0, .int .u64 0, .int .u64 0, .string ⟨#[]⟩, .slice none 0 0, .int .u8 0, .int .u8 0, .int .i64 0, .int .u8 0, .int .u8 0, .int .u64 0, .int .u64 0, .int .u64 0, .int .u64 0, .int .u64 0] 42) := ⟨_, rfl⟩
  have hb : Below w0.heap.size w0 W := by rw [hW]; exact ((Below.refl _ _).alloc (Nat.le_refl _) _).alloc (by simp) _
  have hz : W.heap.size = w0.heap.size + 2 := by rw [hW]; simp
  have h0 : W.heap[w0.heap.size]? = some (.cells #[.int .u8 s.k, .int .u8 s.f, .int .u8 s.t, .int .u16 s.e, .int .u16 s.q, .int .u16 s.c, .int .u16 s.l, .int .u64 s.b, .bool s.i.g, .int .u8 s.i.o, .int .u8 s.i.p, .int .u8 s.i.w, .int .u16 s.i.q, .int .u16 s.i.m, .int .u16 s.i.t, .int .u8 s.i.r, .int .u8 s.i.l, .int .u8 s.i.v, .bool s.i.s] 28 (0, 0)) := by rw [hW]; exact heap_alloc2_old _ _ _
  have h1 : W.heap[w0.heap.size + 1]? = some (.cells #[.int .u8 0, .int .u8 0, .int .u8 0, .int .u64 0, .int .u64 0, .bool false, .int .u8 0, .int .u64 0, .int .u64 0, .string ⟨#[]⟩, .slice none 0 0, .int .u8 0, .int .u8 0, .int .i64 0, .int .u8 0, .int .u8 0, .int .u64 0, .int .u64 0, .int .u64 0, .int .u64 0, .int .u64 0] 42 (0, 0)) := by rw [hW]; exact heap_alloc2_new _ _ _
  have c0 : W.cell? ⟨w0.heap.size, 0, none⟩ = some (.int .u8 s.k) := cell_of_row _ _ 0 _ _ _ h0
  have c1 : W.cell? ⟨w0.heap.size, 1, none⟩ = some (.int .u8 s.f) := cell_of_row _ _ 1 _ _ _ h0
  have c2 : W.cell? ⟨w0.heap.size, 2, none⟩ = some (.int .u8 s.t) := cell_of_row _ _ 2 _ _ _ h0
  have q1 : (s.k : Int) % 3 < 3 := by omega
  have q2 : (0 : Int) ≤ (s.k : Int) % 3 := by omega
  have HW := Lib.hid hW
  have Hs := Lib.hid hs
  have hT : Hid (toN s = if s.f % 32 = s.t % 32 then (s.t % 32 + 1) % 32 else s.t % 32) := rfl
  have hS1 : ∀ cs : Array Value, SfAt w0 ((W.alloc (.cells #[.int .u8 0, .int .u8 0, .int .u8 0, .int .u64 0, .int .u64 0, .bool false, .int .u8 0, .int .u64 0, .int .u64 0, .string ⟨#[]⟩, .slice none 0 0, .int .u8 0, .int .u8 0, .int .i64 0, .int .u8 0, .int .u8 0, .int .u64 0, .int .u64 0, .int .u64 0, .int .u64 0, .int .u64 0] 42)).setRow W.heap.size cs) s W.heap.size cs 28 42 := fun cs =>
    ⟨below_setRow (hb.alloc (by omega) _) (by omega) _, (setRow_other _ _ _ _ (by omega)).trans ((heap_alloc_old _ _ (by omega)).trans h0), (setRow_other _ _ _ _ (by omega)).trans ((heap_alloc_old _ _ (by omega)).trans h1), setRow_heap _ _ _ _ _ _ (heap_alloc_new _ _), by omega⟩
  have HS1 := Lib.hid hS1
  clear hb hz h0 h1 hW hs hS1
  go_enter Tryz.func7, Tryz.ntmps7
  go_upto_region 1 with fail
  rw [← HW.out]
  go_upto_region 2 with (first | (refine wpList_store_row rfl _ _ _ rfl W.heap.size _ rfl rfl _ _ (heap_alloc_new _ _) Tryz.infoF rfl (by kernel_rfl) ?_) | fail)
  rw [act_put0]
  have hX := HS1.out #[.int .u8 (1 + (s.k : Int) % 3), .int .u8 ((s.f : Int) % 32), .int .u8 ((s.t : Int) % 32), .int .u64 0, .int .u64 0, .bool false, .int .u8 0, .int .u64 0, .int .u64 0, .string ⟨#[]⟩, .slice none 0 0, .int .u8 0, .int .u8 0, .int .i64 0, .int .u8 0, .int .u8 0, .int .u64 0, .int .u64 0, .int .u64 0, .int .u64 0, .int .u64 0]
  obtain ⟨X, hXe⟩ : ∃ X, W.heap.size = X := ⟨_, rfl⟩
  generalize hw2 : (W.alloc (.cells #[.int .u8 0, .int .u8 0, .int .u8 0, .int .u64 0, .int .u64 0, .bool false, .int .u8 0, .int .u64 0, .int .u64 0, .string ⟨#[]⟩, .slice none 0 0, .int .u8 0, .int .u8 0, .int .i64 0, .int .u8 0, .int .u8 0, .int .u64 0, .int .u64 0, .int .u64 0, .int .u64 0, .int .u64 0] 42)).setRow W.heap.size #[.int .u8 (1 + (s.k : Int) % 3), .int .u8 ((s.f : Int) % 32), .int .u8 ((s.t : Int) % 32), .int .u64 0, .int .u64 0, .bool false, .int .u8 0, .int .u64 0, .int .u64 0, .string ⟨#[]⟩, .slice none 0 0, .int .u8 0, .int .u8 0, .int .i64 0, .int .u8 0, .int .u8 0, .int .u64 0, .int .u64 0, .int .u64 0, .int .u64 0, .int .u64 0] = W2 at *
  rw [hXe] at hX ⊢
  clear hw2 HS1 c0 c1 c2 q1 q2 hXe HW
  have HX := Lib.hid hX
  have c1 : W2.cell? ⟨X, 1, none⟩ = some (.int .u8 ((s.f : Int) % 32)) := hX.cell 1
  have c2 : W2.cell? ⟨X, 2, none⟩ = some (.int .u8 ((s.t : Int) % 32)) := hX.cell 2
  have f2 : W2.frozen? ⟨X, 2, none⟩ = false := hX.frz 2
  clear hX
  go_upto_if 19 with fail
  go_cut [] from 20 to 24 (fun wx => SfAt w0 wx s X #[.int .u8 (1 + (s.k : Int) % 3), .int .u8 ((s.f : Int) % 32), .int .u8 (toN s : Nat), .int .u64 0, .int .u64 0, .bool false, .int .u8 0, .int .u64 0, .int .u64 0, .string ⟨#[]⟩, .slice none 0 0, .int .u8 0, .int .u8 0, .int .i64 0, .int .u8 0, .int .u8 0, .int .u64 0, .int .u64 0, .int .u64 0, .int .u64 0, .int .u64 0] 28 42)
  case first =>
    by_cases he : s.f % 32 = s.t % 32
    case pos =>
      have k1 : ((s.f : Int) % 32 == (s.t : Int) % 32) = true := by rw [beq_iff_eq]; omega
      have HE : Hid (toN s = (s.t % 32 + 1) % 32) := by show _ = _; rw [hT.out, if_pos he]
      clear he hT
      go_wp2_with fail
      go_meet
      have h := HX.out.setc 2 (.int .u8 (((s.t : Int) + 1) % 32))
      have e : (((s.t : Int) + 1) % 32) = ((toN s : Nat) : Int) := by rw [HE.out]; omega
      rw [e] at h
      rw [e]
      exact h
    case neg =>
      have k1 : ((s.f : Int) % 32 == (s.t : Int) % 32) = false := by rw [beq_eq_false_iff_ne]; omega
      have HE : Hid (toN s = s.t % 32) := by show _ = _; rw [hT.out, if_neg he]
      clear he hT
      go_wp2_with fail
      go_meet
      have h := HX.out
      have e : ((s.t : Int) % 32) = ((toN s : Nat) : Int) := by rw [HE.out]; omega
      rw [e] at h
      exact h
  case rest =>
  have HX3 := Lib.hid hcut
  clear HX hcut c1 c2 f2 hT
  have hk : s.k % 3 = 0 ∨ s.k % 3 = 1 ∨ s.k % 3 = 2 := by omega
  rcases hk with hk | hk | hk
  · have e0 : 1 + (s.k : Int) % 3 = 1 := by omega
    have hX4 := HX3.out
    rw [e0] at hX4
    have HX4 := Lib.hid hX4
    have d0 : wc.cell? ⟨X, 0, none⟩ = some (.int .u8 1) := hX4.cell 0
    have HF : Hid (smallF s = ⟨1, s.f % 32, toN s, 1 + s.e, 1 + s.q, smallI s.i, 0, 0, 0⟩) := if_pos hk
    have b1 : (s.e : Int) < 65536 := by have := Hs.out.e; omega
    have b2 : (s.q : Int) < 65536 := by have := Hs.out.q; omega
    have re : IntKind.u64.wrap (s.e : Int) = s.e := by rw [IntKind.wrap_u64]; omega
    have se : IntKind.u64.wrap (1 + (s.e : Int)) = 1 + (s.e : Int) := by rw [IntKind.wrap_u64]; omega
    have rq : IntKind.u64.wrap (s.q : Int) = s.q := by rw [IntKind.wrap_u64]; omega
    have sq : IntKind.u64.wrap (1 + (s.q : Int)) = 1 + (s.q : Int) := by rw [IntKind.wrap_u64]; omega
    clear hk e0 hX4 HX3 b1 b2
    go_upto_region 6 with fail
    refine wp_region_noPanic ?_
    refine wp_region_held_drew (S := (fun V : World => V.heap[w0.heap.size]? = some (.cells #[.int .u8 s.k, .int .u8 s.f, .int .u8 s.t, .int .u16 s.e, .int .u16 s.q, .int .u16 s.c, .int .u16 s.l, .int .u64 s.b, .bool s.i.g, .int .u8 s.i.o, .int .u8 s.i.p, .int .u8 s.i.w, .int .u16 s.i.q, .int .u16 s.i.m, .int .u16 s.i.t, .int .u8 s.i.r, .int .u8 s.i.l, .int .u8 s.i.v, .bool s.i.s] 28 (0, 0)))) (by kernel_rfl) ?_ (fun hHeld => ?_)
    · exact HX4.out.sm
    refine heldTake (i := 0) (v := ?_) rfl (by kernel_rfl) (by kernel_rfl) (by kernel_rfl) (fun _ _ _ h => h) (Or.inl ⟨by rfl, ?_⟩) (by assumption) ?_
    rotate_left
    · (intro w hSw; (try dsimp only at hSw); go_simp; try with_reducible rfl)
    try simp only [heldPut, List.set]
    refine heldTake (i := 1) (v := ?_) rfl (by kernel_rfl) (by kernel_rfl) (by kernel_rfl) (fun _ _ _ h => h) (Or.inl ⟨by rfl, ?_⟩) (by assumption) ?_
    rotate_left
    · (intro w hSw; (try dsimp only at hSw); have c3 : w.cell? ⟨w0.heap.size, 3, none⟩ = some (.int .u16 s.e) := cell_of_row _ _ 3 _ _ _ hSw; go_simp; try with_reducible rfl)
    try simp only [heldPut, List.set]
    refine heldTake (i := 2) (v := ?_) rfl (by kernel_rfl) (by kernel_rfl) (by kernel_rfl) (fun _ _ _ h => h) (Or.inl ⟨by rfl, ?_⟩) (by assumption) ?_
    rotate_left
    · (intro w hSw; (try dsimp only at hSw); go_simp; try with_reducible rfl)
    try simp only [heldPut, List.set]
    refine heldTake (i := 3) (v := ?_) rfl (by kernel_rfl) (by kernel_rfl) (by kernel_rfl) (fun _ _ _ h => h) (Or.inl ⟨by rfl, ?_⟩) (by assumption) ?_
    rotate_left
    · (intro w hSw; (try dsimp only at hSw); go_simp; try with_reducible rfl)
    try simp only [heldPut, List.set]
    refine heldTake (i := 4) (v := ?_) rfl (by kernel_rfl) (by kernel_rfl) (by kernel_rfl) (fun _ _ _ h => h) (Or.inl ⟨by rfl, ?_⟩) (by assumption) ?_
    rotate_left
    · (intro w hSw; (try dsimp only at hSw); go_simp; try with_reducible rfl)
    try simp only [heldPut, List.set]
    refine heldTake (i := 5) (v := ?_) rfl (by kernel_rfl) (by kernel_rfl) (by kernel_rfl) (fun _ _ _ h => h) (Or.inl ⟨by rfl, ?_⟩) (by assumption) ?_
    rotate_left
    · (intro w hSw; (try dsimp only at hSw); have c4 : w.cell? ⟨w0.heap.size, 4, none⟩ = some (.int .u16 s.q) := cell_of_row _ _ 4 _ _ _ hSw; go_simp; try with_reducible rfl)
    try simp only [heldPut, List.set]
    refine heldTake (i := 6) (v := ?_) rfl (by kernel_rfl) (by kernel_rfl) (by kernel_rfl) (fun _ _ _ h => h) (Or.inl ⟨by rfl, ?_⟩) (by assumption) ?_
    rotate_left
    · (intro w hSw; (try dsimp only at hSw); go_simp; try with_reducible rfl)
    try simp only [heldPut, List.set]
    refine heldTake (i := 7) (v := ?_) rfl (by kernel_rfl) (by kernel_rfl) (by kernel_rfl) (fun _ _ _ h => h) (Or.inl ⟨by rfl, ?_⟩) (by assumption) ?_
    rotate_left
    · (intro w hSw; (try dsimp only at hSw); go_simp; try with_reducible rfl)
    try simp only [heldPut, List.set]
    refine heldTake (i := 8) (v := ?_) rfl (by kernel_rfl) (by kernel_rfl) (by kernel_rfl) (fun _ _ _ h => h) (Or.inl ⟨by rfl, ?_⟩) (by assumption) ?_
    rotate_left
    · (intro w hSw; (try dsimp only at hSw); go_simp; try with_reducible rfl)
    try simp only [heldPut, List.set]
    refine heldTake (i := 9) (v := .agg #[.bool s.i.g, .int .u8 s.i.o, .int .u8 s.i.p, .int .u8 s.i.w, .int .u16 s.i.q, .int .u16 s.i.m, .int .u16 s.i.t, .int .u8 s.i.r, .int .u8 s.i.l, .int .u8 s.i.v, .bool s.i.s]) rfl (by kernel_rfl) (by kernel_rfl) (by kernel_rfl) (fun _ _ _ h => h) (yieldsIf_load_mid (by rfl) _ _ rfl w0.heap.size 8 rfl [.bool s.i.g, .int .u8 s.i.o, .int .u8 s.i.p, .int .u8 s.i.w, .int .u16 s.i.q, .int .u16 s.i.m, .int .u16 s.i.t, .int .u8 s.i.r, .int .u8 s.i.l, .int .u8 s.i.v, .bool s.i.s] _ (fun V hV => smallF_range hV) Tryz.underlying26 rfl Tryz.infoSm) (by assumption) ?_
    try simp only [heldPut, List.set]
    refine heldTake (i := 11) (v := ?_) rfl (by kernel_rfl) (by kernel_rfl) (by kernel_rfl) (fun _ _ _ h => h) (Or.inl ⟨by rfl, ?_⟩) (by assumption) ?_
    rotate_left
    · (intro w hSw; (try dsimp only at hSw); go_simp; try with_reducible rfl)
    try simp only [heldPut, List.set]
    refine heldOne (i := 10) rfl (by kernel_rfl) (fun K hK => ?_)
    go_simp
    refine (smallItem_any s.i Hs.out.i _).mono ?_
    rintro e V1 ⟨A, n, c, rfl, hn, ho, hb⟩
    have HN := Lib.hid hn
    have HO := Lib.hid ho
    have HV1 := Lib.hid (HX4.out.drew.below hb)
    have hXb : X < wc.drew.heap.size := HX4.out.drew.lt
    clear hn ho
    go_wp2_with fail
    refine hK.out _ _ ?_ (fun hHeld => ?_)
    · exact (hb.block _ (by have := HX4.out.x; omega)).trans hHeld
    clear hK K
    try simp only [heldPut, List.set]
    clear hb
    have e3 : (V1).cell? ⟨X, 3, none⟩ = some (.int .u64 0) := HV1.out.cell 3
    have f3 : (V1).frozen? ⟨X, 3, none⟩ = false := HV1.out.frz 3
    refine heldOne (i := 12) rfl (by kernel_rfl) (fun K hK => ?_)
    go_simp
    refine hK.out _ _ ?_ (fun hHeld => ?_)
    · exact (heap_setCell_other _ _ _ _ (by have := HX4.out.x; simp; omega)).trans hHeld
    clear hK K
    try simp only [heldPut, List.set]
    have HV2 := Lib.hid (HV1.out.setc 3 (.int .u64 (1 + (s.e : Int))))
    have HO2 := Lib.hid (ownsRow_setCell_below HO.out (a := ⟨X, 3, none⟩) hXb (.int .u64 (1 + (s.e : Int))))
    generalize hV2 : (V1).setCell ⟨X, 3, none⟩ (.int .u64 (1 + (s.e : Int))) = V2 at *
    clear hV2 e3 f3 HV1 HO
    refine heldTake (i := 13) (v := ?_) rfl (by kernel_rfl) (by kernel_rfl) (by kernel_rfl) (fun _ _ _ h => h) (Or.inl ⟨by rfl, ?_⟩) (by assumption) ?_
    rotate_left
    · (intro w hSw; (try dsimp only at hSw); go_simp; try with_reducible rfl)
    try simp only [heldPut, List.set]
    have e4 : (V2).cell? ⟨X, 4, none⟩ = some (.int .u64 0) := HV2.out.cell 4
    have f4 : (V2).frozen? ⟨X, 4, none⟩ = false := HV2.out.frz 4
    refine heldOne (i := 14) rfl (by kernel_rfl) (fun K hK => ?_)
    go_simp
    refine hK.out _ _ ?_ (fun hHeld => ?_)
    · exact (heap_setCell_other _ _ _ _ (by have := HX4.out.x; simp; omega)).trans hHeld
    clear hK K
    try simp only [heldPut, List.set]
    have HV3 := Lib.hid (HV2.out.setc 4 (.int .u64 (1 + (s.q : Int))))
    have HO3 := Lib.hid (ownsRow_setCell_below HO2.out (a := ⟨X, 4, none⟩) hXb (.int .u64 (1 + (s.q : Int))))
    generalize hV3 : (V2).setCell ⟨X, 4, none⟩ (.int .u64 (1 + (s.q : Int))) = V3 at *
    clear hV3 e4 f4 HV2 HO2
    refine heldTake (i := 15) (v := ?_) rfl (by kernel_rfl) (by kernel_rfl) (by kernel_rfl) (fun _ _ _ h => h) (Or.inl ⟨by rfl, ?_⟩) (by assumption) ?_
    rotate_left
    · (intro w hSw; (try dsimp only at hSw); go_simp; try with_reducible rfl)
    try simp only [heldPut, List.set]
    have hth := sf_there (o := 5) (n := 13) HV3.out.fr (by show 18 ≤ 21; omega)
    have hrow : putAll (((#[.int .u8 1, .int .u8 ((s.f : Int) % 32), .int .u8 (toN s : Nat), .int .u64 0, .int .u64 0, .bool false, .int .u8 0, .int .u64 0, .int .u64 0, .string ⟨#[]⟩, .slice none 0 0, .int .u8 0, .int .u8 0, .int .i64 0, .int .u8 0, .int .u8 0, .int .u64 0, .int .u64 0, .int .u64 0, .int .u64 0, .int .u64 0] : Array Value).setIfInBounds 3 (.int .u64 (1 + (s.e : Int)))).setIfInBounds 4 (.int .u64 (1 + (s.q : Int)))) 5 (#[.bool (smallI s.i).g, .int .u8 (smallI s.i).o, .int .u64 (smallI s.i).q, .int .u64 (smallI s.i).t, .string (smallI s.i).r, .slice A n c, .int .u8 (smallI s.i).s, .int .u8 (smallI s.i).p, .int .i64 (smallI s.i).v, .int .u8 (smallI s.i).w, .int .u8 (smallI s.i).ga, .int .u64 (smallI s.i).gf, .int .u64 (smallI s.i).gt] : Array Value).toList = #[.int .u8 1, .int .u8 ((s.f : Int) % 32), .int .u8 (toN s : Nat), .int .u64 (1 + (s.e : Int)), .int .u64 (1 + (s.q : Int)), .bool (smallI s.i).g, .int .u8 (smallI s.i).o, .int .u64 (smallI s.i).q, .int .u64 (smallI s.i).t, .string (smallI s.i).r, .slice A n c, .int .u8 (smallI s.i).s, .int .u8 (smallI s.i).p, .int .i64 (smallI s.i).v, .int .u8 (smallI s.i).w, .int .u8 (smallI s.i).ga, .int .u64 (smallI s.i).gf, .int .u64 (smallI s.i).gt, .int .u64 0, .int .u64 0, .int .u64 0] := by kernel_rfl
    have hw4 : ∀ (K : Act → World → Prop) (a : Act), K a (V3.setRow X #[.int .u8 1, .int .u8 ((s.f : Int) % 32), .int .u8 (toN s : Nat), .int .u64 (1 + (s.e : Int)), .int .u64 (1 + (s.q : Int)), .bool (smallI s.i).g, .int .u8 (smallI s.i).o, .int .u64 (smallI s.i).q, .int .u64 (smallI s.i).t, .string (smallI s.i).r, .slice A n c, .int .u8 (smallI s.i).s, .int .u8 (smallI s.i).p, .int .i64 (smallI s.i).v, .int .u8 (smallI s.i).w, .int .u8 (smallI s.i).ga, .int .u64 (smallI s.i).gf, .int .u64 (smallI s.i).gt, .int .u64 0, .int .u64 0, .int .u64 0]) → K a (V3.setCells X 5 (#[.bool (smallI s.i).g, .int .u8 (smallI s.i).o, .int .u64 (smallI s.i).q, .int .u64 (smallI s.i).t, .string (smallI s.i).r, .slice A n c, .int .u8 (smallI s.i).s, .int .u8 (smallI s.i).p, .int .i64 (smallI s.i).v, .int .u8 (smallI s.i).w, .int .u8 (smallI s.i).ga, .int .u64 (smallI s.i).gf, .int .u64 (smallI s.i).gt] : Array Value).toList) := fun K a h => by
      rw [setCells_row _ _ _ _ _ _ HV3.out.fr, hrow]
      exact h
    refine heldOne (i := 16) rfl (by kernel_rfl) (fun K hK => ?_)
    rw [if_pos (by rfl)]
    refine wp_store_mid _ _ _ rfl X 5 _ rfl rfl hth Tryz.infoI13 (by kernel_rfl) ?_
    refine hw4 K _ ?_
    clear hw4 hrow
    clear hth
    refine hK.out _ _ ?_ (fun hHeld => ?_)
    · exact (setRow_other _ _ _ _ (by have := HX4.out.x; omega)).trans hHeld
    clear hK K
    have HV4 := Lib.hid (HV3.out.set #[.int .u8 1, .int .u8 ((s.f : Int) % 32), .int .u8 (toN s : Nat), .int .u64 (1 + (s.e : Int)), .int .u64 (1 + (s.q : Int)), .bool (smallI s.i).g, .int .u8 (smallI s.i).o, .int .u64 (smallI s.i).q, .int .u64 (smallI s.i).t, .string (smallI s.i).r, .slice A n c, .int .u8 (smallI s.i).s, .int .u8 (smallI s.i).p, .int .i64 (smallI s.i).v, .int .u8 (smallI s.i).w, .int .u8 (smallI s.i).ga, .int .u64 (smallI s.i).gf, .int .u64 (smallI s.i).gt, .int .u64 0, .int .u64 0, .int .u64 0])
    have HO4 := Lib.hid (own_setRow HO3.out hXb #[.int .u8 1, .int .u8 ((s.f : Int) % 32), .int .u8 (toN s : Nat), .int .u64 (1 + (s.e : Int)), .int .u64 (1 + (s.q : Int)), .bool (smallI s.i).g, .int .u8 (smallI s.i).o, .int .u64 (smallI s.i).q, .int .u64 (smallI s.i).t, .string (smallI s.i).r, .slice A n c, .int .u8 (smallI s.i).s, .int .u8 (smallI s.i).p, .int .i64 (smallI s.i).v, .int .u8 (smallI s.i).w, .int .u8 (smallI s.i).ga, .int .u64 (smallI s.i).gf, .int .u64 (smallI s.i).gt, .int .u64 0, .int .u64 0, .int .u64 0])
    generalize hV4 : V3.setRow X #[.int .u8 1, .int .u8 ((s.f : Int) % 32), .int .u8 (toN s : Nat), .int .u64 (1 + (s.e : Int)), .int .u64 (1 + (s.q : Int)), .bool (smallI s.i).g, .int .u8 (smallI s.i).o, .int .u64 (smallI s.i).q, .int .u64 (smallI s.i).t, .string (smallI s.i).r, .slice A n c, .int .u8 (smallI s.i).s, .int .u8 (smallI s.i).p, .int .i64 (smallI s.i).v, .int .u8 (smallI s.i).w, .int .u8 (smallI s.i).ga, .int .u64 (smallI s.i).gf, .int .u64 (smallI s.i).gt, .int .u64 0, .int .u64 0, .int .u64 0] = V4 at *
    clear hV4 HO3 HV3
    refine wpAnyH_done (by kernel_rfl) ?_ _
    refine NoPanic.normal ?_
    clear hHeld
    have Hre := Lib.hid HV4.out.re
    have Hfr := Lib.hid HV4.out.fr
    go_wp2_with (first
      | (refine wpList_load_row rfl _ _ rfl X rfl _ _ _ _ Hfr.out Tryz.underlying42 rfl (by kernel_rfl) ?_)
      | (refine wpList_store_row rfl _ _ _ rfl (w0.heap.size + 1) _ rfl rfl _ _ Hre.out Tryz.infoF rfl (by kernel_rfl) ?_)
      | fail)
    refine bodyPost_ret (v := .agg #[.int .u8 1, .int .u8 ((s.f : Int) % 32), .int .u8 (toN s : Nat), .int .u64 (1 + (s.e : Int)), .int .u64 (1 + (s.q : Int)), .bool (smallI s.i).g, .int .u8 (smallI s.i).o, .int .u64 (smallI s.i).q, .int .u64 (smallI s.i).t, .string (smallI s.i).r, .slice A n c, .int .u8 (smallI s.i).s, .int .u8 (smallI s.i).p, .int .i64 (smallI s.i).v, .int .u8 (smallI s.i).w, .int .u8 (smallI s.i).ga, .int .u64 (smallI s.i).gf, .int .u64 (smallI s.i).gt, .int .u64 0, .int .u64 0, .int .u64 0]) ?_ rfl ⟨A, n, c, ?_, ?_, ?_, ?_⟩
    · exact results_cell_row rfl _ _ (w0.heap.size + 1) _ _ _ _ rfl (setRow_heap _ _ _ _ _ _ Hre.out) Tryz.underlying42 rfl (by kernel_rfl)
    · rw [HF.out]; rfl
    · rw [HF.out]; exact HN.out
    · rw [HF.out]; exact ownB_mono (own_setRow HO4.out (by have := HX4.out.b.size; have := HX4.out.x; have := hXb; omega) _) (by have := HX4.out.b.size; have := HX4.out.x; have := hXb; omega)
    · exact below_setRow HV4.out.b (by omega) _
  · have e0 : 1 + (s.k : Int) % 3 = 2 := by omega
    have hX4 := HX3.out
    rw [e0] at hX4
    have HX4 := Lib.hid hX4
    have d0 : wc.cell? ⟨X, 0, none⟩ = some (.int .u8 2) := hX4.cell 0
    have HF : Hid (smallF s = ⟨2, s.f % 32, toN s, 1 + s.e, 0, zeroI, s.c, s.b, 1 + s.l⟩) := by show _ = _; unfold smallF; rw [if_neg (by omega), if_pos hk]
    have b1 : (s.e : Int) < 65536 := by have := Hs.out.e; omega
    have b2 : (s.c : Int) < 65536 := by have := Hs.out.c; omega
    have b3 : (s.l : Int) < 65536 := by have := Hs.out.l; omega
    have re : IntKind.u64.wrap (s.e : Int) = s.e := by rw [IntKind.wrap_u64]; omega
    have se : IntKind.u64.wrap (1 + (s.e : Int)) = 1 + (s.e : Int) := by rw [IntKind.wrap_u64]; omega
    have rc : IntKind.u64.wrap (s.c : Int) = s.c := by rw [IntKind.wrap_u64]; omega
    have rl : IntKind.u64.wrap (s.l : Int) = s.l := by rw [IntKind.wrap_u64]; omega
    have sl : IntKind.u64.wrap (1 + (s.l : Int)) = 1 + (s.l : Int) := by rw [IntKind.wrap_u64]; omega
    clear hk e0 hX4 HX3 b1 b2 b3
    go_upto_region 8 with fail
    refine wp_region_noPanic ?_
    refine wp_region_held_drew (S := (fun V : World => V.heap[w0.heap.size]? = some (.cells #[.int .u8 s.k, .int .u8 s.f, .int .u8 s.t, .int .u16 s.e, .int .u16 s.q, .int .u16 s.c, .int .u16 s.l, .int .u64 s.b, .bool s.i.g, .int .u8 s.i.o, .int .u8 s.i.p, .int .u8 s.i.w, .int .u16 s.i.q, .int .u16 s.i.m, .int .u16 s.i.t, .int .u8 s.i.r, .int .u8 s.i.l, .int .u8 s.i.v, .bool s.i.s] 28 (0, 0)))) (by kernel_rfl) ?_ (fun hHeld => ?_)
    · exact HX4.out.sm
    refine heldTake (i := 0) (v := ?_) rfl (by kernel_rfl) (by kernel_rfl) (by kernel_rfl) (fun _ _ _ h => h) (Or.inl ⟨by rfl, ?_⟩) (by assumption) ?_
    rotate_left
    · (intro w hSw; (try dsimp only at hSw); go_simp; try with_reducible rfl)
    try simp only [heldPut, List.set]
    refine heldTake (i := 1) (v := ?_) rfl (by kernel_rfl) (by kernel_rfl) (by kernel_rfl) (fun _ _ _ h => h) (Or.inl ⟨by rfl, ?_⟩) (by assumption) ?_
    rotate_left
    · (intro w hSw; (try dsimp only at hSw); have c3 : w.cell? ⟨w0.heap.size, 3, none⟩ = some (.int .u16 s.e) := cell_of_row _ _ 3 _ _ _ hSw; go_simp; try with_reducible rfl)
    try simp only [heldPut, List.set]
    refine heldTake (i := 2) (v := ?_) rfl (by kernel_rfl) (by kernel_rfl) (by kernel_rfl) (fun _ _ _ h => h) (Or.inl ⟨by rfl, ?_⟩) (by assumption) ?_
    rotate_left
    · (intro w hSw; (try dsimp only at hSw); go_simp; try with_reducible rfl)
    try simp only [heldPut, List.set]
    refine heldTake (i := 3) (v := ?_) rfl (by kernel_rfl) (by kernel_rfl) (by kernel_rfl) (fun _ _ _ h => h) (Or.inl ⟨by rfl, ?_⟩) (by assumption) ?_
    rotate_left
    · (intro w hSw; (try dsimp only at hSw); go_simp; try with_reducible rfl)
    try simp only [heldPut, List.set]
    refine heldTake (i := 4) (v := ?_) rfl (by kernel_rfl) (by kernel_rfl) (by kernel_rfl) (fun _ _ _ h => h) (Or.inl ⟨by rfl, ?_⟩) (by assumption) ?_
    rotate_left
    · (intro w hSw; (try dsimp only at hSw); go_simp; try with_reducible rfl)
    try simp only [heldPut, List.set]
    refine heldTake (i := 5) (v := ?_) rfl (by kernel_rfl) (by kernel_rfl) (by kernel_rfl) (fun _ _ _ h => h) (Or.inl ⟨by rfl, ?_⟩) (by assumption) ?_
    rotate_left
    · (intro w hSw; (try dsimp only at hSw); have c5 : w.cell? ⟨w0.heap.size, 5, none⟩ = some (.int .u16 s.c) := cell_of_row _ _ 5 _ _ _ hSw; go_simp; try with_reducible rfl)
    try simp only [heldPut, List.set]
    refine heldTake (i := 6) (v := ?_) rfl (by kernel_rfl) (by kernel_rfl) (by kernel_rfl) (fun _ _ _ h => h) (Or.inl ⟨by rfl, ?_⟩) (by assumption) ?_
    rotate_left
    · (intro w hSw; (try dsimp only at hSw); go_simp; try with_reducible rfl)
    try simp only [heldPut, List.set]
    refine heldTake (i := 7) (v := ?_) rfl (by kernel_rfl) (by kernel_rfl) (by kernel_rfl) (fun _ _ _ h => h) (Or.inl ⟨by rfl, ?_⟩) (by assumption) ?_
    rotate_left
    · (intro w hSw; (try dsimp only at hSw); go_simp; try with_reducible rfl)
    try simp only [heldPut, List.set]
    refine heldTake (i := 8) (v := ?_) rfl (by kernel_rfl) (by kernel_rfl) (by kernel_rfl) (fun _ _ _ h => h) (Or.inl ⟨by rfl, ?_⟩) (by assumption) ?_
    rotate_left
    · (intro w hSw; (try dsimp only at hSw); have c7 : w.cell? ⟨w0.heap.size, 7, none⟩ = some (.int .u64 s.b) := cell_of_row _ _ 7 _ _ _ hSw; go_simp; try with_reducible rfl)
    try simp only [heldPut, List.set]
    refine heldTake (i := 9) (v := ?_) rfl (by kernel_rfl) (by kernel_rfl) (by kernel_rfl) (fun _ _ _ h => h) (Or.inl ⟨by rfl, ?_⟩) (by assumption) ?_
    rotate_left
    · (intro w hSw; (try dsimp only at hSw); go_simp; try with_reducible rfl)
    try simp only [heldPut, List.set]
    refine heldTake (i := 10) (v := ?_) rfl (by kernel_rfl) (by kernel_rfl) (by kernel_rfl) (fun _ _ _ h => h) (Or.inl ⟨by rfl, ?_⟩) (by assumption) ?_
    rotate_left
    · (intro w hSw; (try dsimp only at hSw); have c6 : w.cell? ⟨w0.heap.size, 6, none⟩ = some (.int .u16 s.l) := cell_of_row _ _ 6 _ _ _ hSw; go_simp; try with_reducible rfl)
    try simp only [heldPut, List.set]
    refine heldTake (i := 11) (v := ?_) rfl (by kernel_rfl) (by kernel_rfl) (by kernel_rfl) (fun _ _ _ h => h) (Or.inl ⟨by rfl, ?_⟩) (by assumption) ?_
    rotate_left
    · (intro w hSw; (try dsimp only at hSw); go_simp; try with_reducible rfl)
    try simp only [heldPut, List.set]
    refine heldTake (i := 12) (v := ?_) rfl (by kernel_rfl) (by kernel_rfl) (by kernel_rfl) (fun _ _ _ h => h) (Or.inl ⟨by rfl, ?_⟩) (by assumption) ?_
    rotate_left
    · (intro w hSw; (try dsimp only at hSw); go_simp; try with_reducible rfl)
    try simp only [heldPut, List.set]
    have HV0 := Lib.hid HX4.out.drew
    generalize hVd : wc.drew = V0 at *
    clear hVd
    refine heldTake (i := 13) (v := ?_) rfl (by kernel_rfl) (by kernel_rfl) (by kernel_rfl) (fun _ _ _ h => h) (Or.inl ⟨by rfl, ?_⟩) (by assumption) ?_
    rotate_left
    · (intro w hSw; (try dsimp only at hSw); go_simp; try with_reducible rfl)
    try simp only [heldPut, List.set]
    have e3 : (V0).cell? ⟨X, 3, none⟩ = some (.int .u64 0) := HV0.out.cell 3
    have f3 : (V0).frozen? ⟨X, 3, none⟩ = false := HV0.out.frz 3
    refine heldOne (i := 14) rfl (by kernel_rfl) (fun K hK => ?_)
    go_simp
    refine hK.out _ _ ?_ (fun hHeld => ?_)
    · exact (heap_setCell_other _ _ _ _ (by have := HX4.out.x; simp; omega)).trans hHeld
    clear hK K
    try simp only [heldPut, List.set]
    have HV1 := Lib.hid (HV0.out.setc 3 (.int .u64 (1 + (s.e : Int))))
    generalize hV1 : (V0).setCell ⟨X, 3, none⟩ (.int .u64 (1 + (s.e : Int))) = V1 at *
    clear hV1 e3 f3 HV0
    refine heldTake (i := 15) (v := ?_) rfl (by kernel_rfl) (by kernel_rfl) (by kernel_rfl) (fun _ _ _ h => h) (Or.inl ⟨by rfl, ?_⟩) (by assumption) ?_
    rotate_left
    · (intro w hSw; (try dsimp only at hSw); go_simp; try with_reducible rfl)
    try simp only [heldPut, List.set]
    have e18 : (V1).cell? ⟨X, 18, none⟩ = some (.int .u64 0) := HV1.out.cell 18
    have f18 : (V1).frozen? ⟨X, 18, none⟩ = false := HV1.out.frz 18
    refine heldOne (i := 16) rfl (by kernel_rfl) (fun K hK => ?_)
    go_simp
    refine hK.out _ _ ?_ (fun hHeld => ?_)
    · exact (heap_setCell_other _ _ _ _ (by have := HX4.out.x; simp; omega)).trans hHeld
    clear hK K
    try simp only [heldPut, List.set]
    have HV2 := Lib.hid (HV1.out.setc 18 (.int .u64 s.c))
    generalize hV2 : (V1).setCell ⟨X, 18, none⟩ (.int .u64 s.c) = V2 at *
    clear hV2 e18 f18 HV1
    refine heldTake (i := 17) (v := ?_) rfl (by kernel_rfl) (by kernel_rfl) (by kernel_rfl) (fun _ _ _ h => h) (Or.inl ⟨by rfl, ?_⟩) (by assumption) ?_
    rotate_left
    · (intro w hSw; (try dsimp only at hSw); go_simp; try with_reducible rfl)
    try simp only [heldPut, List.set]
    have e19 : (V2).cell? ⟨X, 19, none⟩ = some (.int .u64 0) := HV2.out.cell 19
    have f19 : (V2).frozen? ⟨X, 19, none⟩ = false := HV2.out.frz 19
    refine heldOne (i := 18) rfl (by kernel_rfl) (fun K hK => ?_)
    go_simp
    refine hK.out _ _ ?_ (fun hHeld => ?_)
    · exact (heap_setCell_other _ _ _ _ (by have := HX4.out.x; simp; omega)).trans hHeld
    clear hK K
    try simp only [heldPut, List.set]
    have HV3 := Lib.hid (HV2.out.setc 19 (.int .u64 s.b))
    generalize hV3 : (V2).setCell ⟨X, 19, none⟩ (.int .u64 s.b) = V3 at *
    clear hV3 e19 f19 HV2
    refine heldTake (i := 19) (v := ?_) rfl (by kernel_rfl) (by kernel_rfl) (by kernel_rfl) (fun _ _ _ h => h) (Or.inl ⟨by rfl, ?_⟩) (by assumption) ?_
    rotate_left
    · (intro w hSw; (try dsimp only at hSw); go_simp; try with_reducible rfl)
    try simp only [heldPut, List.set]
    have e20 : (V3).cell? ⟨X, 20, none⟩ = some (.int .u64 0) := HV3.out.cell 20
    have f20 : (V3).frozen? ⟨X, 20, none⟩ = false := HV3.out.frz 20
    refine heldOne (i := 20) rfl (by kernel_rfl) (fun K hK => ?_)
    go_simp
    refine hK.out _ _ ?_ (fun hHeld => ?_)
    · exact (heap_setCell_other _ _ _ _ (by have := HX4.out.x; simp; omega)).trans hHeld
    clear hK K
    try simp only [heldPut, List.set]
    have HV4 := Lib.hid (HV3.out.setc 20 (.int .u64 (1 + (s.l : Int))))
    generalize hV4 : (V3).setCell ⟨X, 20, none⟩ (.int .u64 (1 + (s.l : Int))) = V4 at *
    clear hV4 e20 f20 HV3
    refine wpAnyH_done (by kernel_rfl) ?_ _
    refine NoPanic.normal ?_
    clear hHeld
    have Hre := Lib.hid HV4.out.re
    have Hfr := Lib.hid HV4.out.fr
    go_wp2_with (first
      | (refine wpList_load_row rfl _ _ rfl X rfl _ _ _ _ Hfr.out Tryz.underlying42 rfl (by kernel_rfl) ?_)
      | (refine wpList_store_row rfl _ _ _ rfl (w0.heap.size + 1) _ rfl rfl _ _ Hre.out Tryz.infoF rfl (by kernel_rfl) ?_)
      | fail)
    refine bodyPost_ret (v := .agg #[.int .u8 2, .int .u8 ((s.f : Int) % 32), .int .u8 (toN s : Nat), .int .u64 (1 + (s.e : Int)), .int .u64 0, .bool false, .int .u8 0, .int .u64 0, .int .u64 0, .string ⟨#[]⟩, .slice none 0 0, .int .u8 0, .int .u8 0, .int .i64 0, .int .u8 0, .int .u8 0, .int .u64 0, .int .u64 0, .int .u64 s.c, .int .u64 s.b, .int .u64 (1 + (s.l : Int))]) ?_ rfl ⟨none, 0, 0, ?_, ?_, ?_, ?_⟩
    · exact results_cell_row rfl _ _ (w0.heap.size + 1) _ _ _ _ rfl (setRow_heap _ _ _ _ _ _ Hre.out) Tryz.underlying42 rfl (by kernel_rfl)
    · rw [HF.out]; rfl
    · rw [HF.out]; exact rfl
    · rw [HF.out]; exact World.ownsRow_nil _ _ _ _
    · exact below_setRow HV4.out.b (by omega) _
  · have e0 : 1 + (s.k : Int) % 3 = 3 := by omega
    have hX4 := HX3.out
    rw [e0] at hX4
    have HX4 := Lib.hid hX4
    have d0 : wc.cell? ⟨X, 0, none⟩ = some (.int .u8 3) := hX4.cell 0
    have HF : Hid (smallF s = ⟨3, s.f % 32, toN s, 0, 0, zeroI, 0, 0, 0⟩) := by show _ = _; unfold smallF; rw [if_neg (by omega), if_neg (by omega)]
    clear hk e0 hX4 HX3
    have Hre := Lib.hid HX4.out.re
    have Hfr := Lib.hid HX4.out.fr
    go_wp2_with (first
      | (refine wpList_load_row rfl _ _ rfl X rfl _ _ _ _ Hfr.out Tryz.underlying42 rfl (by kernel_rfl) ?_)
      | (refine wpList_store_row rfl _ _ _ rfl (w0.heap.size + 1) _ rfl rfl _ _ Hre.out Tryz.infoF rfl (by kernel_rfl) ?_)
      | fail)
    refine bodyPost_ret (v := .agg #[.int .u8 3, .int .u8 ((s.f : Int) % 32), .int .u8 (toN s : Nat), .int .u64 0, .int .u64 0, .bool false, .int .u8 0, .int .u64 0, .int .u64 0, .string ⟨#[]⟩, .slice none 0 0, .int .u8 0, .int .u8 0, .int .i64 0, .int .u8 0, .int .u8 0, .int .u64 0, .int .u64 0, .int .u64 0, .int .u64 0, .int .u64 0]) ?_ rfl ⟨none, 0, 0, ?_, ?_, ?_, ?_⟩
    · exact results_cell_row rfl _ _ (w0.heap.size + 1) _ _ _ _ rfl (setRow_heap _ _ _ _ _ _ Hre.out) Tryz.underlying42 rfl (by kernel_rfl)
    · rw [HF.out]; rfl
    · rw [HF.out]; exact rfl
    · rw [HF.out]; exact World.ownsRow_nil _ _ _ _
    · exact below_setRow HX4.out.b (by omega) _
end Go.Proofs.YtnagmopejblegaaGreat
