/- Layer 4: the statements' own small item: the walk. -/
import Derived.Test.YtileaoanekphaaaItSmall
import Derived.Test.YtileaoanekphaaaItGap
import Derived.Test.YtileaoanekphaaaItOf
import Derived.Test.YtileaoanekphaaaBcl
import Derived.Test.YtileaoanekphaaaHeld
import Derived.Deep.DeepCutAuto
namespace Go.Proofs.Ytileaoanekphaaa
open Go.RowKit

def evV (s : Sm) (R : ByteArray) (L : Value) (st own : Int) : Array Value := #[.int .u8 ((s.o : Int) % 32), .int .u64 (1 + (s.q : Int)), .int .u64 s.t, .string R, L, .int .u8 st, .int .u8 ((s.p : Int) % 8), .int .i64 ((s.v : Int) - 100), .int .u8 own]

theorem ownP_nil {W : World} {base : Nat} {e : TypeId} {n c : Nat} {xs : List Value} (h : W.ownsRow base e 2 (.slice none n c) n xs) : n = 0 ∧ c = 0 := by
  rcases h.2 with ⟨e, h0⟩ | ⟨g, cap, cur, e, _⟩
  · injection e with _ e1 e2
    exact ⟨e1, e2⟩
  · injection e with e1
    cases e1
/-- what the walk of a small event leaves -/
def SmRet (s : Sm) (b : Bool) (w : World) (e : Ending) (w' : World) : Prop :=
  ∃ A c, e = .returned (.agg #[.bool false, .int .u8 ((s.o : Int) % 32), .int .u64 (1 + (s.q : Int)), .int .u64 s.t, .string (if s.w % 8 = 7 then ownX else ruleS s.r), .slice A (s.l % 4) c, .int .u8 (if b then 2 else 0), .int .u8 ((s.p : Int) % 8), .int .i64 ((s.v : Int) - 100), .int .u8 (if s.w % 8 = 7 then 1 + (s.w : Int) / 8 % 2 else 0), .int .u8 0, .int .u64 0, .int .u64 0]) ∧
    w'.ownsRow w.heap.size 66 2 (.slice A (s.l % 4) c) (s.l % 4) (cellsP (labsS s (s.l % 4))) ∧ Below w.heap.size w w'

set_option maxRecDepth 100000 in
set_option maxHeartbeats 4000000 in
theorem smallEv_any (s : Sm) (hs : OkS s) (b : Bool) (hb : Hid (s.s = b)) (w : World) :
    Calls Try.prog 11 #[.agg #[.bool false, .int .u8 s.o, .int .u8 s.p, .int .u8 s.w, .int .u16 s.q, .int .u16 s.m, .int .u16 s.t, .int .u8 s.r, .int .u8 s.l, .int .u8 s.v, .bool b]] w (SmRet s b w) := by
  have q1 : (s.q : Int) < 65536 := by have := hs.q; omega
  have q2 : (s.m : Int) < 65536 := by have := hs.m; omega
  have q3 : (s.t : Int) < 65536 := by have := hs.t; omega
  have q4 : (s.v : Int) < 256 := by have := hs.v; omega
  obtain ⟨i0, hi, hz0, hz1, hz2⟩ := info_parts Try.infoP
  go_enter Try.func11, Try.ntmps11
  go_upto_region 5 with fail
  go_cut [5] (fun p wx => ∃ E, p = .pointer (some ⟨E, 0, none⟩) ∧ SmSt w wx s E (evV s (ruleS s.r) (.slice none 0 0) 0 0) 39 43)
  case first =>
    have hX : ∀ W, W = ((w.alloc (.cells #[.bool false, .int .u8 s.o, .int .u8 s.p, .int .u8 s.w, .int .u16 s.q, .int .u16 s.m, .int .u16 s.t, .int .u8 s.r, .int .u8 s.l, .int .u8 s.v, .bool b] 35)).alloc (.cells zeroV 43)) → Below w.heap.size w W ∧ SmAt W w.heap.size s ∧ W.heap[w.heap.size + 1]? = some (.cells zeroV 43 (0, 0)) ∧ W.heap.size = w.heap.size + 2 := by
      rintro W rfl
      refine ⟨((Below.refl _ _).alloc (Nat.le_refl _) _).alloc (by simp) _, ?_, heap_alloc2_new _ _ _, by simp⟩
      have k : ∀ j, ((w.alloc (.cells #[.bool false, .int .u8 s.o, .int .u8 s.p, .int .u8 s.w, .int .u16 s.q, .int .u16 s.m, .int .u16 s.t, .int .u8 s.r, .int .u8 s.l, .int .u8 s.v, .bool b] 35)).alloc (.cells zeroV 43)).cell? ⟨w.heap.size, j, none⟩ = _ := fun j => cell_of_row _ _ j _ _ _ (heap_alloc2_old _ _ _)
      exact ⟨by simp; omega, k 1, k 2, k 3, k 4, k 5, k 6, k 7, k 8, k 9, (k 10).trans (by rw [hb.out]; rfl)⟩
    unfold zeroV at hX
    obtain ⟨W, hW⟩ : ∃ W, W = ((w.alloc (.cells #[.bool false, .int .u8 s.o, .int .u8 s.p, .int .u8 s.w, .int .u16 s.q, .int .u16 s.m, .int .u16 s.t, .int .u8 s.r, .int .u8 s.l, .int .u8 s.v, .bool b] 35)).alloc (.cells #[.bool false, .int .u8 0, .int .u64 0, .int .u64 0, .string ⟨#[]⟩, .slice none 0 0, .int .u8 0, .int .u8 0, .int .i64 0, .int .u8 0, .int .u8 0, .int .u64 0, .int .u64 0] 43)) := ⟨_, rfl⟩
    obtain ⟨x1, x2, x3, x4⟩ := hX W hW
    rw [← hW]
    clear hX hW
    have hlt := x2.lt
    have X1 := Lib.hid x1.drew
    have X2 := Lib.hid (x2.keep (w1 := W.drew) (Nat.le_refl _) rfl)
    have X3 : Hid (W.drew.heap[w.heap.size + 1]? = some (.cells zeroV 43 (0, 0))) := x3
    have X4 : Hid (W.drew.heap.size = w.heap.size + 2) := x4
    have w1 : IntKind.u64.wrap (s.t : Int) = s.t := by rw [IntKind.wrap_u64]; omega
    have w2 : IntKind.i64.wrap (s.v : Int) = s.v := by rw [IntKind.wrap_i64]; omega
    have w3 : IntKind.i64.wrap ((s.v : Int) - 100) = (s.v : Int) - 100 := by rw [IntKind.wrap_i64]; omega
    have w4 : (s.p : Int).tmod 8 = (s.p : Int) % 8 := Int.tmod_eq_emod_of_nonneg (by omega)
    have w5 : (s.r : Int).tmod 4 = ((s.r % 4 : Nat) : Int) := by rw [Int.tmod_eq_emod_of_nonneg (by omega)]; omega
    have w6 : (0 : Int) ≤ (s.r : Int) % 4 := by omega
    have w7 : (s.r : Int) % 4 < 4 := by omega
    have w8 : ((s.r : Int) % 4).toNat = s.r % 4 := by omega
    clear x1 x2 x3 x4
    refine wp_region_noPanic ?_
    refine wp_region_held_drew (S := (fun V => SmAt V w.heap.size s)) (by kernel_rfl) ?_ (fun hHeld => ?_)
    · exact X2.out
    refine heldTake (i := 0) (v := ?_) rfl (by kernel_rfl) (by kernel_rfl) (by kernel_rfl) (fun _ _ _ h => h) (Or.inl ⟨by rfl, ?_⟩) (by assumption) ?_
    rotate_left
    · (intro w hSw; (try dsimp only at hSw); go_simp; try with_reducible rfl)
    try simp only [heldPut, List.set]
    refine heldTake (i := 1) (v := ?_) rfl (by kernel_rfl) (by kernel_rfl) (by kernel_rfl) (fun _ _ _ h => h) (Or.inl ⟨by rfl, ?_⟩) (by assumption) ?_
    rotate_left
    · (intro w hSw; (try dsimp only at hSw); go_simp; try with_reducible rfl)
    try simp only [heldPut, List.set]
    refine heldTake (i := 2) (v := ?_) rfl (by kernel_rfl) (by kernel_rfl) (by kernel_rfl) (fun _ _ _ h => h) (Or.inl ⟨by rfl, ?_⟩) (by assumption) ?_
    rotate_left
    · (intro w hSw; (try dsimp only at hSw); go_simp; try with_reducible rfl)
    try simp only [heldPut, List.set]
    refine heldTake (i := 3) (v := ?_) rfl (by kernel_rfl) (by kernel_rfl) (by kernel_rfl) (fun _ _ _ h => h) (Or.inl ⟨by rfl, ?_⟩) (by assumption) ?_
    rotate_left
    · (intro w hSw; (try dsimp only at hSw); obtain ⟨_, c1, c2, c3, c4, c5, c6, c7, c8, c9, c10⟩ := hSw; go_simp; try with_reducible rfl)
    try simp only [heldPut, List.set]
    refine heldTake (i := 4) (v := ?_) rfl (by kernel_rfl) (by kernel_rfl) (by kernel_rfl) (fun _ _ _ h => h) (Or.inl ⟨by rfl, ?_⟩) (by assumption) ?_
    rotate_left
    · (intro w hSw; (try dsimp only at hSw); go_simp; try with_reducible rfl)
    try simp only [heldPut, List.set]
    refine heldTake (i := 6) (v := ?_) rfl (by kernel_rfl) (by kernel_rfl) (by kernel_rfl) (fun _ _ _ h => h) (Or.inl ⟨by rfl, ?_⟩) (by assumption) ?_
    rotate_left
    · (intro w hSw; (try dsimp only at hSw); go_simp; try with_reducible rfl)
    try simp only [heldPut, List.set]
    refine heldTake (i := 7) (v := ?_) rfl (by kernel_rfl) (by kernel_rfl) (by kernel_rfl) (fun _ _ _ h => h) (Or.inl ⟨by rfl, ?_⟩) (by assumption) ?_
    rotate_left
    · (intro w hSw; (try dsimp only at hSw); obtain ⟨_, c1, c2, c3, c4, c5, c6, c7, c8, c9, c10⟩ := hSw; go_simp; try with_reducible rfl)
    try simp only [heldPut, List.set]
    refine heldTake (i := 8) (v := ?_) rfl (by kernel_rfl) (by kernel_rfl) (by kernel_rfl) (fun _ _ _ h => h) (Or.inl ⟨by rfl, ?_⟩) (by assumption) ?_
    rotate_left
    · (intro w hSw; (try dsimp only at hSw); go_simp; try with_reducible rfl)
    try simp only [heldPut, List.set]
    refine heldTake (i := 11) (v := ?_) rfl (by kernel_rfl) (by kernel_rfl) (by kernel_rfl) (fun _ _ _ h => h) (Or.inl ⟨by rfl, ?_⟩) (by assumption) ?_
    rotate_left
    · (intro w hSw; (try dsimp only at hSw); go_simp; try with_reducible rfl)
    try simp only [heldPut, List.set]
    refine heldTake (i := 12) (v := ?_) rfl (by kernel_rfl) (by kernel_rfl) (by kernel_rfl) (fun _ _ _ h => h) (Or.inl ⟨by rfl, ?_⟩) (by assumption) ?_
    rotate_left
    · (intro w hSw; (try dsimp only at hSw); obtain ⟨_, c1, c2, c3, c4, c5, c6, c7, c8, c9, c10⟩ := hSw; go_simp; try with_reducible rfl)
    try simp only [heldPut, List.set]
    refine heldTake (i := 13) (v := ?_) rfl (by kernel_rfl) (by kernel_rfl) (by kernel_rfl) (fun _ _ _ h => h) (Or.inl ⟨by rfl, ?_⟩) (by assumption) ?_
    rotate_left
    · (intro w hSw; (try dsimp only at hSw); go_simp; try with_reducible rfl)
    try simp only [heldPut, List.set]
    refine heldTake (i := 14) (v := ?_) rfl (by kernel_rfl) (by kernel_rfl) (by kernel_rfl) (fun _ _ _ h => h) (Or.inl ⟨by rfl, ?_⟩) (by assumption) ?_
    rotate_left
    · (intro w hSw; (try dsimp only at hSw); go_simp; try with_reducible rfl)
    try simp only [heldPut, List.set]
    refine heldTake (i := 15) (v := ?_) rfl (by kernel_rfl) (by kernel_rfl) (by kernel_rfl) (fun _ _ _ h => h) (Or.inl ⟨by rfl, ?_⟩) (by assumption) ?_
    rotate_left
    · (intro w hSw; (try dsimp only at hSw); obtain ⟨_, c1, c2, c3, c4, c5, c6, c7, c8, c9, c10⟩ := hSw; go_simp; try with_reducible rfl)
    try simp only [heldPut, List.set]
    refine heldTake (i := 16) (v := ?_) rfl (by kernel_rfl) (by kernel_rfl) (by kernel_rfl) (fun _ _ _ h => h) (Or.inl ⟨by rfl, ?_⟩) (by assumption) ?_
    rotate_left
    · (intro w hSw; (try dsimp only at hSw); go_simp; try with_reducible rfl)
    try simp only [heldPut, List.set]
    refine heldTake (i := 17) (v := ?_) rfl (by kernel_rfl) (by kernel_rfl) (by kernel_rfl) (fun _ _ _ h => h) (Or.inl ⟨by rfl, ?_⟩) (by assumption) ?_
    rotate_left
    · (intro w hSw; (try dsimp only at hSw); go_simp; try with_reducible rfl)
    try simp only [heldPut, List.set]
    clear w1 w2 w3 w4
    refine heldTwo (i := 5) (j := 19) rfl rfl (by kernel_rfl) (fun K hK => ?x5) (fun K hK => ?x19)
    case' x5 =>
      go_simp
      refine hK.out _ _ ?_ (fun hHeld => ?_)
      · exact hHeld.keep (by simp) (heap_alloc_old _ _ hHeld.lt)
      clear hK K
      try simp only [heldPut, List.set]
      have hHeld2 : (fun V : World => SmAt V w.heap.size s ∧ V.cell? ⟨W.heap.size, s.r % 4, none⟩ = some (.string (ruleS s.r))) ((W.alloc (.cells #[.string ⟨#[104, 111, 116]⟩, .string ⟨#[99, 111, 108, 100]⟩, .string ⟨#[100, 105, 115, 107, 46, 102, 117, 108, 108]⟩, .string ⟨#[120]⟩] 9)).drew) := ⟨hHeld, (World.cell?_drew _ _).trans (names_cell (heap_alloc_new _ _) s.r)⟩
      clear hHeld
      refine heldMore (S2 := fun V : World => SmAt V w.heap.size s ∧ V.cell? ⟨W.heap.size, s.r % 4, none⟩ = some (.string (ruleS s.r))) (fun _ h => h.1) ?_
      refine heldTake (i := 9) (v := ?_) rfl (by kernel_rfl) (by kernel_rfl) (by kernel_rfl) (fun _ _ _ h => h) (Or.inl ⟨by rfl, ?_⟩) (by assumption) ?_
      rotate_left
      · (intro w hSw; (try dsimp only at hSw); go_simp; try with_reducible rfl)
      try simp only [heldPut, List.set]
      refine heldTake (i := 10) (v := ?_) rfl (by kernel_rfl) (by kernel_rfl) (by kernel_rfl) (fun _ _ _ h => h) (Or.inl ⟨by rfl, ?_⟩) (by assumption) ?_
      rotate_left
      · (intro w hSw; (try dsimp only at hSw); obtain ⟨_, cn⟩ := hSw; go_simp; try with_reducible rfl)
      try simp only [heldPut, List.set]
      refine heldTake (i := 18) (v := ?_) rfl (by kernel_rfl) (by kernel_rfl) (by kernel_rfl) (fun _ _ _ h => h) (Or.inl ⟨by rfl, ?_⟩) (by assumption) ?_
      rotate_left
      · (intro w hSw; (try dsimp only at hSw); go_simp; try with_reducible rfl)
      try simp only [heldPut, List.set]
      refine heldOne (i := 19) rfl (by kernel_rfl) (fun K hK => ?_)
      go_simp
      refine hK.out _ _ ?_ (fun hHeld3 => ?_)
      · exact ⟨hHeld2.1.keep (by simp) (heap_alloc_old _ _ hHeld2.1.lt), (World.cell?_alloc_past _ _ _ (by simp)).trans hHeld2.2⟩
      clear hK K
      try simp only [heldPut, List.set]
      refine heldOne (i := 20) rfl (by kernel_rfl) (fun K hK => ?_)
      go_simp
      refine hK.out _ _ ?_ (fun hHeld9 => ?_)
      · exact ⟨X2.out.keep (by simp; omega) (old_two W _ _ (by have := X4.out; simp at this; omega)), (World.cell?_drew _ _).trans (names_cell (heap_alloc2_old _ _ _) s.r)⟩
      clear hK K
      try simp only [heldPut, List.set]
      refine wpAnyH_done (by kernel_rfl) ?_ _
      refine NoPanic.normal ?_
      clear hHeld9 hHeld2 hHeld3
      go_wp2_with fail
      go_meet
      exact ⟨_, rfl, SmSt.start X1.out X2.out X3.out X4.out (.inl ⟨rfl, rfl⟩)⟩
    case' x19 =>
      go_simp
      refine hK.out _ _ ?_ (fun hHeld => ?_)
      · exact hHeld.keep (by simp) (heap_alloc_old _ _ hHeld.lt)
      clear hK K
      try simp only [heldPut, List.set]
      refine heldOne (i := 5) rfl (by kernel_rfl) (fun K hK => ?_)
      go_simp
      refine hK.out _ _ ?_ (fun hHeld => ?_)
      · exact hHeld.keep (by simp) (heap_alloc_old _ _ hHeld.lt)
      clear hK K
      try simp only [heldPut, List.set]
      have hHeld2 : (fun V : World => SmAt V w.heap.size s ∧ V.cell? ⟨W.heap.size + 1, s.r % 4, none⟩ = some (.string (ruleS s.r))) (((W.alloc (.cells #[.int .u8 0, .int .u64 0, .int .u64 0, .string ⟨#[]⟩, .slice none 0 0, .int .u8 0, .int .u8 0, .int .i64 0, .int .u8 0] 39)).alloc (.cells #[.string ⟨#[104, 111, 116]⟩, .string ⟨#[99, 111, 108, 100]⟩, .string ⟨#[100, 105, 115, 107, 46, 102, 117, 108, 108]⟩, .string ⟨#[120]⟩] 9)).drew) := ⟨hHeld, (World.cell?_drew _ _).trans (names_cell (heap_alloc2_new _ _ _) s.r)⟩
      clear hHeld
      refine heldMore (S2 := fun V : World => SmAt V w.heap.size s ∧ V.cell? ⟨W.heap.size + 1, s.r % 4, none⟩ = some (.string (ruleS s.r))) (fun _ h => h.1) ?_
      refine heldTake (i := 9) (v := ?_) rfl (by kernel_rfl) (by kernel_rfl) (by kernel_rfl) (fun _ _ _ h => h) (Or.inl ⟨by rfl, ?_⟩) (by assumption) ?_
      rotate_left
      · (intro w hSw; (try dsimp only at hSw); go_simp; try with_reducible rfl)
      try simp only [heldPut, List.set]
      refine heldTake (i := 10) (v := ?_) rfl (by kernel_rfl) (by kernel_rfl) (by kernel_rfl) (fun _ _ _ h => h) (Or.inl ⟨by rfl, ?_⟩) (by assumption) ?_
      rotate_left
      · (intro w hSw; (try dsimp only at hSw); obtain ⟨_, cn⟩ := hSw; go_simp; try with_reducible rfl)
      try simp only [heldPut, List.set]
      refine heldTake (i := 18) (v := ?_) rfl (by kernel_rfl) (by kernel_rfl) (by kernel_rfl) (fun _ _ _ h => h) (Or.inl ⟨by rfl, ?_⟩) (by assumption) ?_
      rotate_left
      · (intro w hSw; (try dsimp only at hSw); go_simp; try with_reducible rfl)
      try simp only [heldPut, List.set]
      refine heldOne (i := 20) rfl (by kernel_rfl) (fun K hK => ?_)
      go_simp
      refine hK.out _ _ ?_ (fun hHeld9 => ?_)
      · exact ⟨X2.out.keep (by simp; omega) (old_two W _ _ (by have := X4.out; simp at this; omega)), (World.cell?_drew _ _).trans (names_cell (heap_alloc2_new _ _ _) s.r)⟩
      clear hK K
      try simp only [heldPut, List.set]
      refine wpAnyH_done (by kernel_rfl) ?_ _
      refine NoPanic.normal ?_
      clear hHeld9 hHeld2
      go_wp2_with fail
      go_meet
      exact ⟨_, rfl, SmSt.start X1.out X2.out X3.out X4.out (.inr ⟨rfl, rfl⟩)⟩
  case rest =>
    obtain ⟨E, rfl, hE⟩ := hcut
    clear q1 q2 q3 q4
    have HE := Lib.hid hE
    obtain ⟨_, c1, c2, c3, c4, c5, c6, c7, c8, c9, c10⟩ := hE.sm
    rw [hb.out] at c10
    have e5 : wc.cell? ⟨E, 5, none⟩ = some (.int .u8 0) := cell_of_row _ _ 5 _ _ _ hE.ev
    have f5 : wc.frozen? ⟨E, 5, none⟩ = false := frozen_of_row _ _ _ _ _ hE.ev
    clear hE
    go_upto_if 44 with fail
    go_cut [5] (fun p wx => p = .pointer (some ⟨E, 0, none⟩) ∧ SmSt w wx s E (evV s (ruleS s.r) (.slice none 0 0) (if b then 2 else 0) 0) 39 43)
    case first =>
      cases b with
      | true =>
        go_wp2_with fail
        go_meet
        exact ⟨rfl, HE.out.set 5 (.int .u8 2)⟩
      | false =>
        go_wp2_with fail
        go_meet
        exact ⟨rfl, HE.out⟩
    case rest =>
      clear c1 c2 c3 c4 c5 c6 c7 c8 c9 c10 e5 f5 HE
      obtain ⟨rfl, hE⟩ := hcut
      obtain ⟨z, hz⟩ : ∃ z : Int, (if b then 2 else 0) = z := ⟨_, rfl⟩
      rw [hz] at hE
      have HE := Lib.hid hE
      obtain ⟨_, c1, c2, c3, c4, c5, c6, c7, c8, c9, c10⟩ := hE.sm
      have e3 : wc.cell? ⟨E, 3, none⟩ = some (.string (ruleS s.r)) := cell_of_row _ _ 3 _ _ _ hE.ev
      have e8 : wc.cell? ⟨E, 8, none⟩ = some (.int .u8 0) := cell_of_row _ _ 8 _ _ _ hE.ev
      have f3 : wc.frozen? ⟨E, 3, none⟩ = false := frozen_of_row _ _ _ _ _ hE.ev
      have f8 : wc.frozen? ⟨E, 8, none⟩ = false := frozen_of_row _ _ _ _ _ hE.ev
      clear hE
      have HR : Hid ((ruleS s.r).size ≤ 100) := ruleS_size s.r
      obtain ⟨R0, hR0⟩ : ∃ R0, ruleS s.r = R0 := ⟨_, rfl⟩
      rw [hR0] at HE e3
      go_upto_if 49 with fail
      go_cut [5] (fun p wx => p = .pointer (some ⟨E, 0, none⟩) ∧ SmSt w wx s E (evV s (if s.w % 8 = 7 then ownX else R0) (.slice none 0 0) z (if s.w % 8 = 7 then 1 + (s.w : Int) / 8 % 2 else 0)) 39 43)
      case first =>
        have HI7 : ∀ {α : Type} (x y : α), (if s.w % 8 = 7 then x else y) = if ((s.w : Int) % 8 == 7) = true then x else y := fun x y => by
          by_cases h : s.w % 8 = 7
          · rw [if_pos h, if_pos (by rw [beq_iff_eq]; omega)]
          · rw [if_neg h, if_neg (by rw [beq_iff_eq]; omega)]
        have H7 := Lib.hid (HI7 ownX R0)
        have H8 := Lib.hid (HI7 (1 + (s.w : Int) / 8 % 2) 0)
        clear HI7 hz hR0
        obtain ⟨B, hB⟩ : ∃ B : Bool, ((s.w : Int) % 8 == 7) = B := ⟨_, rfl⟩
        rw [hB] at H7 H8 ⊢
        clear hB
        cases B with
        | true =>
          have k8 : (0 : Int) ≤ (s.w : Int) / 8 % 2 := by omega
          have k9 : (s.w : Int) / 8 % 2 < 2 := by omega
          go_wp2_with fail
          go_meet
          exact ⟨rfl, by rw [H7.out, H8.out]; exact (HE.out.set 8 (.int .u8 (1 + (s.w : Int) / 8 % 2))).set 3 (.string ownX)⟩
        | false =>
          go_wp2_with fail
          go_meet
          exact ⟨rfl, by rw [H7.out, H8.out]; exact HE.out⟩
      case rest =>
        clear c1 c2 c3 c4 c5 c6 c7 c8 c9 c10 e3 e8 f3 f8 HE HR
        obtain ⟨rfl, hE⟩ := hcut
        obtain ⟨ow, how⟩ : ∃ ow : Int, (if s.w % 8 = 7 then 1 + (s.w : Int) / 8 % 2 else 0) = ow := ⟨_, rfl⟩
        obtain ⟨R, hR⟩ : ∃ R, (if s.w % 8 = 7 then ownX else R0) = R := ⟨_, rfl⟩
        rw [how, hR] at hE
        have HZ := Lib.hid hz
        have HO := Lib.hid how
        have HR := Lib.hid hR
        have HR0 := Lib.hid hR0
        clear hz how hR hR0
        have HE := Lib.hid hE
        obtain ⟨_, c1, c2, c3, c4, c5, c6, c7, c8, c9, c10⟩ := hE.sm
        clear hE
        obtain ⟨m, hm⟩ : ∃ m : Nat, s.l % 4 = m := ⟨_, rfl⟩
        have hm4 : m < 4 := by omega
        have hmi : (s.l : Int) % 4 = (m : Int) := by omega
        have HM := Lib.hid hm
        clear hm
        have HN := Lib.hid (World.ownsRow_nil wc (E + 1) 66 2)
        clear c1 c2 c3 c4 c5 c6 c7 c9 c10
        go_wp2_with fail
        rw [hmi]
        clear hmi
        go_loopw [60] (fun iv wr => ∃ (k : Nat) (v : Value), k ≤ m ∧ iv = .int .u8 k ∧ Hid (SmSt w wr s E (evV s R v z ow) 39 43) ∧ Hid (wr.ownsRow (E + 1) 66 2 v k (cellsP (labsS s k)))) (fun iv _ => 4 - (intOf iv).toNat)
        case atStart => exact ⟨0, _, Nat.zero_le _, rfl, HE.out, HN.out⟩
        case round =>
          obtain ⟨k, v, hk, rfl, HS, HV⟩ := hrel
          clear HE HN c8
          by_cases hlt : k < m
          · have hb1 : decide ((k : Int) < (m : Int)) = true := decide_eq_true (by omega)
            have hb2 : decide (k < m) = true := decide_eq_true hlt
            obtain ⟨A, c, rfl⟩ := own_slice HV.out
            have c8 := HS.out.sm.c8
            have e4 : wr.cell? ⟨E, 4, none⟩ = some (.slice A k c) := cell_of_row _ _ 4 _ _ _ HS.out.ev
            have f4 : wr.frozen? ⟨E, 4, none⟩ = false := frozen_of_row _ _ 4 _ _ HS.out.ev
            have hElt := HS.out.lt
            have hsl := HS.out.sm.lt
            have k0 : (s.l : Int) / 4 % 256 = (s.l : Int) / 4 := by have := hs.l; omega
            have k1 : (0 : Int) ≤ (s.l : Int) / 4 % 10 := by omega
            have k2 : (s.l : Int) / 4 % 10 < 10 := by omega
            have hb12 : Below wr.heap.size wr ((wr.alloc (.cells #[.int .u8 (97 + (k : Int))] 5)).alloc (.cells #[.int .u8 (48 + (s.l : Int) / 4 % 10)] 5)) := ((Below.refl _ _).alloc (Nat.le_refl _) _).alloc (by simp) _
            have cv1 : (convert 63 9 (.slice (some ⟨wr.heap.size, 0, none⟩) 1 1)).run Try.prog (wr.alloc (.cells #[.int .u8 (97 + (k : Int))] 5)) = .ok (.string (labS s k).1) (wr.alloc (.cells #[.int .u8 (97 + (k : Int))] 5)) :=
              conv_any (l := [97 + k]) (rdB_one wr 5 (97 + (k : Int)) (97 + k) (by push_cast; rfl)) rfl (fun h => by cases h)
            have cv2 : (convert 63 9 (.slice (some ⟨wr.heap.size + 1, 0, none⟩) 1 1)).run Try.prog ((wr.alloc (.cells #[.int .u8 (97 + (k : Int))] 5)).alloc (.cells #[.int .u8 (48 + (s.l : Int) / 4 % 10)] 5)) = .ok (.string (labS s k).2) ((wr.alloc (.cells #[.int .u8 (97 + (k : Int))] 5)).alloc (.cells #[.int .u8 (48 + (s.l : Int) / 4 % 10)] 5)) := by
              have h := rdB_one (wr.alloc (.cells #[.int .u8 (97 + (k : Int))] 5)) 5 (48 + (s.l : Int) / 4 % 10) (48 + s.l / 4 % 10) (by push_cast; rfl)
              rw [World.size_alloc] at h
              exact conv_any (l := [48 + s.l / 4 % 10]) h rfl (fun h => by cases h)
            have hp : ∀ p : Pr, Below wr.heap.size wr (((wr.alloc (.cells #[.int .u8 (97 + (k : Int))] 5)).alloc (.cells #[.int .u8 (48 + (s.l : Int) / 4 % 10)] 5)).alloc (.cells #[.string p.1, .string p.2] 66)) := fun p => hb12.alloc (by simp; omega) _
            have HV3 := Lib.hid (own_below HV.out (hp (labS s k)))
            have HS3 := Lib.hid (HS.out.below (hp (labS s k)))
            have hnew := heap_alloc_new ((wr.alloc (.cells #[.int .u8 (97 + (k : Int))] 5)).alloc (.cells #[.int .u8 (48 + (s.l : Int) / 4 % 10)] 5)) (.cells #[.string (labS s k).1, .string (labS s k).2] 66)
            rw [show ((wr.alloc (.cells #[.int .u8 (97 + (k : Int))] 5)).alloc (.cells #[.int .u8 (48 + (s.l : Int) / 4 % 10)] 5)).heap.size = wr.heap.size + 2 by simp] at hnew
            have HSrc := Lib.hid (src_pair (p := labS s k) hnew)
            clear hnew
            have hsz3 : (((wr.alloc (.cells #[.int .u8 (97 + (k : Int))] 5)).alloc (.cells #[.int .u8 (48 + (s.l : Int) / 4 % 10)] 5)).alloc (.cells #[.string (labS s k).1, .string (labS s k).2] 66)).heap.size = wr.heap.size + 3 := by simp
            have HZ3 := Lib.hid hsz3
            clear hb12 hp HV HS hsz3
            go_wp2_with (at_builtin; refine wpList_append_src (base := E + 1) rfl _ _ rfl Try.underlying36 hi hz0 hz1 hz2 rfl (by decide) rfl HV3.out rfl HSrc.out (cellsP_one _) (by unfold maxLen; omega) (by omega) (by have := HZ3.out; omega) ?_; intro v2 w4 hr4 hg4 hb4; obtain ⟨A4, c4', rfl⟩ := own_slice hr4; have HS4 := Lib.hid (HS3.out.grown hg4 (fun q hq => (HV3.out.lt q hq).1)); replace hr4 := Lib.hid hr4; clear hg4 hb4; have e44 : w4.cell? ⟨E, 4, none⟩ = some (.slice A k c) := cell_of_row _ _ 4 _ _ _ HS4.out.ev; have f44 : w4.frozen? ⟨E, 4, none⟩ = false := frozen_of_row _ _ 4 _ _ HS4.out.ev)
            refine ⟨⟨k + 1, .slice A4 (k + 1) c4', by omega, by go_num, HS4.out.set 4 _, ?_⟩, by simp [intOf]; omega⟩
            have h := ownsRow_setCell_below hr4.out (a := ⟨E, 4, none⟩) (Nat.lt_succ_self _) (.slice A4 (k + 1) c4')
            rw [← cellsP_append, ← labsS_succ] at h
            exact h
          · obtain rfl : k = m := by omega
            obtain ⟨A, c, rfl⟩ := own_slice HV.out
            have hev : wr.heap[E]? = some (.cells #[.int .u8 ((s.o : Int) % 32), .int .u64 (1 + (s.q : Int)), .int .u64 s.t, .string R, .slice A k c, .int .u8 z, .int .u8 ((s.p : Int) % 8), .int .i64 ((s.v : Int) - 100), .int .u8 ow] 39 (0, 0)) := HS.out.ev
            have hre : wr.heap[w.heap.size + 1]? = some (.cells #[.bool false, .int .u8 0, .int .u64 0, .int .u64 0, .string ⟨#[]⟩, .slice none 0 0, .int .u8 0, .int .u8 0, .int .i64 0, .int .u8 0, .int .u8 0, .int .u64 0, .int .u64 0] 43 (0, 0)) := HS.out.re
            have hlt1 : w.heap.size + 1 < wr.heap.size := by have := HS.out.lo; have := HS.out.lt; omega
            have hof := of_any ((s.o : Int) % 32) (1 + (s.q : Int)) s.t R A k c (labsS s k) z ((s.p : Int) % 8) ((s.v : Int) - 100) ow wr (labsS_length s k).symm (fun h => by subst h; exact (ownP_nil HV.out).1) (by omega) (RdP.of_own HV.out)
            have hb1 : decide ((k : Int) < (k : Int)) = false := decide_eq_false (by omega)
            have HOf := Lib.hid hof
            have HEv := Lib.hid hev
            have HRe := Lib.hid hre
            have HBl := Lib.hid HS.out.bl
            clear hof hev hre HS HV
            go_wp2_with (refine wpList_load_row rfl _ _ rfl E rfl _ _ _ _ HEv.out Try.underlying39 rfl (by kernel_rfl) ?_)
            refine HOf.out.mono ?_
            rintro e w5 ⟨L, rfl, ho, hb5⟩
            obtain ⟨A5, c5, rfl⟩ := own_slice ho
            have HO5 := Lib.hid ho
            have HB5 := Lib.hid (HBl.out.trans (hb5.mono (by omega)))
            have HR5 := Lib.hid ((hb5.block _ hlt1).trans HRe.out)
            clear ho hb5
            go_wp2_with (refine wpList_store_row rfl _ _ _ rfl (w.heap.size + 1) _ rfl rfl _ _ HR5.out Try.infoI rfl (by simp [Value.oneCell']) ?_)
            refine bodyPost_ret (v := .agg #[.bool false, .int .u8 ((s.o : Int) % 32), .int .u64 (1 + (s.q : Int)), .int .u64 s.t, .string R, .slice A5 k c5, .int .u8 z, .int .u8 ((s.p : Int) % 8), .int .i64 ((s.v : Int) - 100), .int .u8 ow, .int .u8 0, .int .u64 0, .int .u64 0]) ?_ rfl ⟨A5, c5, ?_, ?_, ?_⟩
            · exact results_cell_row rfl _ _ (w.heap.size + 1) _ _ _ _ rfl (setRow_heap _ _ _ _ _ _ HR5.out) Try.underlying43 rfl (by kernel_rfl)
            · rw [HM.out, HO.out, HR0.out, HR.out, HZ.out]
            · rw [HM.out]
              exact ownB_mono (own_setRow HO5.out hlt1 _) (by omega)
            · exact below_setRow HB5.out (by omega) _
end Go.Proofs.Ytileaoanekphaaa
