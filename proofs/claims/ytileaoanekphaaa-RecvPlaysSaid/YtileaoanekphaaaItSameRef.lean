/- Layer 4: the document's SameItem. -/
import Derived.Test.YtileaoanekphaaaItSame
import Derived.Test.YtileaoanekphaaaItTwo
namespace Go.Proofs.Ytileaoanekphaaa
open Go.RowKit

/-- a variable of k cells at block X -/
def CellsK (V : World) (X : Nat) (t : TypeId) (k : Nat) : Prop := ∃ cs, V.heap[X]? = some (.cells cs t (0, 0)) ∧ cs.size = k
theorem CellsK.lt {V : World} {X k : Nat} {t : TypeId} (h : CellsK V X t k) : X < V.heap.size := by
  obtain ⟨cs, h1, _⟩ := h
  exact (Array.getElem?_eq_some_iff.1 h1).1
theorem CellsK.below {V V2 : World} {X k : Nat} {t : TypeId} (h : CellsK V X t k) (hb : Below V.heap.size V V2) : CellsK V2 X t k := by
  have hl := h.lt
  obtain ⟨cs, h1, h2⟩ := h
  exact ⟨cs, (hb.block X hl).trans h1, h2⟩
theorem CellsK.other {V : World} {X Y k : Nat} {t : TypeId} (h : CellsK V X t k) (hne : X ≠ Y) (cs : Array Value) : CellsK (V.setRow Y cs) X t k := by
  obtain ⟨c, h1, h2⟩ := h
  exact ⟨c, (setRow_other V Y X cs hne).trans h1, h2⟩
theorem CellsK.same {V : World} {X k : Nat} {t : TypeId} (h : CellsK V X t k) (cs : Array Value) (hs : cs.size = k) : CellsK (V.setRow X cs) X t k := by
  obtain ⟨c, h1, _⟩ := h
  exact ⟨cs, setRow_heap V X c cs t _ h1, hs⟩
theorem CellsK.new {k : Nat} (V : World) (cs : Array Value) (t : TypeId) (hs : cs.size = k) : CellsK (V.alloc (.cells cs t)) V.heap.size t k := ⟨cs, heap_alloc_new _ _, hs⟩
theorem Try.infoE : (Try.prog.info? 39).map (·.size) = some 9 := by kernel_rfl

set_option maxRecDepth 100000 in
set_option maxHeartbeats 4000000 in
theorem refSameE (a b : It) (A : Option Addr) (n c : Nat) (A2 : Option Addr) (n2 c2 : Nat) (w : World) (hn : n = a.l.length) (hn2 : n2 = b.l.length) (hm : n ≤ maxLen) (hr : RdP w w.heap.size A a.l) (hr2 : RdP w w.heap.size A2 b.l) (ha : a.g = false) (hb : b.g = false) :
    Calls Try.prog 18 #[.agg #[.bool a.g, .int .u8 a.o, .int .u64 a.q, .int .u64 a.t, .string a.r, .slice A n c, .int .u8 a.s, .int .u8 a.p, .int .i64 a.v, .int .u8 a.w, .int .u8 a.ga, .int .u64 a.gf, .int .u64 a.gt], .agg #[.bool b.g, .int .u8 b.o, .int .u64 b.q, .int .u64 b.t, .string b.r, .slice A2 n2 c2, .int .u8 b.s, .int .u8 b.p, .int .i64 b.v, .int .u8 b.w, .int .u8 b.ga, .int .u64 b.gf, .int .u64 b.gt]] w fun e w' => e = .returned (.bool (sameEv a b)) ∧ Below w.heap.size w w' := by
  have hba : Below w.heap.size w ((w.alloc (.cells #[.bool a.g, .int .u8 a.o, .int .u64 a.q, .int .u64 a.t, .string a.r, .slice A n c, .int .u8 a.s, .int .u8 a.p, .int .i64 a.v, .int .u8 a.w, .int .u8 a.ga, .int .u64 a.gf, .int .u64 a.gt] 43)).alloc (.cells #[.bool b.g, .int .u8 b.o, .int .u64 b.q, .int .u64 b.t, .string b.r, .slice A2 n2 c2, .int .u8 b.s, .int .u8 b.p, .int .i64 b.v, .int .u8 b.w, .int .u8 b.ga, .int .u64 b.gf, .int .u64 b.gt] 43)) := ((Below.refl _ _).alloc (Nat.le_refl _) _).alloc (by simp) _
  have k1 := heap_alloc2_old w (.cells #[.bool a.g, .int .u8 a.o, .int .u64 a.q, .int .u64 a.t, .string a.r, .slice A n c, .int .u8 a.s, .int .u8 a.p, .int .i64 a.v, .int .u8 a.w, .int .u8 a.ga, .int .u64 a.gf, .int .u64 a.gt] 43) (.cells #[.bool b.g, .int .u8 b.o, .int .u64 b.q, .int .u64 b.t, .string b.r, .slice A2 n2 c2, .int .u8 b.s, .int .u8 b.p, .int .i64 b.v, .int .u8 b.w, .int .u8 b.ga, .int .u64 b.gf, .int .u64 b.gt] 43)
  have k2 := heap_alloc2_new w (.cells #[.bool a.g, .int .u8 a.o, .int .u64 a.q, .int .u64 a.t, .string a.r, .slice A n c, .int .u8 a.s, .int .u8 a.p, .int .i64 a.v, .int .u8 a.w, .int .u8 a.ga, .int .u64 a.gf, .int .u64 a.gt] 43) (.cells #[.bool b.g, .int .u8 b.o, .int .u64 b.q, .int .u64 b.t, .string b.r, .slice A2 n2 c2, .int .u8 b.s, .int .u8 b.p, .int .i64 b.v, .int .u8 b.w, .int .u8 b.ga, .int .u64 b.gf, .int .u64 b.gt] 43)
  have hsz : ((w.alloc (.cells #[.bool a.g, .int .u8 a.o, .int .u64 a.q, .int .u64 a.t, .string a.r, .slice A n c, .int .u8 a.s, .int .u8 a.p, .int .i64 a.v, .int .u8 a.w, .int .u8 a.ga, .int .u64 a.gf, .int .u64 a.gt] 43)).alloc (.cells #[.bool b.g, .int .u8 b.o, .int .u64 b.q, .int .u64 b.t, .string b.r, .slice A2 n2 c2, .int .u8 b.s, .int .u8 b.p, .int .i64 b.v, .int .u8 b.w, .int .u8 b.ga, .int .u64 b.gf, .int .u64 b.gt] 43)).heap.size = w.heap.size + 2 := by simp
  rw [ha] at hba k1 k2 hsz ⊢
  rw [hb] at hba k1 k2 hsz ⊢
  have Hn := Lib.hid hn
  have Hn2 := Lib.hid hn2
  have Hr := Lib.hid hr
  have Hr2 := Lib.hid hr2
  have Hba := Lib.hid hba
  have K1 := Lib.hid k1
  have K2 := Lib.hid k2
  have HZ := Lib.hid hsz
  clear hn hn2 hr hr2 ha hb hba k1 k2 hsz
  go_enter Try.func18, Try.ntmps18
  go_upto_region 5 with fail
  generalize hW : (w.alloc _).alloc _ = W at *
  clear hW
  have C1 := Lib.hid (show ∀ V, Below W.heap.size W V → V.heap[w.heap.size]? = _ from fun V hV => (hV.block _ (by have := HZ.out; omega)).trans K1.out)
  have C2 := Lib.hid (show ∀ V, Below W.heap.size W V → V.heap[w.heap.size + 1]? = _ from fun V hV => (hV.block _ (by have := HZ.out; omega)).trans K2.out)
  go_cut [5, 6] (fun p q wx => ∃ X Y, p = .pointer (some ⟨X, 0, none⟩) ∧ q = .pointer (some ⟨Y, 0, none⟩) ∧ Below W.heap.size W wx ∧ wx.heap[X]? = some (.cells #[.int .u8 a.o, .int .u64 a.q, .int .u64 a.t, .string a.r, .slice A n c, .int .u8 a.s, .int .u8 a.p, .int .i64 a.v, .int .u8 a.w] 39 (0, 0)) ∧ wx.heap[Y]? = some (.cells #[.int .u8 b.o, .int .u64 b.q, .int .u64 b.t, .string b.r, .slice A2 n2 c2, .int .u8 b.s, .int .u8 b.p, .int .i64 b.v, .int .u8 b.w] 39 (0, 0)))
  case first =>
    refine wp_region_noPanic ?_
    refine wp_region_held_drew (S := (fun V => Below W.heap.size W V)) (by kernel_rfl) ?_ (fun hHeld => ?_)
    · exact (Below.refl _ _).drew
    refine heldTake (i := 0) (v := ?_) rfl (by kernel_rfl) (by kernel_rfl) (by kernel_rfl) (fun _ _ _ h => h) (Or.inl ⟨by rfl, ?_⟩) (by assumption) ?_
    rotate_left
    · (intro w hSw; (try dsimp only at hSw); go_simp; try with_reducible rfl)
    try simp only [heldPut, List.set]
    refine heldTake (i := 1) (v := ?_) rfl (by kernel_rfl) (by kernel_rfl) (by kernel_rfl) (fun _ _ _ h => h) (Or.inl ⟨by rfl, ?_⟩) (by assumption) ?_
    rotate_left
    · (intro w hSw; (try dsimp only at hSw); have k1 := cell_of_row _ _ 1 _ _ _ (C1.out _ hSw); have k2 := cell_of_row _ _ 2 _ _ _ (C1.out _ hSw); have k3 := cell_of_row _ _ 3 _ _ _ (C1.out _ hSw); have k4 := cell_of_row _ _ 4 _ _ _ (C1.out _ hSw); have k5 := cell_of_row _ _ 5 _ _ _ (C1.out _ hSw); have k6 := cell_of_row _ _ 6 _ _ _ (C1.out _ hSw); have k7 := cell_of_row _ _ 7 _ _ _ (C1.out _ hSw); have k8 := cell_of_row _ _ 8 _ _ _ (C1.out _ hSw); have k9 := cell_of_row _ _ 9 _ _ _ (C1.out _ hSw); clear hSw; simp at k1 k2 k3 k4 k5 k6 k7 k8 k9; go_simp; try with_reducible rfl)
    try simp only [heldPut, List.set]
    refine heldTake (i := 2) (v := ?_) rfl (by kernel_rfl) (by kernel_rfl) (by kernel_rfl) (fun _ _ _ h => h) (Or.inl ⟨by rfl, ?_⟩) (by assumption) ?_
    rotate_left
    · (intro w hSw; (try dsimp only at hSw); go_simp; try with_reducible rfl)
    try simp only [heldPut, List.set]
    refine heldTake (i := 3) (v := ?_) rfl (by kernel_rfl) (by kernel_rfl) (by kernel_rfl) (fun _ _ _ h => h) (Or.inl ⟨by rfl, ?_⟩) (by assumption) ?_
    rotate_left
    · (intro w hSw; (try dsimp only at hSw); have k1 := cell_of_row _ _ 1 _ _ _ (C2.out _ hSw); have k2 := cell_of_row _ _ 2 _ _ _ (C2.out _ hSw); have k3 := cell_of_row _ _ 3 _ _ _ (C2.out _ hSw); have k4 := cell_of_row _ _ 4 _ _ _ (C2.out _ hSw); have k5 := cell_of_row _ _ 5 _ _ _ (C2.out _ hSw); have k6 := cell_of_row _ _ 6 _ _ _ (C2.out _ hSw); have k7 := cell_of_row _ _ 7 _ _ _ (C2.out _ hSw); have k8 := cell_of_row _ _ 8 _ _ _ (C2.out _ hSw); have k9 := cell_of_row _ _ 9 _ _ _ (C2.out _ hSw); clear hSw; simp at k1 k2 k3 k4 k5 k6 k7 k8 k9; go_simp; try with_reducible rfl)
    try simp only [heldPut, List.set]
    have hz0 : W.heap.size ≤ W.drew.heap.size := Nat.le_refl _
    generalize hw2 : W.drew = w2 at *
    clear hw2
    refine heldTwo (i := 4) (j := 5) rfl rfl (by kernel_rfl) (fun K hK => ?g1_4) (fun K hK => ?g1_5)
    case' g1_4 =>
      have hb2 : Below w2.heap.size w2 (w2.alloc (.cells #[.int .u8 0, .int .u64 0, .int .u64 0, .string ⟨#[]⟩, .slice none 0 0, .int .u8 0, .int .u8 0, .int .i64 0, .int .u8 0] 39)) := (Below.refl _ _).alloc (Nat.le_refl _) _
      go_simp
      refine hK.out _ _ ?_ (fun hh2 => ?_)
      · exact (hHeld.trans (hb2.mono (hHeld.size)))
      clear hK K
      try simp only [heldPut, List.set]
      have hc2 : CellsK (w2.alloc (.cells #[.int .u8 0, .int .u64 0, .int .u64 0, .string ⟨#[]⟩, .slice none 0 0, .int .u8 0, .int .u8 0, .int .i64 0, .int .u8 0] 39)) w2.heap.size 39 9 := CellsK.new _ _ _ rfl
      have hz2 : (w2.alloc (.cells #[.int .u8 0, .int .u64 0, .int .u64 0, .string ⟨#[]⟩, .slice none 0 0, .int .u8 0, .int .u8 0, .int .i64 0, .int .u8 0] 39)).heap.size = w2.heap.size + 1 := by simp
      generalize hV2 : w2.alloc (.cells #[.int .u8 0, .int .u64 0, .int .u64 0, .string ⟨#[]⟩, .slice none 0 0, .int .u8 0, .int .u8 0, .int .i64 0, .int .u8 0] 39) = V2 at *
      clear hV2 hb2
      refine heldMore (S2 := (fun V : World => Below W.heap.size W V ∧ CellsK V w2.heap.size 39 9)) (fun _ h => h.1) ?_
      have hh2' : (fun V : World => Below W.heap.size W V ∧ CellsK V w2.heap.size 39 9) V2 := ⟨hh2, hc2⟩
      clear hh2 hc2
      replace hz2 : w2.heap.size + 1 ≤ V2.heap.size := by omega
      refine heldOne (i := 5) rfl (by kernel_rfl) (fun K hK => ?_)
      have hb4 : Below V2.heap.size V2 (V2.alloc (.cells #[.int .u8 0, .int .u64 0, .int .u64 0, .string ⟨#[]⟩, .slice none 0 0, .int .u8 0, .int .u8 0, .int .i64 0, .int .u8 0] 39)) := (Below.refl _ _).alloc (Nat.le_refl _) _
      go_simp
      refine hK.out _ _ ?_ (fun hh4 => ?_)
      · exact ⟨(hh2'.1.trans (hb4.mono (hh2'.1.size))), (hh2'.2.below hb4)⟩
      clear hK K
      try simp only [heldPut, List.set]
      have hc4 : CellsK (V2.alloc (.cells #[.int .u8 0, .int .u64 0, .int .u64 0, .string ⟨#[]⟩, .slice none 0 0, .int .u8 0, .int .u8 0, .int .i64 0, .int .u8 0] 39)) V2.heap.size 39 9 := CellsK.new _ _ _ rfl
      have hz4 : (V2.alloc (.cells #[.int .u8 0, .int .u64 0, .int .u64 0, .string ⟨#[]⟩, .slice none 0 0, .int .u8 0, .int .u8 0, .int .i64 0, .int .u8 0] 39)).heap.size = V2.heap.size + 1 := by simp
      generalize hV4 : V2.alloc (.cells #[.int .u8 0, .int .u64 0, .int .u64 0, .string ⟨#[]⟩, .slice none 0 0, .int .u8 0, .int .u8 0, .int .i64 0, .int .u8 0] 39) = V4 at *
      clear hV4 hb4
      refine heldMore (S2 := (fun V : World => Below W.heap.size W V ∧ CellsK V w2.heap.size 39 9 ∧ CellsK V V2.heap.size 39 9)) (fun _ h => ⟨h.1, h.2.1⟩) ?_
      have hh4' : (fun V : World => Below W.heap.size W V ∧ CellsK V w2.heap.size 39 9 ∧ CellsK V V2.heap.size 39 9) V4 := ⟨hh4.1, hh4.2, hc4⟩
      clear hh4 hc4
      replace hz4 : V2.heap.size + 1 ≤ V4.heap.size := by omega
      refine heldOne (i := 6) rfl (by kernel_rfl) (fun K hK => ?_)
      rw [if_pos (by rfl)]
      obtain ⟨cs6, hcs6, hsz6⟩ := hh4'.2.1
      refine wp_store_row _ _ _ rfl (w2.heap.size) _ rfl rfl _ _ hcs6 Try.infoE hsz6 (by simp [Value.oneCell']) ?_
      refine hK.out _ _ ?_ (fun hh6 => ?_)
      · exact ⟨(below_setRow hh4'.1 (by omega) _), (hh4'.2.1.same _ rfl), (hh4'.2.2.other (by omega) _)⟩
      clear hK K
      have hX : (V4.setRow (w2.heap.size) #[.int .u8 a.o, .int .u64 a.q, .int .u64 a.t, .string a.r, .slice A n c, .int .u8 a.s, .int .u8 a.p, .int .i64 a.v, .int .u8 a.w]).heap[w2.heap.size]? = some (.cells #[.int .u8 a.o, .int .u64 a.q, .int .u64 a.t, .string a.r, .slice A n c, .int .u8 a.s, .int .u8 a.p, .int .i64 a.v, .int .u8 a.w] 39 (0, 0)) := setRow_heap _ _ _ _ _ _ hcs6
      generalize hV6 : V4.setRow (w2.heap.size) #[.int .u8 a.o, .int .u64 a.q, .int .u64 a.t, .string a.r, .slice A n c, .int .u8 a.s, .int .u8 a.p, .int .i64 a.v, .int .u8 a.w] = V6 at *
      clear hV6 hcs6 hsz6 
      refine heldOne (i := 7) rfl (by kernel_rfl) (fun K hK => ?_)
      rw [if_pos (by rfl)]
      obtain ⟨cs8, hcs8, hsz8⟩ := hh6.2.2
      refine wp_store_row _ _ _ rfl (V2.heap.size) _ rfl rfl _ _ hcs8 Try.infoE hsz8 (by simp [Value.oneCell']) ?_
      refine hK.out _ _ ?_ (fun hh8 => ?_)
      · exact ⟨(below_setRow hh6.1 (by omega) _), (hh6.2.1.other (by omega) _), (hh6.2.2.same _ rfl)⟩
      clear hK K
      have hY : (V6.setRow (V2.heap.size) #[.int .u8 b.o, .int .u64 b.q, .int .u64 b.t, .string b.r, .slice A2 n2 c2, .int .u8 b.s, .int .u8 b.p, .int .i64 b.v, .int .u8 b.w]).heap[V2.heap.size]? = some (.cells #[.int .u8 b.o, .int .u64 b.q, .int .u64 b.t, .string b.r, .slice A2 n2 c2, .int .u8 b.s, .int .u8 b.p, .int .i64 b.v, .int .u8 b.w] 39 (0, 0)) := setRow_heap _ _ _ _ _ _ hcs8
      have hX' : (V6.setRow (V2.heap.size) #[.int .u8 b.o, .int .u64 b.q, .int .u64 b.t, .string b.r, .slice A2 n2 c2, .int .u8 b.s, .int .u8 b.p, .int .i64 b.v, .int .u8 b.w]).heap[w2.heap.size]? = some (.cells #[.int .u8 a.o, .int .u64 a.q, .int .u64 a.t, .string a.r, .slice A n c, .int .u8 a.s, .int .u8 a.p, .int .i64 a.v, .int .u8 a.w] 39 (0, 0)) := (setRow_other _ _ _ _ (by omega)).trans hX
      generalize hV8 : V6.setRow (V2.heap.size) #[.int .u8 b.o, .int .u64 b.q, .int .u64 b.t, .string b.r, .slice A2 n2 c2, .int .u8 b.s, .int .u8 b.p, .int .i64 b.v, .int .u8 b.w] = V8 at *
      clear hV8 hcs8 hsz8 hX
      refine wpAnyH_done (by kernel_rfl) ?_ _
      refine NoPanic.normal ?_
      go_wp2_with fail
      go_meet
      exact ⟨w2.heap.size, V2.heap.size, rfl, rfl, hh8.1, hX', hY⟩
    case' g1_5 =>
      have hb9 : Below w2.heap.size w2 (w2.alloc (.cells #[.int .u8 0, .int .u64 0, .int .u64 0, .string ⟨#[]⟩, .slice none 0 0, .int .u8 0, .int .u8 0, .int .i64 0, .int .u8 0] 39)) := (Below.refl _ _).alloc (Nat.le_refl _) _
      go_simp
      refine hK.out _ _ ?_ (fun hh9 => ?_)
      · exact (hHeld.trans (hb9.mono (hHeld.size)))
      clear hK K
      try simp only [heldPut, List.set]
      have hc9 : CellsK (w2.alloc (.cells #[.int .u8 0, .int .u64 0, .int .u64 0, .string ⟨#[]⟩, .slice none 0 0, .int .u8 0, .int .u8 0, .int .i64 0, .int .u8 0] 39)) w2.heap.size 39 9 := CellsK.new _ _ _ rfl
      have hz9 : (w2.alloc (.cells #[.int .u8 0, .int .u64 0, .int .u64 0, .string ⟨#[]⟩, .slice none 0 0, .int .u8 0, .int .u8 0, .int .i64 0, .int .u8 0] 39)).heap.size = w2.heap.size + 1 := by simp
      generalize hV9 : w2.alloc (.cells #[.int .u8 0, .int .u64 0, .int .u64 0, .string ⟨#[]⟩, .slice none 0 0, .int .u8 0, .int .u8 0, .int .i64 0, .int .u8 0] 39) = V9 at *
      clear hV9 hb9
      refine heldMore (S2 := (fun V : World => Below W.heap.size W V ∧ CellsK V w2.heap.size 39 9)) (fun _ h => h.1) ?_
      have hh9' : (fun V : World => Below W.heap.size W V ∧ CellsK V w2.heap.size 39 9) V9 := ⟨hh9, hc9⟩
      clear hh9 hc9
      replace hz9 : w2.heap.size + 1 ≤ V9.heap.size := by omega
      refine heldOne (i := 4) rfl (by kernel_rfl) (fun K hK => ?_)
      have hb11 : Below V9.heap.size V9 (V9.alloc (.cells #[.int .u8 0, .int .u64 0, .int .u64 0, .string ⟨#[]⟩, .slice none 0 0, .int .u8 0, .int .u8 0, .int .i64 0, .int .u8 0] 39)) := (Below.refl _ _).alloc (Nat.le_refl _) _
      go_simp
      refine hK.out _ _ ?_ (fun hh11 => ?_)
      · exact ⟨(hh9'.1.trans (hb11.mono (hh9'.1.size))), (hh9'.2.below hb11)⟩
      clear hK K
      try simp only [heldPut, List.set]
      have hc11 : CellsK (V9.alloc (.cells #[.int .u8 0, .int .u64 0, .int .u64 0, .string ⟨#[]⟩, .slice none 0 0, .int .u8 0, .int .u8 0, .int .i64 0, .int .u8 0] 39)) V9.heap.size 39 9 := CellsK.new _ _ _ rfl
      have hz11 : (V9.alloc (.cells #[.int .u8 0, .int .u64 0, .int .u64 0, .string ⟨#[]⟩, .slice none 0 0, .int .u8 0, .int .u8 0, .int .i64 0, .int .u8 0] 39)).heap.size = V9.heap.size + 1 := by simp
      generalize hV11 : V9.alloc (.cells #[.int .u8 0, .int .u64 0, .int .u64 0, .string ⟨#[]⟩, .slice none 0 0, .int .u8 0, .int .u8 0, .int .i64 0, .int .u8 0] 39) = V11 at *
      clear hV11 hb11
      refine heldMore (S2 := (fun V : World => Below W.heap.size W V ∧ CellsK V w2.heap.size 39 9 ∧ CellsK V V9.heap.size 39 9)) (fun _ h => ⟨h.1, h.2.1⟩) ?_
      have hh11' : (fun V : World => Below W.heap.size W V ∧ CellsK V w2.heap.size 39 9 ∧ CellsK V V9.heap.size 39 9) V11 := ⟨hh11.1, hh11.2, hc11⟩
      clear hh11 hc11
      replace hz11 : V9.heap.size + 1 ≤ V11.heap.size := by omega
      refine heldOne (i := 6) rfl (by kernel_rfl) (fun K hK => ?_)
      rw [if_pos (by rfl)]
      obtain ⟨cs13, hcs13, hsz13⟩ := hh11'.2.2
      refine wp_store_row _ _ _ rfl (V9.heap.size) _ rfl rfl _ _ hcs13 Try.infoE hsz13 (by simp [Value.oneCell']) ?_
      refine hK.out _ _ ?_ (fun hh13 => ?_)
      · exact ⟨(below_setRow hh11'.1 (by omega) _), (hh11'.2.1.other (by omega) _), (hh11'.2.2.same _ rfl)⟩
      clear hK K
      have hX : (V11.setRow (V9.heap.size) #[.int .u8 a.o, .int .u64 a.q, .int .u64 a.t, .string a.r, .slice A n c, .int .u8 a.s, .int .u8 a.p, .int .i64 a.v, .int .u8 a.w]).heap[V9.heap.size]? = some (.cells #[.int .u8 a.o, .int .u64 a.q, .int .u64 a.t, .string a.r, .slice A n c, .int .u8 a.s, .int .u8 a.p, .int .i64 a.v, .int .u8 a.w] 39 (0, 0)) := setRow_heap _ _ _ _ _ _ hcs13
      generalize hV13 : V11.setRow (V9.heap.size) #[.int .u8 a.o, .int .u64 a.q, .int .u64 a.t, .string a.r, .slice A n c, .int .u8 a.s, .int .u8 a.p, .int .i64 a.v, .int .u8 a.w] = V13 at *
      clear hV13 hcs13 hsz13 
      refine heldOne (i := 7) rfl (by kernel_rfl) (fun K hK => ?_)
      rw [if_pos (by rfl)]
      obtain ⟨cs15, hcs15, hsz15⟩ := hh13.2.1
      refine wp_store_row _ _ _ rfl (w2.heap.size) _ rfl rfl _ _ hcs15 Try.infoE hsz15 (by simp [Value.oneCell']) ?_
      refine hK.out _ _ ?_ (fun hh15 => ?_)
      · exact ⟨(below_setRow hh13.1 (by omega) _), (hh13.2.1.same _ rfl), (hh13.2.2.other (by omega) _)⟩
      clear hK K
      have hY : (V13.setRow (w2.heap.size) #[.int .u8 b.o, .int .u64 b.q, .int .u64 b.t, .string b.r, .slice A2 n2 c2, .int .u8 b.s, .int .u8 b.p, .int .i64 b.v, .int .u8 b.w]).heap[w2.heap.size]? = some (.cells #[.int .u8 b.o, .int .u64 b.q, .int .u64 b.t, .string b.r, .slice A2 n2 c2, .int .u8 b.s, .int .u8 b.p, .int .i64 b.v, .int .u8 b.w] 39 (0, 0)) := setRow_heap _ _ _ _ _ _ hcs15
      have hX' : (V13.setRow (w2.heap.size) #[.int .u8 b.o, .int .u64 b.q, .int .u64 b.t, .string b.r, .slice A2 n2 c2, .int .u8 b.s, .int .u8 b.p, .int .i64 b.v, .int .u8 b.w]).heap[V9.heap.size]? = some (.cells #[.int .u8 a.o, .int .u64 a.q, .int .u64 a.t, .string a.r, .slice A n c, .int .u8 a.s, .int .u8 a.p, .int .i64 a.v, .int .u8 a.w] 39 (0, 0)) := (setRow_other _ _ _ _ (by omega)).trans hX
      generalize hV15 : V13.setRow (w2.heap.size) #[.int .u8 b.o, .int .u64 b.q, .int .u64 b.t, .string b.r, .slice A2 n2 c2, .int .u8 b.s, .int .u8 b.p, .int .i64 b.v, .int .u8 b.w] = V15 at *
      clear hV15 hcs15 hsz15 hX
      refine wpAnyH_done (by kernel_rfl) ?_ _
      refine NoPanic.normal ?_
      go_wp2_with fail
      go_meet
      exact ⟨V9.heap.size, w2.heap.size, rfl, rfl, hh15.1, hX', hY⟩
  case rest =>
    obtain ⟨X, Y, rfl, rfl, hb, hx, hy⟩ := hcut
    have HX := Lib.hid hx
    have HY := Lib.hid hy
    have Hb := Lib.hid (Hba.out.trans (hb.mono Hba.out.size))
    have HR := Lib.hid (RdP.below Hr.out Hb.out)
    have HR2 := Lib.hid (RdP.below Hr2.out Hb.out)
    clear hb hx hy C1 C2 K1 K2 HZ Hba Hr Hr2
    have x0 : wc.cell? ⟨X, 0, none⟩ = some (.int .u8 a.o) := cell_of_row _ _ 0 _ _ _ HX.out
    have x1 : wc.cell? ⟨X, 1, none⟩ = some (.int .u64 a.q) := cell_of_row _ _ 1 _ _ _ HX.out
    have x2 : wc.cell? ⟨X, 2, none⟩ = some (.int .u64 a.t) := cell_of_row _ _ 2 _ _ _ HX.out
    have x3 : wc.cell? ⟨X, 3, none⟩ = some (.string a.r) := cell_of_row _ _ 3 _ _ _ HX.out
    have x4 : wc.cell? ⟨X, 4, none⟩ = some (.slice A n c) := cell_of_row _ _ 4 _ _ _ HX.out
    have x5 : wc.cell? ⟨X, 5, none⟩ = some (.int .u8 a.s) := cell_of_row _ _ 5 _ _ _ HX.out
    have x6 : wc.cell? ⟨X, 6, none⟩ = some (.int .u8 a.p) := cell_of_row _ _ 6 _ _ _ HX.out
    have x7 : wc.cell? ⟨X, 7, none⟩ = some (.int .i64 a.v) := cell_of_row _ _ 7 _ _ _ HX.out
    have x8 : wc.cell? ⟨X, 8, none⟩ = some (.int .u8 a.w) := cell_of_row _ _ 8 _ _ _ HX.out
    have y0 : wc.cell? ⟨Y, 0, none⟩ = some (.int .u8 b.o) := cell_of_row _ _ 0 _ _ _ HY.out
    have y1 : wc.cell? ⟨Y, 1, none⟩ = some (.int .u64 b.q) := cell_of_row _ _ 1 _ _ _ HY.out
    have y2 : wc.cell? ⟨Y, 2, none⟩ = some (.int .u64 b.t) := cell_of_row _ _ 2 _ _ _ HY.out
    have y3 : wc.cell? ⟨Y, 3, none⟩ = some (.string b.r) := cell_of_row _ _ 3 _ _ _ HY.out
    have y4 : wc.cell? ⟨Y, 4, none⟩ = some (.slice A2 n2 c2) := cell_of_row _ _ 4 _ _ _ HY.out
    have y5 : wc.cell? ⟨Y, 5, none⟩ = some (.int .u8 b.s) := cell_of_row _ _ 5 _ _ _ HY.out
    have y6 : wc.cell? ⟨Y, 6, none⟩ = some (.int .u8 b.p) := cell_of_row _ _ 6 _ _ _ HY.out
    have y7 : wc.cell? ⟨Y, 7, none⟩ = some (.int .i64 b.v) := cell_of_row _ _ 7 _ _ _ HY.out
    have y8 : wc.cell? ⟨Y, 8, none⟩ = some (.int .u8 b.w) := cell_of_row _ _ 8 _ _ _ HY.out
    clear HX HY
    by_cases ho : a.o = b.o
    case' neg =>
      have ko : ((a.o : Int) == (b.o : Int)) = false := by rw [beq_eq_false_iff_ne]; omega
      have HN : Hid (sameEv a b = false) := sameEv_no (fun e => ho e.1)
      clear ho
      go_wp2
      go_ret
      exact ⟨by rw [HN.out]; rfl, Hb.out⟩
    case' pos =>
      have ko : ((a.o : Int) == (b.o : Int)) = true := by rw [beq_iff_eq]; omega
      by_cases hq : a.q = b.q
      case' neg =>
        have kq : ((a.q : Int) == (b.q : Int)) = false := by rw [beq_eq_false_iff_ne]; omega
        have HN : Hid (sameEv a b = false) := sameEv_no (fun e => hq e.2.1)
        clear ho hq
        go_wp2
        go_ret
        exact ⟨by rw [HN.out]; rfl, Hb.out⟩
      case' pos =>
        have kq : ((a.q : Int) == (b.q : Int)) = true := by rw [beq_iff_eq]; omega
        by_cases ht : a.t = b.t
        case' neg =>
          have kt : ((a.t : Int) == (b.t : Int)) = false := by rw [beq_eq_false_iff_ne]; omega
          have HN : Hid (sameEv a b = false) := sameEv_no (fun e => ht e.2.2.1)
          clear ho hq ht
          go_wp2
          go_ret
          exact ⟨by rw [HN.out]; rfl, Hb.out⟩
        case' pos =>
          have kt : ((a.t : Int) == (b.t : Int)) = true := by rw [beq_iff_eq]; omega
          by_cases hr : a.r = b.r
          case' neg =>
            have kr : (a.r.toList == b.r.toList) = false := str_ne hr
            have HN : Hid (sameEv a b = false) := sameEv_no (fun e => hr e.2.2.2.1)
            clear ho hq ht hr
            go_wp2
            go_ret
            exact ⟨by rw [HN.out]; rfl, Hb.out⟩
          case' pos =>
            have kr : (a.r.toList == b.r.toList) = true := str_eq hr
            by_cases hs : a.s = b.s
            case' neg =>
              have ks : ((a.s : Int) == (b.s : Int)) = false := by rw [beq_eq_false_iff_ne]; omega
              have HN : Hid (sameEv a b = false) := sameEv_no (fun e => hs e.2.2.2.2.1)
              clear ho hq ht hr hs
              go_wp2
              go_ret
              exact ⟨by rw [HN.out]; rfl, Hb.out⟩
            case' pos =>
              have ks : ((a.s : Int) == (b.s : Int)) = true := by rw [beq_iff_eq]; omega
              by_cases hp : a.p = b.p
              case' neg =>
                have kp : ((a.p : Int) == (b.p : Int)) = false := by rw [beq_eq_false_iff_ne]; omega
                have HN : Hid (sameEv a b = false) := sameEv_no (fun e => hp e.2.2.2.2.2.1)
                clear ho hq ht hr hs hp
                go_wp2
                go_ret
                exact ⟨by rw [HN.out]; rfl, Hb.out⟩
              case' pos =>
                have kp : ((a.p : Int) == (b.p : Int)) = true := by rw [beq_iff_eq]; omega
                by_cases hv : a.v = b.v
                case' neg =>
                  have kv : (a.v == b.v) = false := by rw [beq_eq_false_iff_ne]; exact hv
                  have HN : Hid (sameEv a b = false) := sameEv_no (fun e => hv e.2.2.2.2.2.2.1)
                  clear ho hq ht hr hs hp hv
                  go_wp2
                  go_ret
                  exact ⟨by rw [HN.out]; rfl, Hb.out⟩
                case' pos =>
                  have kv : (a.v == b.v) = true := by rw [beq_iff_eq]; exact hv
                  by_cases hw : a.w = b.w
                  case' neg =>
                    have kw : ((a.w : Int) == (b.w : Int)) = false := by rw [beq_eq_false_iff_ne]; omega
                    have HN : Hid (sameEv a b = false) := sameEv_no (fun e => hw e.2.2.2.2.2.2.2.1)
                    clear ho hq ht hr hs hp hv hw
                    go_wp2
                    go_ret
                    exact ⟨by rw [HN.out]; rfl, Hb.out⟩
                  case' pos =>
                    have kw : ((a.w : Int) == (b.w : Int)) = true := by rw [beq_iff_eq]; omega
                    have HN : Hid (sameEv a b = decide (a.l = b.l)) := sameEv_labs ⟨ho, hq, ht, hr, hs, hp, hv, hw⟩
                    clear ho hq ht hr hs hp hv hw
                    go_wp2_with fail
                    refine (rsame_any A n c a.l A2 n2 c2 b.l _ w.heap.size Hn.out Hn2.out hm HR.out HR2.out).mono ?_
                    rintro e w3 ⟨rfl, q, rfl⟩
                    go_wp2
                    go_ret
                    exact ⟨by rw [HN.out]; rfl, cbelow_drewN Hb.out q⟩

set_option maxRecDepth 100000 in
set_option maxHeartbeats 1000000 in
theorem refSame_any (a b : It) (A : Option Addr) (n c : Nat) (A2 : Option Addr) (n2 c2 : Nat) (w : World) (hn : n = a.l.length) (hn2 : n2 = b.l.length) (hm : n ≤ maxLen) (hr : RdP w w.heap.size A a.l) (hr2 : RdP w w.heap.size A2 b.l) :
    Calls Try.prog 18 #[.agg #[.bool a.g, .int .u8 a.o, .int .u64 a.q, .int .u64 a.t, .string a.r, .slice A n c, .int .u8 a.s, .int .u8 a.p, .int .i64 a.v, .int .u8 a.w, .int .u8 a.ga, .int .u64 a.gf, .int .u64 a.gt], .agg #[.bool b.g, .int .u8 b.o, .int .u64 b.q, .int .u64 b.t, .string b.r, .slice A2 n2 c2, .int .u8 b.s, .int .u8 b.p, .int .i64 b.v, .int .u8 b.w, .int .u8 b.ga, .int .u64 b.gf, .int .u64 b.gt]] w fun e w' => e = .returned (.bool (sameI a b)) ∧ Below w.heap.size w w' := by
  by_cases h : a.g = false ∧ b.g = false
  · refine (refSameE a b A n c A2 n2 c2 w hn hn2 hm hr hr2 h.1 h.2).mono fun e w' he => ⟨?_, he.2⟩
    rw [he.1]
    unfold sameI
    rw [h.1, h.2]
    rfl
  · clear hn hn2 hr hr2
    obtain ⟨x, hx⟩ : ∃ x, a.g = x := ⟨_, rfl⟩
    obtain ⟨y, hy⟩ : ∃ y, b.g = y := ⟨_, rfl⟩
    have HN : Hid (sameI a b = if x != y then false else if x then sameG a b else sameEv a b) := by show _ = _; unfold sameI; rw [hx, hy]
    rw [hx, hy] at h ⊢
    clear hx hy
    have hG := run_eqlG a b
    cases x <;> cases y
    · exact absurd ⟨rfl, rfl⟩ h
    · clear h
      go_enter Try.func18, Try.ntmps18
      go_wp2
      go_ret
      exact ⟨by rw [HN.out]; rfl, ((Below.refl w.heap.size w).alloc (Nat.le_refl _) _).alloc (by simp) _⟩
    · clear h
      go_enter Try.func18, Try.ntmps18
      go_wp2
      go_ret
      exact ⟨by rw [HN.out]; rfl, ((Below.refl w.heap.size w).alloc (Nat.le_refl _) _).alloc (by simp) _⟩
    · clear h
      go_enter Try.func18, Try.ntmps18
      go_wp2
      go_ret
      exact ⟨by rw [HN.out]; rfl, ((Below.refl w.heap.size w).alloc (Nat.le_refl _) _).alloc (by simp) _⟩
end Go.Proofs.Ytileaoanekphaaa
