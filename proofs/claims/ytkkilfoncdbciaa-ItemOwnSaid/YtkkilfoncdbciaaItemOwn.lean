/- The walk of watchfirelaw04.ItemOwn. -/
import Derived.Test.YtkkilfoncdbciaaItTwo
import Derived.Test.YtkkilfoncdbciaaItClone
import Derived.Test.YtkkilfoncdbciaaItGet2
import Derived.Test.YtkkilfoncdbciaaItEnc
import Derived.Test.YtkkilfoncdbciaaItBytesOk
import Derived.Deep.DeepCutAuto
namespace Go.Proofs.Ytkkilfoncdbciaa.itemOwn
open Go.RowKit Go.Proofs.Ytkkilfoncdbciaa

theorem smallI_sizes (s : Sm) (i : Nat) (p : Pr) (h : (smallI s).l[i]? = some p) : p.1.size ≤ 100 ∧ p.2.size ≤ 100 := by
  cases hg : s.g with
  | true => rw [smallI_gap s hg] at h; simp at h
  | false =>
    rw [smallI_ev s hg] at h
    obtain ⟨h1, h2⟩ := labsS_get s _ i p h
    omega
theorem conv_own {w : World} {base : Nat} {v : Value} {l : List Nat} (h : w.ownsRow base 5 1 v l.length (cellsB l)) :
    (convert 41 9 v).run Try.prog w = .ok (.string (strB l)) w := by
  obtain ⟨A, c, rfl⟩ := own_slice h
  refine conv_any (RdB.of_own h) rfl (fun hA => ?_)
  subst hA
  rcases h.2 with ⟨_, e⟩ | ⟨g, cap, cur, e, _⟩
  · exact e
  · injection e with e1 _ _; cases e1
/-- the row of labels that is written over: some block newer than W0, another one than Z, with room -/
def RowAt (W0 : World) (Z : Nat) (A : Option Addr) (n : Nat) (W : World) : Prop :=
  0 < n → ∃ g cur, A = some ⟨g, 0, none⟩ ∧ W0.heap.size ≤ g ∧ g ≠ Z ∧ W.heap[g]? = some (.cells cur 61 (0, 0)) ∧ n * 2 ≤ cur.size
theorem same_self (x : It) (A : Option Addr) (n c : Nat) (A2 : Option Addr) (n2 c2 : Nat) (w : World) (hn : n = x.l.length) (hn2 : n2 = x.l.length) (hm : n ≤ maxLen) (hr : RdP w w.heap.size A x.l) (hr2 : RdP w w.heap.size A2 x.l) :
    Calls Try.prog 27 #[.agg #[.bool x.g, .int .u8 x.o, .int .u64 x.q, .int .u64 x.t, .string x.r, .slice A n c, .int .u8 x.s, .int .u8 x.p, .int .i64 x.v, .int .u8 x.w, .int .u8 x.ga, .int .u64 x.gf, .int .u64 x.gt], .agg #[.bool x.g, .int .u8 x.o, .int .u64 x.q, .int .u64 x.t, .string x.r, .slice A2 n2 c2, .int .u8 x.s, .int .u8 x.p, .int .i64 x.v, .int .u8 x.w, .int .u8 x.ga, .int .u64 x.gf, .int .u64 x.gt]] w fun e w' => e = .returned (.bool true) ∧ Below w.heap.size w w' :=
  (itemSame_any x x A n c A2 n2 c2 w hn hn2 hm hr hr2).mono fun e w' h => ⟨by rw [h.1, sameI_refl], h.2⟩
theorem same_as (x y : It) (b : Bool) (hb : sameI x y = b) (A : Option Addr) (n c : Nat) (A2 : Option Addr) (n2 c2 : Nat) (w : World) (hn : n = x.l.length) (hn2 : n2 = y.l.length) (hm : n ≤ maxLen) (hr : RdP w w.heap.size A x.l) (hr2 : RdP w w.heap.size A2 y.l) :
    Calls Try.prog 27 #[.agg #[.bool x.g, .int .u8 x.o, .int .u64 x.q, .int .u64 x.t, .string x.r, .slice A n c, .int .u8 x.s, .int .u8 x.p, .int .i64 x.v, .int .u8 x.w, .int .u8 x.ga, .int .u64 x.gf, .int .u64 x.gt], .agg #[.bool y.g, .int .u8 y.o, .int .u64 y.q, .int .u64 y.t, .string y.r, .slice A2 n2 c2, .int .u8 y.s, .int .u8 y.p, .int .i64 y.v, .int .u8 y.w, .int .u8 y.ga, .int .u64 y.gf, .int .u64 y.gt]] w fun e w' => e = .returned (.bool b) ∧ Below w.heap.size w w' :=
  (itemSame_any x y A n c A2 n2 c2 w hn hn2 hm hr hr2).mono fun e w' h => ⟨by rw [h.1, hb], h.2⟩

set_option maxRecDepth 100000 in
set_option maxHeartbeats 8000000 in
theorem walk (s t : Sm) (hs : OkS s) (ht : OkS t) (z : Int) (w : World) :
    Calls Try.prog 6 #[.agg #[.bool s.g, .int .u8 s.o, .int .u8 s.p, .int .u8 s.w, .int .u16 s.q, .int .u16 s.m, .int .u16 s.t, .int .u8 s.r, .int .u8 s.l, .int .u8 s.v, .bool s.s], .agg #[.bool t.g, .int .u8 t.o, .int .u8 t.p, .int .u8 t.w, .int .u16 t.q, .int .u16 t.m, .int .u16 t.t, .int .u8 t.r, .int .u8 t.l, .int .u8 t.v, .bool t.s], .int .u8 z] w fun e w' => e = .returned (.bool true) ∧ Below w.heap.size w w' := by
  have hba : Below w.heap.size w ((w.alloc (.cells #[.bool s.g, .int .u8 s.o, .int .u8 s.p, .int .u8 s.w, .int .u16 s.q, .int .u16 s.m, .int .u16 s.t, .int .u8 s.r, .int .u8 s.l, .int .u8 s.v, .bool s.s] 33)).alloc (.cells #[.bool t.g, .int .u8 t.o, .int .u8 t.p, .int .u8 t.w, .int .u16 t.q, .int .u16 t.m, .int .u16 t.t, .int .u8 t.r, .int .u8 t.l, .int .u8 t.v, .bool t.s] 33)) := ((Below.refl _ _).alloc (Nat.le_refl _) _).alloc (by simp) _
  have K0 := Lib.hid (heap_alloc2_old w (.cells #[.bool s.g, .int .u8 s.o, .int .u8 s.p, .int .u8 s.w, .int .u16 s.q, .int .u16 s.m, .int .u16 s.t, .int .u8 s.r, .int .u8 s.l, .int .u8 s.v, .bool s.s] 33) (.cells #[.bool t.g, .int .u8 t.o, .int .u8 t.p, .int .u8 t.w, .int .u16 t.q, .int .u16 t.m, .int .u16 t.t, .int .u8 t.r, .int .u8 t.l, .int .u8 t.v, .bool t.s] 33))
  have K1 := Lib.hid (heap_alloc2_new w (.cells #[.bool s.g, .int .u8 s.o, .int .u8 s.p, .int .u8 s.w, .int .u16 s.q, .int .u16 s.m, .int .u16 s.t, .int .u8 s.r, .int .u8 s.l, .int .u8 s.v, .bool s.s] 33) (.cells #[.bool t.g, .int .u8 t.o, .int .u8 t.p, .int .u8 t.w, .int .u16 t.q, .int .u16 t.m, .int .u16 t.t, .int .u8 t.r, .int .u8 t.l, .int .u8 t.v, .bool t.s] 33))
  have Hba := Lib.hid hba
  have HS1 := Lib.hid hs
  have HS2 := Lib.hid ht
  obtain ⟨x, hx⟩ : ∃ x, smallI s = x := ⟨_, rfl⟩
  obtain ⟨y, hy⟩ : ∃ y, smallI t = y := ⟨_, rfl⟩
  have HX1 := Lib.hid hx
  have HX2 := Lib.hid hy
  clear hba hs ht hx hy
  go_enter Try.func6, Try.ntmps6
  go_wp2_with fail
  refine (iawake_any _).mono ?_
  rintro e w1 ⟨rfl, hb1⟩
  have HC1 : Hid (∀ V, Below w1.heap.size w1 V → V.heap[w.heap.size]? = some (.cells #[.bool s.g, .int .u8 s.o, .int .u8 s.p, .int .u8 s.w, .int .u16 s.q, .int .u16 s.m, .int .u16 s.t, .int .u8 s.r, .int .u8 s.l, .int .u8 s.v, .bool s.s] 33 (0, 0))) := fun V hV => (hV.block _ (by have := hb1.size; simp at this; omega)).trans ((hb1.block _ (by simp; omega)).trans K0.out)
  have HC2 : Hid (∀ V, Below w1.heap.size w1 V → V.heap[w.heap.size + 1]? = some (.cells #[.bool t.g, .int .u8 t.o, .int .u8 t.p, .int .u8 t.w, .int .u16 t.q, .int .u16 t.m, .int .u16 t.t, .int .u8 t.r, .int .u8 t.l, .int .u8 t.v, .bool t.s] 33 (0, 0))) := fun V hV => (hV.block _ (by have := hb1.size; simp at this; omega)).trans ((hb1.block _ (by simp)).trans K1.out)
  have Hb1 := Lib.hid (Hba.out.trans (hb1.mono Hba.out.size))
  have hw1 := Hb1.out.size
  clear hb1 K0 K1 Hba
  go_upto_region 3 with fail
  go_cut [7, 8] (fun p q wx => ∃ X Y A n c A2 n2 c2, p = .pointer (some ⟨X, 0, none⟩) ∧ q = .pointer (some ⟨Y, 0, none⟩) ∧ XY w wx x y X Y A n c A2 n2 c2 30 61)
  case first =>
    refine wp_region_noPanic ?_
    refine wp_region_held_drew (S := (fun V => Below w1.heap.size w1 V)) (by kernel_rfl) ?_ (fun hHeld => ?_)
    · exact (Below.refl _ _).drew
    refine heldTake (i := 0) (v := ?_) rfl (by kernel_rfl) (by kernel_rfl) (by kernel_rfl) (fun _ _ _ h => h) (Or.inl ⟨by rfl, ?_⟩) (by assumption) ?_
    rotate_left
    · (intro w hSw; (try dsimp only at hSw); have k0 := cell_of_row _ _ 0 _ _ _ (HC1.out _ hSw); have k1 := cell_of_row _ _ 1 _ _ _ (HC1.out _ hSw); have k2 := cell_of_row _ _ 2 _ _ _ (HC1.out _ hSw); have k3 := cell_of_row _ _ 3 _ _ _ (HC1.out _ hSw); have k4 := cell_of_row _ _ 4 _ _ _ (HC1.out _ hSw); have k5 := cell_of_row _ _ 5 _ _ _ (HC1.out _ hSw); have k6 := cell_of_row _ _ 6 _ _ _ (HC1.out _ hSw); have k7 := cell_of_row _ _ 7 _ _ _ (HC1.out _ hSw); have k8 := cell_of_row _ _ 8 _ _ _ (HC1.out _ hSw); have k9 := cell_of_row _ _ 9 _ _ _ (HC1.out _ hSw); have k10 := cell_of_row _ _ 10 _ _ _ (HC1.out _ hSw); clear hSw; simp at k0 k1 k2 k3 k4 k5 k6 k7 k8 k9 k10; go_simp; try with_reducible rfl)
    try simp only [heldPut, List.set]
    refine heldTake (i := 2) (v := ?_) rfl (by kernel_rfl) (by kernel_rfl) (by kernel_rfl) (fun _ _ _ h => h) (Or.inl ⟨by rfl, ?_⟩) (by assumption) ?_
    rotate_left
    · (intro w hSw; (try dsimp only at hSw); have k0 := cell_of_row _ _ 0 _ _ _ (HC2.out _ hSw); have k1 := cell_of_row _ _ 1 _ _ _ (HC2.out _ hSw); have k2 := cell_of_row _ _ 2 _ _ _ (HC2.out _ hSw); have k3 := cell_of_row _ _ 3 _ _ _ (HC2.out _ hSw); have k4 := cell_of_row _ _ 4 _ _ _ (HC2.out _ hSw); have k5 := cell_of_row _ _ 5 _ _ _ (HC2.out _ hSw); have k6 := cell_of_row _ _ 6 _ _ _ (HC2.out _ hSw); have k7 := cell_of_row _ _ 7 _ _ _ (HC2.out _ hSw); have k8 := cell_of_row _ _ 8 _ _ _ (HC2.out _ hSw); have k9 := cell_of_row _ _ 9 _ _ _ (HC2.out _ hSw); have k10 := cell_of_row _ _ 10 _ _ _ (HC2.out _ hSw); clear hSw; simp at k0 k1 k2 k3 k4 k5 k6 k7 k8 k9 k10; go_simp; try with_reducible rfl)
    try simp only [heldPut, List.set]
    have hz0 : w1.heap.size ≤ w1.drew.heap.size := Nat.le_refl _
    generalize hw2 : w1.drew = w2 at *
    clear hw2
    refine heldThree (i := 1) (j := 4) (k := 5) rfl rfl rfl (by kernel_rfl) (fun K hK => ?g1_1) (fun K hK => ?g1_4) (fun K hK => ?g1_5)
    case' g1_1 =>
      go_simp
      refine (smallItem_as HX1.out HS1.out _).mono ?_
      rintro e V2 ⟨A1, n1, c1, rfl, hn1, ho1, hb2⟩
      have HN1 := Lib.hid hn1
      clear hn1
      go_wp2_with fail
      refine hK.out _ _ ?_ (fun hh2 => ?_)
      · exact (hHeld.trans (hb2.mono (hHeld.size)))
      clear hK K
      try simp only [heldPut, List.set]
      have hz2 := hb2.size
      have HL1 : Hid (∀ k, (Value.slice A1 n1 c1).ownBlock = some k → w2.heap.size ≤ k ∧ k < V2.heap.size) := fun k e => ho1.lt k e
      refine heldMore (S2 := (fun V : World => Below w1.heap.size w1 V ∧ V.ownsRow w2.heap.size 61 2 (.slice A1 n1 c1) n1 (cellsP x.l))) (fun _ h => h.1) ?_
      have hh2' : (fun V : World => Below w1.heap.size w1 V ∧ V.ownsRow w2.heap.size 61 2 (.slice A1 n1 c1) n1 (cellsP x.l)) V2 := ⟨hh2, ho1⟩
      clear hh2 ho1 hb2
      refine heldThree (i := 3) (j := 4) (k := 5) rfl rfl rfl (by kernel_rfl) (fun K hK => ?g3_3) (fun K hK => ?g3_4) (fun K hK => ?g3_5)
      case' g3_3 =>
        go_simp
        refine (smallItem_as HX2.out HS2.out _).mono ?_
        rintro e V4 ⟨A2, n2, c2, rfl, hn2, ho2, hb4⟩
        have HN2 := Lib.hid hn2
        clear hn2
        go_wp2_with fail
        refine hK.out _ _ ?_ (fun hh4 => ?_)
        · exact ⟨(hh2'.1.trans (hb4.mono (hh2'.1.size))), (own_below hh2'.2 hb4)⟩
        clear hK K
        try simp only [heldPut, List.set]
        have hz4 := hb4.size
        have HL2 : Hid (∀ k, (Value.slice A2 n2 c2).ownBlock = some k → V2.heap.size ≤ k ∧ k < V4.heap.size) := fun k e => ho2.lt k e
        refine heldMore (S2 := (fun V : World => Below w1.heap.size w1 V ∧ V.ownsRow w2.heap.size 61 2 (.slice A1 n1 c1) n1 (cellsP x.l) ∧ V.ownsRow V2.heap.size 61 2 (.slice A2 n2 c2) n2 (cellsP y.l))) (fun _ h => ⟨h.1, h.2.1⟩) ?_
        have hh4' : (fun V : World => Below w1.heap.size w1 V ∧ V.ownsRow w2.heap.size 61 2 (.slice A1 n1 c1) n1 (cellsP x.l) ∧ V.ownsRow V2.heap.size 61 2 (.slice A2 n2 c2) n2 (cellsP y.l)) V4 := ⟨hh4.1, hh4.2, ho2⟩
        clear hh4 ho2 hb4
        refine heldTwo (i := 4) (j := 5) rfl rfl (by kernel_rfl) (fun K hK => ?g5_4) (fun K hK => ?g5_5)
        case' g5_4 =>
          have hb6 : Below V4.heap.size V4 (V4.alloc (.cells #[.bool false, .int .u8 0, .int .u64 0, .int .u64 0, .string ⟨#[]⟩, .slice none 0 0, .int .u8 0, .int .u8 0, .int .i64 0, .int .u8 0, .int .u8 0, .int .u64 0, .int .u64 0] 30)) := (Below.refl _ _).alloc (Nat.le_refl _) _
          go_simp
          refine hK.out _ _ ?_ (fun hh6 => ?_)
          · exact ⟨(hh4'.1.trans (hb6.mono (hh4'.1.size))), (own_below hh4'.2.1 hb6), (own_below hh4'.2.2 hb6)⟩
          clear hK K
          try simp only [heldPut, List.set]
          have hc6 : CellsAt (V4.alloc (.cells #[.bool false, .int .u8 0, .int .u64 0, .int .u64 0, .string ⟨#[]⟩, .slice none 0 0, .int .u8 0, .int .u8 0, .int .i64 0, .int .u8 0, .int .u8 0, .int .u64 0, .int .u64 0] 30)) V4.heap.size 30 := CellsAt.new _ _ _ rfl
          have hz6 : (V4.alloc (.cells #[.bool false, .int .u8 0, .int .u64 0, .int .u64 0, .string ⟨#[]⟩, .slice none 0 0, .int .u8 0, .int .u8 0, .int .i64 0, .int .u8 0, .int .u8 0, .int .u64 0, .int .u64 0] 30)).heap.size = V4.heap.size + 1 := by simp
          generalize hV6 : V4.alloc (.cells #[.bool false, .int .u8 0, .int .u64 0, .int .u64 0, .string ⟨#[]⟩, .slice none 0 0, .int .u8 0, .int .u8 0, .int .i64 0, .int .u8 0, .int .u8 0, .int .u64 0, .int .u64 0] 30) = V6 at *
          clear hV6 hb6
          refine heldMore (S2 := (fun V : World => Below w1.heap.size w1 V ∧ V.ownsRow w2.heap.size 61 2 (.slice A1 n1 c1) n1 (cellsP x.l) ∧ V.ownsRow V2.heap.size 61 2 (.slice A2 n2 c2) n2 (cellsP y.l) ∧ CellsAt V V4.heap.size 30)) (fun _ h => ⟨h.1, h.2.1, h.2.2.1⟩) ?_
          have hh6' : (fun V : World => Below w1.heap.size w1 V ∧ V.ownsRow w2.heap.size 61 2 (.slice A1 n1 c1) n1 (cellsP x.l) ∧ V.ownsRow V2.heap.size 61 2 (.slice A2 n2 c2) n2 (cellsP y.l) ∧ CellsAt V V4.heap.size 30) V6 := ⟨hh6.1, hh6.2.1, hh6.2.2, hc6⟩
          clear hh6 hc6
          replace hz6 : V4.heap.size + 1 ≤ V6.heap.size := by omega
          refine heldOne (i := 5) rfl (by kernel_rfl) (fun K hK => ?_)
          have hb8 : Below V6.heap.size V6 (V6.alloc (.cells #[.bool false, .int .u8 0, .int .u64 0, .int .u64 0, .string ⟨#[]⟩, .slice none 0 0, .int .u8 0, .int .u8 0, .int .i64 0, .int .u8 0, .int .u8 0, .int .u64 0, .int .u64 0] 30)) := (Below.refl _ _).alloc (Nat.le_refl _) _
          go_simp
          refine hK.out _ _ ?_ (fun hh8 => ?_)
          · exact ⟨(hh6'.1.trans (hb8.mono (hh6'.1.size))), (own_below hh6'.2.1 hb8), (own_below hh6'.2.2.1 hb8), (hh6'.2.2.2.below hb8)⟩
          clear hK K
          try simp only [heldPut, List.set]
          have hc8 : CellsAt (V6.alloc (.cells #[.bool false, .int .u8 0, .int .u64 0, .int .u64 0, .string ⟨#[]⟩, .slice none 0 0, .int .u8 0, .int .u8 0, .int .i64 0, .int .u8 0, .int .u8 0, .int .u64 0, .int .u64 0] 30)) V6.heap.size 30 := CellsAt.new _ _ _ rfl
          have hz8 : (V6.alloc (.cells #[.bool false, .int .u8 0, .int .u64 0, .int .u64 0, .string ⟨#[]⟩, .slice none 0 0, .int .u8 0, .int .u8 0, .int .i64 0, .int .u8 0, .int .u8 0, .int .u64 0, .int .u64 0] 30)).heap.size = V6.heap.size + 1 := by simp
          generalize hV8 : V6.alloc (.cells #[.bool false, .int .u8 0, .int .u64 0, .int .u64 0, .string ⟨#[]⟩, .slice none 0 0, .int .u8 0, .int .u8 0, .int .i64 0, .int .u8 0, .int .u8 0, .int .u64 0, .int .u64 0] 30) = V8 at *
          clear hV8 hb8
          refine heldMore (S2 := (fun V : World => Below w1.heap.size w1 V ∧ V.ownsRow w2.heap.size 61 2 (.slice A1 n1 c1) n1 (cellsP x.l) ∧ V.ownsRow V2.heap.size 61 2 (.slice A2 n2 c2) n2 (cellsP y.l) ∧ CellsAt V V4.heap.size 30 ∧ CellsAt V V6.heap.size 30)) (fun _ h => ⟨h.1, h.2.1, h.2.2.1, h.2.2.2.1⟩) ?_
          have hh8' : (fun V : World => Below w1.heap.size w1 V ∧ V.ownsRow w2.heap.size 61 2 (.slice A1 n1 c1) n1 (cellsP x.l) ∧ V.ownsRow V2.heap.size 61 2 (.slice A2 n2 c2) n2 (cellsP y.l) ∧ CellsAt V V4.heap.size 30 ∧ CellsAt V V6.heap.size 30) V8 := ⟨hh8.1, hh8.2.1, hh8.2.2.1, hh8.2.2.2, hc8⟩
          clear hh8 hc8
          replace hz8 : V6.heap.size + 1 ≤ V8.heap.size := by omega
          refine heldOne (i := 6) rfl (by kernel_rfl) (fun K hK => ?_)
          rw [if_pos (by rfl)]
          obtain ⟨cs10, hcs10, hsz10⟩ := hh8'.2.2.2.1
          refine wp_store_row _ _ _ rfl (V4.heap.size) _ rfl rfl _ _ hcs10 Try.infoI hsz10 (by simp [Value.oneCell']) ?_
          refine hK.out _ _ ?_ (fun hh10 => ?_)
          · exact ⟨(below_setRow hh8'.1 (by omega) _), (own_setRow2 hh8'.2.1 (fun e => by have := HL1.out _ e; omega) _), (own_setRow2 hh8'.2.2.1 (fun e => by have := HL2.out _ e; omega) _), (hh8'.2.2.2.1.same _ rfl), (hh8'.2.2.2.2.other (by omega) _)⟩
          clear hK K
          have hX : (V8.setRow (V4.heap.size) #[.bool x.g, .int .u8 x.o, .int .u64 x.q, .int .u64 x.t, .string x.r, .slice A1 n1 c1, .int .u8 x.s, .int .u8 x.p, .int .i64 x.v, .int .u8 x.w, .int .u8 x.ga, .int .u64 x.gf, .int .u64 x.gt]).heap[V4.heap.size]? = some (.cells #[.bool x.g, .int .u8 x.o, .int .u64 x.q, .int .u64 x.t, .string x.r, .slice A1 n1 c1, .int .u8 x.s, .int .u8 x.p, .int .i64 x.v, .int .u8 x.w, .int .u8 x.ga, .int .u64 x.gf, .int .u64 x.gt] 30 (0, 0)) := setRow_heap _ _ _ _ _ _ hcs10
          generalize hV10 : V8.setRow (V4.heap.size) #[.bool x.g, .int .u8 x.o, .int .u64 x.q, .int .u64 x.t, .string x.r, .slice A1 n1 c1, .int .u8 x.s, .int .u8 x.p, .int .i64 x.v, .int .u8 x.w, .int .u8 x.ga, .int .u64 x.gf, .int .u64 x.gt] = V10 at *
          clear hV10 hcs10 hsz10 
          refine heldOne (i := 7) rfl (by kernel_rfl) (fun K hK => ?_)
          rw [if_pos (by rfl)]
          obtain ⟨cs12, hcs12, hsz12⟩ := hh10.2.2.2.2
          refine wp_store_row _ _ _ rfl (V6.heap.size) _ rfl rfl _ _ hcs12 Try.infoI hsz12 (by simp [Value.oneCell']) ?_
          refine hK.out _ _ ?_ (fun hh12 => ?_)
          · exact ⟨(below_setRow hh10.1 (by omega) _), (own_setRow2 hh10.2.1 (fun e => by have := HL1.out _ e; omega) _), (own_setRow2 hh10.2.2.1 (fun e => by have := HL2.out _ e; omega) _), (hh10.2.2.2.1.other (by omega) _), (hh10.2.2.2.2.same _ rfl)⟩
          clear hK K
          have hY : (V10.setRow (V6.heap.size) #[.bool y.g, .int .u8 y.o, .int .u64 y.q, .int .u64 y.t, .string y.r, .slice A2 n2 c2, .int .u8 y.s, .int .u8 y.p, .int .i64 y.v, .int .u8 y.w, .int .u8 y.ga, .int .u64 y.gf, .int .u64 y.gt]).heap[V6.heap.size]? = some (.cells #[.bool y.g, .int .u8 y.o, .int .u64 y.q, .int .u64 y.t, .string y.r, .slice A2 n2 c2, .int .u8 y.s, .int .u8 y.p, .int .i64 y.v, .int .u8 y.w, .int .u8 y.ga, .int .u64 y.gf, .int .u64 y.gt] 30 (0, 0)) := setRow_heap _ _ _ _ _ _ hcs12
          have hX' : (V10.setRow (V6.heap.size) #[.bool y.g, .int .u8 y.o, .int .u64 y.q, .int .u64 y.t, .string y.r, .slice A2 n2 c2, .int .u8 y.s, .int .u8 y.p, .int .i64 y.v, .int .u8 y.w, .int .u8 y.ga, .int .u64 y.gf, .int .u64 y.gt]).heap[V4.heap.size]? = some (.cells #[.bool x.g, .int .u8 x.o, .int .u64 x.q, .int .u64 x.t, .string x.r, .slice A1 n1 c1, .int .u8 x.s, .int .u8 x.p, .int .i64 x.v, .int .u8 x.w, .int .u8 x.ga, .int .u64 x.gf, .int .u64 x.gt] 30 (0, 0)) := (setRow_other _ _ _ _ (by omega)).trans hX
          generalize hV12 : V10.setRow (V6.heap.size) #[.bool y.g, .int .u8 y.o, .int .u64 y.q, .int .u64 y.t, .string y.r, .slice A2 n2 c2, .int .u8 y.s, .int .u8 y.p, .int .i64 y.v, .int .u8 y.w, .int .u8 y.ga, .int .u64 y.gf, .int .u64 y.gt] = V12 at *
          clear hV12 hcs12 hsz12 hX
          refine wpAnyH_done (by kernel_rfl) ?_ _
          refine NoPanic.normal ?_
          go_wp2_with fail
          go_meet
          exact ⟨V4.heap.size, V6.heap.size, A1, n1, c1, A2, n2, c2, rfl, rfl, ⟨Hb1.out.trans (hh12.1.mono hw1), hX', hY, ownB_mono hh12.2.1 (by omega), ownB_mono hh12.2.2.1 (by omega), HN1.out, HN2.out, by omega, by omega, by omega, fun e => by have := HL1.out _ e; omega, fun e => by have := HL1.out _ e; omega, fun e => by have := HL2.out _ e; omega, fun e => by have := HL2.out _ e; omega⟩⟩
        case' g5_5 =>
          have hb13 : Below V4.heap.size V4 (V4.alloc (.cells #[.bool false, .int .u8 0, .int .u64 0, .int .u64 0, .string ⟨#[]⟩, .slice none 0 0, .int .u8 0, .int .u8 0, .int .i64 0, .int .u8 0, .int .u8 0, .int .u64 0, .int .u64 0] 30)) := (Below.refl _ _).alloc (Nat.le_refl _) _
          go_simp
          refine hK.out _ _ ?_ (fun hh13 => ?_)
          · exact ⟨(hh4'.1.trans (hb13.mono (hh4'.1.size))), (own_below hh4'.2.1 hb13), (own_below hh4'.2.2 hb13)⟩
          clear hK K
          try simp only [heldPut, List.set]
          have hc13 : CellsAt (V4.alloc (.cells #[.bool false, .int .u8 0, .int .u64 0, .int .u64 0, .string ⟨#[]⟩, .slice none 0 0, .int .u8 0, .int .u8 0, .int .i64 0, .int .u8 0, .int .u8 0, .int .u64 0, .int .u64 0] 30)) V4.heap.size 30 := CellsAt.new _ _ _ rfl
          have hz13 : (V4.alloc (.cells #[.bool false, .int .u8 0, .int .u64 0, .int .u64 0, .string ⟨#[]⟩, .slice none 0 0, .int .u8 0, .int .u8 0, .int .i64 0, .int .u8 0, .int .u8 0, .int .u64 0, .int .u64 0] 30)).heap.size = V4.heap.size + 1 := by simp
          generalize hV13 : V4.alloc (.cells #[.bool false, .int .u8 0, .int .u64 0, .int .u64 0, .string ⟨#[]⟩, .slice none 0 0, .int .u8 0, .int .u8 0, .int .i64 0, .int .u8 0, .int .u8 0, .int .u64 0, .int .u64 0] 30) = V13 at *
          clear hV13 hb13
          refine heldMore (S2 := (fun V : World => Below w1.heap.size w1 V ∧ V.ownsRow w2.heap.size 61 2 (.slice A1 n1 c1) n1 (cellsP x.l) ∧ V.ownsRow V2.heap.size 61 2 (.slice A2 n2 c2) n2 (cellsP y.l) ∧ CellsAt V V4.heap.size 30)) (fun _ h => ⟨h.1, h.2.1, h.2.2.1⟩) ?_
          have hh13' : (fun V : World => Below w1.heap.size w1 V ∧ V.ownsRow w2.heap.size 61 2 (.slice A1 n1 c1) n1 (cellsP x.l) ∧ V.ownsRow V2.heap.size 61 2 (.slice A2 n2 c2) n2 (cellsP y.l) ∧ CellsAt V V4.heap.size 30) V13 := ⟨hh13.1, hh13.2.1, hh13.2.2, hc13⟩
          clear hh13 hc13
          replace hz13 : V4.heap.size + 1 ≤ V13.heap.size := by omega
          refine heldOne (i := 4) rfl (by kernel_rfl) (fun K hK => ?_)
          have hb15 : Below V13.heap.size V13 (V13.alloc (.cells #[.bool false, .int .u8 0, .int .u64 0, .int .u64 0, .string ⟨#[]⟩, .slice none 0 0, .int .u8 0, .int .u8 0, .int .i64 0, .int .u8 0, .int .u8 0, .int .u64 0, .int .u64 0] 30)) := (Below.refl _ _).alloc (Nat.le_refl _) _
          go_simp
          refine hK.out _ _ ?_ (fun hh15 => ?_)
          · exact ⟨(hh13'.1.trans (hb15.mono (hh13'.1.size))), (own_below hh13'.2.1 hb15), (own_below hh13'.2.2.1 hb15), (hh13'.2.2.2.below hb15)⟩
          clear hK K
          try simp only [heldPut, List.set]
          have hc15 : CellsAt (V13.alloc (.cells #[.bool false, .int .u8 0, .int .u64 0, .int .u64 0, .string ⟨#[]⟩, .slice none 0 0, .int .u8 0, .int .u8 0, .int .i64 0, .int .u8 0, .int .u8 0, .int .u64 0, .int .u64 0] 30)) V13.heap.size 30 := CellsAt.new _ _ _ rfl
          have hz15 : (V13.alloc (.cells #[.bool false, .int .u8 0, .int .u64 0, .int .u64 0, .string ⟨#[]⟩, .slice none 0 0, .int .u8 0, .int .u8 0, .int .i64 0, .int .u8 0, .int .u8 0, .int .u64 0, .int .u64 0] 30)).heap.size = V13.heap.size + 1 := by simp
          generalize hV15 : V13.alloc (.cells #[.bool false, .int .u8 0, .int .u64 0, .int .u64 0, .string ⟨#[]⟩, .slice none 0 0, .int .u8 0, .int .u8 0, .int .i64 0, .int .u8 0, .int .u8 0, .int .u64 0, .int .u64 0] 30) = V15 at *
          clear hV15 hb15
          refine heldMore (S2 := (fun V : World => Below w1.heap.size w1 V ∧ V.ownsRow w2.heap.size 61 2 (.slice A1 n1 c1) n1 (cellsP x.l) ∧ V.ownsRow V2.heap.size 61 2 (.slice A2 n2 c2) n2 (cellsP y.l) ∧ CellsAt V V4.heap.size 30 ∧ CellsAt V V13.heap.size 30)) (fun _ h => ⟨h.1, h.2.1, h.2.2.1, h.2.2.2.1⟩) ?_
          have hh15' : (fun V : World => Below w1.heap.size w1 V ∧ V.ownsRow w2.heap.size 61 2 (.slice A1 n1 c1) n1 (cellsP x.l) ∧ V.ownsRow V2.heap.size 61 2 (.slice A2 n2 c2) n2 (cellsP y.l) ∧ CellsAt V V4.heap.size 30 ∧ CellsAt V V13.heap.size 30) V15 := ⟨hh15.1, hh15.2.1, hh15.2.2.1, hh15.2.2.2, hc15⟩
          clear hh15 hc15
          replace hz15 : V13.heap.size + 1 ≤ V15.heap.size := by omega
          refine heldOne (i := 6) rfl (by kernel_rfl) (fun K hK => ?_)
          rw [if_pos (by rfl)]
          obtain ⟨cs17, hcs17, hsz17⟩ := hh15'.2.2.2.2
          refine wp_store_row _ _ _ rfl (V13.heap.size) _ rfl rfl _ _ hcs17 Try.infoI hsz17 (by simp [Value.oneCell']) ?_
          refine hK.out _ _ ?_ (fun hh17 => ?_)
          · exact ⟨(below_setRow hh15'.1 (by omega) _), (own_setRow2 hh15'.2.1 (fun e => by have := HL1.out _ e; omega) _), (own_setRow2 hh15'.2.2.1 (fun e => by have := HL2.out _ e; omega) _), (hh15'.2.2.2.1.other (by omega) _), (hh15'.2.2.2.2.same _ rfl)⟩
          clear hK K
          have hX : (V15.setRow (V13.heap.size) #[.bool x.g, .int .u8 x.o, .int .u64 x.q, .int .u64 x.t, .string x.r, .slice A1 n1 c1, .int .u8 x.s, .int .u8 x.p, .int .i64 x.v, .int .u8 x.w, .int .u8 x.ga, .int .u64 x.gf, .int .u64 x.gt]).heap[V13.heap.size]? = some (.cells #[.bool x.g, .int .u8 x.o, .int .u64 x.q, .int .u64 x.t, .string x.r, .slice A1 n1 c1, .int .u8 x.s, .int .u8 x.p, .int .i64 x.v, .int .u8 x.w, .int .u8 x.ga, .int .u64 x.gf, .int .u64 x.gt] 30 (0, 0)) := setRow_heap _ _ _ _ _ _ hcs17
          generalize hV17 : V15.setRow (V13.heap.size) #[.bool x.g, .int .u8 x.o, .int .u64 x.q, .int .u64 x.t, .string x.r, .slice A1 n1 c1, .int .u8 x.s, .int .u8 x.p, .int .i64 x.v, .int .u8 x.w, .int .u8 x.ga, .int .u64 x.gf, .int .u64 x.gt] = V17 at *
          clear hV17 hcs17 hsz17 
          refine heldOne (i := 7) rfl (by kernel_rfl) (fun K hK => ?_)
          rw [if_pos (by rfl)]
          obtain ⟨cs19, hcs19, hsz19⟩ := hh17.2.2.2.1
          refine wp_store_row _ _ _ rfl (V4.heap.size) _ rfl rfl _ _ hcs19 Try.infoI hsz19 (by simp [Value.oneCell']) ?_
          refine hK.out _ _ ?_ (fun hh19 => ?_)
          · exact ⟨(below_setRow hh17.1 (by omega) _), (own_setRow2 hh17.2.1 (fun e => by have := HL1.out _ e; omega) _), (own_setRow2 hh17.2.2.1 (fun e => by have := HL2.out _ e; omega) _), (hh17.2.2.2.1.same _ rfl), (hh17.2.2.2.2.other (by omega) _)⟩
          clear hK K
          have hY : (V17.setRow (V4.heap.size) #[.bool y.g, .int .u8 y.o, .int .u64 y.q, .int .u64 y.t, .string y.r, .slice A2 n2 c2, .int .u8 y.s, .int .u8 y.p, .int .i64 y.v, .int .u8 y.w, .int .u8 y.ga, .int .u64 y.gf, .int .u64 y.gt]).heap[V4.heap.size]? = some (.cells #[.bool y.g, .int .u8 y.o, .int .u64 y.q, .int .u64 y.t, .string y.r, .slice A2 n2 c2, .int .u8 y.s, .int .u8 y.p, .int .i64 y.v, .int .u8 y.w, .int .u8 y.ga, .int .u64 y.gf, .int .u64 y.gt] 30 (0, 0)) := setRow_heap _ _ _ _ _ _ hcs19
          have hX' : (V17.setRow (V4.heap.size) #[.bool y.g, .int .u8 y.o, .int .u64 y.q, .int .u64 y.t, .string y.r, .slice A2 n2 c2, .int .u8 y.s, .int .u8 y.p, .int .i64 y.v, .int .u8 y.w, .int .u8 y.ga, .int .u64 y.gf, .int .u64 y.gt]).heap[V13.heap.size]? = some (.cells #[.bool x.g, .int .u8 x.o, .int .u64 x.q, .int .u64 x.t, .string x.r, .slice A1 n1 c1, .int .u8 x.s, .int .u8 x.p, .int .i64 x.v, .int .u8 x.w, .int .u8 x.ga, .int .u64 x.gf, .int .u64 x.gt] 30 (0, 0)) := (setRow_other _ _ _ _ (by omega)).trans hX
          generalize hV19 : V17.setRow (V4.heap.size) #[.bool y.g, .int .u8 y.o, .int .u64 y.q, .int .u64 y.t, .string y.r, .slice A2 n2 c2, .int .u8 y.s, .int .u8 y.p, .int .i64 y.v, .int .u8 y.w, .int .u8 y.ga, .int .u64 y.gf, .int .u64 y.gt] = V19 at *
          clear hV19 hcs19 hsz19 hX
          refine wpAnyH_done (by kernel_rfl) ?_ _
          refine NoPanic.normal ?_
          go_wp2_with fail
          go_meet
          exact ⟨V13.heap.size, V4.heap.size, A1, n1, c1, A2, n2, c2, rfl, rfl, ⟨Hb1.out.trans (hh19.1.mono hw1), hX', hY, ownB_mono hh19.2.1 (by omega), ownB_mono hh19.2.2.1 (by omega), HN1.out, HN2.out, by omega, by omega, by omega, fun e => by have := HL1.out _ e; omega, fun e => by have := HL1.out _ e; omega, fun e => by have := HL2.out _ e; omega, fun e => by have := HL2.out _ e; omega⟩⟩
      case' g3_4 =>
        have hb20 : Below V2.heap.size V2 (V2.alloc (.cells #[.bool false, .int .u8 0, .int .u64 0, .int .u64 0, .string ⟨#[]⟩, .slice none 0 0, .int .u8 0, .int .u8 0, .int .i64 0, .int .u8 0, .int .u8 0, .int .u64 0, .int .u64 0] 30)) := (Below.refl _ _).alloc (Nat.le_refl _) _
        go_simp
        refine hK.out _ _ ?_ (fun hh20 => ?_)
        · exact ⟨(hh2'.1.trans (hb20.mono (hh2'.1.size))), (own_below hh2'.2 hb20)⟩
        clear hK K
        try simp only [heldPut, List.set]
        have hc20 : CellsAt (V2.alloc (.cells #[.bool false, .int .u8 0, .int .u64 0, .int .u64 0, .string ⟨#[]⟩, .slice none 0 0, .int .u8 0, .int .u8 0, .int .i64 0, .int .u8 0, .int .u8 0, .int .u64 0, .int .u64 0] 30)) V2.heap.size 30 := CellsAt.new _ _ _ rfl
        have hz20 : (V2.alloc (.cells #[.bool false, .int .u8 0, .int .u64 0, .int .u64 0, .string ⟨#[]⟩, .slice none 0 0, .int .u8 0, .int .u8 0, .int .i64 0, .int .u8 0, .int .u8 0, .int .u64 0, .int .u64 0] 30)).heap.size = V2.heap.size + 1 := by simp
        generalize hV20 : V2.alloc (.cells #[.bool false, .int .u8 0, .int .u64 0, .int .u64 0, .string ⟨#[]⟩, .slice none 0 0, .int .u8 0, .int .u8 0, .int .i64 0, .int .u8 0, .int .u8 0, .int .u64 0, .int .u64 0] 30) = V20 at *
        clear hV20 hb20
        refine heldMore (S2 := (fun V : World => Below w1.heap.size w1 V ∧ V.ownsRow w2.heap.size 61 2 (.slice A1 n1 c1) n1 (cellsP x.l) ∧ CellsAt V V2.heap.size 30)) (fun _ h => ⟨h.1, h.2.1⟩) ?_
        have hh20' : (fun V : World => Below w1.heap.size w1 V ∧ V.ownsRow w2.heap.size 61 2 (.slice A1 n1 c1) n1 (cellsP x.l) ∧ CellsAt V V2.heap.size 30) V20 := ⟨hh20.1, hh20.2, hc20⟩
        clear hh20 hc20
        replace hz20 : V2.heap.size + 1 ≤ V20.heap.size := by omega
        refine heldTwo (i := 3) (j := 5) rfl rfl (by kernel_rfl) (fun K hK => ?g21_3) (fun K hK => ?g21_5)
        case' g21_3 =>
          go_simp
          refine (smallItem_as HX2.out HS2.out _).mono ?_
          rintro e V22 ⟨A2, n2, c2, rfl, hn2, ho2, hb22⟩
          have HN2 := Lib.hid hn2
          clear hn2
          go_wp2_with fail
          refine hK.out _ _ ?_ (fun hh22 => ?_)
          · exact ⟨(hh20'.1.trans (hb22.mono (hh20'.1.size))), (own_below hh20'.2.1 hb22), (hh20'.2.2.below hb22)⟩
          clear hK K
          try simp only [heldPut, List.set]
          have hz22 := hb22.size
          have HL2 : Hid (∀ k, (Value.slice A2 n2 c2).ownBlock = some k → V20.heap.size ≤ k ∧ k < V22.heap.size) := fun k e => ho2.lt k e
          refine heldMore (S2 := (fun V : World => Below w1.heap.size w1 V ∧ V.ownsRow w2.heap.size 61 2 (.slice A1 n1 c1) n1 (cellsP x.l) ∧ CellsAt V V2.heap.size 30 ∧ V.ownsRow V20.heap.size 61 2 (.slice A2 n2 c2) n2 (cellsP y.l))) (fun _ h => ⟨h.1, h.2.1, h.2.2.1⟩) ?_
          have hh22' : (fun V : World => Below w1.heap.size w1 V ∧ V.ownsRow w2.heap.size 61 2 (.slice A1 n1 c1) n1 (cellsP x.l) ∧ CellsAt V V2.heap.size 30 ∧ V.ownsRow V20.heap.size 61 2 (.slice A2 n2 c2) n2 (cellsP y.l)) V22 := ⟨hh22.1, hh22.2.1, hh22.2.2, ho2⟩
          clear hh22 ho2 hb22
          refine heldOne (i := 5) rfl (by kernel_rfl) (fun K hK => ?_)
          have hb24 : Below V22.heap.size V22 (V22.alloc (.cells #[.bool false, .int .u8 0, .int .u64 0, .int .u64 0, .string ⟨#[]⟩, .slice none 0 0, .int .u8 0, .int .u8 0, .int .i64 0, .int .u8 0, .int .u8 0, .int .u64 0, .int .u64 0] 30)) := (Below.refl _ _).alloc (Nat.le_refl _) _
          go_simp
          refine hK.out _ _ ?_ (fun hh24 => ?_)
          · exact ⟨(hh22'.1.trans (hb24.mono (hh22'.1.size))), (own_below hh22'.2.1 hb24), (hh22'.2.2.1.below hb24), (own_below hh22'.2.2.2 hb24)⟩
          clear hK K
          try simp only [heldPut, List.set]
          have hc24 : CellsAt (V22.alloc (.cells #[.bool false, .int .u8 0, .int .u64 0, .int .u64 0, .string ⟨#[]⟩, .slice none 0 0, .int .u8 0, .int .u8 0, .int .i64 0, .int .u8 0, .int .u8 0, .int .u64 0, .int .u64 0] 30)) V22.heap.size 30 := CellsAt.new _ _ _ rfl
          have hz24 : (V22.alloc (.cells #[.bool false, .int .u8 0, .int .u64 0, .int .u64 0, .string ⟨#[]⟩, .slice none 0 0, .int .u8 0, .int .u8 0, .int .i64 0, .int .u8 0, .int .u8 0, .int .u64 0, .int .u64 0] 30)).heap.size = V22.heap.size + 1 := by simp
          generalize hV24 : V22.alloc (.cells #[.bool false, .int .u8 0, .int .u64 0, .int .u64 0, .string ⟨#[]⟩, .slice none 0 0, .int .u8 0, .int .u8 0, .int .i64 0, .int .u8 0, .int .u8 0, .int .u64 0, .int .u64 0] 30) = V24 at *
          clear hV24 hb24
          refine heldMore (S2 := (fun V : World => Below w1.heap.size w1 V ∧ V.ownsRow w2.heap.size 61 2 (.slice A1 n1 c1) n1 (cellsP x.l) ∧ CellsAt V V2.heap.size 30 ∧ V.ownsRow V20.heap.size 61 2 (.slice A2 n2 c2) n2 (cellsP y.l) ∧ CellsAt V V22.heap.size 30)) (fun _ h => ⟨h.1, h.2.1, h.2.2.1, h.2.2.2.1⟩) ?_
          have hh24' : (fun V : World => Below w1.heap.size w1 V ∧ V.ownsRow w2.heap.size 61 2 (.slice A1 n1 c1) n1 (cellsP x.l) ∧ CellsAt V V2.heap.size 30 ∧ V.ownsRow V20.heap.size 61 2 (.slice A2 n2 c2) n2 (cellsP y.l) ∧ CellsAt V V22.heap.size 30) V24 := ⟨hh24.1, hh24.2.1, hh24.2.2.1, hh24.2.2.2, hc24⟩
          clear hh24 hc24
          replace hz24 : V22.heap.size + 1 ≤ V24.heap.size := by omega
          refine heldOne (i := 6) rfl (by kernel_rfl) (fun K hK => ?_)
          rw [if_pos (by rfl)]
          obtain ⟨cs26, hcs26, hsz26⟩ := hh24'.2.2.1
          refine wp_store_row _ _ _ rfl (V2.heap.size) _ rfl rfl _ _ hcs26 Try.infoI hsz26 (by simp [Value.oneCell']) ?_
          refine hK.out _ _ ?_ (fun hh26 => ?_)
          · exact ⟨(below_setRow hh24'.1 (by omega) _), (own_setRow2 hh24'.2.1 (fun e => by have := HL1.out _ e; omega) _), (hh24'.2.2.1.same _ rfl), (own_setRow2 hh24'.2.2.2.1 (fun e => by have := HL2.out _ e; omega) _), (hh24'.2.2.2.2.other (by omega) _)⟩
          clear hK K
          have hX : (V24.setRow (V2.heap.size) #[.bool x.g, .int .u8 x.o, .int .u64 x.q, .int .u64 x.t, .string x.r, .slice A1 n1 c1, .int .u8 x.s, .int .u8 x.p, .int .i64 x.v, .int .u8 x.w, .int .u8 x.ga, .int .u64 x.gf, .int .u64 x.gt]).heap[V2.heap.size]? = some (.cells #[.bool x.g, .int .u8 x.o, .int .u64 x.q, .int .u64 x.t, .string x.r, .slice A1 n1 c1, .int .u8 x.s, .int .u8 x.p, .int .i64 x.v, .int .u8 x.w, .int .u8 x.ga, .int .u64 x.gf, .int .u64 x.gt] 30 (0, 0)) := setRow_heap _ _ _ _ _ _ hcs26
          generalize hV26 : V24.setRow (V2.heap.size) #[.bool x.g, .int .u8 x.o, .int .u64 x.q, .int .u64 x.t, .string x.r, .slice A1 n1 c1, .int .u8 x.s, .int .u8 x.p, .int .i64 x.v, .int .u8 x.w, .int .u8 x.ga, .int .u64 x.gf, .int .u64 x.gt] = V26 at *
          clear hV26 hcs26 hsz26 
          refine heldOne (i := 7) rfl (by kernel_rfl) (fun K hK => ?_)
          rw [if_pos (by rfl)]
          obtain ⟨cs28, hcs28, hsz28⟩ := hh26.2.2.2.2
          refine wp_store_row _ _ _ rfl (V22.heap.size) _ rfl rfl _ _ hcs28 Try.infoI hsz28 (by simp [Value.oneCell']) ?_
          refine hK.out _ _ ?_ (fun hh28 => ?_)
          · exact ⟨(below_setRow hh26.1 (by omega) _), (own_setRow2 hh26.2.1 (fun e => by have := HL1.out _ e; omega) _), (hh26.2.2.1.other (by omega) _), (own_setRow2 hh26.2.2.2.1 (fun e => by have := HL2.out _ e; omega) _), (hh26.2.2.2.2.same _ rfl)⟩
          clear hK K
          have hY : (V26.setRow (V22.heap.size) #[.bool y.g, .int .u8 y.o, .int .u64 y.q, .int .u64 y.t, .string y.r, .slice A2 n2 c2, .int .u8 y.s, .int .u8 y.p, .int .i64 y.v, .int .u8 y.w, .int .u8 y.ga, .int .u64 y.gf, .int .u64 y.gt]).heap[V22.heap.size]? = some (.cells #[.bool y.g, .int .u8 y.o, .int .u64 y.q, .int .u64 y.t, .string y.r, .slice A2 n2 c2, .int .u8 y.s, .int .u8 y.p, .int .i64 y.v, .int .u8 y.w, .int .u8 y.ga, .int .u64 y.gf, .int .u64 y.gt] 30 (0, 0)) := setRow_heap _ _ _ _ _ _ hcs28
          have hX' : (V26.setRow (V22.heap.size) #[.bool y.g, .int .u8 y.o, .int .u64 y.q, .int .u64 y.t, .string y.r, .slice A2 n2 c2, .int .u8 y.s, .int .u8 y.p, .int .i64 y.v, .int .u8 y.w, .int .u8 y.ga, .int .u64 y.gf, .int .u64 y.gt]).heap[V2.heap.size]? = some (.cells #[.bool x.g, .int .u8 x.o, .int .u64 x.q, .int .u64 x.t, .string x.r, .slice A1 n1 c1, .int .u8 x.s, .int .u8 x.p, .int .i64 x.v, .int .u8 x.w, .int .u8 x.ga, .int .u64 x.gf, .int .u64 x.gt] 30 (0, 0)) := (setRow_other _ _ _ _ (by omega)).trans hX
          generalize hV28 : V26.setRow (V22.heap.size) #[.bool y.g, .int .u8 y.o, .int .u64 y.q, .int .u64 y.t, .string y.r, .slice A2 n2 c2, .int .u8 y.s, .int .u8 y.p, .int .i64 y.v, .int .u8 y.w, .int .u8 y.ga, .int .u64 y.gf, .int .u64 y.gt] = V28 at *
          clear hV28 hcs28 hsz28 hX
          refine wpAnyH_done (by kernel_rfl) ?_ _
          refine NoPanic.normal ?_
          go_wp2_with fail
          go_meet
          exact ⟨V2.heap.size, V22.heap.size, A1, n1, c1, A2, n2, c2, rfl, rfl, ⟨Hb1.out.trans (hh28.1.mono hw1), hX', hY, ownB_mono hh28.2.1 (by omega), ownB_mono hh28.2.2.2.1 (by omega), HN1.out, HN2.out, by omega, by omega, by omega, fun e => by have := HL1.out _ e; omega, fun e => by have := HL1.out _ e; omega, fun e => by have := HL2.out _ e; omega, fun e => by have := HL2.out _ e; omega⟩⟩
        case' g21_5 =>
          have hb29 : Below V20.heap.size V20 (V20.alloc (.cells #[.bool false, .int .u8 0, .int .u64 0, .int .u64 0, .string ⟨#[]⟩, .slice none 0 0, .int .u8 0, .int .u8 0, .int .i64 0, .int .u8 0, .int .u8 0, .int .u64 0, .int .u64 0] 30)) := (Below.refl _ _).alloc (Nat.le_refl _) _
          go_simp
          refine hK.out _ _ ?_ (fun hh29 => ?_)
          · exact ⟨(hh20'.1.trans (hb29.mono (hh20'.1.size))), (own_below hh20'.2.1 hb29), (hh20'.2.2.below hb29)⟩
          clear hK K
          try simp only [heldPut, List.set]
          have hc29 : CellsAt (V20.alloc (.cells #[.bool false, .int .u8 0, .int .u64 0, .int .u64 0, .string ⟨#[]⟩, .slice none 0 0, .int .u8 0, .int .u8 0, .int .i64 0, .int .u8 0, .int .u8 0, .int .u64 0, .int .u64 0] 30)) V20.heap.size 30 := CellsAt.new _ _ _ rfl
          have hz29 : (V20.alloc (.cells #[.bool false, .int .u8 0, .int .u64 0, .int .u64 0, .string ⟨#[]⟩, .slice none 0 0, .int .u8 0, .int .u8 0, .int .i64 0, .int .u8 0, .int .u8 0, .int .u64 0, .int .u64 0] 30)).heap.size = V20.heap.size + 1 := by simp
          generalize hV29 : V20.alloc (.cells #[.bool false, .int .u8 0, .int .u64 0, .int .u64 0, .string ⟨#[]⟩, .slice none 0 0, .int .u8 0, .int .u8 0, .int .i64 0, .int .u8 0, .int .u8 0, .int .u64 0, .int .u64 0] 30) = V29 at *
          clear hV29 hb29
          refine heldMore (S2 := (fun V : World => Below w1.heap.size w1 V ∧ V.ownsRow w2.heap.size 61 2 (.slice A1 n1 c1) n1 (cellsP x.l) ∧ CellsAt V V2.heap.size 30 ∧ CellsAt V V20.heap.size 30)) (fun _ h => ⟨h.1, h.2.1, h.2.2.1⟩) ?_
          have hh29' : (fun V : World => Below w1.heap.size w1 V ∧ V.ownsRow w2.heap.size 61 2 (.slice A1 n1 c1) n1 (cellsP x.l) ∧ CellsAt V V2.heap.size 30 ∧ CellsAt V V20.heap.size 30) V29 := ⟨hh29.1, hh29.2.1, hh29.2.2, hc29⟩
          clear hh29 hc29
          replace hz29 : V20.heap.size + 1 ≤ V29.heap.size := by omega
          refine heldOne (i := 3) rfl (by kernel_rfl) (fun K hK => ?_)
          go_simp
          refine (smallItem_as HX2.out HS2.out _).mono ?_
          rintro e V31 ⟨A2, n2, c2, rfl, hn2, ho2, hb31⟩
          have HN2 := Lib.hid hn2
          clear hn2
          go_wp2_with fail
          refine hK.out _ _ ?_ (fun hh31 => ?_)
          · exact ⟨(hh29'.1.trans (hb31.mono (hh29'.1.size))), (own_below hh29'.2.1 hb31), (hh29'.2.2.1.below hb31), (hh29'.2.2.2.below hb31)⟩
          clear hK K
          try simp only [heldPut, List.set]
          have hz31 := hb31.size
          have HL2 : Hid (∀ k, (Value.slice A2 n2 c2).ownBlock = some k → V29.heap.size ≤ k ∧ k < V31.heap.size) := fun k e => ho2.lt k e
          refine heldMore (S2 := (fun V : World => Below w1.heap.size w1 V ∧ V.ownsRow w2.heap.size 61 2 (.slice A1 n1 c1) n1 (cellsP x.l) ∧ CellsAt V V2.heap.size 30 ∧ CellsAt V V20.heap.size 30 ∧ V.ownsRow V29.heap.size 61 2 (.slice A2 n2 c2) n2 (cellsP y.l))) (fun _ h => ⟨h.1, h.2.1, h.2.2.1, h.2.2.2.1⟩) ?_
          have hh31' : (fun V : World => Below w1.heap.size w1 V ∧ V.ownsRow w2.heap.size 61 2 (.slice A1 n1 c1) n1 (cellsP x.l) ∧ CellsAt V V2.heap.size 30 ∧ CellsAt V V20.heap.size 30 ∧ V.ownsRow V29.heap.size 61 2 (.slice A2 n2 c2) n2 (cellsP y.l)) V31 := ⟨hh31.1, hh31.2.1, hh31.2.2.1, hh31.2.2.2, ho2⟩
          clear hh31 ho2 hb31
          refine heldOne (i := 6) rfl (by kernel_rfl) (fun K hK => ?_)
          rw [if_pos (by rfl)]
          obtain ⟨cs33, hcs33, hsz33⟩ := hh31'.2.2.1
          refine wp_store_row _ _ _ rfl (V2.heap.size) _ rfl rfl _ _ hcs33 Try.infoI hsz33 (by simp [Value.oneCell']) ?_
          refine hK.out _ _ ?_ (fun hh33 => ?_)
          · exact ⟨(below_setRow hh31'.1 (by omega) _), (own_setRow2 hh31'.2.1 (fun e => by have := HL1.out _ e; omega) _), (hh31'.2.2.1.same _ rfl), (hh31'.2.2.2.1.other (by omega) _), (own_setRow2 hh31'.2.2.2.2 (fun e => by have := HL2.out _ e; omega) _)⟩
          clear hK K
          have hX : (V31.setRow (V2.heap.size) #[.bool x.g, .int .u8 x.o, .int .u64 x.q, .int .u64 x.t, .string x.r, .slice A1 n1 c1, .int .u8 x.s, .int .u8 x.p, .int .i64 x.v, .int .u8 x.w, .int .u8 x.ga, .int .u64 x.gf, .int .u64 x.gt]).heap[V2.heap.size]? = some (.cells #[.bool x.g, .int .u8 x.o, .int .u64 x.q, .int .u64 x.t, .string x.r, .slice A1 n1 c1, .int .u8 x.s, .int .u8 x.p, .int .i64 x.v, .int .u8 x.w, .int .u8 x.ga, .int .u64 x.gf, .int .u64 x.gt] 30 (0, 0)) := setRow_heap _ _ _ _ _ _ hcs33
          generalize hV33 : V31.setRow (V2.heap.size) #[.bool x.g, .int .u8 x.o, .int .u64 x.q, .int .u64 x.t, .string x.r, .slice A1 n1 c1, .int .u8 x.s, .int .u8 x.p, .int .i64 x.v, .int .u8 x.w, .int .u8 x.ga, .int .u64 x.gf, .int .u64 x.gt] = V33 at *
          clear hV33 hcs33 hsz33 
          refine heldOne (i := 7) rfl (by kernel_rfl) (fun K hK => ?_)
          rw [if_pos (by rfl)]
          obtain ⟨cs35, hcs35, hsz35⟩ := hh33.2.2.2.1
          refine wp_store_row _ _ _ rfl (V20.heap.size) _ rfl rfl _ _ hcs35 Try.infoI hsz35 (by simp [Value.oneCell']) ?_
          refine hK.out _ _ ?_ (fun hh35 => ?_)
          · exact ⟨(below_setRow hh33.1 (by omega) _), (own_setRow2 hh33.2.1 (fun e => by have := HL1.out _ e; omega) _), (hh33.2.2.1.other (by omega) _), (hh33.2.2.2.1.same _ rfl), (own_setRow2 hh33.2.2.2.2 (fun e => by have := HL2.out _ e; omega) _)⟩
          clear hK K
          have hY : (V33.setRow (V20.heap.size) #[.bool y.g, .int .u8 y.o, .int .u64 y.q, .int .u64 y.t, .string y.r, .slice A2 n2 c2, .int .u8 y.s, .int .u8 y.p, .int .i64 y.v, .int .u8 y.w, .int .u8 y.ga, .int .u64 y.gf, .int .u64 y.gt]).heap[V20.heap.size]? = some (.cells #[.bool y.g, .int .u8 y.o, .int .u64 y.q, .int .u64 y.t, .string y.r, .slice A2 n2 c2, .int .u8 y.s, .int .u8 y.p, .int .i64 y.v, .int .u8 y.w, .int .u8 y.ga, .int .u64 y.gf, .int .u64 y.gt] 30 (0, 0)) := setRow_heap _ _ _ _ _ _ hcs35
          have hX' : (V33.setRow (V20.heap.size) #[.bool y.g, .int .u8 y.o, .int .u64 y.q, .int .u64 y.t, .string y.r, .slice A2 n2 c2, .int .u8 y.s, .int .u8 y.p, .int .i64 y.v, .int .u8 y.w, .int .u8 y.ga, .int .u64 y.gf, .int .u64 y.gt]).heap[V2.heap.size]? = some (.cells #[.bool x.g, .int .u8 x.o, .int .u64 x.q, .int .u64 x.t, .string x.r, .slice A1 n1 c1, .int .u8 x.s, .int .u8 x.p, .int .i64 x.v, .int .u8 x.w, .int .u8 x.ga, .int .u64 x.gf, .int .u64 x.gt] 30 (0, 0)) := (setRow_other _ _ _ _ (by omega)).trans hX
          generalize hV35 : V33.setRow (V20.heap.size) #[.bool y.g, .int .u8 y.o, .int .u64 y.q, .int .u64 y.t, .string y.r, .slice A2 n2 c2, .int .u8 y.s, .int .u8 y.p, .int .i64 y.v, .int .u8 y.w, .int .u8 y.ga, .int .u64 y.gf, .int .u64 y.gt] = V35 at *
          clear hV35 hcs35 hsz35 hX
          refine wpAnyH_done (by kernel_rfl) ?_ _
          refine NoPanic.normal ?_
          go_wp2_with fail
          go_meet
          exact ⟨V2.heap.size, V20.heap.size, A1, n1, c1, A2, n2, c2, rfl, rfl, ⟨Hb1.out.trans (hh35.1.mono hw1), hX', hY, ownB_mono hh35.2.1 (by omega), ownB_mono hh35.2.2.2.2 (by omega), HN1.out, HN2.out, by omega, by omega, by omega, fun e => by have := HL1.out _ e; omega, fun e => by have := HL1.out _ e; omega, fun e => by have := HL2.out _ e; omega, fun e => by have := HL2.out _ e; omega⟩⟩
      case' g3_5 =>
        have hb36 : Below V2.heap.size V2 (V2.alloc (.cells #[.bool false, .int .u8 0, .int .u64 0, .int .u64 0, .string ⟨#[]⟩, .slice none 0 0, .int .u8 0, .int .u8 0, .int .i64 0, .int .u8 0, .int .u8 0, .int .u64 0, .int .u64 0] 30)) := (Below.refl _ _).alloc (Nat.le_refl _) _
        go_simp
        refine hK.out _ _ ?_ (fun hh36 => ?_)
        · exact ⟨(hh2'.1.trans (hb36.mono (hh2'.1.size))), (own_below hh2'.2 hb36)⟩
        clear hK K
        try simp only [heldPut, List.set]
        have hc36 : CellsAt (V2.alloc (.cells #[.bool false, .int .u8 0, .int .u64 0, .int .u64 0, .string ⟨#[]⟩, .slice none 0 0, .int .u8 0, .int .u8 0, .int .i64 0, .int .u8 0, .int .u8 0, .int .u64 0, .int .u64 0] 30)) V2.heap.size 30 := CellsAt.new _ _ _ rfl
        have hz36 : (V2.alloc (.cells #[.bool false, .int .u8 0, .int .u64 0, .int .u64 0, .string ⟨#[]⟩, .slice none 0 0, .int .u8 0, .int .u8 0, .int .i64 0, .int .u8 0, .int .u8 0, .int .u64 0, .int .u64 0] 30)).heap.size = V2.heap.size + 1 := by simp
        generalize hV36 : V2.alloc (.cells #[.bool false, .int .u8 0, .int .u64 0, .int .u64 0, .string ⟨#[]⟩, .slice none 0 0, .int .u8 0, .int .u8 0, .int .i64 0, .int .u8 0, .int .u8 0, .int .u64 0, .int .u64 0] 30) = V36 at *
        clear hV36 hb36
        refine heldMore (S2 := (fun V : World => Below w1.heap.size w1 V ∧ V.ownsRow w2.heap.size 61 2 (.slice A1 n1 c1) n1 (cellsP x.l) ∧ CellsAt V V2.heap.size 30)) (fun _ h => ⟨h.1, h.2.1⟩) ?_
        have hh36' : (fun V : World => Below w1.heap.size w1 V ∧ V.ownsRow w2.heap.size 61 2 (.slice A1 n1 c1) n1 (cellsP x.l) ∧ CellsAt V V2.heap.size 30) V36 := ⟨hh36.1, hh36.2, hc36⟩
        clear hh36 hc36
        replace hz36 : V2.heap.size + 1 ≤ V36.heap.size := by omega
        refine heldTwo (i := 3) (j := 4) rfl rfl (by kernel_rfl) (fun K hK => ?g37_3) (fun K hK => ?g37_4)
        case' g37_3 =>
          go_simp
          refine (smallItem_as HX2.out HS2.out _).mono ?_
          rintro e V38 ⟨A2, n2, c2, rfl, hn2, ho2, hb38⟩
          have HN2 := Lib.hid hn2
          clear hn2
          go_wp2_with fail
          refine hK.out _ _ ?_ (fun hh38 => ?_)
          · exact ⟨(hh36'.1.trans (hb38.mono (hh36'.1.size))), (own_below hh36'.2.1 hb38), (hh36'.2.2.below hb38)⟩
          clear hK K
          try simp only [heldPut, List.set]
          have hz38 := hb38.size
          have HL2 : Hid (∀ k, (Value.slice A2 n2 c2).ownBlock = some k → V36.heap.size ≤ k ∧ k < V38.heap.size) := fun k e => ho2.lt k e
          refine heldMore (S2 := (fun V : World => Below w1.heap.size w1 V ∧ V.ownsRow w2.heap.size 61 2 (.slice A1 n1 c1) n1 (cellsP x.l) ∧ CellsAt V V2.heap.size 30 ∧ V.ownsRow V36.heap.size 61 2 (.slice A2 n2 c2) n2 (cellsP y.l))) (fun _ h => ⟨h.1, h.2.1, h.2.2.1⟩) ?_
          have hh38' : (fun V : World => Below w1.heap.size w1 V ∧ V.ownsRow w2.heap.size 61 2 (.slice A1 n1 c1) n1 (cellsP x.l) ∧ CellsAt V V2.heap.size 30 ∧ V.ownsRow V36.heap.size 61 2 (.slice A2 n2 c2) n2 (cellsP y.l)) V38 := ⟨hh38.1, hh38.2.1, hh38.2.2, ho2⟩
          clear hh38 ho2 hb38
          refine heldOne (i := 4) rfl (by kernel_rfl) (fun K hK => ?_)
          have hb40 : Below V38.heap.size V38 (V38.alloc (.cells #[.bool false, .int .u8 0, .int .u64 0, .int .u64 0, .string ⟨#[]⟩, .slice none 0 0, .int .u8 0, .int .u8 0, .int .i64 0, .int .u8 0, .int .u8 0, .int .u64 0, .int .u64 0] 30)) := (Below.refl _ _).alloc (Nat.le_refl _) _
          go_simp
          refine hK.out _ _ ?_ (fun hh40 => ?_)
          · exact ⟨(hh38'.1.trans (hb40.mono (hh38'.1.size))), (own_below hh38'.2.1 hb40), (hh38'.2.2.1.below hb40), (own_below hh38'.2.2.2 hb40)⟩
          clear hK K
          try simp only [heldPut, List.set]
          have hc40 : CellsAt (V38.alloc (.cells #[.bool false, .int .u8 0, .int .u64 0, .int .u64 0, .string ⟨#[]⟩, .slice none 0 0, .int .u8 0, .int .u8 0, .int .i64 0, .int .u8 0, .int .u8 0, .int .u64 0, .int .u64 0] 30)) V38.heap.size 30 := CellsAt.new _ _ _ rfl
          have hz40 : (V38.alloc (.cells #[.bool false, .int .u8 0, .int .u64 0, .int .u64 0, .string ⟨#[]⟩, .slice none 0 0, .int .u8 0, .int .u8 0, .int .i64 0, .int .u8 0, .int .u8 0, .int .u64 0, .int .u64 0] 30)).heap.size = V38.heap.size + 1 := by simp
          generalize hV40 : V38.alloc (.cells #[.bool false, .int .u8 0, .int .u64 0, .int .u64 0, .string ⟨#[]⟩, .slice none 0 0, .int .u8 0, .int .u8 0, .int .i64 0, .int .u8 0, .int .u8 0, .int .u64 0, .int .u64 0] 30) = V40 at *
          clear hV40 hb40
          refine heldMore (S2 := (fun V : World => Below w1.heap.size w1 V ∧ V.ownsRow w2.heap.size 61 2 (.slice A1 n1 c1) n1 (cellsP x.l) ∧ CellsAt V V2.heap.size 30 ∧ V.ownsRow V36.heap.size 61 2 (.slice A2 n2 c2) n2 (cellsP y.l) ∧ CellsAt V V38.heap.size 30)) (fun _ h => ⟨h.1, h.2.1, h.2.2.1, h.2.2.2.1⟩) ?_
          have hh40' : (fun V : World => Below w1.heap.size w1 V ∧ V.ownsRow w2.heap.size 61 2 (.slice A1 n1 c1) n1 (cellsP x.l) ∧ CellsAt V V2.heap.size 30 ∧ V.ownsRow V36.heap.size 61 2 (.slice A2 n2 c2) n2 (cellsP y.l) ∧ CellsAt V V38.heap.size 30) V40 := ⟨hh40.1, hh40.2.1, hh40.2.2.1, hh40.2.2.2, hc40⟩
          clear hh40 hc40
          replace hz40 : V38.heap.size + 1 ≤ V40.heap.size := by omega
          refine heldOne (i := 6) rfl (by kernel_rfl) (fun K hK => ?_)
          rw [if_pos (by rfl)]
          obtain ⟨cs42, hcs42, hsz42⟩ := hh40'.2.2.2.2
          refine wp_store_row _ _ _ rfl (V38.heap.size) _ rfl rfl _ _ hcs42 Try.infoI hsz42 (by simp [Value.oneCell']) ?_
          refine hK.out _ _ ?_ (fun hh42 => ?_)
          · exact ⟨(below_setRow hh40'.1 (by omega) _), (own_setRow2 hh40'.2.1 (fun e => by have := HL1.out _ e; omega) _), (hh40'.2.2.1.other (by omega) _), (own_setRow2 hh40'.2.2.2.1 (fun e => by have := HL2.out _ e; omega) _), (hh40'.2.2.2.2.same _ rfl)⟩
          clear hK K
          have hX : (V40.setRow (V38.heap.size) #[.bool x.g, .int .u8 x.o, .int .u64 x.q, .int .u64 x.t, .string x.r, .slice A1 n1 c1, .int .u8 x.s, .int .u8 x.p, .int .i64 x.v, .int .u8 x.w, .int .u8 x.ga, .int .u64 x.gf, .int .u64 x.gt]).heap[V38.heap.size]? = some (.cells #[.bool x.g, .int .u8 x.o, .int .u64 x.q, .int .u64 x.t, .string x.r, .slice A1 n1 c1, .int .u8 x.s, .int .u8 x.p, .int .i64 x.v, .int .u8 x.w, .int .u8 x.ga, .int .u64 x.gf, .int .u64 x.gt] 30 (0, 0)) := setRow_heap _ _ _ _ _ _ hcs42
          generalize hV42 : V40.setRow (V38.heap.size) #[.bool x.g, .int .u8 x.o, .int .u64 x.q, .int .u64 x.t, .string x.r, .slice A1 n1 c1, .int .u8 x.s, .int .u8 x.p, .int .i64 x.v, .int .u8 x.w, .int .u8 x.ga, .int .u64 x.gf, .int .u64 x.gt] = V42 at *
          clear hV42 hcs42 hsz42 
          refine heldOne (i := 7) rfl (by kernel_rfl) (fun K hK => ?_)
          rw [if_pos (by rfl)]
          obtain ⟨cs44, hcs44, hsz44⟩ := hh42.2.2.1
          refine wp_store_row _ _ _ rfl (V2.heap.size) _ rfl rfl _ _ hcs44 Try.infoI hsz44 (by simp [Value.oneCell']) ?_
          refine hK.out _ _ ?_ (fun hh44 => ?_)
          · exact ⟨(below_setRow hh42.1 (by omega) _), (own_setRow2 hh42.2.1 (fun e => by have := HL1.out _ e; omega) _), (hh42.2.2.1.same _ rfl), (own_setRow2 hh42.2.2.2.1 (fun e => by have := HL2.out _ e; omega) _), (hh42.2.2.2.2.other (by omega) _)⟩
          clear hK K
          have hY : (V42.setRow (V2.heap.size) #[.bool y.g, .int .u8 y.o, .int .u64 y.q, .int .u64 y.t, .string y.r, .slice A2 n2 c2, .int .u8 y.s, .int .u8 y.p, .int .i64 y.v, .int .u8 y.w, .int .u8 y.ga, .int .u64 y.gf, .int .u64 y.gt]).heap[V2.heap.size]? = some (.cells #[.bool y.g, .int .u8 y.o, .int .u64 y.q, .int .u64 y.t, .string y.r, .slice A2 n2 c2, .int .u8 y.s, .int .u8 y.p, .int .i64 y.v, .int .u8 y.w, .int .u8 y.ga, .int .u64 y.gf, .int .u64 y.gt] 30 (0, 0)) := setRow_heap _ _ _ _ _ _ hcs44
          have hX' : (V42.setRow (V2.heap.size) #[.bool y.g, .int .u8 y.o, .int .u64 y.q, .int .u64 y.t, .string y.r, .slice A2 n2 c2, .int .u8 y.s, .int .u8 y.p, .int .i64 y.v, .int .u8 y.w, .int .u8 y.ga, .int .u64 y.gf, .int .u64 y.gt]).heap[V38.heap.size]? = some (.cells #[.bool x.g, .int .u8 x.o, .int .u64 x.q, .int .u64 x.t, .string x.r, .slice A1 n1 c1, .int .u8 x.s, .int .u8 x.p, .int .i64 x.v, .int .u8 x.w, .int .u8 x.ga, .int .u64 x.gf, .int .u64 x.gt] 30 (0, 0)) := (setRow_other _ _ _ _ (by omega)).trans hX
          generalize hV44 : V42.setRow (V2.heap.size) #[.bool y.g, .int .u8 y.o, .int .u64 y.q, .int .u64 y.t, .string y.r, .slice A2 n2 c2, .int .u8 y.s, .int .u8 y.p, .int .i64 y.v, .int .u8 y.w, .int .u8 y.ga, .int .u64 y.gf, .int .u64 y.gt] = V44 at *
          clear hV44 hcs44 hsz44 hX
          refine wpAnyH_done (by kernel_rfl) ?_ _
          refine NoPanic.normal ?_
          go_wp2_with fail
          go_meet
          exact ⟨V38.heap.size, V2.heap.size, A1, n1, c1, A2, n2, c2, rfl, rfl, ⟨Hb1.out.trans (hh44.1.mono hw1), hX', hY, ownB_mono hh44.2.1 (by omega), ownB_mono hh44.2.2.2.1 (by omega), HN1.out, HN2.out, by omega, by omega, by omega, fun e => by have := HL1.out _ e; omega, fun e => by have := HL1.out _ e; omega, fun e => by have := HL2.out _ e; omega, fun e => by have := HL2.out _ e; omega⟩⟩
        case' g37_4 =>
          have hb45 : Below V36.heap.size V36 (V36.alloc (.cells #[.bool false, .int .u8 0, .int .u64 0, .int .u64 0, .string ⟨#[]⟩, .slice none 0 0, .int .u8 0, .int .u8 0, .int .i64 0, .int .u8 0, .int .u8 0, .int .u64 0, .int .u64 0] 30)) := (Below.refl _ _).alloc (Nat.le_refl _) _
          go_simp
          refine hK.out _ _ ?_ (fun hh45 => ?_)
          · exact ⟨(hh36'.1.trans (hb45.mono (hh36'.1.size))), (own_below hh36'.2.1 hb45), (hh36'.2.2.below hb45)⟩
          clear hK K
          try simp only [heldPut, List.set]
          have hc45 : CellsAt (V36.alloc (.cells #[.bool false, .int .u8 0, .int .u64 0, .int .u64 0, .string ⟨#[]⟩, .slice none 0 0, .int .u8 0, .int .u8 0, .int .i64 0, .int .u8 0, .int .u8 0, .int .u64 0, .int .u64 0] 30)) V36.heap.size 30 := CellsAt.new _ _ _ rfl
          have hz45 : (V36.alloc (.cells #[.bool false, .int .u8 0, .int .u64 0, .int .u64 0, .string ⟨#[]⟩, .slice none 0 0, .int .u8 0, .int .u8 0, .int .i64 0, .int .u8 0, .int .u8 0, .int .u64 0, .int .u64 0] 30)).heap.size = V36.heap.size + 1 := by simp
          generalize hV45 : V36.alloc (.cells #[.bool false, .int .u8 0, .int .u64 0, .int .u64 0, .string ⟨#[]⟩, .slice none 0 0, .int .u8 0, .int .u8 0, .int .i64 0, .int .u8 0, .int .u8 0, .int .u64 0, .int .u64 0] 30) = V45 at *
          clear hV45 hb45
          refine heldMore (S2 := (fun V : World => Below w1.heap.size w1 V ∧ V.ownsRow w2.heap.size 61 2 (.slice A1 n1 c1) n1 (cellsP x.l) ∧ CellsAt V V2.heap.size 30 ∧ CellsAt V V36.heap.size 30)) (fun _ h => ⟨h.1, h.2.1, h.2.2.1⟩) ?_
          have hh45' : (fun V : World => Below w1.heap.size w1 V ∧ V.ownsRow w2.heap.size 61 2 (.slice A1 n1 c1) n1 (cellsP x.l) ∧ CellsAt V V2.heap.size 30 ∧ CellsAt V V36.heap.size 30) V45 := ⟨hh45.1, hh45.2.1, hh45.2.2, hc45⟩
          clear hh45 hc45
          replace hz45 : V36.heap.size + 1 ≤ V45.heap.size := by omega
          refine heldOne (i := 3) rfl (by kernel_rfl) (fun K hK => ?_)
          go_simp
          refine (smallItem_as HX2.out HS2.out _).mono ?_
          rintro e V47 ⟨A2, n2, c2, rfl, hn2, ho2, hb47⟩
          have HN2 := Lib.hid hn2
          clear hn2
          go_wp2_with fail
          refine hK.out _ _ ?_ (fun hh47 => ?_)
          · exact ⟨(hh45'.1.trans (hb47.mono (hh45'.1.size))), (own_below hh45'.2.1 hb47), (hh45'.2.2.1.below hb47), (hh45'.2.2.2.below hb47)⟩
          clear hK K
          try simp only [heldPut, List.set]
          have hz47 := hb47.size
          have HL2 : Hid (∀ k, (Value.slice A2 n2 c2).ownBlock = some k → V45.heap.size ≤ k ∧ k < V47.heap.size) := fun k e => ho2.lt k e
          refine heldMore (S2 := (fun V : World => Below w1.heap.size w1 V ∧ V.ownsRow w2.heap.size 61 2 (.slice A1 n1 c1) n1 (cellsP x.l) ∧ CellsAt V V2.heap.size 30 ∧ CellsAt V V36.heap.size 30 ∧ V.ownsRow V45.heap.size 61 2 (.slice A2 n2 c2) n2 (cellsP y.l))) (fun _ h => ⟨h.1, h.2.1, h.2.2.1, h.2.2.2.1⟩) ?_
          have hh47' : (fun V : World => Below w1.heap.size w1 V ∧ V.ownsRow w2.heap.size 61 2 (.slice A1 n1 c1) n1 (cellsP x.l) ∧ CellsAt V V2.heap.size 30 ∧ CellsAt V V36.heap.size 30 ∧ V.ownsRow V45.heap.size 61 2 (.slice A2 n2 c2) n2 (cellsP y.l)) V47 := ⟨hh47.1, hh47.2.1, hh47.2.2.1, hh47.2.2.2, ho2⟩
          clear hh47 ho2 hb47
          refine heldOne (i := 6) rfl (by kernel_rfl) (fun K hK => ?_)
          rw [if_pos (by rfl)]
          obtain ⟨cs49, hcs49, hsz49⟩ := hh47'.2.2.2.1
          refine wp_store_row _ _ _ rfl (V36.heap.size) _ rfl rfl _ _ hcs49 Try.infoI hsz49 (by simp [Value.oneCell']) ?_
          refine hK.out _ _ ?_ (fun hh49 => ?_)
          · exact ⟨(below_setRow hh47'.1 (by omega) _), (own_setRow2 hh47'.2.1 (fun e => by have := HL1.out _ e; omega) _), (hh47'.2.2.1.other (by omega) _), (hh47'.2.2.2.1.same _ rfl), (own_setRow2 hh47'.2.2.2.2 (fun e => by have := HL2.out _ e; omega) _)⟩
          clear hK K
          have hX : (V47.setRow (V36.heap.size) #[.bool x.g, .int .u8 x.o, .int .u64 x.q, .int .u64 x.t, .string x.r, .slice A1 n1 c1, .int .u8 x.s, .int .u8 x.p, .int .i64 x.v, .int .u8 x.w, .int .u8 x.ga, .int .u64 x.gf, .int .u64 x.gt]).heap[V36.heap.size]? = some (.cells #[.bool x.g, .int .u8 x.o, .int .u64 x.q, .int .u64 x.t, .string x.r, .slice A1 n1 c1, .int .u8 x.s, .int .u8 x.p, .int .i64 x.v, .int .u8 x.w, .int .u8 x.ga, .int .u64 x.gf, .int .u64 x.gt] 30 (0, 0)) := setRow_heap _ _ _ _ _ _ hcs49
          generalize hV49 : V47.setRow (V36.heap.size) #[.bool x.g, .int .u8 x.o, .int .u64 x.q, .int .u64 x.t, .string x.r, .slice A1 n1 c1, .int .u8 x.s, .int .u8 x.p, .int .i64 x.v, .int .u8 x.w, .int .u8 x.ga, .int .u64 x.gf, .int .u64 x.gt] = V49 at *
          clear hV49 hcs49 hsz49 
          refine heldOne (i := 7) rfl (by kernel_rfl) (fun K hK => ?_)
          rw [if_pos (by rfl)]
          obtain ⟨cs51, hcs51, hsz51⟩ := hh49.2.2.1
          refine wp_store_row _ _ _ rfl (V2.heap.size) _ rfl rfl _ _ hcs51 Try.infoI hsz51 (by simp [Value.oneCell']) ?_
          refine hK.out _ _ ?_ (fun hh51 => ?_)
          · exact ⟨(below_setRow hh49.1 (by omega) _), (own_setRow2 hh49.2.1 (fun e => by have := HL1.out _ e; omega) _), (hh49.2.2.1.same _ rfl), (hh49.2.2.2.1.other (by omega) _), (own_setRow2 hh49.2.2.2.2 (fun e => by have := HL2.out _ e; omega) _)⟩
          clear hK K
          have hY : (V49.setRow (V2.heap.size) #[.bool y.g, .int .u8 y.o, .int .u64 y.q, .int .u64 y.t, .string y.r, .slice A2 n2 c2, .int .u8 y.s, .int .u8 y.p, .int .i64 y.v, .int .u8 y.w, .int .u8 y.ga, .int .u64 y.gf, .int .u64 y.gt]).heap[V2.heap.size]? = some (.cells #[.bool y.g, .int .u8 y.o, .int .u64 y.q, .int .u64 y.t, .string y.r, .slice A2 n2 c2, .int .u8 y.s, .int .u8 y.p, .int .i64 y.v, .int .u8 y.w, .int .u8 y.ga, .int .u64 y.gf, .int .u64 y.gt] 30 (0, 0)) := setRow_heap _ _ _ _ _ _ hcs51
          have hX' : (V49.setRow (V2.heap.size) #[.bool y.g, .int .u8 y.o, .int .u64 y.q, .int .u64 y.t, .string y.r, .slice A2 n2 c2, .int .u8 y.s, .int .u8 y.p, .int .i64 y.v, .int .u8 y.w, .int .u8 y.ga, .int .u64 y.gf, .int .u64 y.gt]).heap[V36.heap.size]? = some (.cells #[.bool x.g, .int .u8 x.o, .int .u64 x.q, .int .u64 x.t, .string x.r, .slice A1 n1 c1, .int .u8 x.s, .int .u8 x.p, .int .i64 x.v, .int .u8 x.w, .int .u8 x.ga, .int .u64 x.gf, .int .u64 x.gt] 30 (0, 0)) := (setRow_other _ _ _ _ (by omega)).trans hX
          generalize hV51 : V49.setRow (V2.heap.size) #[.bool y.g, .int .u8 y.o, .int .u64 y.q, .int .u64 y.t, .string y.r, .slice A2 n2 c2, .int .u8 y.s, .int .u8 y.p, .int .i64 y.v, .int .u8 y.w, .int .u8 y.ga, .int .u64 y.gf, .int .u64 y.gt] = V51 at *
          clear hV51 hcs51 hsz51 hX
          refine wpAnyH_done (by kernel_rfl) ?_ _
          refine NoPanic.normal ?_
          go_wp2_with fail
          go_meet
          exact ⟨V36.heap.size, V2.heap.size, A1, n1, c1, A2, n2, c2, rfl, rfl, ⟨Hb1.out.trans (hh51.1.mono hw1), hX', hY, ownB_mono hh51.2.1 (by omega), ownB_mono hh51.2.2.2.2 (by omega), HN1.out, HN2.out, by omega, by omega, by omega, fun e => by have := HL1.out _ e; omega, fun e => by have := HL1.out _ e; omega, fun e => by have := HL2.out _ e; omega, fun e => by have := HL2.out _ e; omega⟩⟩
    case' g1_4 =>
      have hb52 : Below w2.heap.size w2 (w2.alloc (.cells #[.bool false, .int .u8 0, .int .u64 0, .int .u64 0, .string ⟨#[]⟩, .slice none 0 0, .int .u8 0, .int .u8 0, .int .i64 0, .int .u8 0, .int .u8 0, .int .u64 0, .int .u64 0] 30)) := (Below.refl _ _).alloc (Nat.le_refl _) _
      go_simp
      refine hK.out _ _ ?_ (fun hh52 => ?_)
      · exact (hHeld.trans (hb52.mono (hHeld.size)))
      clear hK K
      try simp only [heldPut, List.set]
      have hc52 : CellsAt (w2.alloc (.cells #[.bool false, .int .u8 0, .int .u64 0, .int .u64 0, .string ⟨#[]⟩, .slice none 0 0, .int .u8 0, .int .u8 0, .int .i64 0, .int .u8 0, .int .u8 0, .int .u64 0, .int .u64 0] 30)) w2.heap.size 30 := CellsAt.new _ _ _ rfl
      have hz52 : (w2.alloc (.cells #[.bool false, .int .u8 0, .int .u64 0, .int .u64 0, .string ⟨#[]⟩, .slice none 0 0, .int .u8 0, .int .u8 0, .int .i64 0, .int .u8 0, .int .u8 0, .int .u64 0, .int .u64 0] 30)).heap.size = w2.heap.size + 1 := by simp
      generalize hV52 : w2.alloc (.cells #[.bool false, .int .u8 0, .int .u64 0, .int .u64 0, .string ⟨#[]⟩, .slice none 0 0, .int .u8 0, .int .u8 0, .int .i64 0, .int .u8 0, .int .u8 0, .int .u64 0, .int .u64 0] 30) = V52 at *
      clear hV52 hb52
      refine heldMore (S2 := (fun V : World => Below w1.heap.size w1 V ∧ CellsAt V w2.heap.size 30)) (fun _ h => h.1) ?_
      have hh52' : (fun V : World => Below w1.heap.size w1 V ∧ CellsAt V w2.heap.size 30) V52 := ⟨hh52, hc52⟩
      clear hh52 hc52
      replace hz52 : w2.heap.size + 1 ≤ V52.heap.size := by omega
      refine heldTwo (i := 1) (j := 5) rfl rfl (by kernel_rfl) (fun K hK => ?g53_1) (fun K hK => ?g53_5)
      case' g53_1 =>
        go_simp
        refine (smallItem_as HX1.out HS1.out _).mono ?_
        rintro e V54 ⟨A1, n1, c1, rfl, hn1, ho1, hb54⟩
        have HN1 := Lib.hid hn1
        clear hn1
        go_wp2_with fail
        refine hK.out _ _ ?_ (fun hh54 => ?_)
        · exact ⟨(hh52'.1.trans (hb54.mono (hh52'.1.size))), (hh52'.2.below hb54)⟩
        clear hK K
        try simp only [heldPut, List.set]
        have hz54 := hb54.size
        have HL1 : Hid (∀ k, (Value.slice A1 n1 c1).ownBlock = some k → V52.heap.size ≤ k ∧ k < V54.heap.size) := fun k e => ho1.lt k e
        refine heldMore (S2 := (fun V : World => Below w1.heap.size w1 V ∧ CellsAt V w2.heap.size 30 ∧ V.ownsRow V52.heap.size 61 2 (.slice A1 n1 c1) n1 (cellsP x.l))) (fun _ h => ⟨h.1, h.2.1⟩) ?_
        have hh54' : (fun V : World => Below w1.heap.size w1 V ∧ CellsAt V w2.heap.size 30 ∧ V.ownsRow V52.heap.size 61 2 (.slice A1 n1 c1) n1 (cellsP x.l)) V54 := ⟨hh54.1, hh54.2, ho1⟩
        clear hh54 ho1 hb54
        refine heldTwo (i := 3) (j := 5) rfl rfl (by kernel_rfl) (fun K hK => ?g55_3) (fun K hK => ?g55_5)
        case' g55_3 =>
          go_simp
          refine (smallItem_as HX2.out HS2.out _).mono ?_
          rintro e V56 ⟨A2, n2, c2, rfl, hn2, ho2, hb56⟩
          have HN2 := Lib.hid hn2
          clear hn2
          go_wp2_with fail
          refine hK.out _ _ ?_ (fun hh56 => ?_)
          · exact ⟨(hh54'.1.trans (hb56.mono (hh54'.1.size))), (hh54'.2.1.below hb56), (own_below hh54'.2.2 hb56)⟩
          clear hK K
          try simp only [heldPut, List.set]
          have hz56 := hb56.size
          have HL2 : Hid (∀ k, (Value.slice A2 n2 c2).ownBlock = some k → V54.heap.size ≤ k ∧ k < V56.heap.size) := fun k e => ho2.lt k e
          refine heldMore (S2 := (fun V : World => Below w1.heap.size w1 V ∧ CellsAt V w2.heap.size 30 ∧ V.ownsRow V52.heap.size 61 2 (.slice A1 n1 c1) n1 (cellsP x.l) ∧ V.ownsRow V54.heap.size 61 2 (.slice A2 n2 c2) n2 (cellsP y.l))) (fun _ h => ⟨h.1, h.2.1, h.2.2.1⟩) ?_
          have hh56' : (fun V : World => Below w1.heap.size w1 V ∧ CellsAt V w2.heap.size 30 ∧ V.ownsRow V52.heap.size 61 2 (.slice A1 n1 c1) n1 (cellsP x.l) ∧ V.ownsRow V54.heap.size 61 2 (.slice A2 n2 c2) n2 (cellsP y.l)) V56 := ⟨hh56.1, hh56.2.1, hh56.2.2, ho2⟩
          clear hh56 ho2 hb56
          refine heldOne (i := 5) rfl (by kernel_rfl) (fun K hK => ?_)
          have hb58 : Below V56.heap.size V56 (V56.alloc (.cells #[.bool false, .int .u8 0, .int .u64 0, .int .u64 0, .string ⟨#[]⟩, .slice none 0 0, .int .u8 0, .int .u8 0, .int .i64 0, .int .u8 0, .int .u8 0, .int .u64 0, .int .u64 0] 30)) := (Below.refl _ _).alloc (Nat.le_refl _) _
          go_simp
          refine hK.out _ _ ?_ (fun hh58 => ?_)
          · exact ⟨(hh56'.1.trans (hb58.mono (hh56'.1.size))), (hh56'.2.1.below hb58), (own_below hh56'.2.2.1 hb58), (own_below hh56'.2.2.2 hb58)⟩
          clear hK K
          try simp only [heldPut, List.set]
          have hc58 : CellsAt (V56.alloc (.cells #[.bool false, .int .u8 0, .int .u64 0, .int .u64 0, .string ⟨#[]⟩, .slice none 0 0, .int .u8 0, .int .u8 0, .int .i64 0, .int .u8 0, .int .u8 0, .int .u64 0, .int .u64 0] 30)) V56.heap.size 30 := CellsAt.new _ _ _ rfl
          have hz58 : (V56.alloc (.cells #[.bool false, .int .u8 0, .int .u64 0, .int .u64 0, .string ⟨#[]⟩, .slice none 0 0, .int .u8 0, .int .u8 0, .int .i64 0, .int .u8 0, .int .u8 0, .int .u64 0, .int .u64 0] 30)).heap.size = V56.heap.size + 1 := by simp
          generalize hV58 : V56.alloc (.cells #[.bool false, .int .u8 0, .int .u64 0, .int .u64 0, .string ⟨#[]⟩, .slice none 0 0, .int .u8 0, .int .u8 0, .int .i64 0, .int .u8 0, .int .u8 0, .int .u64 0, .int .u64 0] 30) = V58 at *
          clear hV58 hb58
          refine heldMore (S2 := (fun V : World => Below w1.heap.size w1 V ∧ CellsAt V w2.heap.size 30 ∧ V.ownsRow V52.heap.size 61 2 (.slice A1 n1 c1) n1 (cellsP x.l) ∧ V.ownsRow V54.heap.size 61 2 (.slice A2 n2 c2) n2 (cellsP y.l) ∧ CellsAt V V56.heap.size 30)) (fun _ h => ⟨h.1, h.2.1, h.2.2.1, h.2.2.2.1⟩) ?_
          have hh58' : (fun V : World => Below w1.heap.size w1 V ∧ CellsAt V w2.heap.size 30 ∧ V.ownsRow V52.heap.size 61 2 (.slice A1 n1 c1) n1 (cellsP x.l) ∧ V.ownsRow V54.heap.size 61 2 (.slice A2 n2 c2) n2 (cellsP y.l) ∧ CellsAt V V56.heap.size 30) V58 := ⟨hh58.1, hh58.2.1, hh58.2.2.1, hh58.2.2.2, hc58⟩
          clear hh58 hc58
          replace hz58 : V56.heap.size + 1 ≤ V58.heap.size := by omega
          refine heldOne (i := 6) rfl (by kernel_rfl) (fun K hK => ?_)
          rw [if_pos (by rfl)]
          obtain ⟨cs60, hcs60, hsz60⟩ := hh58'.2.1
          refine wp_store_row _ _ _ rfl (w2.heap.size) _ rfl rfl _ _ hcs60 Try.infoI hsz60 (by simp [Value.oneCell']) ?_
          refine hK.out _ _ ?_ (fun hh60 => ?_)
          · exact ⟨(below_setRow hh58'.1 (by omega) _), (hh58'.2.1.same _ rfl), (own_setRow2 hh58'.2.2.1 (fun e => by have := HL1.out _ e; omega) _), (own_setRow2 hh58'.2.2.2.1 (fun e => by have := HL2.out _ e; omega) _), (hh58'.2.2.2.2.other (by omega) _)⟩
          clear hK K
          have hX : (V58.setRow (w2.heap.size) #[.bool x.g, .int .u8 x.o, .int .u64 x.q, .int .u64 x.t, .string x.r, .slice A1 n1 c1, .int .u8 x.s, .int .u8 x.p, .int .i64 x.v, .int .u8 x.w, .int .u8 x.ga, .int .u64 x.gf, .int .u64 x.gt]).heap[w2.heap.size]? = some (.cells #[.bool x.g, .int .u8 x.o, .int .u64 x.q, .int .u64 x.t, .string x.r, .slice A1 n1 c1, .int .u8 x.s, .int .u8 x.p, .int .i64 x.v, .int .u8 x.w, .int .u8 x.ga, .int .u64 x.gf, .int .u64 x.gt] 30 (0, 0)) := setRow_heap _ _ _ _ _ _ hcs60
          generalize hV60 : V58.setRow (w2.heap.size) #[.bool x.g, .int .u8 x.o, .int .u64 x.q, .int .u64 x.t, .string x.r, .slice A1 n1 c1, .int .u8 x.s, .int .u8 x.p, .int .i64 x.v, .int .u8 x.w, .int .u8 x.ga, .int .u64 x.gf, .int .u64 x.gt] = V60 at *
          clear hV60 hcs60 hsz60 
          refine heldOne (i := 7) rfl (by kernel_rfl) (fun K hK => ?_)
          rw [if_pos (by rfl)]
          obtain ⟨cs62, hcs62, hsz62⟩ := hh60.2.2.2.2
          refine wp_store_row _ _ _ rfl (V56.heap.size) _ rfl rfl _ _ hcs62 Try.infoI hsz62 (by simp [Value.oneCell']) ?_
          refine hK.out _ _ ?_ (fun hh62 => ?_)
          · exact ⟨(below_setRow hh60.1 (by omega) _), (hh60.2.1.other (by omega) _), (own_setRow2 hh60.2.2.1 (fun e => by have := HL1.out _ e; omega) _), (own_setRow2 hh60.2.2.2.1 (fun e => by have := HL2.out _ e; omega) _), (hh60.2.2.2.2.same _ rfl)⟩
          clear hK K
          have hY : (V60.setRow (V56.heap.size) #[.bool y.g, .int .u8 y.o, .int .u64 y.q, .int .u64 y.t, .string y.r, .slice A2 n2 c2, .int .u8 y.s, .int .u8 y.p, .int .i64 y.v, .int .u8 y.w, .int .u8 y.ga, .int .u64 y.gf, .int .u64 y.gt]).heap[V56.heap.size]? = some (.cells #[.bool y.g, .int .u8 y.o, .int .u64 y.q, .int .u64 y.t, .string y.r, .slice A2 n2 c2, .int .u8 y.s, .int .u8 y.p, .int .i64 y.v, .int .u8 y.w, .int .u8 y.ga, .int .u64 y.gf, .int .u64 y.gt] 30 (0, 0)) := setRow_heap _ _ _ _ _ _ hcs62
          have hX' : (V60.setRow (V56.heap.size) #[.bool y.g, .int .u8 y.o, .int .u64 y.q, .int .u64 y.t, .string y.r, .slice A2 n2 c2, .int .u8 y.s, .int .u8 y.p, .int .i64 y.v, .int .u8 y.w, .int .u8 y.ga, .int .u64 y.gf, .int .u64 y.gt]).heap[w2.heap.size]? = some (.cells #[.bool x.g, .int .u8 x.o, .int .u64 x.q, .int .u64 x.t, .string x.r, .slice A1 n1 c1, .int .u8 x.s, .int .u8 x.p, .int .i64 x.v, .int .u8 x.w, .int .u8 x.ga, .int .u64 x.gf, .int .u64 x.gt] 30 (0, 0)) := (setRow_other _ _ _ _ (by omega)).trans hX
          generalize hV62 : V60.setRow (V56.heap.size) #[.bool y.g, .int .u8 y.o, .int .u64 y.q, .int .u64 y.t, .string y.r, .slice A2 n2 c2, .int .u8 y.s, .int .u8 y.p, .int .i64 y.v, .int .u8 y.w, .int .u8 y.ga, .int .u64 y.gf, .int .u64 y.gt] = V62 at *
          clear hV62 hcs62 hsz62 hX
          refine wpAnyH_done (by kernel_rfl) ?_ _
          refine NoPanic.normal ?_
          go_wp2_with fail
          go_meet
          exact ⟨w2.heap.size, V56.heap.size, A1, n1, c1, A2, n2, c2, rfl, rfl, ⟨Hb1.out.trans (hh62.1.mono hw1), hX', hY, ownB_mono hh62.2.2.1 (by omega), ownB_mono hh62.2.2.2.1 (by omega), HN1.out, HN2.out, by omega, by omega, by omega, fun e => by have := HL1.out _ e; omega, fun e => by have := HL1.out _ e; omega, fun e => by have := HL2.out _ e; omega, fun e => by have := HL2.out _ e; omega⟩⟩
        case' g55_5 =>
          have hb63 : Below V54.heap.size V54 (V54.alloc (.cells #[.bool false, .int .u8 0, .int .u64 0, .int .u64 0, .string ⟨#[]⟩, .slice none 0 0, .int .u8 0, .int .u8 0, .int .i64 0, .int .u8 0, .int .u8 0, .int .u64 0, .int .u64 0] 30)) := (Below.refl _ _).alloc (Nat.le_refl _) _
          go_simp
          refine hK.out _ _ ?_ (fun hh63 => ?_)
          · exact ⟨(hh54'.1.trans (hb63.mono (hh54'.1.size))), (hh54'.2.1.below hb63), (own_below hh54'.2.2 hb63)⟩
          clear hK K
          try simp only [heldPut, List.set]
          have hc63 : CellsAt (V54.alloc (.cells #[.bool false, .int .u8 0, .int .u64 0, .int .u64 0, .string ⟨#[]⟩, .slice none 0 0, .int .u8 0, .int .u8 0, .int .i64 0, .int .u8 0, .int .u8 0, .int .u64 0, .int .u64 0] 30)) V54.heap.size 30 := CellsAt.new _ _ _ rfl
          have hz63 : (V54.alloc (.cells #[.bool false, .int .u8 0, .int .u64 0, .int .u64 0, .string ⟨#[]⟩, .slice none 0 0, .int .u8 0, .int .u8 0, .int .i64 0, .int .u8 0, .int .u8 0, .int .u64 0, .int .u64 0] 30)).heap.size = V54.heap.size + 1 := by simp
          generalize hV63 : V54.alloc (.cells #[.bool false, .int .u8 0, .int .u64 0, .int .u64 0, .string ⟨#[]⟩, .slice none 0 0, .int .u8 0, .int .u8 0, .int .i64 0, .int .u8 0, .int .u8 0, .int .u64 0, .int .u64 0] 30) = V63 at *
          clear hV63 hb63
          refine heldMore (S2 := (fun V : World => Below w1.heap.size w1 V ∧ CellsAt V w2.heap.size 30 ∧ V.ownsRow V52.heap.size 61 2 (.slice A1 n1 c1) n1 (cellsP x.l) ∧ CellsAt V V54.heap.size 30)) (fun _ h => ⟨h.1, h.2.1, h.2.2.1⟩) ?_
          have hh63' : (fun V : World => Below w1.heap.size w1 V ∧ CellsAt V w2.heap.size 30 ∧ V.ownsRow V52.heap.size 61 2 (.slice A1 n1 c1) n1 (cellsP x.l) ∧ CellsAt V V54.heap.size 30) V63 := ⟨hh63.1, hh63.2.1, hh63.2.2, hc63⟩
          clear hh63 hc63
          replace hz63 : V54.heap.size + 1 ≤ V63.heap.size := by omega
          refine heldOne (i := 3) rfl (by kernel_rfl) (fun K hK => ?_)
          go_simp
          refine (smallItem_as HX2.out HS2.out _).mono ?_
          rintro e V65 ⟨A2, n2, c2, rfl, hn2, ho2, hb65⟩
          have HN2 := Lib.hid hn2
          clear hn2
          go_wp2_with fail
          refine hK.out _ _ ?_ (fun hh65 => ?_)
          · exact ⟨(hh63'.1.trans (hb65.mono (hh63'.1.size))), (hh63'.2.1.below hb65), (own_below hh63'.2.2.1 hb65), (hh63'.2.2.2.below hb65)⟩
          clear hK K
          try simp only [heldPut, List.set]
          have hz65 := hb65.size
          have HL2 : Hid (∀ k, (Value.slice A2 n2 c2).ownBlock = some k → V63.heap.size ≤ k ∧ k < V65.heap.size) := fun k e => ho2.lt k e
          refine heldMore (S2 := (fun V : World => Below w1.heap.size w1 V ∧ CellsAt V w2.heap.size 30 ∧ V.ownsRow V52.heap.size 61 2 (.slice A1 n1 c1) n1 (cellsP x.l) ∧ CellsAt V V54.heap.size 30 ∧ V.ownsRow V63.heap.size 61 2 (.slice A2 n2 c2) n2 (cellsP y.l))) (fun _ h => ⟨h.1, h.2.1, h.2.2.1, h.2.2.2.1⟩) ?_
          have hh65' : (fun V : World => Below w1.heap.size w1 V ∧ CellsAt V w2.heap.size 30 ∧ V.ownsRow V52.heap.size 61 2 (.slice A1 n1 c1) n1 (cellsP x.l) ∧ CellsAt V V54.heap.size 30 ∧ V.ownsRow V63.heap.size 61 2 (.slice A2 n2 c2) n2 (cellsP y.l)) V65 := ⟨hh65.1, hh65.2.1, hh65.2.2.1, hh65.2.2.2, ho2⟩
          clear hh65 ho2 hb65
          refine heldOne (i := 6) rfl (by kernel_rfl) (fun K hK => ?_)
          rw [if_pos (by rfl)]
          obtain ⟨cs67, hcs67, hsz67⟩ := hh65'.2.1
          refine wp_store_row _ _ _ rfl (w2.heap.size) _ rfl rfl _ _ hcs67 Try.infoI hsz67 (by simp [Value.oneCell']) ?_
          refine hK.out _ _ ?_ (fun hh67 => ?_)
          · exact ⟨(below_setRow hh65'.1 (by omega) _), (hh65'.2.1.same _ rfl), (own_setRow2 hh65'.2.2.1 (fun e => by have := HL1.out _ e; omega) _), (hh65'.2.2.2.1.other (by omega) _), (own_setRow2 hh65'.2.2.2.2 (fun e => by have := HL2.out _ e; omega) _)⟩
          clear hK K
          have hX : (V65.setRow (w2.heap.size) #[.bool x.g, .int .u8 x.o, .int .u64 x.q, .int .u64 x.t, .string x.r, .slice A1 n1 c1, .int .u8 x.s, .int .u8 x.p, .int .i64 x.v, .int .u8 x.w, .int .u8 x.ga, .int .u64 x.gf, .int .u64 x.gt]).heap[w2.heap.size]? = some (.cells #[.bool x.g, .int .u8 x.o, .int .u64 x.q, .int .u64 x.t, .string x.r, .slice A1 n1 c1, .int .u8 x.s, .int .u8 x.p, .int .i64 x.v, .int .u8 x.w, .int .u8 x.ga, .int .u64 x.gf, .int .u64 x.gt] 30 (0, 0)) := setRow_heap _ _ _ _ _ _ hcs67
          generalize hV67 : V65.setRow (w2.heap.size) #[.bool x.g, .int .u8 x.o, .int .u64 x.q, .int .u64 x.t, .string x.r, .slice A1 n1 c1, .int .u8 x.s, .int .u8 x.p, .int .i64 x.v, .int .u8 x.w, .int .u8 x.ga, .int .u64 x.gf, .int .u64 x.gt] = V67 at *
          clear hV67 hcs67 hsz67 
          refine heldOne (i := 7) rfl (by kernel_rfl) (fun K hK => ?_)
          rw [if_pos (by rfl)]
          obtain ⟨cs69, hcs69, hsz69⟩ := hh67.2.2.2.1
          refine wp_store_row _ _ _ rfl (V54.heap.size) _ rfl rfl _ _ hcs69 Try.infoI hsz69 (by simp [Value.oneCell']) ?_
          refine hK.out _ _ ?_ (fun hh69 => ?_)
          · exact ⟨(below_setRow hh67.1 (by omega) _), (hh67.2.1.other (by omega) _), (own_setRow2 hh67.2.2.1 (fun e => by have := HL1.out _ e; omega) _), (hh67.2.2.2.1.same _ rfl), (own_setRow2 hh67.2.2.2.2 (fun e => by have := HL2.out _ e; omega) _)⟩
          clear hK K
          have hY : (V67.setRow (V54.heap.size) #[.bool y.g, .int .u8 y.o, .int .u64 y.q, .int .u64 y.t, .string y.r, .slice A2 n2 c2, .int .u8 y.s, .int .u8 y.p, .int .i64 y.v, .int .u8 y.w, .int .u8 y.ga, .int .u64 y.gf, .int .u64 y.gt]).heap[V54.heap.size]? = some (.cells #[.bool y.g, .int .u8 y.o, .int .u64 y.q, .int .u64 y.t, .string y.r, .slice A2 n2 c2, .int .u8 y.s, .int .u8 y.p, .int .i64 y.v, .int .u8 y.w, .int .u8 y.ga, .int .u64 y.gf, .int .u64 y.gt] 30 (0, 0)) := setRow_heap _ _ _ _ _ _ hcs69
          have hX' : (V67.setRow (V54.heap.size) #[.bool y.g, .int .u8 y.o, .int .u64 y.q, .int .u64 y.t, .string y.r, .slice A2 n2 c2, .int .u8 y.s, .int .u8 y.p, .int .i64 y.v, .int .u8 y.w, .int .u8 y.ga, .int .u64 y.gf, .int .u64 y.gt]).heap[w2.heap.size]? = some (.cells #[.bool x.g, .int .u8 x.o, .int .u64 x.q, .int .u64 x.t, .string x.r, .slice A1 n1 c1, .int .u8 x.s, .int .u8 x.p, .int .i64 x.v, .int .u8 x.w, .int .u8 x.ga, .int .u64 x.gf, .int .u64 x.gt] 30 (0, 0)) := (setRow_other _ _ _ _ (by omega)).trans hX
          generalize hV69 : V67.setRow (V54.heap.size) #[.bool y.g, .int .u8 y.o, .int .u64 y.q, .int .u64 y.t, .string y.r, .slice A2 n2 c2, .int .u8 y.s, .int .u8 y.p, .int .i64 y.v, .int .u8 y.w, .int .u8 y.ga, .int .u64 y.gf, .int .u64 y.gt] = V69 at *
          clear hV69 hcs69 hsz69 hX
          refine wpAnyH_done (by kernel_rfl) ?_ _
          refine NoPanic.normal ?_
          go_wp2_with fail
          go_meet
          exact ⟨w2.heap.size, V54.heap.size, A1, n1, c1, A2, n2, c2, rfl, rfl, ⟨Hb1.out.trans (hh69.1.mono hw1), hX', hY, ownB_mono hh69.2.2.1 (by omega), ownB_mono hh69.2.2.2.2 (by omega), HN1.out, HN2.out, by omega, by omega, by omega, fun e => by have := HL1.out _ e; omega, fun e => by have := HL1.out _ e; omega, fun e => by have := HL2.out _ e; omega, fun e => by have := HL2.out _ e; omega⟩⟩
      case' g53_5 =>
        have hb70 : Below V52.heap.size V52 (V52.alloc (.cells #[.bool false, .int .u8 0, .int .u64 0, .int .u64 0, .string ⟨#[]⟩, .slice none 0 0, .int .u8 0, .int .u8 0, .int .i64 0, .int .u8 0, .int .u8 0, .int .u64 0, .int .u64 0] 30)) := (Below.refl _ _).alloc (Nat.le_refl _) _
        go_simp
        refine hK.out _ _ ?_ (fun hh70 => ?_)
        · exact ⟨(hh52'.1.trans (hb70.mono (hh52'.1.size))), (hh52'.2.below hb70)⟩
        clear hK K
        try simp only [heldPut, List.set]
        have hc70 : CellsAt (V52.alloc (.cells #[.bool false, .int .u8 0, .int .u64 0, .int .u64 0, .string ⟨#[]⟩, .slice none 0 0, .int .u8 0, .int .u8 0, .int .i64 0, .int .u8 0, .int .u8 0, .int .u64 0, .int .u64 0] 30)) V52.heap.size 30 := CellsAt.new _ _ _ rfl
        have hz70 : (V52.alloc (.cells #[.bool false, .int .u8 0, .int .u64 0, .int .u64 0, .string ⟨#[]⟩, .slice none 0 0, .int .u8 0, .int .u8 0, .int .i64 0, .int .u8 0, .int .u8 0, .int .u64 0, .int .u64 0] 30)).heap.size = V52.heap.size + 1 := by simp
        generalize hV70 : V52.alloc (.cells #[.bool false, .int .u8 0, .int .u64 0, .int .u64 0, .string ⟨#[]⟩, .slice none 0 0, .int .u8 0, .int .u8 0, .int .i64 0, .int .u8 0, .int .u8 0, .int .u64 0, .int .u64 0] 30) = V70 at *
        clear hV70 hb70
        refine heldMore (S2 := (fun V : World => Below w1.heap.size w1 V ∧ CellsAt V w2.heap.size 30 ∧ CellsAt V V52.heap.size 30)) (fun _ h => ⟨h.1, h.2.1⟩) ?_
        have hh70' : (fun V : World => Below w1.heap.size w1 V ∧ CellsAt V w2.heap.size 30 ∧ CellsAt V V52.heap.size 30) V70 := ⟨hh70.1, hh70.2, hc70⟩
        clear hh70 hc70
        replace hz70 : V52.heap.size + 1 ≤ V70.heap.size := by omega
        refine heldOne (i := 1) rfl (by kernel_rfl) (fun K hK => ?_)
        go_simp
        refine (smallItem_as HX1.out HS1.out _).mono ?_
        rintro e V72 ⟨A1, n1, c1, rfl, hn1, ho1, hb72⟩
        have HN1 := Lib.hid hn1
        clear hn1
        go_wp2_with fail
        refine hK.out _ _ ?_ (fun hh72 => ?_)
        · exact ⟨(hh70'.1.trans (hb72.mono (hh70'.1.size))), (hh70'.2.1.below hb72), (hh70'.2.2.below hb72)⟩
        clear hK K
        try simp only [heldPut, List.set]
        have hz72 := hb72.size
        have HL1 : Hid (∀ k, (Value.slice A1 n1 c1).ownBlock = some k → V70.heap.size ≤ k ∧ k < V72.heap.size) := fun k e => ho1.lt k e
        refine heldMore (S2 := (fun V : World => Below w1.heap.size w1 V ∧ CellsAt V w2.heap.size 30 ∧ CellsAt V V52.heap.size 30 ∧ V.ownsRow V70.heap.size 61 2 (.slice A1 n1 c1) n1 (cellsP x.l))) (fun _ h => ⟨h.1, h.2.1, h.2.2.1⟩) ?_
        have hh72' : (fun V : World => Below w1.heap.size w1 V ∧ CellsAt V w2.heap.size 30 ∧ CellsAt V V52.heap.size 30 ∧ V.ownsRow V70.heap.size 61 2 (.slice A1 n1 c1) n1 (cellsP x.l)) V72 := ⟨hh72.1, hh72.2.1, hh72.2.2, ho1⟩
        clear hh72 ho1 hb72
        refine heldOne (i := 3) rfl (by kernel_rfl) (fun K hK => ?_)
        go_simp
        refine (smallItem_as HX2.out HS2.out _).mono ?_
        rintro e V74 ⟨A2, n2, c2, rfl, hn2, ho2, hb74⟩
        have HN2 := Lib.hid hn2
        clear hn2
        go_wp2_with fail
        refine hK.out _ _ ?_ (fun hh74 => ?_)
        · exact ⟨(hh72'.1.trans (hb74.mono (hh72'.1.size))), (hh72'.2.1.below hb74), (hh72'.2.2.1.below hb74), (own_below hh72'.2.2.2 hb74)⟩
        clear hK K
        try simp only [heldPut, List.set]
        have hz74 := hb74.size
        have HL2 : Hid (∀ k, (Value.slice A2 n2 c2).ownBlock = some k → V72.heap.size ≤ k ∧ k < V74.heap.size) := fun k e => ho2.lt k e
        refine heldMore (S2 := (fun V : World => Below w1.heap.size w1 V ∧ CellsAt V w2.heap.size 30 ∧ CellsAt V V52.heap.size 30 ∧ V.ownsRow V70.heap.size 61 2 (.slice A1 n1 c1) n1 (cellsP x.l) ∧ V.ownsRow V72.heap.size 61 2 (.slice A2 n2 c2) n2 (cellsP y.l))) (fun _ h => ⟨h.1, h.2.1, h.2.2.1, h.2.2.2.1⟩) ?_
        have hh74' : (fun V : World => Below w1.heap.size w1 V ∧ CellsAt V w2.heap.size 30 ∧ CellsAt V V52.heap.size 30 ∧ V.ownsRow V70.heap.size 61 2 (.slice A1 n1 c1) n1 (cellsP x.l) ∧ V.ownsRow V72.heap.size 61 2 (.slice A2 n2 c2) n2 (cellsP y.l)) V74 := ⟨hh74.1, hh74.2.1, hh74.2.2.1, hh74.2.2.2, ho2⟩
        clear hh74 ho2 hb74
        refine heldOne (i := 6) rfl (by kernel_rfl) (fun K hK => ?_)
        rw [if_pos (by rfl)]
        obtain ⟨cs76, hcs76, hsz76⟩ := hh74'.2.1
        refine wp_store_row _ _ _ rfl (w2.heap.size) _ rfl rfl _ _ hcs76 Try.infoI hsz76 (by simp [Value.oneCell']) ?_
        refine hK.out _ _ ?_ (fun hh76 => ?_)
        · exact ⟨(below_setRow hh74'.1 (by omega) _), (hh74'.2.1.same _ rfl), (hh74'.2.2.1.other (by omega) _), (own_setRow2 hh74'.2.2.2.1 (fun e => by have := HL1.out _ e; omega) _), (own_setRow2 hh74'.2.2.2.2 (fun e => by have := HL2.out _ e; omega) _)⟩
        clear hK K
        have hX : (V74.setRow (w2.heap.size) #[.bool x.g, .int .u8 x.o, .int .u64 x.q, .int .u64 x.t, .string x.r, .slice A1 n1 c1, .int .u8 x.s, .int .u8 x.p, .int .i64 x.v, .int .u8 x.w, .int .u8 x.ga, .int .u64 x.gf, .int .u64 x.gt]).heap[w2.heap.size]? = some (.cells #[.bool x.g, .int .u8 x.o, .int .u64 x.q, .int .u64 x.t, .string x.r, .slice A1 n1 c1, .int .u8 x.s, .int .u8 x.p, .int .i64 x.v, .int .u8 x.w, .int .u8 x.ga, .int .u64 x.gf, .int .u64 x.gt] 30 (0, 0)) := setRow_heap _ _ _ _ _ _ hcs76
        generalize hV76 : V74.setRow (w2.heap.size) #[.bool x.g, .int .u8 x.o, .int .u64 x.q, .int .u64 x.t, .string x.r, .slice A1 n1 c1, .int .u8 x.s, .int .u8 x.p, .int .i64 x.v, .int .u8 x.w, .int .u8 x.ga, .int .u64 x.gf, .int .u64 x.gt] = V76 at *
        clear hV76 hcs76 hsz76 
        refine heldOne (i := 7) rfl (by kernel_rfl) (fun K hK => ?_)
        rw [if_pos (by rfl)]
        obtain ⟨cs78, hcs78, hsz78⟩ := hh76.2.2.1
        refine wp_store_row _ _ _ rfl (V52.heap.size) _ rfl rfl _ _ hcs78 Try.infoI hsz78 (by simp [Value.oneCell']) ?_
        refine hK.out _ _ ?_ (fun hh78 => ?_)
        · exact ⟨(below_setRow hh76.1 (by omega) _), (hh76.2.1.other (by omega) _), (hh76.2.2.1.same _ rfl), (own_setRow2 hh76.2.2.2.1 (fun e => by have := HL1.out _ e; omega) _), (own_setRow2 hh76.2.2.2.2 (fun e => by have := HL2.out _ e; omega) _)⟩
        clear hK K
        have hY : (V76.setRow (V52.heap.size) #[.bool y.g, .int .u8 y.o, .int .u64 y.q, .int .u64 y.t, .string y.r, .slice A2 n2 c2, .int .u8 y.s, .int .u8 y.p, .int .i64 y.v, .int .u8 y.w, .int .u8 y.ga, .int .u64 y.gf, .int .u64 y.gt]).heap[V52.heap.size]? = some (.cells #[.bool y.g, .int .u8 y.o, .int .u64 y.q, .int .u64 y.t, .string y.r, .slice A2 n2 c2, .int .u8 y.s, .int .u8 y.p, .int .i64 y.v, .int .u8 y.w, .int .u8 y.ga, .int .u64 y.gf, .int .u64 y.gt] 30 (0, 0)) := setRow_heap _ _ _ _ _ _ hcs78
        have hX' : (V76.setRow (V52.heap.size) #[.bool y.g, .int .u8 y.o, .int .u64 y.q, .int .u64 y.t, .string y.r, .slice A2 n2 c2, .int .u8 y.s, .int .u8 y.p, .int .i64 y.v, .int .u8 y.w, .int .u8 y.ga, .int .u64 y.gf, .int .u64 y.gt]).heap[w2.heap.size]? = some (.cells #[.bool x.g, .int .u8 x.o, .int .u64 x.q, .int .u64 x.t, .string x.r, .slice A1 n1 c1, .int .u8 x.s, .int .u8 x.p, .int .i64 x.v, .int .u8 x.w, .int .u8 x.ga, .int .u64 x.gf, .int .u64 x.gt] 30 (0, 0)) := (setRow_other _ _ _ _ (by omega)).trans hX
        generalize hV78 : V76.setRow (V52.heap.size) #[.bool y.g, .int .u8 y.o, .int .u64 y.q, .int .u64 y.t, .string y.r, .slice A2 n2 c2, .int .u8 y.s, .int .u8 y.p, .int .i64 y.v, .int .u8 y.w, .int .u8 y.ga, .int .u64 y.gf, .int .u64 y.gt] = V78 at *
        clear hV78 hcs78 hsz78 hX
        refine wpAnyH_done (by kernel_rfl) ?_ _
        refine NoPanic.normal ?_
        go_wp2_with fail
        go_meet
        exact ⟨w2.heap.size, V52.heap.size, A1, n1, c1, A2, n2, c2, rfl, rfl, ⟨Hb1.out.trans (hh78.1.mono hw1), hX', hY, ownB_mono hh78.2.2.2.1 (by omega), ownB_mono hh78.2.2.2.2 (by omega), HN1.out, HN2.out, by omega, by omega, by omega, fun e => by have := HL1.out _ e; omega, fun e => by have := HL1.out _ e; omega, fun e => by have := HL2.out _ e; omega, fun e => by have := HL2.out _ e; omega⟩⟩
    case' g1_5 =>
      have hb79 : Below w2.heap.size w2 (w2.alloc (.cells #[.bool false, .int .u8 0, .int .u64 0, .int .u64 0, .string ⟨#[]⟩, .slice none 0 0, .int .u8 0, .int .u8 0, .int .i64 0, .int .u8 0, .int .u8 0, .int .u64 0, .int .u64 0] 30)) := (Below.refl _ _).alloc (Nat.le_refl _) _
      go_simp
      refine hK.out _ _ ?_ (fun hh79 => ?_)
      · exact (hHeld.trans (hb79.mono (hHeld.size)))
      clear hK K
      try simp only [heldPut, List.set]
      have hc79 : CellsAt (w2.alloc (.cells #[.bool false, .int .u8 0, .int .u64 0, .int .u64 0, .string ⟨#[]⟩, .slice none 0 0, .int .u8 0, .int .u8 0, .int .i64 0, .int .u8 0, .int .u8 0, .int .u64 0, .int .u64 0] 30)) w2.heap.size 30 := CellsAt.new _ _ _ rfl
      have hz79 : (w2.alloc (.cells #[.bool false, .int .u8 0, .int .u64 0, .int .u64 0, .string ⟨#[]⟩, .slice none 0 0, .int .u8 0, .int .u8 0, .int .i64 0, .int .u8 0, .int .u8 0, .int .u64 0, .int .u64 0] 30)).heap.size = w2.heap.size + 1 := by simp
      generalize hV79 : w2.alloc (.cells #[.bool false, .int .u8 0, .int .u64 0, .int .u64 0, .string ⟨#[]⟩, .slice none 0 0, .int .u8 0, .int .u8 0, .int .i64 0, .int .u8 0, .int .u8 0, .int .u64 0, .int .u64 0] 30) = V79 at *
      clear hV79 hb79
      refine heldMore (S2 := (fun V : World => Below w1.heap.size w1 V ∧ CellsAt V w2.heap.size 30)) (fun _ h => h.1) ?_
      have hh79' : (fun V : World => Below w1.heap.size w1 V ∧ CellsAt V w2.heap.size 30) V79 := ⟨hh79, hc79⟩
      clear hh79 hc79
      replace hz79 : w2.heap.size + 1 ≤ V79.heap.size := by omega
      refine heldTwo (i := 1) (j := 4) rfl rfl (by kernel_rfl) (fun K hK => ?g80_1) (fun K hK => ?g80_4)
      case' g80_1 =>
        go_simp
        refine (smallItem_as HX1.out HS1.out _).mono ?_
        rintro e V81 ⟨A1, n1, c1, rfl, hn1, ho1, hb81⟩
        have HN1 := Lib.hid hn1
        clear hn1
        go_wp2_with fail
        refine hK.out _ _ ?_ (fun hh81 => ?_)
        · exact ⟨(hh79'.1.trans (hb81.mono (hh79'.1.size))), (hh79'.2.below hb81)⟩
        clear hK K
        try simp only [heldPut, List.set]
        have hz81 := hb81.size
        have HL1 : Hid (∀ k, (Value.slice A1 n1 c1).ownBlock = some k → V79.heap.size ≤ k ∧ k < V81.heap.size) := fun k e => ho1.lt k e
        refine heldMore (S2 := (fun V : World => Below w1.heap.size w1 V ∧ CellsAt V w2.heap.size 30 ∧ V.ownsRow V79.heap.size 61 2 (.slice A1 n1 c1) n1 (cellsP x.l))) (fun _ h => ⟨h.1, h.2.1⟩) ?_
        have hh81' : (fun V : World => Below w1.heap.size w1 V ∧ CellsAt V w2.heap.size 30 ∧ V.ownsRow V79.heap.size 61 2 (.slice A1 n1 c1) n1 (cellsP x.l)) V81 := ⟨hh81.1, hh81.2, ho1⟩
        clear hh81 ho1 hb81
        refine heldTwo (i := 3) (j := 4) rfl rfl (by kernel_rfl) (fun K hK => ?g82_3) (fun K hK => ?g82_4)
        case' g82_3 =>
          go_simp
          refine (smallItem_as HX2.out HS2.out _).mono ?_
          rintro e V83 ⟨A2, n2, c2, rfl, hn2, ho2, hb83⟩
          have HN2 := Lib.hid hn2
          clear hn2
          go_wp2_with fail
          refine hK.out _ _ ?_ (fun hh83 => ?_)
          · exact ⟨(hh81'.1.trans (hb83.mono (hh81'.1.size))), (hh81'.2.1.below hb83), (own_below hh81'.2.2 hb83)⟩
          clear hK K
          try simp only [heldPut, List.set]
          have hz83 := hb83.size
          have HL2 : Hid (∀ k, (Value.slice A2 n2 c2).ownBlock = some k → V81.heap.size ≤ k ∧ k < V83.heap.size) := fun k e => ho2.lt k e
          refine heldMore (S2 := (fun V : World => Below w1.heap.size w1 V ∧ CellsAt V w2.heap.size 30 ∧ V.ownsRow V79.heap.size 61 2 (.slice A1 n1 c1) n1 (cellsP x.l) ∧ V.ownsRow V81.heap.size 61 2 (.slice A2 n2 c2) n2 (cellsP y.l))) (fun _ h => ⟨h.1, h.2.1, h.2.2.1⟩) ?_
          have hh83' : (fun V : World => Below w1.heap.size w1 V ∧ CellsAt V w2.heap.size 30 ∧ V.ownsRow V79.heap.size 61 2 (.slice A1 n1 c1) n1 (cellsP x.l) ∧ V.ownsRow V81.heap.size 61 2 (.slice A2 n2 c2) n2 (cellsP y.l)) V83 := ⟨hh83.1, hh83.2.1, hh83.2.2, ho2⟩
          clear hh83 ho2 hb83
          refine heldOne (i := 4) rfl (by kernel_rfl) (fun K hK => ?_)
          have hb85 : Below V83.heap.size V83 (V83.alloc (.cells #[.bool false, .int .u8 0, .int .u64 0, .int .u64 0, .string ⟨#[]⟩, .slice none 0 0, .int .u8 0, .int .u8 0, .int .i64 0, .int .u8 0, .int .u8 0, .int .u64 0, .int .u64 0] 30)) := (Below.refl _ _).alloc (Nat.le_refl _) _
          go_simp
          refine hK.out _ _ ?_ (fun hh85 => ?_)
          · exact ⟨(hh83'.1.trans (hb85.mono (hh83'.1.size))), (hh83'.2.1.below hb85), (own_below hh83'.2.2.1 hb85), (own_below hh83'.2.2.2 hb85)⟩
          clear hK K
          try simp only [heldPut, List.set]
          have hc85 : CellsAt (V83.alloc (.cells #[.bool false, .int .u8 0, .int .u64 0, .int .u64 0, .string ⟨#[]⟩, .slice none 0 0, .int .u8 0, .int .u8 0, .int .i64 0, .int .u8 0, .int .u8 0, .int .u64 0, .int .u64 0] 30)) V83.heap.size 30 := CellsAt.new _ _ _ rfl
          have hz85 : (V83.alloc (.cells #[.bool false, .int .u8 0, .int .u64 0, .int .u64 0, .string ⟨#[]⟩, .slice none 0 0, .int .u8 0, .int .u8 0, .int .i64 0, .int .u8 0, .int .u8 0, .int .u64 0, .int .u64 0] 30)).heap.size = V83.heap.size + 1 := by simp
          generalize hV85 : V83.alloc (.cells #[.bool false, .int .u8 0, .int .u64 0, .int .u64 0, .string ⟨#[]⟩, .slice none 0 0, .int .u8 0, .int .u8 0, .int .i64 0, .int .u8 0, .int .u8 0, .int .u64 0, .int .u64 0] 30) = V85 at *
          clear hV85 hb85
          refine heldMore (S2 := (fun V : World => Below w1.heap.size w1 V ∧ CellsAt V w2.heap.size 30 ∧ V.ownsRow V79.heap.size 61 2 (.slice A1 n1 c1) n1 (cellsP x.l) ∧ V.ownsRow V81.heap.size 61 2 (.slice A2 n2 c2) n2 (cellsP y.l) ∧ CellsAt V V83.heap.size 30)) (fun _ h => ⟨h.1, h.2.1, h.2.2.1, h.2.2.2.1⟩) ?_
          have hh85' : (fun V : World => Below w1.heap.size w1 V ∧ CellsAt V w2.heap.size 30 ∧ V.ownsRow V79.heap.size 61 2 (.slice A1 n1 c1) n1 (cellsP x.l) ∧ V.ownsRow V81.heap.size 61 2 (.slice A2 n2 c2) n2 (cellsP y.l) ∧ CellsAt V V83.heap.size 30) V85 := ⟨hh85.1, hh85.2.1, hh85.2.2.1, hh85.2.2.2, hc85⟩
          clear hh85 hc85
          replace hz85 : V83.heap.size + 1 ≤ V85.heap.size := by omega
          refine heldOne (i := 6) rfl (by kernel_rfl) (fun K hK => ?_)
          rw [if_pos (by rfl)]
          obtain ⟨cs87, hcs87, hsz87⟩ := hh85'.2.2.2.2
          refine wp_store_row _ _ _ rfl (V83.heap.size) _ rfl rfl _ _ hcs87 Try.infoI hsz87 (by simp [Value.oneCell']) ?_
          refine hK.out _ _ ?_ (fun hh87 => ?_)
          · exact ⟨(below_setRow hh85'.1 (by omega) _), (hh85'.2.1.other (by omega) _), (own_setRow2 hh85'.2.2.1 (fun e => by have := HL1.out _ e; omega) _), (own_setRow2 hh85'.2.2.2.1 (fun e => by have := HL2.out _ e; omega) _), (hh85'.2.2.2.2.same _ rfl)⟩
          clear hK K
          have hX : (V85.setRow (V83.heap.size) #[.bool x.g, .int .u8 x.o, .int .u64 x.q, .int .u64 x.t, .string x.r, .slice A1 n1 c1, .int .u8 x.s, .int .u8 x.p, .int .i64 x.v, .int .u8 x.w, .int .u8 x.ga, .int .u64 x.gf, .int .u64 x.gt]).heap[V83.heap.size]? = some (.cells #[.bool x.g, .int .u8 x.o, .int .u64 x.q, .int .u64 x.t, .string x.r, .slice A1 n1 c1, .int .u8 x.s, .int .u8 x.p, .int .i64 x.v, .int .u8 x.w, .int .u8 x.ga, .int .u64 x.gf, .int .u64 x.gt] 30 (0, 0)) := setRow_heap _ _ _ _ _ _ hcs87
          generalize hV87 : V85.setRow (V83.heap.size) #[.bool x.g, .int .u8 x.o, .int .u64 x.q, .int .u64 x.t, .string x.r, .slice A1 n1 c1, .int .u8 x.s, .int .u8 x.p, .int .i64 x.v, .int .u8 x.w, .int .u8 x.ga, .int .u64 x.gf, .int .u64 x.gt] = V87 at *
          clear hV87 hcs87 hsz87 
          refine heldOne (i := 7) rfl (by kernel_rfl) (fun K hK => ?_)
          rw [if_pos (by rfl)]
          obtain ⟨cs89, hcs89, hsz89⟩ := hh87.2.1
          refine wp_store_row _ _ _ rfl (w2.heap.size) _ rfl rfl _ _ hcs89 Try.infoI hsz89 (by simp [Value.oneCell']) ?_
          refine hK.out _ _ ?_ (fun hh89 => ?_)
          · exact ⟨(below_setRow hh87.1 (by omega) _), (hh87.2.1.same _ rfl), (own_setRow2 hh87.2.2.1 (fun e => by have := HL1.out _ e; omega) _), (own_setRow2 hh87.2.2.2.1 (fun e => by have := HL2.out _ e; omega) _), (hh87.2.2.2.2.other (by omega) _)⟩
          clear hK K
          have hY : (V87.setRow (w2.heap.size) #[.bool y.g, .int .u8 y.o, .int .u64 y.q, .int .u64 y.t, .string y.r, .slice A2 n2 c2, .int .u8 y.s, .int .u8 y.p, .int .i64 y.v, .int .u8 y.w, .int .u8 y.ga, .int .u64 y.gf, .int .u64 y.gt]).heap[w2.heap.size]? = some (.cells #[.bool y.g, .int .u8 y.o, .int .u64 y.q, .int .u64 y.t, .string y.r, .slice A2 n2 c2, .int .u8 y.s, .int .u8 y.p, .int .i64 y.v, .int .u8 y.w, .int .u8 y.ga, .int .u64 y.gf, .int .u64 y.gt] 30 (0, 0)) := setRow_heap _ _ _ _ _ _ hcs89
          have hX' : (V87.setRow (w2.heap.size) #[.bool y.g, .int .u8 y.o, .int .u64 y.q, .int .u64 y.t, .string y.r, .slice A2 n2 c2, .int .u8 y.s, .int .u8 y.p, .int .i64 y.v, .int .u8 y.w, .int .u8 y.ga, .int .u64 y.gf, .int .u64 y.gt]).heap[V83.heap.size]? = some (.cells #[.bool x.g, .int .u8 x.o, .int .u64 x.q, .int .u64 x.t, .string x.r, .slice A1 n1 c1, .int .u8 x.s, .int .u8 x.p, .int .i64 x.v, .int .u8 x.w, .int .u8 x.ga, .int .u64 x.gf, .int .u64 x.gt] 30 (0, 0)) := (setRow_other _ _ _ _ (by omega)).trans hX
          generalize hV89 : V87.setRow (w2.heap.size) #[.bool y.g, .int .u8 y.o, .int .u64 y.q, .int .u64 y.t, .string y.r, .slice A2 n2 c2, .int .u8 y.s, .int .u8 y.p, .int .i64 y.v, .int .u8 y.w, .int .u8 y.ga, .int .u64 y.gf, .int .u64 y.gt] = V89 at *
          clear hV89 hcs89 hsz89 hX
          refine wpAnyH_done (by kernel_rfl) ?_ _
          refine NoPanic.normal ?_
          go_wp2_with fail
          go_meet
          exact ⟨V83.heap.size, w2.heap.size, A1, n1, c1, A2, n2, c2, rfl, rfl, ⟨Hb1.out.trans (hh89.1.mono hw1), hX', hY, ownB_mono hh89.2.2.1 (by omega), ownB_mono hh89.2.2.2.1 (by omega), HN1.out, HN2.out, by omega, by omega, by omega, fun e => by have := HL1.out _ e; omega, fun e => by have := HL1.out _ e; omega, fun e => by have := HL2.out _ e; omega, fun e => by have := HL2.out _ e; omega⟩⟩
        case' g82_4 =>
          have hb90 : Below V81.heap.size V81 (V81.alloc (.cells #[.bool false, .int .u8 0, .int .u64 0, .int .u64 0, .string ⟨#[]⟩, .slice none 0 0, .int .u8 0, .int .u8 0, .int .i64 0, .int .u8 0, .int .u8 0, .int .u64 0, .int .u64 0] 30)) := (Below.refl _ _).alloc (Nat.le_refl _) _
          go_simp
          refine hK.out _ _ ?_ (fun hh90 => ?_)
          · exact ⟨(hh81'.1.trans (hb90.mono (hh81'.1.size))), (hh81'.2.1.below hb90), (own_below hh81'.2.2 hb90)⟩
          clear hK K
          try simp only [heldPut, List.set]
          have hc90 : CellsAt (V81.alloc (.cells #[.bool false, .int .u8 0, .int .u64 0, .int .u64 0, .string ⟨#[]⟩, .slice none 0 0, .int .u8 0, .int .u8 0, .int .i64 0, .int .u8 0, .int .u8 0, .int .u64 0, .int .u64 0] 30)) V81.heap.size 30 := CellsAt.new _ _ _ rfl
          have hz90 : (V81.alloc (.cells #[.bool false, .int .u8 0, .int .u64 0, .int .u64 0, .string ⟨#[]⟩, .slice none 0 0, .int .u8 0, .int .u8 0, .int .i64 0, .int .u8 0, .int .u8 0, .int .u64 0, .int .u64 0] 30)).heap.size = V81.heap.size + 1 := by simp
          generalize hV90 : V81.alloc (.cells #[.bool false, .int .u8 0, .int .u64 0, .int .u64 0, .string ⟨#[]⟩, .slice none 0 0, .int .u8 0, .int .u8 0, .int .i64 0, .int .u8 0, .int .u8 0, .int .u64 0, .int .u64 0] 30) = V90 at *
          clear hV90 hb90
          refine heldMore (S2 := (fun V : World => Below w1.heap.size w1 V ∧ CellsAt V w2.heap.size 30 ∧ V.ownsRow V79.heap.size 61 2 (.slice A1 n1 c1) n1 (cellsP x.l) ∧ CellsAt V V81.heap.size 30)) (fun _ h => ⟨h.1, h.2.1, h.2.2.1⟩) ?_
          have hh90' : (fun V : World => Below w1.heap.size w1 V ∧ CellsAt V w2.heap.size 30 ∧ V.ownsRow V79.heap.size 61 2 (.slice A1 n1 c1) n1 (cellsP x.l) ∧ CellsAt V V81.heap.size 30) V90 := ⟨hh90.1, hh90.2.1, hh90.2.2, hc90⟩
          clear hh90 hc90
          replace hz90 : V81.heap.size + 1 ≤ V90.heap.size := by omega
          refine heldOne (i := 3) rfl (by kernel_rfl) (fun K hK => ?_)
          go_simp
          refine (smallItem_as HX2.out HS2.out _).mono ?_
          rintro e V92 ⟨A2, n2, c2, rfl, hn2, ho2, hb92⟩
          have HN2 := Lib.hid hn2
          clear hn2
          go_wp2_with fail
          refine hK.out _ _ ?_ (fun hh92 => ?_)
          · exact ⟨(hh90'.1.trans (hb92.mono (hh90'.1.size))), (hh90'.2.1.below hb92), (own_below hh90'.2.2.1 hb92), (hh90'.2.2.2.below hb92)⟩
          clear hK K
          try simp only [heldPut, List.set]
          have hz92 := hb92.size
          have HL2 : Hid (∀ k, (Value.slice A2 n2 c2).ownBlock = some k → V90.heap.size ≤ k ∧ k < V92.heap.size) := fun k e => ho2.lt k e
          refine heldMore (S2 := (fun V : World => Below w1.heap.size w1 V ∧ CellsAt V w2.heap.size 30 ∧ V.ownsRow V79.heap.size 61 2 (.slice A1 n1 c1) n1 (cellsP x.l) ∧ CellsAt V V81.heap.size 30 ∧ V.ownsRow V90.heap.size 61 2 (.slice A2 n2 c2) n2 (cellsP y.l))) (fun _ h => ⟨h.1, h.2.1, h.2.2.1, h.2.2.2.1⟩) ?_
          have hh92' : (fun V : World => Below w1.heap.size w1 V ∧ CellsAt V w2.heap.size 30 ∧ V.ownsRow V79.heap.size 61 2 (.slice A1 n1 c1) n1 (cellsP x.l) ∧ CellsAt V V81.heap.size 30 ∧ V.ownsRow V90.heap.size 61 2 (.slice A2 n2 c2) n2 (cellsP y.l)) V92 := ⟨hh92.1, hh92.2.1, hh92.2.2.1, hh92.2.2.2, ho2⟩
          clear hh92 ho2 hb92
          refine heldOne (i := 6) rfl (by kernel_rfl) (fun K hK => ?_)
          rw [if_pos (by rfl)]
          obtain ⟨cs94, hcs94, hsz94⟩ := hh92'.2.2.2.1
          refine wp_store_row _ _ _ rfl (V81.heap.size) _ rfl rfl _ _ hcs94 Try.infoI hsz94 (by simp [Value.oneCell']) ?_
          refine hK.out _ _ ?_ (fun hh94 => ?_)
          · exact ⟨(below_setRow hh92'.1 (by omega) _), (hh92'.2.1.other (by omega) _), (own_setRow2 hh92'.2.2.1 (fun e => by have := HL1.out _ e; omega) _), (hh92'.2.2.2.1.same _ rfl), (own_setRow2 hh92'.2.2.2.2 (fun e => by have := HL2.out _ e; omega) _)⟩
          clear hK K
          have hX : (V92.setRow (V81.heap.size) #[.bool x.g, .int .u8 x.o, .int .u64 x.q, .int .u64 x.t, .string x.r, .slice A1 n1 c1, .int .u8 x.s, .int .u8 x.p, .int .i64 x.v, .int .u8 x.w, .int .u8 x.ga, .int .u64 x.gf, .int .u64 x.gt]).heap[V81.heap.size]? = some (.cells #[.bool x.g, .int .u8 x.o, .int .u64 x.q, .int .u64 x.t, .string x.r, .slice A1 n1 c1, .int .u8 x.s, .int .u8 x.p, .int .i64 x.v, .int .u8 x.w, .int .u8 x.ga, .int .u64 x.gf, .int .u64 x.gt] 30 (0, 0)) := setRow_heap _ _ _ _ _ _ hcs94
          generalize hV94 : V92.setRow (V81.heap.size) #[.bool x.g, .int .u8 x.o, .int .u64 x.q, .int .u64 x.t, .string x.r, .slice A1 n1 c1, .int .u8 x.s, .int .u8 x.p, .int .i64 x.v, .int .u8 x.w, .int .u8 x.ga, .int .u64 x.gf, .int .u64 x.gt] = V94 at *
          clear hV94 hcs94 hsz94 
          refine heldOne (i := 7) rfl (by kernel_rfl) (fun K hK => ?_)
          rw [if_pos (by rfl)]
          obtain ⟨cs96, hcs96, hsz96⟩ := hh94.2.1
          refine wp_store_row _ _ _ rfl (w2.heap.size) _ rfl rfl _ _ hcs96 Try.infoI hsz96 (by simp [Value.oneCell']) ?_
          refine hK.out _ _ ?_ (fun hh96 => ?_)
          · exact ⟨(below_setRow hh94.1 (by omega) _), (hh94.2.1.same _ rfl), (own_setRow2 hh94.2.2.1 (fun e => by have := HL1.out _ e; omega) _), (hh94.2.2.2.1.other (by omega) _), (own_setRow2 hh94.2.2.2.2 (fun e => by have := HL2.out _ e; omega) _)⟩
          clear hK K
          have hY : (V94.setRow (w2.heap.size) #[.bool y.g, .int .u8 y.o, .int .u64 y.q, .int .u64 y.t, .string y.r, .slice A2 n2 c2, .int .u8 y.s, .int .u8 y.p, .int .i64 y.v, .int .u8 y.w, .int .u8 y.ga, .int .u64 y.gf, .int .u64 y.gt]).heap[w2.heap.size]? = some (.cells #[.bool y.g, .int .u8 y.o, .int .u64 y.q, .int .u64 y.t, .string y.r, .slice A2 n2 c2, .int .u8 y.s, .int .u8 y.p, .int .i64 y.v, .int .u8 y.w, .int .u8 y.ga, .int .u64 y.gf, .int .u64 y.gt] 30 (0, 0)) := setRow_heap _ _ _ _ _ _ hcs96
          have hX' : (V94.setRow (w2.heap.size) #[.bool y.g, .int .u8 y.o, .int .u64 y.q, .int .u64 y.t, .string y.r, .slice A2 n2 c2, .int .u8 y.s, .int .u8 y.p, .int .i64 y.v, .int .u8 y.w, .int .u8 y.ga, .int .u64 y.gf, .int .u64 y.gt]).heap[V81.heap.size]? = some (.cells #[.bool x.g, .int .u8 x.o, .int .u64 x.q, .int .u64 x.t, .string x.r, .slice A1 n1 c1, .int .u8 x.s, .int .u8 x.p, .int .i64 x.v, .int .u8 x.w, .int .u8 x.ga, .int .u64 x.gf, .int .u64 x.gt] 30 (0, 0)) := (setRow_other _ _ _ _ (by omega)).trans hX
          generalize hV96 : V94.setRow (w2.heap.size) #[.bool y.g, .int .u8 y.o, .int .u64 y.q, .int .u64 y.t, .string y.r, .slice A2 n2 c2, .int .u8 y.s, .int .u8 y.p, .int .i64 y.v, .int .u8 y.w, .int .u8 y.ga, .int .u64 y.gf, .int .u64 y.gt] = V96 at *
          clear hV96 hcs96 hsz96 hX
          refine wpAnyH_done (by kernel_rfl) ?_ _
          refine NoPanic.normal ?_
          go_wp2_with fail
          go_meet
          exact ⟨V81.heap.size, w2.heap.size, A1, n1, c1, A2, n2, c2, rfl, rfl, ⟨Hb1.out.trans (hh96.1.mono hw1), hX', hY, ownB_mono hh96.2.2.1 (by omega), ownB_mono hh96.2.2.2.2 (by omega), HN1.out, HN2.out, by omega, by omega, by omega, fun e => by have := HL1.out _ e; omega, fun e => by have := HL1.out _ e; omega, fun e => by have := HL2.out _ e; omega, fun e => by have := HL2.out _ e; omega⟩⟩
      case' g80_4 =>
        have hb97 : Below V79.heap.size V79 (V79.alloc (.cells #[.bool false, .int .u8 0, .int .u64 0, .int .u64 0, .string ⟨#[]⟩, .slice none 0 0, .int .u8 0, .int .u8 0, .int .i64 0, .int .u8 0, .int .u8 0, .int .u64 0, .int .u64 0] 30)) := (Below.refl _ _).alloc (Nat.le_refl _) _
        go_simp
        refine hK.out _ _ ?_ (fun hh97 => ?_)
        · exact ⟨(hh79'.1.trans (hb97.mono (hh79'.1.size))), (hh79'.2.below hb97)⟩
        clear hK K
        try simp only [heldPut, List.set]
        have hc97 : CellsAt (V79.alloc (.cells #[.bool false, .int .u8 0, .int .u64 0, .int .u64 0, .string ⟨#[]⟩, .slice none 0 0, .int .u8 0, .int .u8 0, .int .i64 0, .int .u8 0, .int .u8 0, .int .u64 0, .int .u64 0] 30)) V79.heap.size 30 := CellsAt.new _ _ _ rfl
        have hz97 : (V79.alloc (.cells #[.bool false, .int .u8 0, .int .u64 0, .int .u64 0, .string ⟨#[]⟩, .slice none 0 0, .int .u8 0, .int .u8 0, .int .i64 0, .int .u8 0, .int .u8 0, .int .u64 0, .int .u64 0] 30)).heap.size = V79.heap.size + 1 := by simp
        generalize hV97 : V79.alloc (.cells #[.bool false, .int .u8 0, .int .u64 0, .int .u64 0, .string ⟨#[]⟩, .slice none 0 0, .int .u8 0, .int .u8 0, .int .i64 0, .int .u8 0, .int .u8 0, .int .u64 0, .int .u64 0] 30) = V97 at *
        clear hV97 hb97
        refine heldMore (S2 := (fun V : World => Below w1.heap.size w1 V ∧ CellsAt V w2.heap.size 30 ∧ CellsAt V V79.heap.size 30)) (fun _ h => ⟨h.1, h.2.1⟩) ?_
        have hh97' : (fun V : World => Below w1.heap.size w1 V ∧ CellsAt V w2.heap.size 30 ∧ CellsAt V V79.heap.size 30) V97 := ⟨hh97.1, hh97.2, hc97⟩
        clear hh97 hc97
        replace hz97 : V79.heap.size + 1 ≤ V97.heap.size := by omega
        refine heldOne (i := 1) rfl (by kernel_rfl) (fun K hK => ?_)
        go_simp
        refine (smallItem_as HX1.out HS1.out _).mono ?_
        rintro e V99 ⟨A1, n1, c1, rfl, hn1, ho1, hb99⟩
        have HN1 := Lib.hid hn1
        clear hn1
        go_wp2_with fail
        refine hK.out _ _ ?_ (fun hh99 => ?_)
        · exact ⟨(hh97'.1.trans (hb99.mono (hh97'.1.size))), (hh97'.2.1.below hb99), (hh97'.2.2.below hb99)⟩
        clear hK K
        try simp only [heldPut, List.set]
        have hz99 := hb99.size
        have HL1 : Hid (∀ k, (Value.slice A1 n1 c1).ownBlock = some k → V97.heap.size ≤ k ∧ k < V99.heap.size) := fun k e => ho1.lt k e
        refine heldMore (S2 := (fun V : World => Below w1.heap.size w1 V ∧ CellsAt V w2.heap.size 30 ∧ CellsAt V V79.heap.size 30 ∧ V.ownsRow V97.heap.size 61 2 (.slice A1 n1 c1) n1 (cellsP x.l))) (fun _ h => ⟨h.1, h.2.1, h.2.2.1⟩) ?_
        have hh99' : (fun V : World => Below w1.heap.size w1 V ∧ CellsAt V w2.heap.size 30 ∧ CellsAt V V79.heap.size 30 ∧ V.ownsRow V97.heap.size 61 2 (.slice A1 n1 c1) n1 (cellsP x.l)) V99 := ⟨hh99.1, hh99.2.1, hh99.2.2, ho1⟩
        clear hh99 ho1 hb99
        refine heldOne (i := 3) rfl (by kernel_rfl) (fun K hK => ?_)
        go_simp
        refine (smallItem_as HX2.out HS2.out _).mono ?_
        rintro e V101 ⟨A2, n2, c2, rfl, hn2, ho2, hb101⟩
        have HN2 := Lib.hid hn2
        clear hn2
        go_wp2_with fail
        refine hK.out _ _ ?_ (fun hh101 => ?_)
        · exact ⟨(hh99'.1.trans (hb101.mono (hh99'.1.size))), (hh99'.2.1.below hb101), (hh99'.2.2.1.below hb101), (own_below hh99'.2.2.2 hb101)⟩
        clear hK K
        try simp only [heldPut, List.set]
        have hz101 := hb101.size
        have HL2 : Hid (∀ k, (Value.slice A2 n2 c2).ownBlock = some k → V99.heap.size ≤ k ∧ k < V101.heap.size) := fun k e => ho2.lt k e
        refine heldMore (S2 := (fun V : World => Below w1.heap.size w1 V ∧ CellsAt V w2.heap.size 30 ∧ CellsAt V V79.heap.size 30 ∧ V.ownsRow V97.heap.size 61 2 (.slice A1 n1 c1) n1 (cellsP x.l) ∧ V.ownsRow V99.heap.size 61 2 (.slice A2 n2 c2) n2 (cellsP y.l))) (fun _ h => ⟨h.1, h.2.1, h.2.2.1, h.2.2.2.1⟩) ?_
        have hh101' : (fun V : World => Below w1.heap.size w1 V ∧ CellsAt V w2.heap.size 30 ∧ CellsAt V V79.heap.size 30 ∧ V.ownsRow V97.heap.size 61 2 (.slice A1 n1 c1) n1 (cellsP x.l) ∧ V.ownsRow V99.heap.size 61 2 (.slice A2 n2 c2) n2 (cellsP y.l)) V101 := ⟨hh101.1, hh101.2.1, hh101.2.2.1, hh101.2.2.2, ho2⟩
        clear hh101 ho2 hb101
        refine heldOne (i := 6) rfl (by kernel_rfl) (fun K hK => ?_)
        rw [if_pos (by rfl)]
        obtain ⟨cs103, hcs103, hsz103⟩ := hh101'.2.2.1
        refine wp_store_row _ _ _ rfl (V79.heap.size) _ rfl rfl _ _ hcs103 Try.infoI hsz103 (by simp [Value.oneCell']) ?_
        refine hK.out _ _ ?_ (fun hh103 => ?_)
        · exact ⟨(below_setRow hh101'.1 (by omega) _), (hh101'.2.1.other (by omega) _), (hh101'.2.2.1.same _ rfl), (own_setRow2 hh101'.2.2.2.1 (fun e => by have := HL1.out _ e; omega) _), (own_setRow2 hh101'.2.2.2.2 (fun e => by have := HL2.out _ e; omega) _)⟩
        clear hK K
        have hX : (V101.setRow (V79.heap.size) #[.bool x.g, .int .u8 x.o, .int .u64 x.q, .int .u64 x.t, .string x.r, .slice A1 n1 c1, .int .u8 x.s, .int .u8 x.p, .int .i64 x.v, .int .u8 x.w, .int .u8 x.ga, .int .u64 x.gf, .int .u64 x.gt]).heap[V79.heap.size]? = some (.cells #[.bool x.g, .int .u8 x.o, .int .u64 x.q, .int .u64 x.t, .string x.r, .slice A1 n1 c1, .int .u8 x.s, .int .u8 x.p, .int .i64 x.v, .int .u8 x.w, .int .u8 x.ga, .int .u64 x.gf, .int .u64 x.gt] 30 (0, 0)) := setRow_heap _ _ _ _ _ _ hcs103
        generalize hV103 : V101.setRow (V79.heap.size) #[.bool x.g, .int .u8 x.o, .int .u64 x.q, .int .u64 x.t, .string x.r, .slice A1 n1 c1, .int .u8 x.s, .int .u8 x.p, .int .i64 x.v, .int .u8 x.w, .int .u8 x.ga, .int .u64 x.gf, .int .u64 x.gt] = V103 at *
        clear hV103 hcs103 hsz103 
        refine heldOne (i := 7) rfl (by kernel_rfl) (fun K hK => ?_)
        rw [if_pos (by rfl)]
        obtain ⟨cs105, hcs105, hsz105⟩ := hh103.2.1
        refine wp_store_row _ _ _ rfl (w2.heap.size) _ rfl rfl _ _ hcs105 Try.infoI hsz105 (by simp [Value.oneCell']) ?_
        refine hK.out _ _ ?_ (fun hh105 => ?_)
        · exact ⟨(below_setRow hh103.1 (by omega) _), (hh103.2.1.same _ rfl), (hh103.2.2.1.other (by omega) _), (own_setRow2 hh103.2.2.2.1 (fun e => by have := HL1.out _ e; omega) _), (own_setRow2 hh103.2.2.2.2 (fun e => by have := HL2.out _ e; omega) _)⟩
        clear hK K
        have hY : (V103.setRow (w2.heap.size) #[.bool y.g, .int .u8 y.o, .int .u64 y.q, .int .u64 y.t, .string y.r, .slice A2 n2 c2, .int .u8 y.s, .int .u8 y.p, .int .i64 y.v, .int .u8 y.w, .int .u8 y.ga, .int .u64 y.gf, .int .u64 y.gt]).heap[w2.heap.size]? = some (.cells #[.bool y.g, .int .u8 y.o, .int .u64 y.q, .int .u64 y.t, .string y.r, .slice A2 n2 c2, .int .u8 y.s, .int .u8 y.p, .int .i64 y.v, .int .u8 y.w, .int .u8 y.ga, .int .u64 y.gf, .int .u64 y.gt] 30 (0, 0)) := setRow_heap _ _ _ _ _ _ hcs105
        have hX' : (V103.setRow (w2.heap.size) #[.bool y.g, .int .u8 y.o, .int .u64 y.q, .int .u64 y.t, .string y.r, .slice A2 n2 c2, .int .u8 y.s, .int .u8 y.p, .int .i64 y.v, .int .u8 y.w, .int .u8 y.ga, .int .u64 y.gf, .int .u64 y.gt]).heap[V79.heap.size]? = some (.cells #[.bool x.g, .int .u8 x.o, .int .u64 x.q, .int .u64 x.t, .string x.r, .slice A1 n1 c1, .int .u8 x.s, .int .u8 x.p, .int .i64 x.v, .int .u8 x.w, .int .u8 x.ga, .int .u64 x.gf, .int .u64 x.gt] 30 (0, 0)) := (setRow_other _ _ _ _ (by omega)).trans hX
        generalize hV105 : V103.setRow (w2.heap.size) #[.bool y.g, .int .u8 y.o, .int .u64 y.q, .int .u64 y.t, .string y.r, .slice A2 n2 c2, .int .u8 y.s, .int .u8 y.p, .int .i64 y.v, .int .u8 y.w, .int .u8 y.ga, .int .u64 y.gf, .int .u64 y.gt] = V105 at *
        clear hV105 hcs105 hsz105 hX
        refine wpAnyH_done (by kernel_rfl) ?_ _
        refine NoPanic.normal ?_
        go_wp2_with fail
        go_meet
        exact ⟨V79.heap.size, w2.heap.size, A1, n1, c1, A2, n2, c2, rfl, rfl, ⟨Hb1.out.trans (hh105.1.mono hw1), hX', hY, ownB_mono hh105.2.2.2.1 (by omega), ownB_mono hh105.2.2.2.2 (by omega), HN1.out, HN2.out, by omega, by omega, by omega, fun e => by have := HL1.out _ e; omega, fun e => by have := HL1.out _ e; omega, fun e => by have := HL2.out _ e; omega, fun e => by have := HL2.out _ e; omega⟩⟩
  case rest =>
    obtain ⟨X, Y, A, n, c, A2, n2, c2, rfl, rfl, hXY⟩ := hcut
    have HXY := Lib.hid hXY
    have hn3 : n ≤ 3 := by rw [hXY.nx, ← HX1.out]; exact smallI_labs s
    have hn23 : n2 ≤ 3 := by rw [hXY.ny, ← HX2.out]; exact smallI_labs t
    have hA0 : A = none → n = 0 := fun e => by subst e; exact (ownP_nil hXY.ox).1
    have HCl := Lib.hid (iclone_any x A n c wc hXY.nx hA0 (by omega) (RdP.of_own hXY.ox))
    have HA0 := Lib.hid hA0
    clear hXY hA0 HC1 HC2
    go_wp2_with (first
      | (refine wpList_load_row rfl _ _ rfl X rfl _ _ _ _ HXY.out.hx Try.underlying30 rfl (by kernel_rfl) ?_)
      | fail)
    refine HCl.out.mono ?_
    rintro e w3 ⟨A3, n3, c3, rfl, hn, ho, hb⟩
    have hba : Below w3.heap.size w3 (w3.alloc (.cells #[.bool x.g, .int .u8 x.o, .int .u64 x.q, .int .u64 x.t, .string x.r, .slice A3 n3 c3, .int .u8 x.s, .int .u8 x.p, .int .i64 x.v, .int .u8 x.w, .int .u8 x.ga, .int .u64 x.gf, .int .u64 x.gt] 30)) := (Below.refl _ _).alloc (Nat.le_refl _) _
    have hz := hb.size
    have hB3 : Below wc.heap.size wc (w3.alloc (.cells #[.bool x.g, .int .u8 x.o, .int .u64 x.q, .int .u64 x.t, .string x.r, .slice A3 n3 c3, .int .u8 x.s, .int .u8 x.p, .int .i64 x.v, .int .u8 x.w, .int .u8 x.ga, .int .u64 x.gf, .int .u64 x.gt] 30)) := hb.trans (hba.mono hz)
    have HXY3 := Lib.hid (HXY.out.below hB3)
    have c5 : (w3.alloc (.cells #[.bool x.g, .int .u8 x.o, .int .u64 x.q, .int .u64 x.t, .string x.r, .slice A3 n3 c3, .int .u8 x.s, .int .u8 x.p, .int .i64 x.v, .int .u8 x.w, .int .u8 x.ga, .int .u64 x.gf, .int .u64 x.gt] 30)).cell? ⟨X, 5, none⟩ = some (.slice A n c) := cell_of_row _ _ 5 _ _ _ HXY3.out.hx
    have hZ : (w3.alloc (.cells #[.bool x.g, .int .u8 x.o, .int .u64 x.q, .int .u64 x.t, .string x.r, .slice A3 n3 c3, .int .u8 x.s, .int .u8 x.p, .int .i64 x.v, .int .u8 x.w, .int .u8 x.ga, .int .u64 x.gf, .int .u64 x.gt] 30)).heap[w3.heap.size]? = some (.cells #[.bool x.g, .int .u8 x.o, .int .u64 x.q, .int .u64 x.t, .string x.r, .slice A3 n3 c3, .int .u8 x.s, .int .u8 x.p, .int .i64 x.v, .int .u8 x.w, .int .u8 x.ga, .int .u64 x.gf, .int .u64 x.gt] 30 (0, 0)) := heap_alloc_new _ _
    have hrow : RowAt wc w3.heap.size A3 n3 (w3.alloc (.cells #[.bool x.g, .int .u8 x.o, .int .u64 x.q, .int .u64 x.t, .string x.r, .slice A3 n3 c3, .int .u8 x.s, .int .u8 x.p, .int .i64 x.v, .int .u8 x.w, .int .u8 x.ga, .int .u64 x.gf, .int .u64 x.gt] 30)) := fun h0 => by
      have ho2 := own_below ho hba
      rcases ho2.2 with ⟨e, _⟩ | ⟨g, cap, cur, e, hg, hcur, hnc, _, hsz, _⟩
      · injection e with _ e2; omega
      · injection e with e1
        refine ⟨g, cur, e1, hg, ?_, hcur, ?_⟩
        · have h1 := (ho.lt g (by rw [e1]; rfl)).2
          omega
        · have := Nat.mul_le_mul_right 2 hnc
          omega
    have hn33 : n3 ≤ 3 := by rw [hn, ← HX1.out]; exact smallI_labs s
    have HN3 := Lib.hid hn
    have HB3 := Lib.hid hB3
    have HZ := Lib.hid hZ
    have HRow := Lib.hid hrow
    have hz3 : wc.heap.size ≤ (w3.alloc (.cells #[.bool x.g, .int .u8 x.o, .int .u64 x.q, .int .u64 x.t, .string x.r, .slice A3 n3 c3, .int .u8 x.s, .int .u8 x.p, .int .i64 x.v, .int .u8 x.w, .int .u8 x.ga, .int .u64 x.gf, .int .u64 x.gt] 30)).heap.size := hB3.size
    have HTx := Lib.hid (reftext_any A n c x.l (w3.alloc (.cells #[.bool x.g, .int .u8 x.o, .int .u64 x.q, .int .u64 x.t, .string x.r, .slice A3 n3 c3, .int .u8 x.s, .int .u8 x.p, .int .i64 x.v, .int .u8 x.w, .int .u8 x.ga, .int .u64 x.gf, .int .u64 x.gt] 30)) HXY3.out.nx (by unfold maxLen; omega) (RdP.of_own HXY3.out.ox) (by
      have h1 := textL_short (l := x.l) (fun p hp => by
        obtain ⟨i, hi⟩ := List.mem_iff_getElem?.1 hp
        have h2 := smallI_sizes s i p (by rw [HX1.out]; exact hi)
        omega) (by rw [← HXY3.out.nx]; omega)
      omega))
    clear hn ho hb hba hB3 hZ hrow hz HCl
    go_wp2_with fail
    refine HTx.out.mono ?_
    rintro e w4 ⟨rfl, hb⟩
    clear HTx
    obtain ⟨T, hT⟩ : ∃ T : ByteArray, ⟨(textL x.l).toArray⟩ = T := ⟨_, rfl⟩
    rw [hT]
    have HT := Lib.hid hT
    have hzz : w3.heap.size < (w3.alloc (.cells #[.bool x.g, .int .u8 x.o, .int .u64 x.q, .int .u64 x.t, .string x.r, .slice A3 n3 c3, .int .u8 x.s, .int .u8 x.p, .int .i64 x.v, .int .u8 x.w, .int .u8 x.ga, .int .u64 x.gf, .int .u64 x.gt] 30)).heap.size := by simp
    have HZ4 := Lib.hid ((hb.block _ hzz).trans HZ.out)
    have HB4 := Lib.hid (HB3.out.trans (hb.mono hz3))
    have HR4 : Hid (RowAt wc w3.heap.size A3 n3 w4) := fun h0 => by
      obtain ⟨g, cur, e, h1, h2, h3, h4⟩ := HRow.out h0
      exact ⟨g, cur, e, h1, h2, (hb.block g (Array.getElem?_eq_some_iff.1 h3).1).trans h3, h4⟩
    have c5 : w4.cell? ⟨w3.heap.size, 5, none⟩ = some (.slice A3 n3 c3) := cell_of_row _ _ 5 _ _ _ HZ4.out
    clear hb hT hzz hz3 HXY3 HZ HB3 HRow
    go_wp2_with fail
    clear c5
    go_loopw [28] (fun iv wr => ∃ k : Nat, k ≤ n3 ∧ iv = .int .i64 k ∧ Hid (Below wc.heap.size wc wr) ∧ Hid (wr.heap[w3.heap.size]? = some (.cells #[.bool x.g, .int .u8 x.o, .int .u64 x.q, .int .u64 x.t, .string x.r, .slice A3 n3 c3, .int .u8 x.s, .int .u8 x.p, .int .i64 x.v, .int .u8 x.w, .int .u8 x.ga, .int .u64 x.gf, .int .u64 x.gt] 30 (0, 0))) ∧ Hid (RowAt wc w3.heap.size A3 n3 wr)) (fun iv _ => n3 - (intOf iv).toNat)
    case atStart => exact ⟨0, Nat.zero_le _, rfl, HB4.out, HZ4.out, HR4.out⟩
    case round =>
      obtain ⟨k, hk, rfl, HBr, HZr, HRr⟩ := hrel
      clear HB4 HZ4 HR4
      by_cases hlt : k < n3
      · have hb1 : decide ((k : Int) < (n3 : Int)) = true := decide_eq_true (by omega)
        have hb2 : decide (k < n3) = true := decide_eq_true hlt
        obtain ⟨g, cur, rfl, h1, h2, h3, h4⟩ := HRr.out (by omega)
        have c5 : wr.cell? ⟨w3.heap.size, 5, none⟩ = some (.slice (some ⟨g, 0, none⟩) n3 c3) := cell_of_row _ _ 5 _ _ _ HZr.out
        have hq : k * 2 + 1 < cur.size := by omega
        have cq : wr.cell? ⟨g, k * 2 + 1, none⟩ = some cur[k * 2 + 1] := (cell_of_row _ _ _ _ _ _ h3).trans (Array.getElem?_eq_getElem hq)
        have fq : wr.frozen? ⟨g, k * 2 + 1, none⟩ = false := frozen_of_row _ _ _ _ _ h3
        have HBn := Lib.hid (HBr.out.setCell (p := ⟨g, k * 2 + 1, none⟩) h1 (.string ⟨#[113]⟩))
        have HZn := Lib.hid ((heap_setCell_other wr ⟨g, k * 2 + 1, none⟩ w3.heap.size (.string ⟨#[113]⟩) (by show w3.heap.size ≠ g; omega)).trans HZr.out)
        have HRn : Hid (RowAt wc w3.heap.size (some ⟨g, 0, none⟩) n3 (wr.setCell ⟨g, k * 2 + 1, none⟩ (.string ⟨#[113]⟩))) := fun _ => ⟨g, _, rfl, h1, h2, heap_setCell_same wr g _ _ _ (.string ⟨#[113]⟩) h3, by simpa using h4⟩
        clear HBr HZr HRr h1 h2 h3 h4
        generalize cur[k * 2 + 1] = u at cq
        go_wp2
        exact ⟨⟨k + 1, by omega, by go_num, HBn.out, HZn.out, HRn.out⟩, by simp [intOf]; omega⟩
      · have hkn : k = n3 := by omega
        subst hkn
        have hd : decide ((k : Int) < (k : Int)) = false := by simp
        have HXr := Lib.hid (HXY.out.below HBr.out)
        have HS1' := Lib.hid (smallI_ok s HS1.out)
        have HS2' := Lib.hid (smallI_ok t HS2.out)
        rw [HX1.out] at HS1'
        rw [HX2.out] at HS2'
        have HH1 := Lib.hid (smallI_short s)
        have HH2 := Lib.hid (smallI_short t)
        have HZ1 := Lib.hid (smallI_sizes s)
        rw [HX1.out] at HZ1
        rw [HX1.out] at HH1
        rw [HX2.out] at HH2
        have HL1 := Lib.hid (smallI_len s HS1.out)
        have HL2 := Lib.hid (smallI_len t HS2.out)
        rw [HX1.out] at HL1
        rw [HX2.out] at HL2
        have HN1 := Lib.hid hn3
        have HN2 := Lib.hid hn23
        have HT' := Lib.hid HT.out
        clear HBr HZr HRr hlt hk hn3 hn23 hn33 HXY HN3 HX1 HX2 HS1 HS2 HT
        have HMX := Lib.hid (show ∀ V, Below wr.heap.size wr V → V.heap[X]? = some (.cells #[.bool x.g, .int .u8 x.o, .int .u64 x.q, .int .u64 x.t, .string x.r, .slice A n c, .int .u8 x.s, .int .u8 x.p, .int .i64 x.v, .int .u8 x.w, .int .u8 x.ga, .int .u64 x.gf, .int .u64 x.gt] 30 (0, 0)) from fun V hV => (hV.block _ HXr.out.ltx).trans HXr.out.hx)
        have HMY := Lib.hid (show ∀ V, Below wr.heap.size wr V → V.heap[Y]? = some (.cells #[.bool y.g, .int .u8 y.o, .int .u64 y.q, .int .u64 y.t, .string y.r, .slice A2 n2 c2, .int .u8 y.s, .int .u8 y.p, .int .i64 y.v, .int .u8 y.w, .int .u8 y.ga, .int .u64 y.gf, .int .u64 y.gt] 30 (0, 0)) from fun V hV => (hV.block _ HXr.out.lty).trans HXr.out.hy)
        have HRX := Lib.hid (show ∀ V, Below wr.heap.size wr V → RdP V V.heap.size A x.l from fun V hV => RdP.of_own (own_below HXr.out.ox hV))
        have HRY := Lib.hid (show ∀ V, Below wr.heap.size wr V → RdP V V.heap.size A2 y.l from fun V hV => RdP.of_own (own_below HXr.out.oy hV))
        have HAX : Hid (A = none → n = 0) := fun e => by subst e; exact (ownP_nil HXr.out.ox).1
        have HTX := Lib.hid (show ∀ V, Below wr.heap.size wr V → Calls Try.prog 26 #[.slice A n c] V fun e w' => e = .returned (.string T) ∧ Below V.heap.size V w' from fun V hV => by
          rw [← HT'.out]
          refine reftext_any A n c x.l V HXr.out.nx (by have := HN1.out; unfold maxLen; omega) (HRX.out V hV) ?_
          have h1 := textL_short (l := x.l) (fun p hp => by
            obtain ⟨i, hi⟩ := List.mem_iff_getElem?.1 hp
            exact HZ1.out i p hi) (by rw [← HXr.out.nx]; have := HN1.out; omega)
          omega)
        have HWR := Lib.hid HXr.out.bl
        have HNX := Lib.hid HXr.out.nx
        have HNY := Lib.hid HXr.out.ny
        clear HXr HT'
        go_upto_region 11 with fail
        refine wp_region_noPanic ?_
        refine wp_region_held_drew (S := (fun V => Below wr.heap.size wr V)) (by kernel_rfl) ?_ (fun hHeld => ?_)
        · exact (Below.refl _ _).drew
        refine heldTake (i := 0) (v := ?_) rfl (by kernel_rfl) (by kernel_rfl) (by kernel_rfl) (fun _ _ _ h => h) (Or.inl ⟨by rfl, ?_⟩) (by assumption) ?_
        rotate_left
        · (intro w hSw; (try dsimp only at hSw); go_simp; try with_reducible rfl)
        try simp only [heldPut, List.set]
        refine heldTake (i := 1) (v := ?_) rfl (by kernel_rfl) (by kernel_rfl) (by kernel_rfl) (fun _ _ _ h => h) (Or.inl ⟨by rfl, ?_⟩) (by assumption) ?_
        rotate_left
        · (intro w hSw; (try dsimp only at hSw); go_simp; try with_reducible rfl)
        try simp only [heldPut, List.set]
        refine heldTake (i := 2) (v := ?_) rfl (by kernel_rfl) (by kernel_rfl) (by kernel_rfl) (fun _ _ _ h => h) (Or.inl ⟨by rfl, ?_⟩) (by assumption) ?_
        rotate_left
        · (intro w hSw; (try dsimp only at hSw); have k0 := cell_of_row _ _ 0 _ _ _ (HMX.out _ hSw); have k1 := cell_of_row _ _ 1 _ _ _ (HMX.out _ hSw); have k2 := cell_of_row _ _ 2 _ _ _ (HMX.out _ hSw); have k3 := cell_of_row _ _ 3 _ _ _ (HMX.out _ hSw); have k4 := cell_of_row _ _ 4 _ _ _ (HMX.out _ hSw); have k5 := cell_of_row _ _ 5 _ _ _ (HMX.out _ hSw); have k6 := cell_of_row _ _ 6 _ _ _ (HMX.out _ hSw); have k7 := cell_of_row _ _ 7 _ _ _ (HMX.out _ hSw); have k8 := cell_of_row _ _ 8 _ _ _ (HMX.out _ hSw); have k9 := cell_of_row _ _ 9 _ _ _ (HMX.out _ hSw); have k10 := cell_of_row _ _ 10 _ _ _ (HMX.out _ hSw); have k11 := cell_of_row _ _ 11 _ _ _ (HMX.out _ hSw); have k12 := cell_of_row _ _ 12 _ _ _ (HMX.out _ hSw); clear hSw; simp at k0 k1 k2 k3 k4 k5 k6 k7 k8 k9 k10 k11 k12; go_simp; try with_reducible rfl)
        try simp only [heldPut, List.set]
        refine heldTake (i := 4) (v := ?_) rfl (by kernel_rfl) (by kernel_rfl) (by kernel_rfl) (fun _ _ _ h => h) (Or.inl ⟨by rfl, ?_⟩) (by assumption) ?_
        rotate_left
        · (intro w hSw; (try dsimp only at hSw); go_simp; try with_reducible rfl)
        try simp only [heldPut, List.set]
        refine heldOne (i := 3) rfl (by kernel_rfl) (fun K hK => ?_)
        go_simp
        refine (HTX.out _ hHeld).mono ?_
        rintro e V3 ⟨rfl, hb⟩
        go_wp2_with fail
        refine hK.out _ _ ?_ (fun hHeld => ?_)
        · exact hHeld.trans (hb.mono hHeld.size)
        clear hK K hb
        try simp only [heldPut, List.set]
        refine heldTake (i := 5) (v := ?_) rfl (by kernel_rfl) (by kernel_rfl) (by kernel_rfl) (fun _ _ _ h => h) (Or.inl ⟨by rfl, ?_⟩) (by assumption) ?_
        rotate_left
        · (intro w hSw; (try dsimp only at hSw); go_simp; try with_reducible rfl)
        try simp only [heldPut, List.set]
        refine heldTake (i := 6) (v := ?_) rfl (by kernel_rfl) (by kernel_rfl) (by kernel_rfl) (fun _ _ _ h => h) (Or.inl ⟨by rfl, ?_⟩) (by assumption) ?_
        rotate_left
        · (intro w hSw; (try dsimp only at hSw); go_simp; try with_reducible rfl)
        try simp only [heldPut, List.set]
        refine heldTake (i := 7) (v := ?_) rfl (by kernel_rfl) (by kernel_rfl) (by kernel_rfl) (fun _ _ _ h => h) (Or.inl ⟨by rfl, ?_⟩) (by assumption) ?_
        rotate_left
        · (intro w hSw; (try dsimp only at hSw); have k0 := cell_of_row _ _ 0 _ _ _ (HMX.out _ hSw); have k1 := cell_of_row _ _ 1 _ _ _ (HMX.out _ hSw); have k2 := cell_of_row _ _ 2 _ _ _ (HMX.out _ hSw); have k3 := cell_of_row _ _ 3 _ _ _ (HMX.out _ hSw); have k4 := cell_of_row _ _ 4 _ _ _ (HMX.out _ hSw); have k5 := cell_of_row _ _ 5 _ _ _ (HMX.out _ hSw); have k6 := cell_of_row _ _ 6 _ _ _ (HMX.out _ hSw); have k7 := cell_of_row _ _ 7 _ _ _ (HMX.out _ hSw); have k8 := cell_of_row _ _ 8 _ _ _ (HMX.out _ hSw); have k9 := cell_of_row _ _ 9 _ _ _ (HMX.out _ hSw); have k10 := cell_of_row _ _ 10 _ _ _ (HMX.out _ hSw); have k11 := cell_of_row _ _ 11 _ _ _ (HMX.out _ hSw); have k12 := cell_of_row _ _ 12 _ _ _ (HMX.out _ hSw); clear hSw; simp at k0 k1 k2 k3 k4 k5 k6 k7 k8 k9 k10 k11 k12; go_simp; try with_reducible rfl)
        try simp only [heldPut, List.set]
        refine heldTake (i := 8) (v := ?_) rfl (by kernel_rfl) (by kernel_rfl) (by kernel_rfl) (fun _ _ _ h => h) (Or.inl ⟨by rfl, ?_⟩) (by assumption) ?_
        rotate_left
        · (intro w hSw; (try dsimp only at hSw); have k0 := cell_of_row _ _ 0 _ _ _ (HMX.out _ hSw); have k1 := cell_of_row _ _ 1 _ _ _ (HMX.out _ hSw); have k2 := cell_of_row _ _ 2 _ _ _ (HMX.out _ hSw); have k3 := cell_of_row _ _ 3 _ _ _ (HMX.out _ hSw); have k4 := cell_of_row _ _ 4 _ _ _ (HMX.out _ hSw); have k5 := cell_of_row _ _ 5 _ _ _ (HMX.out _ hSw); have k6 := cell_of_row _ _ 6 _ _ _ (HMX.out _ hSw); have k7 := cell_of_row _ _ 7 _ _ _ (HMX.out _ hSw); have k8 := cell_of_row _ _ 8 _ _ _ (HMX.out _ hSw); have k9 := cell_of_row _ _ 9 _ _ _ (HMX.out _ hSw); have k10 := cell_of_row _ _ 10 _ _ _ (HMX.out _ hSw); have k11 := cell_of_row _ _ 11 _ _ _ (HMX.out _ hSw); have k12 := cell_of_row _ _ 12 _ _ _ (HMX.out _ hSw); clear hSw; simp at k0 k1 k2 k3 k4 k5 k6 k7 k8 k9 k10 k11 k12; go_simp; try with_reducible rfl)
        try simp only [heldPut, List.set]
        refine heldOne (i := 9) rfl (by kernel_rfl) (fun K hK => ?_)
        go_simp
        refine (same_self x A n c A n c _ HNX.out HNX.out (by have := HN1.out; unfold maxLen; omega) (HRX.out _ hHeld) (HRX.out _ hHeld)).mono ?_
        rintro e V9 ⟨rfl, hb⟩
        go_wp2_with fail
        refine hK.out _ _ ?_ (fun hHeld => ?_)
        · exact hHeld.trans (hb.mono hHeld.size)
        clear hK K hb
        try simp only [heldPut, List.set]
        refine heldTake (i := 10) (v := ?_) rfl (by kernel_rfl) (by kernel_rfl) (by kernel_rfl) (fun _ _ _ h => h) (Or.inl ⟨by rfl, ?_⟩) (by assumption) ?_
        rotate_left
        · (intro w hSw; (try dsimp only at hSw); go_simp; try with_reducible rfl)
        try simp only [heldPut, List.set]
        refine heldTake (i := 11) (v := ?_) rfl (by kernel_rfl) (by kernel_rfl) (by kernel_rfl) (fun _ _ _ h => h) (Or.inl ⟨by rfl, ?_⟩) (by assumption) ?_
        rotate_left
        · (intro w hSw; (try dsimp only at hSw); go_simp; try with_reducible rfl)
        try simp only [heldPut, List.set]
        refine heldTake (i := 12) (v := ?_) rfl (by kernel_rfl) (by kernel_rfl) (by kernel_rfl) (fun _ _ _ h => h) (Or.inl ⟨by rfl, ?_⟩) (by assumption) ?_
        rotate_left
        · (intro w hSw; (try dsimp only at hSw); go_simp; try with_reducible rfl)
        try simp only [heldPut, List.set]
        refine heldTake (i := 13) (v := ?_) rfl (by kernel_rfl) (by kernel_rfl) (by kernel_rfl) (fun _ _ _ h => h) (Or.inl ⟨by rfl, ?_⟩) (by assumption) ?_
        rotate_left
        · (intro w hSw; (try dsimp only at hSw); have k0 := cell_of_row _ _ 0 _ _ _ (HMX.out _ hSw); have k1 := cell_of_row _ _ 1 _ _ _ (HMX.out _ hSw); have k2 := cell_of_row _ _ 2 _ _ _ (HMX.out _ hSw); have k3 := cell_of_row _ _ 3 _ _ _ (HMX.out _ hSw); have k4 := cell_of_row _ _ 4 _ _ _ (HMX.out _ hSw); have k5 := cell_of_row _ _ 5 _ _ _ (HMX.out _ hSw); have k6 := cell_of_row _ _ 6 _ _ _ (HMX.out _ hSw); have k7 := cell_of_row _ _ 7 _ _ _ (HMX.out _ hSw); have k8 := cell_of_row _ _ 8 _ _ _ (HMX.out _ hSw); have k9 := cell_of_row _ _ 9 _ _ _ (HMX.out _ hSw); have k10 := cell_of_row _ _ 10 _ _ _ (HMX.out _ hSw); have k11 := cell_of_row _ _ 11 _ _ _ (HMX.out _ hSw); have k12 := cell_of_row _ _ 12 _ _ _ (HMX.out _ hSw); clear hSw; simp at k0 k1 k2 k3 k4 k5 k6 k7 k8 k9 k10 k11 k12; go_simp; try with_reducible rfl)
        try simp only [heldPut, List.set]
        refine heldTake (i := 14) (v := ?_) rfl (by kernel_rfl) (by kernel_rfl) (by kernel_rfl) (fun _ _ _ h => h) (Or.inl ⟨by rfl, ?_⟩) (by assumption) ?_
        rotate_left
        · (intro w hSw; (try dsimp only at hSw); have k0 := cell_of_row _ _ 0 _ _ _ (HMX.out _ hSw); have k1 := cell_of_row _ _ 1 _ _ _ (HMX.out _ hSw); have k2 := cell_of_row _ _ 2 _ _ _ (HMX.out _ hSw); have k3 := cell_of_row _ _ 3 _ _ _ (HMX.out _ hSw); have k4 := cell_of_row _ _ 4 _ _ _ (HMX.out _ hSw); have k5 := cell_of_row _ _ 5 _ _ _ (HMX.out _ hSw); have k6 := cell_of_row _ _ 6 _ _ _ (HMX.out _ hSw); have k7 := cell_of_row _ _ 7 _ _ _ (HMX.out _ hSw); have k8 := cell_of_row _ _ 8 _ _ _ (HMX.out _ hSw); have k9 := cell_of_row _ _ 9 _ _ _ (HMX.out _ hSw); have k10 := cell_of_row _ _ 10 _ _ _ (HMX.out _ hSw); have k11 := cell_of_row _ _ 11 _ _ _ (HMX.out _ hSw); have k12 := cell_of_row _ _ 12 _ _ _ (HMX.out _ hSw); clear hSw; simp at k0 k1 k2 k3 k4 k5 k6 k7 k8 k9 k10 k11 k12; go_simp; try with_reducible rfl)
        try simp only [heldPut, List.set]
        refine heldOne (i := 15) rfl (by kernel_rfl) (fun K hK => ?_)
        go_simp
        refine (iclone_any x A n c _ HNX.out HAX.out (by have := HN1.out; omega) (HRX.out _ hHeld)).mono ?_
        rintro e V15 ⟨A5, n5, c5, rfl, hn5, ho5, hb⟩
        have HN5 := Lib.hid hn5
        have HO5 := Lib.hid (RdP.of_own ho5)
        clear hn5 ho5
        go_wp2_with fail
        refine hK.out _ _ ?_ (fun hHeld => ?_)
        · exact hHeld.trans (hb.mono hHeld.size)
        clear hK K hb
        try simp only [heldPut, List.set]
        refine heldOne (i := 16) rfl (by kernel_rfl) (fun K hK => ?_)
        go_simp
        refine (same_self x A n c A5 n5 c5 _ HNX.out HN5.out (by have := HN1.out; unfold maxLen; omega) (HRX.out _ hHeld) HO5.out).mono ?_
        rintro e V16 ⟨rfl, hb⟩
        go_wp2_with fail
        refine hK.out _ _ ?_ (fun hHeld => ?_)
        · exact hHeld.trans (hb.mono hHeld.size)
        clear hK K hb
        try simp only [heldPut, List.set]
        refine heldTake (i := 17) (v := ?_) rfl (by kernel_rfl) (by kernel_rfl) (by kernel_rfl) (fun _ _ _ h => h) (Or.inl ⟨by rfl, ?_⟩) (by assumption) ?_
        rotate_left
        · (intro w hSw; (try dsimp only at hSw); go_simp; try with_reducible rfl)
        try simp only [heldPut, List.set]
        refine heldTake (i := 18) (v := ?_) rfl (by kernel_rfl) (by kernel_rfl) (by kernel_rfl) (fun _ _ _ h => h) (Or.inl ⟨by rfl, ?_⟩) (by assumption) ?_
        rotate_left
        · (intro w hSw; (try dsimp only at hSw); go_simp; try with_reducible rfl)
        try simp only [heldPut, List.set]
        refine wpAnyH_done (by kernel_rfl) ?_ _
        refine NoPanic.normal ?_
        go_upto_region 13 with fail
        obtain ⟨b, hb⟩ : ∃ b, sameI x y = b := ⟨_, rfl⟩
        have HBB := Lib.hid hb
        clear hb
        refine wp_region_noPanic ?_
        refine wp_region_held_drew (S := (fun V => Below wr.heap.size wr V)) (by kernel_rfl) ?_ (fun hHeld => ?_)
        · exact hHeld.drew
        refine heldTake (i := 0) (v := ?_) rfl (by kernel_rfl) (by kernel_rfl) (by kernel_rfl) (fun _ _ _ h => h) (Or.inl ⟨by rfl, ?_⟩) (by assumption) ?_
        rotate_left
        · (intro w hSw; (try dsimp only at hSw); have k0 := cell_of_row _ _ 0 _ _ _ (HMX.out _ hSw); have k1 := cell_of_row _ _ 1 _ _ _ (HMX.out _ hSw); have k2 := cell_of_row _ _ 2 _ _ _ (HMX.out _ hSw); have k3 := cell_of_row _ _ 3 _ _ _ (HMX.out _ hSw); have k4 := cell_of_row _ _ 4 _ _ _ (HMX.out _ hSw); have k5 := cell_of_row _ _ 5 _ _ _ (HMX.out _ hSw); have k6 := cell_of_row _ _ 6 _ _ _ (HMX.out _ hSw); have k7 := cell_of_row _ _ 7 _ _ _ (HMX.out _ hSw); have k8 := cell_of_row _ _ 8 _ _ _ (HMX.out _ hSw); have k9 := cell_of_row _ _ 9 _ _ _ (HMX.out _ hSw); have k10 := cell_of_row _ _ 10 _ _ _ (HMX.out _ hSw); have k11 := cell_of_row _ _ 11 _ _ _ (HMX.out _ hSw); have k12 := cell_of_row _ _ 12 _ _ _ (HMX.out _ hSw); clear hSw; simp at k0 k1 k2 k3 k4 k5 k6 k7 k8 k9 k10 k11 k12; go_simp; try with_reducible rfl)
        try simp only [heldPut, List.set]
        refine heldTake (i := 1) (v := ?_) rfl (by kernel_rfl) (by kernel_rfl) (by kernel_rfl) (fun _ _ _ h => h) (Or.inl ⟨by rfl, ?_⟩) (by assumption) ?_
        rotate_left
        · (intro w hSw; (try dsimp only at hSw); have k0 := cell_of_row _ _ 0 _ _ _ (HMY.out _ hSw); have k1 := cell_of_row _ _ 1 _ _ _ (HMY.out _ hSw); have k2 := cell_of_row _ _ 2 _ _ _ (HMY.out _ hSw); have k3 := cell_of_row _ _ 3 _ _ _ (HMY.out _ hSw); have k4 := cell_of_row _ _ 4 _ _ _ (HMY.out _ hSw); have k5 := cell_of_row _ _ 5 _ _ _ (HMY.out _ hSw); have k6 := cell_of_row _ _ 6 _ _ _ (HMY.out _ hSw); have k7 := cell_of_row _ _ 7 _ _ _ (HMY.out _ hSw); have k8 := cell_of_row _ _ 8 _ _ _ (HMY.out _ hSw); have k9 := cell_of_row _ _ 9 _ _ _ (HMY.out _ hSw); have k10 := cell_of_row _ _ 10 _ _ _ (HMY.out _ hSw); have k11 := cell_of_row _ _ 11 _ _ _ (HMY.out _ hSw); have k12 := cell_of_row _ _ 12 _ _ _ (HMY.out _ hSw); clear hSw; simp at k0 k1 k2 k3 k4 k5 k6 k7 k8 k9 k10 k11 k12; go_simp; try with_reducible rfl)
        try simp only [heldPut, List.set]
        refine heldTake (i := 3) (v := ?_) rfl (by kernel_rfl) (by kernel_rfl) (by kernel_rfl) (fun _ _ _ h => h) (Or.inl ⟨by rfl, ?_⟩) (by assumption) ?_
        rotate_left
        · (intro w hSw; (try dsimp only at hSw); have k0 := cell_of_row _ _ 0 _ _ _ (HMX.out _ hSw); have k1 := cell_of_row _ _ 1 _ _ _ (HMX.out _ hSw); have k2 := cell_of_row _ _ 2 _ _ _ (HMX.out _ hSw); have k3 := cell_of_row _ _ 3 _ _ _ (HMX.out _ hSw); have k4 := cell_of_row _ _ 4 _ _ _ (HMX.out _ hSw); have k5 := cell_of_row _ _ 5 _ _ _ (HMX.out _ hSw); have k6 := cell_of_row _ _ 6 _ _ _ (HMX.out _ hSw); have k7 := cell_of_row _ _ 7 _ _ _ (HMX.out _ hSw); have k8 := cell_of_row _ _ 8 _ _ _ (HMX.out _ hSw); have k9 := cell_of_row _ _ 9 _ _ _ (HMX.out _ hSw); have k10 := cell_of_row _ _ 10 _ _ _ (HMX.out _ hSw); have k11 := cell_of_row _ _ 11 _ _ _ (HMX.out _ hSw); have k12 := cell_of_row _ _ 12 _ _ _ (HMX.out _ hSw); clear hSw; simp at k0 k1 k2 k3 k4 k5 k6 k7 k8 k9 k10 k11 k12; go_simp; try with_reducible rfl)
        try simp only [heldPut, List.set]
        refine heldTake (i := 6) (v := ?_) rfl (by kernel_rfl) (by kernel_rfl) (by kernel_rfl) (fun _ _ _ h => h) (Or.inl ⟨by rfl, ?_⟩) (by assumption) ?_
        rotate_left
        · (intro w hSw; (try dsimp only at hSw); have k0 := cell_of_row _ _ 0 _ _ _ (HMY.out _ hSw); have k1 := cell_of_row _ _ 1 _ _ _ (HMY.out _ hSw); have k2 := cell_of_row _ _ 2 _ _ _ (HMY.out _ hSw); have k3 := cell_of_row _ _ 3 _ _ _ (HMY.out _ hSw); have k4 := cell_of_row _ _ 4 _ _ _ (HMY.out _ hSw); have k5 := cell_of_row _ _ 5 _ _ _ (HMY.out _ hSw); have k6 := cell_of_row _ _ 6 _ _ _ (HMY.out _ hSw); have k7 := cell_of_row _ _ 7 _ _ _ (HMY.out _ hSw); have k8 := cell_of_row _ _ 8 _ _ _ (HMY.out _ hSw); have k9 := cell_of_row _ _ 9 _ _ _ (HMY.out _ hSw); have k10 := cell_of_row _ _ 10 _ _ _ (HMY.out _ hSw); have k11 := cell_of_row _ _ 11 _ _ _ (HMY.out _ hSw); have k12 := cell_of_row _ _ 12 _ _ _ (HMY.out _ hSw); clear hSw; simp at k0 k1 k2 k3 k4 k5 k6 k7 k8 k9 k10 k11 k12; go_simp; try with_reducible rfl)
        try simp only [heldPut, List.set]
        refine heldOne (i := 2) rfl (by kernel_rfl) (fun K hK => ?_)
        go_simp
        refine (same_as x y b HBB.out A n c A2 n2 c2 _ HNX.out HNY.out (by have := HN1.out; unfold maxLen; omega) (HRX.out _ hHeld) (HRY.out _ hHeld)).mono ?_
        rintro e V32 ⟨rfl, hb⟩
        go_wp2_with fail
        refine hK.out _ _ ?_ (fun hHeld => ?_)
        · exact hHeld.trans (hb.mono hHeld.size)
        clear hK K hb
        try simp only [heldPut, List.set]
        refine heldOne (i := 4) rfl (by kernel_rfl) (fun K hK => ?_)
        go_simp
        refine (encode_any x A n c HS1'.out HH1.out HNX.out (by have := HN1.out; omega) _ (by have := HL1.out; omega) (HRX.out _ hHeld)).mono ?_
        rintro e V34 ⟨v4, rfl, ho4, hb⟩
        have HO4 := Lib.hid ho4
        clear ho4
        go_wp2_with fail
        refine hK.out _ _ ?_ (fun hHeld => ?_)
        · exact hHeld.trans (hb.mono hHeld.size)
        clear hK K
        try simp only [heldPut, List.set]
        refine heldMore (S2 := fun V => Below wr.heap.size wr V ∧ Below V34.heap.size V34 V) (fun _ h => h.1) ?_
        replace hHeld : Below wr.heap.size wr V34 ∧ Below V34.heap.size V34 V34 := ⟨hHeld, Below.refl _ _⟩
        clear hb
        refine heldTake (i := 5) (v := ?_) rfl (by kernel_rfl) (by kernel_rfl) (by kernel_rfl) (fun _ _ _ h => h) (Or.inl ⟨by rfl, ?_⟩) (by assumption) ?_
        rotate_left
        · (intro w hSw; have k := conv_own (own_below HO4.out hSw.2); clear hSw; (try dsimp only at k); go_simp; try with_reducible rfl)
        try simp only [heldPut, List.set]
        refine heldOne (i := 7) rfl (by kernel_rfl) (fun K hK => ?_)
        go_simp
        refine (encode_any y A2 n2 c2 HS2'.out HH2.out HNY.out (by have := HN2.out; omega) _ (by have := HL2.out; omega) (HRY.out _ hHeld.1)).mono ?_
        rintro e V37 ⟨v7, rfl, ho7, hb⟩
        have HO7 := Lib.hid ho7
        clear ho7
        go_wp2_with fail
        refine hK.out _ _ ?_ (fun hHeld => ?_)
        · exact ⟨hHeld.1.trans (hb.mono hHeld.1.size), hHeld.2.trans (hb.mono hHeld.2.size)⟩
        clear hK K
        try simp only [heldPut, List.set]
        refine heldMore (S2 := fun V => (Below wr.heap.size wr V ∧ Below V34.heap.size V34 V) ∧ Below V37.heap.size V37 V) (fun _ h => h.1) ?_
        replace hHeld : (Below wr.heap.size wr V37 ∧ Below V34.heap.size V34 V37) ∧ Below V37.heap.size V37 V37 := ⟨hHeld, Below.refl _ _⟩
        clear hb
        refine heldTake (i := 8) (v := ?_) rfl (by kernel_rfl) (by kernel_rfl) (by kernel_rfl) (fun _ _ _ h => h) (Or.inl ⟨by rfl, ?_⟩) (by assumption) ?_
        rotate_left
        · (intro w hSw; have k := conv_own (own_below HO7.out hSw.2); clear hSw; (try dsimp only at k); go_simp; try with_reducible rfl)
        try simp only [heldPut, List.set]
        refine heldTake (i := 9) (v := ?_) rfl (by kernel_rfl) (by kernel_rfl) (by kernel_rfl) (fun _ _ _ h => h) (Or.inl ⟨by rfl, ?_⟩) (by assumption) ?_
        rotate_left
        · (intro w hSw; (try dsimp only at hSw); go_simp; try with_reducible rfl)
        try simp only [heldPut, List.set]
        refine heldTake (i := 10) (v := ?_) rfl (by kernel_rfl) (by kernel_rfl) (by kernel_rfl) (fun _ _ _ h => h) (Or.inl ⟨by rfl, ?_⟩) (by assumption) ?_
        rotate_left
        · (intro w hSw; (try dsimp only at hSw); go_simp; try with_reducible rfl)
        try simp only [heldPut, List.set]
        refine heldTake (i := 11) (v := ?_) rfl (by kernel_rfl) (by kernel_rfl) (by kernel_rfl) (fun _ _ _ h => h) (Or.inl ⟨by rfl, ?_⟩) (by assumption) ?_
        rotate_left
        · (intro w hSw; (try dsimp only at hSw); go_simp; try with_reducible rfl)
        try simp only [heldPut, List.set]
        refine wpAnyH_done (by kernel_rfl) ?_ _
        refine NoPanic.normal ?_
        have e : (b == ((strB (itemB x)).toList == (strB (itemB y)).toList)) = true := by
          rw [strB_eq (itemB_ok HS1'.out HH1.out (by rw [← HNX.out]; have := HN1.out; omega)) (itemB_ok HS2'.out HH2.out (by rw [← HNY.out]; have := HN2.out; omega)), ← HBB.out, sameI_bytes HS1'.out HS2'.out (fun _ => HH1.out.wide (by rw [← HNX.out]; have := HN1.out; omega)) (fun _ => HH2.out.wide (by rw [← HNY.out]; have := HN2.out; omega))]
          simp
        rw [e]
        clear e
        have hend := HWR.out.trans (hHeld.1.1.mono HWR.out.size)
        clear hHeld HBB HO4 HO7 HO5 HN5
        go_wp2
        go_ret
        exact ⟨rfl, hend⟩
end Go.Proofs.Ytkkilfoncdbciaa.itemOwn
