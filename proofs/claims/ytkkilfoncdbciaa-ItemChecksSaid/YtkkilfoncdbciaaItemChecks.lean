/- The walk of watchfirelaw04.ItemChecks. -/
import Derived.Test.YtkkilfoncdbciaaItCheckEv
import Derived.Test.YtkkilfoncdbciaaItRefCheck
import Derived.Test.YtkkilfoncdbciaaItSmallAll
import Derived.Test.YtkkilfoncdbciaaItSmallOk
import Derived.Test.YtkkilfoncdbciaaItEnc
import Derived.Test.YtkkilfoncdbciaaHeld
namespace Go.Proofs.Ytkkilfoncdbciaa.itemChecks
open Go.RowKit Go.Proofs.Ytkkilfoncdbciaa

theorem check_right (x : It) (A : Option Addr) (n c : Nat) (w : World) (h0 : itemN x = 0) (hn : n = x.l.length) (hm : n ≤ maxLen) (hr : RdP w w.heap.size A x.l) :
    Calls Try.prog 9 #[.agg #[.bool x.g, .int .u8 x.o, .int .u64 x.q, .int .u64 x.t, .string x.r, .slice A n c, .int .u8 x.s, .int .u8 x.p, .int .i64 x.v, .int .u8 x.w, .int .u8 x.ga, .int .u64 x.gf, .int .u64 x.gt]] w fun e w' => e = .returned (.int .i64 0) ∧ Below w.heap.size w w' :=
  (itemCheck_any x A n c w hn hm hr).mono fun e w' h => ⟨by rw [h.1, h0]; rfl, h.2⟩

set_option maxRecDepth 100000 in
set_option maxHeartbeats 4000000 in
theorem walk (x : It) (A : Option Addr) (n c : Nat) (hx : OkI x) (hn : n = x.l.length) (hm : n ≤ maxLen) (s : Sm) (hs : OkS s) (w : World) (hr : RdP w w.heap.size A x.l) :
    Calls Try.prog 3 #[.agg #[.bool x.g, .int .u8 x.o, .int .u64 x.q, .int .u64 x.t, .string x.r, .slice A n c, .int .u8 x.s, .int .u8 x.p, .int .i64 x.v, .int .u8 x.w, .int .u8 x.ga, .int .u64 x.gf, .int .u64 x.gt], .agg #[.bool s.g, .int .u8 s.o, .int .u8 s.p, .int .u8 s.w, .int .u16 s.q, .int .u16 s.m, .int .u16 s.t, .int .u8 s.r, .int .u8 s.l, .int .u8 s.v, .bool s.s]] w fun e w' => e = .returned (.bool true) ∧ Below w.heap.size w w' := by
  have hba : Below w.heap.size w ((w.alloc (.cells #[.bool x.g, .int .u8 x.o, .int .u64 x.q, .int .u64 x.t, .string x.r, .slice A n c, .int .u8 x.s, .int .u8 x.p, .int .i64 x.v, .int .u8 x.w, .int .u8 x.ga, .int .u64 x.gf, .int .u64 x.gt] 30)).alloc (.cells #[.bool s.g, .int .u8 s.o, .int .u8 s.p, .int .u8 s.w, .int .u16 s.q, .int .u16 s.m, .int .u16 s.t, .int .u8 s.r, .int .u8 s.l, .int .u8 s.v, .bool s.s] 33)) := ((Below.refl _ _).alloc (Nat.le_refl _) _).alloc (by simp) _
  have HI := Lib.hid ((ItAt.new w x A n c 30).below ((Below.refl _ _).alloc (Nat.le_refl _) (.cells #[.bool s.g, .int .u8 s.o, .int .u8 s.p, .int .u8 s.w, .int .u16 s.q, .int .u16 s.m, .int .u16 s.t, .int .u8 s.r, .int .u8 s.l, .int .u8 s.v, .bool s.s] 33)))
  have h2 := heap_alloc2_new w (.cells #[.bool x.g, .int .u8 x.o, .int .u64 x.q, .int .u64 x.t, .string x.r, .slice A n c, .int .u8 x.s, .int .u8 x.p, .int .i64 x.v, .int .u8 x.w, .int .u8 x.ga, .int .u64 x.gf, .int .u64 x.gt] 30) (.cells #[.bool s.g, .int .u8 s.o, .int .u8 s.p, .int .u8 s.w, .int .u16 s.q, .int .u16 s.m, .int .u16 s.t, .int .u8 s.r, .int .u8 s.l, .int .u8 s.v, .bool s.s] 33)
  have H2 := Lib.hid h2
  have Hba := Lib.hid hba
  have Hx := Lib.hid hx
  have Hn := Lib.hid hn
  have Hs := Lib.hid hs
  have Hr := Lib.hid hr
  clear hba h2 hx hn hs hr
  by_cases h20 : 20 < n
  · go_enter Try.func3, Try.ntmps3
    go_wp2_with fail
    refine (iawake_any _).mono ?_
    rintro e w1 ⟨rfl, hb1⟩
    have hHI1 := HI.out.below hb1
    have Hb1 := Lib.hid (Hba.out.trans (hb1.mono Hba.out.size))
    have c5 := hHI1.c5
    clear hb1 hHI1
    go_wp2
    go_ret
    exact ⟨rfl, Hb1.out⟩
  · go_enter Try.func3, Try.ntmps3
    go_wp2_with fail
    refine (iawake_any _).mono ?_
    rintro e w1 ⟨rfl, hb1⟩
    have HI1 := Lib.hid (HI.out.below hb1)
    have hh2 := (hb1.block (w.heap.size + 1) (by simp)).trans H2.out
    have HK := Lib.hid hh2
    have Hb1 := Lib.hid (Hba.out.trans (hb1.mono Hba.out.size))
    have c5 := HI1.out.c5
    have hsz1 := Hb1.out.size
    have HR1 : Hid (∀ V, Below w1.heap.size w1 V → RdP V V.heap.size A x.l) := fun V hV => (Hr.out.below (Hb1.out.trans (hV.mono Hb1.out.size))).more (Nat.le_trans Hb1.out.size hV.size)
    have HC1 : Hid (∀ V, Below w1.heap.size w1 V → ItAt V w.heap.size x A n c) := fun V hV => HI1.out.below hV
    have HC2 : Hid (∀ V, Below w1.heap.size w1 V → V.heap[w.heap.size + 1]? = some (.cells #[.bool s.g, .int .u8 s.o, .int .u8 s.p, .int .u8 s.w, .int .u16 s.q, .int .u16 s.m, .int .u16 s.t, .int .u8 s.r, .int .u8 s.l, .int .u8 s.v, .bool s.s] 33 (0, 0))) := fun V hV => (hV.block _ (Array.getElem?_eq_some_iff.1 HK.out).1).trans HK.out
    clear hb1 hh2 HI HI1 HK H2 Hr
    go_wp2_with fail
    clear c5
    refine wp_region_noPanic ?_
    refine wp_region_held_drew (S := (fun V => Below w1.heap.size w1 V)) (by kernel_rfl) ?_ (fun hHeld => ?_)
    · exact (Below.refl _ _).drew
    refine heldTake (i := 0) (v := ?_) rfl (by kernel_rfl) (by kernel_rfl) (by kernel_rfl) (fun _ _ _ h => h) (Or.inl ⟨by rfl, ?_⟩) (by assumption) ?_
    rotate_left
    · (intro w hSw; (try dsimp only at hSw); obtain ⟨_, c0, c1, c2, c3, c4, c5, c6, c7, c8, c9, c10, c11, c12⟩ := HC1.out _ hSw; go_simp; try with_reducible rfl)
    try simp only [heldPut, List.set]
    refine heldTake (i := 2) (v := ?_) rfl (by kernel_rfl) (by kernel_rfl) (by kernel_rfl) (fun _ _ _ h => h) (Or.inl ⟨by rfl, ?_⟩) (by assumption) ?_
    rotate_left
    · (intro w hSw; (try dsimp only at hSw); obtain ⟨_, c0, c1, c2, c3, c4, c5, c6, c7, c8, c9, c10, c11, c12⟩ := HC1.out _ hSw; go_simp; try with_reducible rfl)
    try simp only [heldPut, List.set]
    refine heldOne (i := 1) rfl (by kernel_rfl) (fun K hK => ?_)
    go_simp
    refine (itemCheck_any x A n c _ Hn.out hm (HR1.out _ hHeld)).mono ?_
    rintro e W1 ⟨rfl, hb⟩
    go_wp2_with fail
    refine hK.out _ _ ?_ (fun hHeld => ?_)
    · exact hHeld.trans (hb.mono hHeld.size)
    clear hK K hb
    try simp only [heldPut, List.set]
    refine heldOne (i := 3) rfl (by kernel_rfl) (fun K hK => ?_)
    go_simp
    refine (refItem_any x A n c _ Hn.out hm (HR1.out _ hHeld) Hx.out).mono ?_
    rintro e W3 ⟨rfl, hb⟩
    go_wp2_with fail
    refine hK.out _ _ ?_ (fun hHeld => ?_)
    · exact hHeld.trans (hb.mono hHeld.size)
    clear hK K hb
    try simp only [heldPut, List.set]
    refine heldTake (i := 4) (v := ?_) rfl (by kernel_rfl) (by kernel_rfl) (by kernel_rfl) (fun _ _ _ h => h) (Or.inl ⟨by rfl, ?_⟩) (by assumption) ?_
    rotate_left
    · (intro w hSw; (try dsimp only at hSw); go_simp; try with_reducible rfl)
    try simp only [heldPut, List.set]
    refine heldTake (i := 5) (v := ?_) rfl (by kernel_rfl) (by kernel_rfl) (by kernel_rfl) (fun _ _ _ h => h) (Or.inl ⟨by rfl, ?_⟩) (by assumption) ?_
    rotate_left
    · (intro w hSw; (try dsimp only at hSw); go_simp; try with_reducible rfl)
    try simp only [heldPut, List.set]
    refine heldTake (i := 6) (v := ?_) rfl (by kernel_rfl) (by kernel_rfl) (by kernel_rfl) (fun _ _ _ h => h) (Or.inl ⟨by rfl, ?_⟩) (by assumption) ?_
    rotate_left
    · (intro w hSw; (try dsimp only at hSw); have k0 := cell_of_row _ _ 0 _ _ _ (HC2.out _ hSw); have k1 := cell_of_row _ _ 1 _ _ _ (HC2.out _ hSw); have k2 := cell_of_row _ _ 2 _ _ _ (HC2.out _ hSw); have k3 := cell_of_row _ _ 3 _ _ _ (HC2.out _ hSw); have k4 := cell_of_row _ _ 4 _ _ _ (HC2.out _ hSw); have k5 := cell_of_row _ _ 5 _ _ _ (HC2.out _ hSw); have k6 := cell_of_row _ _ 6 _ _ _ (HC2.out _ hSw); have k7 := cell_of_row _ _ 7 _ _ _ (HC2.out _ hSw); have k8 := cell_of_row _ _ 8 _ _ _ (HC2.out _ hSw); have k9 := cell_of_row _ _ 9 _ _ _ (HC2.out _ hSw); have k10 := cell_of_row _ _ 10 _ _ _ (HC2.out _ hSw); clear hSw; simp at k0 k1 k2 k3 k4 k5 k6 k7 k8 k9 k10; go_simp; try with_reducible rfl)
    try simp only [heldPut, List.set]
    refine heldOne (i := 7) rfl (by kernel_rfl) (fun K hK => ?_)
    go_simp
    refine (smallItem_any s Hs.out _).mono ?_
    rintro e W7 ⟨A7, n7, c7, rfl, hn7, ho7, hb⟩
    have HN7 := Lib.hid hn7
    have HR7 := Lib.hid (RdP.of_own ho7)
    have hn3 : n7 ≤ 3 := by rw [hn7]; exact smallI_labs s
    clear hn7 ho7
    go_wp2_with fail
    refine hK.out _ _ ?_ (fun hHeld => ?_)
    · exact hHeld.trans (hb.mono hHeld.size)
    clear hK K hb
    try simp only [heldPut, List.set]
    refine heldOne (i := 8) rfl (by kernel_rfl) (fun K hK => ?_)
    go_simp
    refine (check_right (smallI s) A7 n7 c7 _ (smallI_right s Hs.out) HN7.out (by unfold maxLen; omega) HR7.out).mono ?_
    rintro e W8 ⟨rfl, hb⟩
    go_wp2_with fail
    refine hK.out _ _ ?_ (fun hHeld => ?_)
    · exact hHeld.trans (hb.mono hHeld.size)
    clear hK K hb
    try simp only [heldPut, List.set]
    refine heldTake (i := 9) (v := ?_) rfl (by kernel_rfl) (by kernel_rfl) (by kernel_rfl) (fun _ _ _ h => h) (Or.inl ⟨by rfl, ?_⟩) (by assumption) ?_
    rotate_left
    · (intro w hSw; (try dsimp only at hSw); go_simp; try with_reducible rfl)
    try simp only [heldPut, List.set]
    refine heldTake (i := 10) (v := ?_) rfl (by kernel_rfl) (by kernel_rfl) (by kernel_rfl) (fun _ _ _ h => h) (Or.inl ⟨by rfl, ?_⟩) (by assumption) ?_
    rotate_left
    · (intro w hSw; (try dsimp only at hSw); go_simp; try with_reducible rfl)
    try simp only [heldPut, List.set]
    refine heldTake (i := 11) (v := ?_) rfl (by kernel_rfl) (by kernel_rfl) (by kernel_rfl) (fun _ _ _ h => h) (Or.inl ⟨by rfl, ?_⟩) (by assumption) ?_
    rotate_left
    · (intro w hSw; (try dsimp only at hSw); go_simp; try with_reducible rfl)
    try simp only [heldPut, List.set]
    refine heldTake (i := 12) (v := ?_) rfl (by kernel_rfl) (by kernel_rfl) (by kernel_rfl) (fun _ _ _ h => h) (Or.inl ⟨by rfl, ?_⟩) (by assumption) ?_
    rotate_left
    · (intro w hSw; (try dsimp only at hSw); go_simp; try with_reducible rfl)
    try simp only [heldPut, List.set]
    refine heldTake (i := 13) (v := ?_) rfl (by kernel_rfl) (by kernel_rfl) (by kernel_rfl) (fun _ _ _ h => h) (Or.inl ⟨by rfl, ?_⟩) (by assumption) ?_
    rotate_left
    · (intro w hSw; (try dsimp only at hSw); go_simp; try with_reducible rfl)
    try simp only [heldPut, List.set]
    refine heldTake (i := 14) (v := ?_) rfl (by kernel_rfl) (by kernel_rfl) (by kernel_rfl) (fun _ _ _ h => h) (Or.inl ⟨by rfl, ?_⟩) (by assumption) ?_
    rotate_left
    · (intro w hSw; (try dsimp only at hSw); obtain ⟨_, c0, c1, c2, c3, c4, c5, c6, c7, c8, c9, c10, c11, c12⟩ := HC1.out _ hSw; go_simp; try with_reducible rfl)
    try simp only [heldPut, List.set]
    refine heldTake (i := 16) (v := ?_) rfl (by kernel_rfl) (by kernel_rfl) (by kernel_rfl) (fun _ _ _ h => h) (Or.inl ⟨by rfl, ?_⟩) (by assumption) ?_
    rotate_left
    · (intro w hSw; (try dsimp only at hSw); go_simp; try with_reducible rfl)
    try simp only [heldPut, List.set]
    refine heldTake (i := 17) (v := ?_) rfl (by kernel_rfl) (by kernel_rfl) (by kernel_rfl) (fun _ _ _ h => h) (Or.inl ⟨by rfl, ?_⟩) (by assumption) ?_
    rotate_left
    · (intro w hSw; (try dsimp only at hSw); go_simp; try with_reducible rfl)
    try simp only [heldPut, List.set]
    refine heldTake (i := 18) (v := ?_) rfl (by kernel_rfl) (by kernel_rfl) (by kernel_rfl) (fun _ _ _ h => h) (Or.inl ⟨by rfl, ?_⟩) (by assumption) ?_
    rotate_left
    · (intro w hSw; (try dsimp only at hSw); obtain ⟨_, c0, c1, c2, c3, c4, c5, c6, c7, c8, c9, c10, c11, c12⟩ := HC1.out _ hSw; go_simp; try with_reducible rfl)
    try simp only [heldPut, List.set]
    refine heldOne (i := 15) rfl (by kernel_rfl) (fun K hK => ?_)
    go_simp
    refine (own_any x.r _).mono ?_
    rintro e W15 ⟨rfl, rfl⟩
    go_wp2_with fail
    refine hK.out _ _ ?_ (fun hHeld => ?_)
    · exact hHeld
    clear hK K
    try simp only [heldPut, List.set]
    refine heldOne (i := 19) rfl (by kernel_rfl) (fun K hK => ?_)
    go_simp
    refine (refOwn_any x.r _).mono ?_
    rintro e W19 ⟨rfl, rfl⟩
    go_wp2_with fail
    refine hK.out _ _ ?_ (fun hHeld => ?_)
    · exact hHeld
    clear hK K
    try simp only [heldPut, List.set]
    refine heldTake (i := 20) (v := ?_) rfl (by kernel_rfl) (by kernel_rfl) (by kernel_rfl) (fun _ _ _ h => h) (Or.inl ⟨by rfl, ?_⟩) (by assumption) ?_
    rotate_left
    · (intro w hSw; (try dsimp only at hSw); go_simp; try with_reducible rfl)
    try simp only [heldPut, List.set]
    refine heldTake (i := 21) (v := ?_) rfl (by kernel_rfl) (by kernel_rfl) (by kernel_rfl) (fun _ _ _ h => h) (Or.inl ⟨by rfl, ?_⟩) (by assumption) ?_
    rotate_left
    · (intro w hSw; (try dsimp only at hSw); go_simp; try with_reducible rfl)
    try simp only [heldPut, List.set]
    refine heldTake (i := 22) (v := ?_) rfl (by kernel_rfl) (by kernel_rfl) (by kernel_rfl) (fun _ _ _ h => h) (Or.inl ⟨by rfl, ?_⟩) (by assumption) ?_
    rotate_left
    · (intro w hSw; (try dsimp only at hSw); go_simp; try with_reducible rfl)
    try simp only [heldPut, List.set]
    refine wpAnyH_done (by kernel_rfl) ?_ _
    refine NoPanic.normal ?_
    go_wp2
    go_ret
    exact ⟨rfl, Hb1.out.trans (hHeld.mono hsz1)⟩
end Go.Proofs.Ytkkilfoncdbciaa.itemChecks
