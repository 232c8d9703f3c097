/- Several texts in one: SdLast, SsNew. -/
import Derived.Test.YtocdhnlffemnhaaQa2
import Derived.Test.YtocdhnlffemnhaaQa18
import Derived.Test.YtocdhnlffemnhaaQa20
/- Layer 10: Last; an append to the row of flights. -/
namespace Go.Proofs.Ytocdhnlffemnhaa
open Go.RowKit

def lastI (L : List Fg) : Nat := (L.getLast?.map (·.i)).getD 0
theorem lastI_nil : lastI [] = 0 := rfl
theorem lastI_get {L : List Fg} (h : 0 < L.length) : ∃ f, L[L.length - 1]? = some f ∧ lastI L = f.i := by
  refine ⟨L[L.length - 1]'(by omega), List.getElem?_eq_getElem _, ?_⟩
  unfold lastI
  rw [List.getLast?_eq_getElem?, List.getElem?_eq_getElem (by omega)]
  rfl
section
variable {S : Nat → Prop} {s : Nat} {X : Sd} {L : List Fg}
set_option maxRecDepth 100000 in
set_option maxHeartbeats 400000 in
theorem sdlast_nil (w : World) : Calls Try.prog 31 #[.pointer none] w fun e w' => e = .returned (.int .u64 0) ∧ w = w' := by
  go_enter Try.func31, Try.ntmps31
  go_wp2
  go_ret
  exact ⟨rfl, rfl⟩
set_option maxRecDepth 100000 in
set_option maxHeartbeats 400000 in
theorem sdlast_any (w : World) (h : SdAt w S s X L) :
    Calls Try.prog 31 #[.pointer (some ⟨s, 0, none⟩)] w fun e w' => e = .returned (.int .u64 (lastI L)) ∧ Below w.heap.size w w' := by
  obtain ⟨v, h1, h2⟩ := h.row
  have hfw := h.few
  rcases Nat.eq_zero_or_pos L.length with h0 | h0
  · obtain ⟨A, c, rfl⟩ := h2.slice
    have c4 : w.cell? ⟨s, 4, none⟩ = some (.slice A 0 c) := by rw [← h0]; exact cell_of_row _ _ 4 _ _ _ h1
    obtain rfl : L = [] := List.eq_nil_of_length_eq_zero h0
    clear h h1 h2 hfw h0
    go_enter Try.func31, Try.ntmps31
    go_wp2
    go_ret
    exact ⟨rfl, Below.refl _ _⟩
  · obtain ⟨f, hf, hl⟩ := lastI_get h0
    obtain ⟨g, o, c, rfl, hS, hgs, hfz, hr⟩ := h2.at_ hf
    have c4 : w.cell? ⟨s, 4, none⟩ = some (.slice (some ⟨g, o, none⟩) L.length c) := cell_of_row _ _ 4 _ _ _ h1
    have cI : w.cell? ⟨g, o + (L.length - 1) * 6 + 1, none⟩ = some (.int .u64 f.i) := hr 1 _ rfl
    rw [hl]
    obtain ⟨n, hn⟩ : ∃ n, n = L.length := ⟨_, rfl⟩
    rw [← hn] at c4 hfw h0 cI
    have e1 : ((n : Int) - 1) = ((n - 1 : Nat) : Int) := by omega
    have hw : IntKind.i64.wrap ((n : Int) - 1) = ((n - 1 : Nat) : Int) := by rw [IntKind.wrap_i64]; omega
    have d1 : ((n : Int) == 0) = false := by rw [beq_eq_false_iff_ne]; omega
    have d2 : (n == 0) = false := by rw [beq_eq_false_iff_ne]; omega
    have d3 : decide (((n - 1 : Nat) : Int) < (n : Int)) = true := decide_eq_true (by omega)
    have d4 : decide (n - 1 < n) = true := decide_eq_true (by omega)
    obtain ⟨m, hm⟩ : ∃ m, m = n - 1 := ⟨_, rfl⟩
    rw [← hm] at cI hw d3 d4 e1
    have hmn : m < n := by omega
    have hn0 : ¬ n = 0 := by omega
    clear h h1 h2 hn hm hl hr hf hfz
    go_enter Try.func31, Try.ntmps31
    go_wp2
    go_quiet (fail)
    go_wp2
    go_ret
    exact ⟨rfl, cbelow_drewN (Below.refl _ _) _⟩
end
theorem sdR_own {w : World} {S : Nat → Prop} {s : Nat} {v : Value} {L : List Fg} (h : w.ownsRow 0 93 6 v L.length (cellsF L)) (hf : L.length ≤ 100000) (hS : ∀ k, v.ownBlock = some k → S k ∧ k ≠ s) : SdR w S s v L := by
  refine ⟨hf, ?_⟩
  rcases h.2 with ⟨e, h0⟩ | ⟨g, cap, cur, e, _, hcur, hn, hcm, hcs, hcl⟩
  · exact .inl ⟨e, List.eq_nil_of_length_eq_zero h0⟩
  · refine .inr ⟨g, 0, cap, cur, e, (hS g (by rw [e]; rfl)).1, (hS g (by rw [e]; rfl)).2, hcur, .inl h, fun j u hj => ?_⟩
    rw [← hcl, List.getElem?_take] at hj
    split at hj
    · rw [Nat.zero_add]
      rw [Array.getElem?_toList] at hj
      exact hj
    · cases hj
/-- a flight is appended, whether there is room or not -/
theorem SdR.app {w : World} {S : Nat → Prop} {s b c0 : Nat} {v : Value} {L : List Fg} (h : SdR w S s v L) (hl : ∀ k, S k → k < w.heap.size) (hs : s < w.heap.size) (f : Fg) (hf : L.length < 100000) (ty : TypeId) (hsrc : ∀ (j : Nat) u, (flC f)[j]? = some u → w.cell? ⟨b, j, none⟩ = some u) :
    ∃ A' c' w', (Builtin.append_ #[73, 73] ty #[v, .slice (some ⟨b, 0, none⟩) 1 c0]).run Try.prog w = .ok (.slice A' (L.length + 1) c') w' ∧ SdR w' (fun k => S k ∨ (Value.slice A' (L.length + 1) c').ownBlock = some k) s (.slice A' (L.length + 1) c') (L ++ [f]) ∧ Only (fun k => v.ownBlock = some k) w w' ∧ (∀ k, (Value.slice A' (L.length + 1) c').ownBlock = some k → (v.ownBlock = some k ∨ w.heap.size ≤ k) ∧ k < w'.heap.size) := by
  obtain ⟨i0, hi0, hz0, hz1, hz2⟩ := info_parts Try.infoFgZ
  have hnews : ∀ (j : Nat) u, (flC f)[j]? = some u → w.cell? ((⟨b, 0, none⟩ : Addr).add j) = some u := fun j u hj => by
    rw [Addr.add_lit, Nat.zero_add]
    exact hsrc j u hj
  have hc : cellsF L ++ flC f = cellsF (L ++ [f]) := by rw [cellsF_append, cellsF_cons, cellsF_nil, List.append_nil]
  have hlen : (L ++ [f]).length = L.length + 1 := by simp
  have hvS : ∀ k, v.ownBlock = some k → S k ∧ k ≠ s := fun k hk => by
    rcases h.row with ⟨rfl, _⟩ | ⟨g, o, c, cur, rfl, k2, k3, _⟩
    · cases hk
    · have hk : some g = some k := hk
      injection hk with hk
      rw [← hk]; exact ⟨k2, k3⟩
  have own : w.ownsRow 0 93 6 v L.length (cellsF L) → ∃ A' c' w', (Builtin.append_ #[73, 73] ty #[v, .slice (some ⟨b, 0, none⟩) 1 c0]).run Try.prog w = .ok (.slice A' (L.length + 1) c') w' ∧ SdR w' (fun k => S k ∨ (Value.slice A' (L.length + 1) c').ownBlock = some k) s (.slice A' (L.length + 1) c') (L ++ [f]) ∧ Only (fun k => v.ownBlock = some k) w w' ∧ (∀ k, (Value.slice A' (L.length + 1) c').ownBlock = some k → (v.ownBlock = some k ∨ w.heap.size ≤ k) ∧ k < w'.heap.size) := by
    intro ho
    obtain ⟨v', w', h1, h2, h3, h4⟩ := run_append_src (P := Try.prog) (w := w) (ty := ty) (t := 73) (e := 93) (base := 0) (m := 1) (c := c0) (A := some ⟨b, 0, none⟩) (news := flC f) Try.underlying73 hi0 hz0 hz1 hz2 rfl (by decide) ho ⟨rfl, fun _ => ⟨_, rfl, hnews⟩⟩ (fun u hu => cellsF_one [f] u (by rw [cellsF_cons, cellsF_nil, List.append_nil]; exact hu)) (by unfold maxLen; omega) (by omega) (Nat.zero_le _)
    obtain ⟨A', c', rfl⟩ := ownB_slice h2
    rw [hc] at h2
    have hon : Only (fun k => v.ownBlock = some k) w w' := Only.of_grown h3 (fun k hk => hk)
    have hb : ∀ k, (Value.slice A' (L.length + 1) c').ownBlock = some k → (v.ownBlock = some k ∨ w.heap.size ≤ k) ∧ k < w'.heap.size := fun k hk => ⟨by
      rcases h4 with h4 | h4
      · rw [h4] at hk; exact .inl hk
      · rw [h4] at hk; injection hk with hk; exact .inr (by omega), (h2.lt k hk).2⟩
    refine ⟨A', c', w', h1, sdR_own (by rw [hlen]; exact h2) (by rw [hlen]; omega) (fun k hk => ⟨.inr hk, ?_⟩), hon, hb⟩
    rcases (hb k hk).1 with h5 | h5
    · exact (hvS k h5).2
    · omega
  rcases h.row with ⟨rfl, rfl⟩ | ⟨g, o, c, cur, rfl, k2, k3, k4, k5, k6⟩
  · exact own (World.ownsRow_nil _ _ _ _)
  · rcases k5 with k5 | k5
    · exact own k5
    · subst k5
      obtain ⟨v', w', h1, h2, h3⟩ := run_append_arg_grows (P := Try.prog) (w := w) 73 ty 93 i0 _ 6 _ Try.underlying73 hi0 hz0 hz1 hz2 rfl (by decide) ⟨g, o, none⟩ L.length L.length (cellsF L) (cellsF_length L) (fun j u hj => by
        rw [Addr.add_lit, cell_of_row _ _ _ _ _ _ k4]
        exact k6 j u hj) ⟨b, 0, none⟩ 1 c0 (flC f) rfl hnews (by omega) (by unfold maxLen; omega) (by omega)
      obtain ⟨A', c', rfl⟩ := ownB_slice h2
      rw [hc] at h2
      have hon : Only (fun k => (Value.slice (some ⟨g, o, none⟩) L.length L.length).ownBlock = some k) w w' := Only.of_grown h3 (fun k hk => by cases hk)
      have hb : ∀ k, (Value.slice A' (L.length + 1) c').ownBlock = some k → ((Value.slice (some ⟨g, o, none⟩) L.length L.length).ownBlock = some k ∨ w.heap.size ≤ k) ∧ k < w'.heap.size := fun k hk => ⟨.inr (h2.lt k hk).1, (h2.lt k hk).2⟩
      exact ⟨A', c', w', h1, sdR_own (by rw [hlen]; exact ownB_mono h2 (Nat.zero_le _)) (by rw [hlen]; omega) (fun k hk => ⟨.inr hk, by have := (h2.lt k hk).1; omega⟩), hon, hb⟩
end Go.Proofs.Ytocdhnlffemnhaa
/- Layer 12: NewOut, Changed. -/
namespace Go.Proofs.Ytocdhnlffemnhaa
open Go.RowKit
def timV (z : Int) (f m : Nat) : Value := .agg #[.int .i64 z, .int .u64 f, .int .u64 m]
theorem Try.infoTim : (Try.prog.info? 40).map (·.size) = some 3 := by kernel_rfl
set_option maxRecDepth 100000 in
set_option maxHeartbeats 1000000 in
/-- ends that can't be -/
theorem newOut_ends (a b l f m : Nat) (z n : Int) (w : World) (hn : n ≠ 0)
    (HE : ∀ W, Calls Try.prog 22 #[.int .u8 a, .int .u8 b, .int .u64 l] W fun e w' => e = .returned (.tuple #[.agg #[.int .u8 0, .int .u8 0, .int .u64 0], .int .i64 n]) ∧ Below W.heap.size W w') :
    Calls Try.prog 6 #[.int .u8 a, .int .u8 b, .int .u64 l, timV z f m] w fun e w' => e = .returned (.tuple #[.pointer none, .int .i64 n]) ∧ Below w.heap.size w w' := by
  have HEE := Lib.hid HE
  have d1 : (n == 0) = false := by rw [beq_eq_false_iff_ne]; exact hn
  have d2 : (n != 0) = true := by rw [bne, d1]; rfl
  obtain ⟨V, hV⟩ : ∃ V, V = w.alloc (.cells #[.int .i64 z, .int .u64 f, .int .u64 m] 40) := ⟨_, rfl⟩
  have HB : Hid (Below w.heap.size w V) := by rw [hV]; exact (Below.refl _ _).alloc (Nat.le_refl _) _
  clear HE hn
  unfold timV
  go_enter Try.func6, Try.ntmps6
  go_upto_region 1 with fail
  rw [← hV]
  clear hV
  go_wp2_with fail
  refine (HEE.out _).mono ?_
  rintro _ w1 ⟨rfl, hb1⟩
  have HB1 := Lib.hid (HB.out.trans (hb1.mono HB.out.size))
  have HX := Lib.hid (heap_alloc_new w1 (.cells #[.int .u8 0, .int .u8 0, .int .u64 0] 66))
  clear hb1
  go_upto_region 2 with (first | (refine wpList_store_row rfl _ _ _ rfl w1.heap.size _ rfl rfl _ _ HX.out Try.infoEnds rfl (by simp [Value.oneCell']) ?_) | fail)
  have hb2 := HB1.out.trans ((below_row (w := w1) (cs := #[.int .u8 0, .int .u8 0, .int .u64 0]) (cs' := #[.int .u8 0, .int .u8 0, .int .u64 0]) (t := 66)).mono HB1.out.size)
  have HB2 := Lib.hid hb2
  clear hb2
  go_wp2
  go_ret2
  exact ⟨rfl, HB2.out⟩
/-- behind ends that can be: the block of the end, still without a sender -/
def outZ (a b l : Nat) (z : Int) (f m : Nat) : Array Value := #[.int .u8 a, .int .u8 b, .int .u64 l, .int .i64 z, .int .u64 f, .int .u64 m, .int .u64 0, .pointer none, .int .u64 0]
set_option maxRecDepth 100000 in
set_option maxHeartbeats 1000000 in
/-- the rest of NewOut: what Restart answers -/
theorem newOut_of (a b l f m : Nat) (z n : Int) (Q : World → World → Nat → Prop) (w : World) (ha : a ≤ 31) (hb : b ≤ 31) (hab : a ≠ b) (hl : 1 ≤ l) (hl2 : l ≤ 1048575)
    (HR : ∀ W o, W.heap[o]? = some (.cells (outZ a b l z f m) 70 (0, 0)) → Calls Try.prog 15 #[.pointer (some ⟨o, 0, none⟩)] W fun e w' => e = .returned (.int .i64 n) ∧ Q W w' o) :
    Calls Try.prog 6 #[.int .u8 a, .int .u8 b, .int .u64 l, timV z f m] w fun e w' => ∃ W o, Below w.heap.size w W ∧ w.heap.size ≤ o ∧ o < W.heap.size ∧ Q W w' o ∧ e = .returned (.tuple #[.pointer (if n = 0 then some ⟨o, 0, none⟩ else none), .int .i64 n]) := by
  have HEE := Lib.hid (fun W => newEnds_any a b l ha hb hab hl hl2 W)
  have HRR := Lib.hid HR
  obtain ⟨V, hV⟩ : ∃ V, V = w.alloc (.cells #[.int .i64 z, .int .u64 f, .int .u64 m] 40) := ⟨_, rfl⟩
  have HB : Hid (Below w.heap.size w V ∧ V.heap[w.heap.size]? = some (.cells #[.int .i64 z, .int .u64 f, .int .u64 m] 40 (0, 0))) := by
    rw [hV]; exact ⟨(Below.refl _ _).alloc (Nat.le_refl _) _, heap_alloc_new _ _⟩
  clear HR ha hb hab hl hl2
  unfold timV
  go_enter Try.func6, Try.ntmps6
  go_upto_region 1 with fail
  rw [← hV]
  clear hV
  go_wp2_with fail
  refine (HEE.out _).mono ?_
  rintro _ w1 ⟨rfl, hb1⟩
  have hlV := (Array.getElem?_eq_some_iff.1 HB.out.2).1
  have HB1 := Lib.hid (HB.out.1.trans (hb1.mono HB.out.1.size))
  have HT1 := Lib.hid ((hb1.block _ hlV).trans HB.out.2)
  have HX := Lib.hid (heap_alloc_new w1 (.cells #[.int .u8 0, .int .u8 0, .int .u64 0] 66))
  clear hb1 hlV HEE
  go_upto_region 2 with (first | (refine wpList_store_row rfl _ _ _ rfl w1.heap.size _ rfl rfl _ _ HX.out Try.infoEnds rfl (by simp [Value.oneCell']) ?_) | fail)
  obtain ⟨U, hU⟩ : ∃ U, U = (w1.alloc (.cells #[.int .u8 0, .int .u8 0, .int .u64 0] 66)).setRow w1.heap.size #[.int .u8 a, .int .u8 b, .int .u64 l] := ⟨_, rfl⟩
  rw [← hU]
  have hbU : Below w1.heap.size w1 U := by rw [hU]; exact below_row
  have hxU : U.heap[w1.heap.size]? = some (.cells #[.int .u8 a, .int .u8 b, .int .u64 l] 66 (0, 0)) := by rw [hU]; exact setRow_heap _ _ _ _ _ _ HX.out
  have HTU := Lib.hid ((hbU.block _ (Array.getElem?_eq_some_iff.1 HT1.out).1).trans HT1.out)
  have HXU := Lib.hid hxU
  have HBU := Lib.hid (HB1.out.trans (hbU.mono HB1.out.size))
  clear hU hbU hxU HX HT1
  go_upto_region 5 with (first
    | (refine wpList_load_row rfl _ _ rfl w1.heap.size rfl _ _ _ _ HXU.out Try.underlying66 rfl Try.infoEnds ?_)
    | (refine wpList_load_row rfl _ _ rfl w.heap.size rfl _ _ _ _ HTU.out Try.underlying40 rfl Try.infoTim ?_)
    | fail)
  have HNB := Lib.hid (heap_alloc_new U (.cells (outZ a b l z f m) 70))
  obtain ⟨Y, hY⟩ : ∃ Y, Y = U.alloc (.cells (outZ a b l z f m) 70) := ⟨_, rfl⟩
  have HY := Lib.hid hY
  rw [← hY] at HNB
  have hY2 := hY
  unfold outZ at hY2
  rw [← hY2]
  have HBY : Hid (Below w.heap.size w Y ∧ w.heap.size ≤ U.heap.size ∧ U.heap.size < Y.heap.size) := by
    have h1 := HBU.out.size
    rw [hY]
    exact ⟨HBU.out.alloc h1 _, h1, by simp⟩
  have HRY := Lib.hid (HRR.out Y _ HNB.out)
  clear hY hY2
  go_wp2_with fail
  refine HRY.out.mono ?_
  rintro _ w2 ⟨rfl, hq⟩
  have HQ := Lib.hid hq
  clear hq HRY HRR
  by_cases hn : n = 0
  · have d1 : (n == 0) = true := by rw [beq_iff_eq]; exact hn
    have d2 : (n != 0) = false := by rw [bne, d1]; rfl
    go_wp2
    go_ret2
    refine ⟨Y, HBY.out.1, U.heap.size, HBY.out.2.1, HBY.out.2.2, HQ.out, ?_⟩
    first | rfl | (rw [hn]; rfl) | (rw [if_pos hn, hn]; rfl)
  · have d1 : (n == 0) = false := by rw [beq_eq_false_iff_ne]; exact hn
    have d2 : (n != 0) = true := by rw [bne, d1]; rfl
    have hn' := hn
    go_wp2
    go_ret2
    refine ⟨Y, HBY.out.1, U.heap.size, HBY.out.2.1, HBY.out.2.2, HQ.out, ?_⟩
    first | rfl | (rw [if_neg hn]; rfl)
/-- a sender that can't be -/
theorem newOut_bad (a b l f m : Nat) (z n : Int) (w : World) (ha : a ≤ 31) (hb : b ≤ 31) (hab : a ≠ b) (hl : 1 ≤ l) (hl2 : l ≤ 1048575) (hn : n ≠ 0)
    (HN : ∀ W, Calls Try.prog 9 #[.int .i64 z, .int .u64 f, .int .u64 m] W fun e w' => e = .returned (.tuple #[.pointer none, .int .i64 n]) ∧ W = w') :
    Calls Try.prog 6 #[.int .u8 a, .int .u8 b, .int .u64 l, timV z f m] w fun e w' => e = .returned (.tuple #[.pointer none, .int .i64 n]) ∧ Below w.heap.size w w' := by
  refine (newOut_of a b l f m z n (fun W w' _ => Below W.heap.size W w') w ha hb hab hl hl2 fun W o hW => ?_).mono ?_
  · exact restart_bad W ⟨cell_of_row _ _ 3 _ _ _ hW, cell_of_row _ _ 4 _ _ _ hW, cell_of_row _ _ 5 _ _ _ hW, cell_of_row _ _ 6 _ _ _ hW, (Array.getElem?_eq_some_iff.1 hW).1⟩ (by decide : 0 < 1048575) hn fun W _ => HN W
  · rintro e w' ⟨W, o, h1, h2, h3, h4, h5⟩
    rw [if_neg hn] at h5
    exact ⟨h5, h1.trans (h4.mono h1.size)⟩
/-- a sending end in its first session -/
theorem newOut_any (a b l z f m : Nat) (w : World) (ha : a ≤ 31) (hb : b ≤ 31) (hab : a ≠ b) (hl : 1 ≤ l) (hl2 : l ≤ 1048575) (h1 : 1 ≤ z) (h2 : z ≤ 64) (h3 : 0 < f) (h4 : f ≤ m) (h5 : m ≤ 1048576) :
    Calls Try.prog 6 #[.int .u8 a, .int .u8 b, .int .u64 l, timV z f m] w fun e w' => ∃ S o, e = .returned (.tuple #[.pointer (some ⟨o, 0, none⟩), .int .i64 0]) ∧ OutAt w' S o ⟨a, b, l, z, f, m, 1, 0⟩ ⟨z, f, m, 0, 0, 0⟩ [] ∧ (∀ k, S k → w.heap.size ≤ k) ∧ Below w.heap.size w w' := by
  refine (newOut_of a b l f m z 0 (fun W w' o => ∃ S', OutAt w' S' o ⟨a, b, l, z, f, m, 1, 0⟩ ⟨z, f, m, 0, 0, 0⟩ [] ∧ Only (fun k => k = o) W w' ∧ ∀ k, S' k → k = o ∨ W.heap.size ≤ k) w ha hb hab hl hl2 fun W o hW => ?_).mono ?_
  · have hol := (Array.getElem?_eq_some_iff.1 hW).1
    refine (restart_gen (S := fun k => k = o) (O := ⟨a, b, l, z, f, m, 0, 0⟩) (v := .pointer none) W hW rfl (fun k hk => by rw [hk]; exact hol) (by decide : 0 < 1048575) h1 h2 h3 h4 h5).mono ?_
    rintro e w' ⟨k1, S', k2, k3, k4⟩
    exact ⟨k1, S', k2, k3.only, k4⟩
  · rintro e w' ⟨W, o, g1, g2, g3, ⟨S', g4, g5, g6⟩, g7⟩
    refine ⟨S', o, by rw [if_pos rfl] at g7; exact g7, g4, fun k hk => ?_, g1.trans (g5.below g1.size (fun k hk => by rw [hk]; exact g2))⟩
    have := g1.size
    rcases g6 k hk with h | h
    · rw [h]; exact g2
    · omega
section
variable {S : Nat → Prop} {o : Nat} {O : Ou} {X : Sd} {L : List Fg}
set_option maxRecDepth 100000 in
set_option maxHeartbeats 400000 in
theorem ochanged_nil (n : Nat) (w : World) : Calls Try.prog 19 #[.pointer none, .int .u64 n] w fun e w' => e = .returned (.bool false) ∧ w = w' := by
  go_enter Try.func19, Try.ntmps19
  go_wp2
  go_ret
  exact ⟨rfl, rfl⟩
set_option maxRecDepth 100000 in
set_option maxHeartbeats 400000 in
theorem ochanged_no {n : Nat} (w : World) (h : OutAt w S o O X L) (hn : n = 0 ∨ lastI L < n) : Calls Try.prog 19 #[.pointer (some ⟨o, 0, none⟩), .int .u64 n] w fun e w' => e = .returned (.bool false) ∧ Below w.heap.size w w' := by
  obtain ⟨s, T, c0, c1, c2, c3, c4, c5, c6, c7, c8, hf, q1, q2⟩ := h.cells
  have HL := Lib.hid (sdlast_any w q1)
  obtain ⟨la, hla⟩ : ∃ la, la = lastI L := ⟨_, rfl⟩
  rw [← hla] at HL hn
  clear h hf c0 c1 c2 c3 c4 c5 c6 c8 q1 q2 hla
  go_enter Try.func19, Try.ntmps19
  by_cases h0 : n = 0
  · subst h0
    go_wp2
    go_ret
    exact ⟨rfl, Below.refl _ _⟩
  · have d1 : ((n : Int) == 0) = false := by rw [beq_eq_false_iff_ne]; omega
    have d2 : decide (la < n) = true := decide_eq_true (by omega)
    clear hn
    go_wp2_with fail
    refine HL.out.mono ?_
    rintro _ w1 ⟨rfl, hb1⟩
    have HB := Lib.hid hb1
    clear hb1
    go_wp2
    go_ret
    exact ⟨rfl, HB.out⟩
set_option maxRecDepth 100000 in
set_option maxHeartbeats 400000 in
theorem ochanged_yes {n : Nat} (w : World) (h : OutAt w S o O X L) (hn : n ≠ 0) (hn2 : n ≤ lastI L) (hs : O.ss < 1048575) (h1 : 1 ≤ O.W) (h2 : O.W ≤ 64) (h3 : 0 < O.f) (h4 : O.f ≤ O.m) (h5 : O.m ≤ 1048576) :
    Calls Try.prog 19 #[.pointer (some ⟨o, 0, none⟩), .int .u64 n] w fun e w' => e = .returned (.bool true) ∧ ∃ S', OutAt w' S' o { O with ss := O.ss + 1 } ⟨O.W, O.f, O.m, 0, 0, 0⟩ [] ∧ Step w S w' S' := by
  obtain ⟨s, T, c0, c1, c2, c3, c4, c5, c6, c7, c8, hf, q1, q2⟩ := h.cells
  have HL := Lib.hid (sdlast_any w q1)
  have HR := Lib.hid (fun W (hW : Below w.heap.size w W) => restart_any W (h.below hW) hs h1 h2 h3 h4 h5)
  obtain ⟨la, hla⟩ : ∃ la, la = lastI L := ⟨_, rfl⟩
  rw [← hla] at HL hn2
  have d1 : ((n : Int) == 0) = false := by rw [beq_eq_false_iff_ne]; omega
  have d2 : decide (la < n) = false := decide_eq_false (by omega)
  clear h hf c0 c1 c2 c3 c4 c5 c6 c8 q1 q2 hla hs h1 h2 h3 h4 h5 hn
  go_enter Try.func19, Try.ntmps19
  go_wp2_with fail
  refine HL.out.mono ?_
  rintro _ w1 ⟨rfl, hb1⟩
  have HB := Lib.hid hb1
  have HR1 := Lib.hid (HR.out w1 hb1)
  clear hb1 HR
  go_wp2_with fail
  refine HR1.out.mono ?_
  rintro _ w2 ⟨rfl, S2, hs2, ht2⟩
  have HF := Lib.hid (⟨hs2, (Step.of_below S HB.out).trans ht2⟩ : _ ∧ _)
  clear hs2 ht2
  go_wp2
  go_ret
  exact ⟨rfl, S2, HF.out⟩
end
end Go.Proofs.Ytocdhnlffemnhaa
