/- Several texts in one: SdLand. -/
import Derived.WalkLawsBesides
import Derived.Test.YtocdhnlffemnhaaQa25
/- Layer 10: cut and land. -/
namespace Go.Proofs.Ytocdhnlffemnhaa
open Go.RowKit

theorem sizeOfF (w : World) : (sizeOf (Try.prog.elem 73)).run Try.prog w = .ok 6 w := by kernel_rfl
theorem huF : Try.prog.underlying 73 = some (.slice (Try.prog.elem 73)) := by kernel_rfl
def subF (A : Option Addr) (n m : Nat) : Option Addr := if n = m then A else A.map (·.add (m * 6))
theorem slF_hm (A : Option Addr) (n c k : Nat) (h : k ≤ c) (w : World) :
    (Instr.sliceAt 73 (.slice A n c) none (some (.int .i64 k)) (some (.int .i64 k))).run Try.prog w = .ok (.slice A k k) w := by
  rw [run_sliceAt_slice _ _ _ _ _ _ huF]
  have h0 : (0 : Int) ≤ (k : Int) := by omega
  have h1 : (k : Int) ≤ (c : Int) := by omega
  simp [Instr.slice, run_underlying huF, Instr.sliceBounds, run_sliceBound, h0, h1, h]
  rw [sizeOfF]
  cases A <;> simp [Result.andThen, Addr.add]
theorem slF_lhm (A : Option Addr) (n c m : Nat) (h1 : m ≤ n) (h2 : n ≤ c) (w : World) :
    (Instr.sliceAt 73 (.slice A n c) (some (.int .i64 m)) (some (.int .i64 n)) (some (.int .i64 n))).run Try.prog w = .ok (.slice (subF A n m) (n - m) (n - m)) w := by
  rw [run_sliceAt_slice _ _ _ _ _ _ huF, run_slice_lhm _ _ _ _ _ huF .i64 .i64 .i64 (m : Int) (n : Int) (n : Int) (by omega) (by omega) (by omega) (by omega), sizeOfF]
  simp [Result.andThen, sliced, subF]
  try (split <;> rfl)
section
variable {S : Nat → Prop} {s : Nat} {X : Sd} {L : List Fg}
set_option maxRecDepth 100000 in
set_option maxHeartbeats 400000 in
theorem sdcut_any (A : Option Addr) (n c m : Nat) (w : World) (h1 : m ≤ n) (h2 : n ≤ c) :
    Calls Try.prog 46 #[.slice A n c, .int .i64 m] w fun e w' => e = .returned (.tuple #[.slice A m m, .slice (subF A n m) (n - m) (n - m)]) ∧ Below w.heap.size w w' := by
  have e1 := slF_hm A n c m (Nat.le_trans h1 h2)
  have e2 := slF_lhm A n c m h1 h2
  clear h1 h2
  go_enter Try.func46, Try.ntmps46
  go_wp2
  go_quiet (fail)
  go_wp2
  go_ret2
  exact ⟨rfl, cbelow_drewN (Below.refl _ _) _⟩
theorem cellsF_drop (L : List Fg) (m : Nat) (h : m ≤ L.length) : cellsF (L.drop m) = (cellsF L).drop (m * 6) := by
  have e : cellsF L = cellsF (L.take m) ++ cellsF (L.drop m) := by rw [← cellsF_append, List.take_append_drop]
  rw [e, List.drop_left' (by rw [cellsF_length, List.length_take]; omega)]
theorem SdR.drop {w : World} {S : Nat → Prop} {s c m : Nat} {A : Option Addr} {L : List Fg} (h : SdR w S s (.slice A L.length c) L) (hm : m ≤ L.length) (h0 : 0 < L.length) : SdR w S s (.slice (subF A L.length m) (L.length - m) (L.length - m)) (L.drop m) := by
  have hfw := h.few
  refine ⟨by rw [List.length_drop]; omega, ?_⟩
  rcases h.row with ⟨_, rfl⟩ | ⟨g, o, c', cur, e, k2, k3, k4, k5, k6⟩
  · simp at h0
  · injection e with e1 e2 e3
    subst e1
    refine .inr ⟨g, if L.length = m then o else o + m * 6, L.length - m, cur, ?_, k2, k3, k4, .inr (by rw [List.length_drop]), fun j u hj => ?_⟩
    · rw [List.length_drop]
      unfold subF
      split
      · rfl
      · simp [Addr.add]
    · rw [cellsF_drop L m hm, List.getElem?_drop] at hj
      have h7 := k6 _ _ hj
      by_cases hlm : L.length = m
      · have h8 := (List.getElem?_eq_some_iff.1 hj).1
        rw [cellsF_length] at h8
        omega
      · rw [if_neg hlm, show o + m * 6 + j = o + (m * 6 + j) by omega]
        exact h7
set_option maxRecDepth 100000 in
set_option maxHeartbeats 400000 in
theorem sdland_old {cum : Nat} (w : World) (h : SdAt w S s X L) (hc : cum ≤ X.b) :
    Calls Try.prog 37 #[.pointer (some ⟨s, 0, none⟩), .int .u64 cum] w fun e w' => e = .returned (.int .u64 0) ∧ w = w' := by
  obtain ⟨v, h1, h2⟩ := h.row
  have c3 : w.cell? ⟨s, 3, none⟩ = some (.int .u64 X.b) := cell_of_row _ _ 3 _ _ _ h1
  have d1 : decide (cum ≤ X.b) = true := decide_eq_true hc
  clear h h1 h2
  go_enter Try.func37, Try.ntmps37
  go_wp2
  go_ret
  exact ⟨rfl, rfl⟩
set_option maxRecDepth 100000 in
set_option maxHeartbeats 1000000 in
theorem sdland_any {cum m : Nat} {f : Fg} (w : World) (h : SdAt w S s X L) (hc : cum = X.b + (m + 1)) (hm : m + 1 ≤ L.length) (hf : L[m]? = some f) (hb : cum ≤ 1099511627776000) :
    Calls Try.prog 37 #[.pointer (some ⟨s, 0, none⟩), .int .u64 cum] w fun e w' => e = .returned (.int .u64 f.i) ∧ SdAt w' S s { X with b := cum } (L.drop (m + 1)) ∧ Step w S w' S := by
  obtain ⟨v, h1, h2⟩ := h.row
  have hfw := h.few
  obtain ⟨g, o, c, rfl, hS, hgs, hfz, hr⟩ := h2.at_ hf
  have hdr := h2.drop hm (by omega)
  have hnc : L.length ≤ c := by
    rcases h2.row with ⟨e, _⟩ | ⟨g', o', c', cur, e, k2, k3, k4, k5, k6⟩
    · injection e with e; cases e
    · injection e with e1 e2 e3
      subst e3
      rcases k5 with k5 | k5
      · rcases k5.2 with ⟨e, _⟩ | ⟨_, cap, _, e, _, _, hn, _⟩
        · injection e with e; cases e
        · injection e with _ _ e3
          omega
      · omega
  obtain ⟨n, hn⟩ : ∃ n, n = L.length := ⟨_, rfl⟩
  rw [← hn] at hfw hm hdr hnc
  have HC : Hid (∀ W, Below w.heap.size w W → W.cell? ⟨s, 3, none⟩ = some (.int .u64 X.b) ∧ W.cell? ⟨s, 4, none⟩ = some (.slice (some ⟨g, o, none⟩) n c) ∧ (∀ j, W.frozen? ⟨s, j, none⟩ = false) ∧ W.cell? ⟨g, o + m * 6 + 1, none⟩ = some (.int .u64 f.i)) := fun W hW => by
    have hb : W.heap[s]? = _ := (hW.block s (h.lt s h.sS)).trans h1
    rw [← hn] at hb
    exact ⟨cell_of_row _ _ 3 _ _ _ hb, cell_of_row _ _ 4 _ _ _ hb, fun j => frozen_of_row _ _ j _ _ hb, (hW.cell (p := ⟨g, o + m * 6 + 1, none⟩) (h.lt g hS)).trans (hr 1 _ rfl)⟩
  have HH := Lib.hid h
  have H1 := Lib.hid h1
  have HCU := Lib.hid hc
  obtain ⟨M, hM⟩ : ∃ M, M = m + 1 := ⟨_, rfl⟩
  rw [← hM] at hc hm hdr
  have hk := fun W => sdcut_any (some ⟨g, o, none⟩) n c M W hm hnc
  have hgs' := hgs
  have d1 : decide (cum ≤ X.b) = false := decide_eq_false (by omega)
  have e1 : IntKind.u64.wrap ((cum : Int) - X.b) = (M : Int) := by rw [IntKind.wrap_u64]; omega
  have e2 : IntKind.i64.wrap (M : Int) = (M : Int) := by rw [IntKind.wrap_i64]; omega
  have e3 : IntKind.i64.wrap ((M : Int) - 1) = (m : Int) := by rw [IntKind.wrap_i64]; omega
  have e4 : (M : Int) - 1 = (m : Int) := by omega
  have hmM : m < M := by omega
  have hm9 : m ≤ 100000 := by omega
  obtain ⟨B, hB⟩ : ∃ B, B = subF (some ⟨g, o, none⟩) n M := ⟨_, rfl⟩
  obtain ⟨r, hr'⟩ : ∃ r, r = n - M := ⟨_, rfl⟩
  rw [← hB, ← hr'] at hdr
  have hk : ∀ W, Calls Try.prog 46 #[.slice (some ⟨g, o, none⟩) n c, .int .i64 M] W fun e w' => e = .returned (.tuple #[.slice (some ⟨g, o, none⟩) M M, .slice B r r]) ∧ Below W.heap.size W w' := fun W => by rw [hB, hr']; exact hk W
  have HD := Lib.hid hdr
  have HK := Lib.hid hk
  have c3 := (HC.out w (Below.refl _ _)).1
  have HN := Lib.hid (⟨hn, hM⟩ : _ ∧ _)
  clear h h1 h2 hdr hr hc hfz hk hB hr' hn hM hm
  go_enter Try.func37, Try.ntmps37
  go_upto_region 3 with fail
  clear c3
  refine wp_region_noPanic ?_
  refine wp_region_held_drew (S := fun W => W.cell? ⟨s, 3, none⟩ = some (.int .u64 X.b) ∧ W.cell? ⟨s, 4, none⟩ = some (.slice (some ⟨g, o, none⟩) n c)) (by kernel_rfl) ?_ (fun hHeld => ?_)
  · exact ⟨(HC.out _ ((Below.refl _ _).drew)).1, (HC.out _ ((Below.refl _ _).drew)).2.1⟩
  try simp only [heldPut, List.set]
  refine heldTake (i := 0) (v := ?_) rfl (by kernel_rfl) (by kernel_rfl) (by kernel_rfl) (fun _ _ _ h => h) (Or.inl ⟨by rfl, ?_⟩) (by assumption) ?_
  rotate_left
  · (intro W hSw; (try dsimp only at hSw); obtain ⟨f1, f2⟩ := hSw; go_simp; try with_reducible rfl)
  try simp only [heldPut, List.set]
  refine heldTake (i := 1) (v := ?_) rfl (by kernel_rfl) (by kernel_rfl) (by kernel_rfl) (fun _ _ _ h => h) (Or.inl ⟨by rfl, ?_⟩) (by assumption) ?_
  rotate_left
  · (intro W hSw; (try dsimp only at hSw); obtain ⟨f1, f2⟩ := hSw; go_simp; try with_reducible rfl)
  try simp only [heldPut, List.set]
  refine heldTake (i := 2) (v := ?_) rfl (by kernel_rfl) (by kernel_rfl) (by kernel_rfl) (fun _ _ _ h => h) (Or.inl ⟨by rfl, ?_⟩) (by assumption) ?_
  rotate_left
  · (intro W hSw; (try dsimp only at hSw); obtain ⟨f1, f2⟩ := hSw; go_simp; try with_reducible rfl)
  try simp only [heldPut, List.set]
  refine heldTake (i := 3) (v := ?_) rfl (by kernel_rfl) (by kernel_rfl) (by kernel_rfl) (fun _ _ _ h => h) (Or.inl ⟨by rfl, ?_⟩) (by assumption) ?_
  rotate_left
  · (intro W hSw; (try dsimp only at hSw); obtain ⟨f1, f2⟩ := hSw; go_simp; try with_reducible rfl)
  try simp only [heldPut, List.set]
  refine heldTake (i := 4) (v := ?_) rfl (by kernel_rfl) (by kernel_rfl) (by kernel_rfl) (fun _ _ _ h => h) (Or.inl ⟨by rfl, ?_⟩) (by assumption) ?_
  rotate_left
  · (intro W hSw; (try dsimp only at hSw); obtain ⟨f1, f2⟩ := hSw; go_simp; try with_reducible rfl)
  try simp only [heldPut, List.set]
  refine heldTake (i := 5) (v := ?_) rfl (by kernel_rfl) (by kernel_rfl) (by kernel_rfl) (fun _ _ _ h => h) (Or.inl ⟨by rfl, ?_⟩) (by assumption) ?_
  rotate_left
  · (intro W hSw; (try dsimp only at hSw); obtain ⟨f1, f2⟩ := hSw; go_simp; try with_reducible rfl)
  try simp only [heldPut, List.set]
  refine heldTake (i := 6) (v := ?_) rfl (by kernel_rfl) (by kernel_rfl) (by kernel_rfl) (fun _ _ _ h => h) (Or.inl ⟨by rfl, ?_⟩) (by assumption) ?_
  rotate_left
  · (intro W hSw; (try dsimp only at hSw); obtain ⟨f1, f2⟩ := hSw; go_simp; try with_reducible rfl)
  try simp only [heldPut, List.set]
  refine heldTake (i := 7) (v := ?_) rfl (by kernel_rfl) (by kernel_rfl) (by kernel_rfl) (fun _ _ _ h => h) (Or.inl ⟨by rfl, ?_⟩) (by assumption) ?_
  rotate_left
  · (intro W hSw; (try dsimp only at hSw); obtain ⟨f1, f2⟩ := hSw; go_simp; try with_reducible rfl)
  try simp only [heldPut, List.set]
  refine heldTake (i := 8) (v := ?_) rfl (by kernel_rfl) (by kernel_rfl) (by kernel_rfl) (fun _ _ _ h => h) (Or.inl ⟨by rfl, ?_⟩) (by assumption) ?_
  rotate_left
  · (intro W hSw; (try dsimp only at hSw); obtain ⟨f1, f2⟩ := hSw; go_simp; try with_reducible rfl)
  try simp only [heldPut, List.set]
  refine heldTake (i := 9) (v := ?_) rfl (by kernel_rfl) (by kernel_rfl) (by kernel_rfl) (fun _ _ _ h => h) (Or.inl ⟨by rfl, ?_⟩) (by assumption) ?_
  rotate_left
  · (intro W hSw; (try dsimp only at hSw); obtain ⟨f1, f2⟩ := hSw; go_simp; try with_reducible rfl)
  try simp only [heldPut, List.set]
  refine heldTake (i := 10) (v := ?_) rfl (by kernel_rfl) (by kernel_rfl) (by kernel_rfl) (fun _ _ _ h => h) (Or.inl ⟨by rfl, ?_⟩) (by assumption) ?_
  rotate_left
  · (intro W hSw; (try dsimp only at hSw); obtain ⟨f1, f2⟩ := hSw; go_simp; try with_reducible rfl)
  try simp only [heldPut, List.set]
  refine heldOne (i := 11) rfl (by kernel_rfl) (fun K hK => ?_)
  go_simp
  refine (HK.out _).mono ?_
  rintro _ w1 ⟨rfl, hb1⟩
  have HB1 : Hid (Below w.heap.size w w1) := ((Below.refl _ _).drew : Below w.heap.size w w.drew).trans hb1
  clear hb1
  go_wp2_with fail
  refine hK.out _ _ ?_ (fun hHeld => ?_)
  · exact ⟨(HC.out _ HB1.out).1, (HC.out _ HB1.out).2.1⟩
  clear hK K
  try simp only [heldPut, List.set]
  refine heldTake (i := 12) (v := ?_) rfl (by kernel_rfl) (by kernel_rfl) (by kernel_rfl) (fun _ _ _ h => h) (Or.inl ⟨by rfl, ?_⟩) (by assumption) ?_
  rotate_left
  · (intro W hSw; (try dsimp only at hSw); go_simp; try with_reducible rfl)
  try simp only [heldPut, List.set]
  refine heldTake (i := 13) (v := ?_) rfl (by kernel_rfl) (by kernel_rfl) (by kernel_rfl) (fun _ _ _ h => h) (Or.inl ⟨by rfl, ?_⟩) (by assumption) ?_
  rotate_left
  · (intro W hSw; (try dsimp only at hSw); go_simp; try with_reducible rfl)
  try simp only [heldPut, List.set]
  refine heldTake (i := 14) (v := ?_) rfl (by kernel_rfl) (by kernel_rfl) (by kernel_rfl) (fun _ _ _ h => h) (Or.inl ⟨by rfl, ?_⟩) (by assumption) ?_
  rotate_left
  · (intro W hSw; (try dsimp only at hSw); go_simp; try with_reducible rfl)
  try simp only [heldPut, List.set]
  refine heldTake (i := 15) (v := ?_) rfl (by kernel_rfl) (by kernel_rfl) (by kernel_rfl) (fun _ _ _ h => h) (Or.inl ⟨by rfl, ?_⟩) (by assumption) ?_
  rotate_left
  · (intro W hSw; (try dsimp only at hSw); go_simp; try with_reducible rfl)
  try simp only [heldPut, List.set]
  refine heldTake (i := 16) (v := ?_) rfl (by kernel_rfl) (by kernel_rfl) (by kernel_rfl) (fun _ _ _ h => h) (Or.inl ⟨by rfl, ?_⟩) (by assumption) ?_
  rotate_left
  · (intro W hSw; (try dsimp only at hSw); go_simp; try with_reducible rfl)
  try simp only [heldPut, List.set]
  refine wpAnyH_done (by kernel_rfl) ?_ _
  refine NoPanic.normal ?_
  obtain ⟨c3, c4, fz, -⟩ := HC.out w1 HB1.out
  have f3 := fz 3
  have f4 := fz 4
  clear fz
  go_upto_region 5 with fail
  obtain ⟨w2, hw2⟩ : ∃ w2, w2 = (w1.setCell ⟨s, 3, none⟩ (.int .u64 (cum : Int))).setCell ⟨s, 4, none⟩ (.slice B r r) := ⟨_, rfl⟩
  rw [← hw2]
  have ho : Only (fun k => k = s) w1 w2 := by rw [hw2]; exact (Only.setCell (T := fun k => k = s) _ _ _ rfl).trans (Only.setCell (T := fun k => k = s) _ _ _ rfl) (fun _ h => .inl h)
  have hsw : ∀ k, S k → k < w1.heap.size := fun k hk => Nat.lt_of_lt_of_le (HH.out.lt k hk) HB1.out.size
  have hF : SdAt w2 S s { X with b := cum } (L.drop M) ∧ Step w S w2 S := by
    rw [hw2]
    have h1 : (w1.setCell ⟨s, 3, none⟩ (.int .u64 (cum : Int))).heap[s]? = some (.cells (sdC { X with b := cum } (.slice (some ⟨g, o, none⟩) L.length c)) 75 (0, 0)) :=
      heap_setCell_same _ s 3 _ _ _ ((HB1.out.block s (HH.out.lt s HH.out.sS)).trans H1.out)
    have ho1 : Only (fun k => k = s) w1 (w1.setCell ⟨s, 3, none⟩ (.int .u64 (cum : Int))) := Only.setCell _ _ _ rfl
    have hd1 := HD.out.only HH.out.lt (Only.of_below HB1.out (fun _ => False)) (fun _ _ h => h)
    have hd2 : SdR (w1.setCell ⟨s, 3, none⟩ (.int .u64 (cum : Int))) S s (.slice B r r) (L.drop M) := by
      refine ⟨hd1.few, ?_⟩
      rcases hd1.row with h1 | ⟨g, o, c, cur, ee, k2, k3, k4, k5, k6⟩
      · exact .inl h1
      · rw [ee] at k5 ⊢
        exact .inr ⟨g, o, c, cur, rfl, k2, k3, (ho1.block g (hsw g k2) k3).trans k4, k5.imp (fun h => ho1.own h (fun k hk => by
          have hk : some g = some k := hk
          injection hk with hk
          rw [← hk]
          exact k3)) id, k6⟩
    refine ⟨SdAt.row_new h1 hd2 (fun k hk => Nat.lt_of_lt_of_le (hsw k hk) ho1.size) HH.out.sS, ?_, fun k hk => .inl hk⟩
    rw [← hw2]
    exact (Only.of_below HB1.out S).trans ho (fun k hk => .inl (by have hk : k = s := hk; rw [hk]; exact HH.out.sS))
  have cI : w2.cell? ⟨g, o + m * 6 + 1, none⟩ = some (.int .u64 f.i) := (ho.cell (p := ⟨g, o + m * 6 + 1, none⟩) (hsw g hS) hgs).trans (HC.out w1 HB1.out).2.2.2
  have HF := Lib.hid hF
  clear hF hw2 ho c3 c4 f3 f4
  go_wp2
  go_ret
  refine ⟨rfl, ?_⟩
  rw [← HN.out.2]
  exact HF.out
end
end Go.Proofs.Ytocdhnlffemnhaa
