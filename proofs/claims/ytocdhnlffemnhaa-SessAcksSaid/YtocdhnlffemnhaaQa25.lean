/- Several texts in one: SdOffer. -/
import Derived.Deep.DeepCutAuto
import Derived.Deep.CutRange
import Derived.Deep.Cut
import Derived.Test.YtocdhnlffemnhaaQa21
/- Layer 10: Offer. -/
namespace Go.Proofs.Ytocdhnlffemnhaa
open Go.RowKit

theorem wp_append_at {P : Program} {w w' : World} {o : Oper} {a : Act} {K : Act → World → Prop} {Q : Exit → Act → World → Prop} {t : TypeId} {v x y : Value} (s r : Operand)
    (ho : o.op = .call { callee := .builtin .append, args := #[s, r], argTypes := #[t, t] }) (hs : a.eval s = x) (hr : a.eval r = y) (hrun : (Builtin.append_ #[t, t] o.type #[x, y]).run P w = .ok v w') (h : K (a.put o.dst v) w') : o.wp P a w K Q := by
  unfold Oper.wp execOp
  simp only [ho, resolve, invoke, builtin, Sem.run_bind, Sem.run_pure, Result.andThen_ok, List.map_toArray, List.map_cons, List.map_nil, hs, hr, hrun]
  exact h
theorem step_append_at {P : Program} {w w' : World} {ops : Array Oper} {o : Oper} {a : Act} {K : Act → World → Prop} {Q : Exit → Act → World → Prop} {E : Prop} {t : TypeId} {v x y : Value} (hgd : o.guard = none) (s r : Operand)
    (ho : o.op = .call { callee := .builtin .append, args := #[s, r], argTypes := #[t, t] }) (hs : a.eval s = x) (hr : a.eval r = y) (hrun : (Builtin.append_ #[t, t] o.type #[x, y]).run P w = .ok v w') (h : K (a.put o.dst v) w') :
    if Region.wanted o (yielded ops a.tmps) = true then Oper.wp P o a w K Q else E := by
  have hw : Region.wanted o (yielded ops a.tmps) = true := by simp [Region.wanted, hgd]
  rw [if_pos hw]
  exact wp_append_at s r ho hs hr hrun h
def offE (X : Sd) (L : List Fg) (i now : Nat) : Nat :=
  if X.W ≤ L.length then 19 else if 0 < L.length ∧ i ≤ lastI L then 9 else if 1099511627776 < X.b + L.length + 1 ∨ 1099511627776 < i ∨ 1099511627776 < now then 6 else 0
def offF (X : Sd) (L : List Fg) (i now : Nat) : Fg := ⟨X.b + L.length + 1, i, now, X.f, false, false⟩
/-- what an Offer answers and leaves -/
def OffPost (w : World) (S : Nat → Prop) (s : Nat) (X : Sd) (L : List Fg) (i now : Nat) (e : Ending) (w' : World) : Prop :=
  (offE X L i now ≠ 0 ∧ e = .returned (.tuple #[.int .u64 0, .int .i64 (offE X L i now)]) ∧ Below w.heap.size w w') ∨
  (offE X L i now = 0 ∧ e = .returned (.tuple #[.int .u64 ((X.b + L.length + 1 : Nat) : Int), .int .i64 0]) ∧ ∃ S', SdAt w' S' s X (L ++ [offF X L i now]) ∧ Step w S w' S')
/-- the row is another one -/
theorem SdAt.row_new {w : World} {S : Nat → Prop} {s : Nat} {X : Sd} {v v' : Value} {L : List Fg} (hb : w.heap[s]? = some (.cells (sdC X v) 75 (0, 0))) (h : SdR w S s v' L) (hl : ∀ k, S k → k < w.heap.size) (hs : S s) : SdAt (w.setCell ⟨s, 4, none⟩ v') S s X L := by
  have ho : Only (fun k => k = s) w (w.setCell ⟨s, 4, none⟩ v') := Only.setCell _ _ _ rfl
  refine ⟨⟨v', heap_setCell_same _ s 4 _ _ _ hb, h.few, ?_⟩, hs, fun k hk => Nat.lt_of_lt_of_le (hl k hk) ho.size⟩
  rcases h.row with h1 | ⟨g, o, c, cur, rfl, k2, k3, k4, k5, k6⟩
  · exact .inl h1
  · exact .inr ⟨g, o, c, cur, rfl, k2, k3, (ho.block g (hl g k2) k3).trans k4, k5.imp (fun h => ho.own h (fun k hk => by
      have hk : some g = some k := hk
      injection hk with hk
      rw [← hk]
      exact k3)) id, k6⟩
set_option maxRecDepth 100000 in
set_option maxHeartbeats 2000000 in
theorem sdoffer_any {S : Nat → Prop} {s i now : Nat} {X : Sd} {L : List Fg} (w : World) (h : SdAt w S s X L) (hW : X.W ≤ 1000) (hb : X.b ≤ 1099511627776000) :
    Calls Try.prog 33 #[.pointer (some ⟨s, 0, none⟩), .int .u64 i, .int .u64 now] w (OffPost w S s X L i now) := by
  obtain ⟨n, hn⟩ : ∃ n, n = L.length := ⟨_, rfl⟩
  obtain ⟨q, hq⟩ : ∃ q, q = X.b + L.length + 1 := ⟨_, rfl⟩
  obtain ⟨la, hla⟩ : ∃ la, la = lastI L := ⟨_, rfl⟩
  have HN := Lib.hid (fun W (hW : Below w.heap.size w W) => sdnext_any W (h.below hW) hb)
  have HR := Lib.hid (fun W (hW' : Below w.heap.size w W) => sdroom_any W (h.below hW') hW)
  have HL := Lib.hid (fun W (hW : Below w.heap.size w W) => sdlast_any W (h.below hW))
  have HE : Hid (offE X L i now = if X.W ≤ n then 19 else if 0 < n ∧ i ≤ la then 9 else if 1099511627776 < q ∨ 1099511627776 < i ∨ 1099511627776 < now then 6 else 0) := by
    rw [hn, hla, hq]; rfl
  have HH := Lib.hid h
  have HQ := Lib.hid (⟨hn, hq⟩ : _ ∧ _)
  rw [← hq] at HN
  rw [← hn] at HR
  rw [← hla] at HL
  obtain ⟨v, h1, h2⟩ := h.row
  obtain ⟨A, c, rfl⟩ := h2.slice
  rw [← hn] at h1 h2
  have HC4 : Hid (∀ W, Below w.heap.size w W → W.cell? ⟨s, 4, none⟩ = some (.slice A n c)) := fun W hW => by rw [cell_of_row _ _ 4 _ _ _ ((hW.block s (h.lt s h.sS)).trans h1)]; rfl
  clear h h1 h2 hn hq hla hb
  go_enter Try.func33, Try.ntmps33
  go_wp2_with fail
  refine (HN.out w (Below.refl _ _)).mono ?_
  rintro _ w1 ⟨rfl, hb1⟩
  have HB1 := Lib.hid hb1
  clear hb1
  go_wp2_with fail
  refine (HR.out w1 HB1.out).mono ?_
  rintro _ w2 ⟨rfl, hb2⟩
  have HB2 := Lib.hid (HB1.out.trans (hb2.mono HB1.out.size))
  clear hb2
  by_cases hA : X.W ≤ n
  · have d1 : decide ((X.W : Int) - n ≤ 0) = true := decide_eq_true (by omega)
    have d2 : decide (X.W ≤ n) = true := decide_eq_true hA
    have he2 : offE X L i now = 19 := by rw [HE.out, if_pos hA]
    have HE2 := Lib.hid he2
    clear he2
    go_wp2
    go_ret2
    exact .inl ⟨by rw [HE2.out]; decide, by rw [HE2.out]; rfl, HB2.out⟩
  have d1 : decide ((X.W : Int) - n ≤ 0) = false := decide_eq_false (by omega)
  have d2 : decide (X.W ≤ n) = false := decide_eq_false hA
  have c4 := HC4.out w2 HB2.out
  by_cases hB : 0 < n ∧ i ≤ la
  · have he2 : offE X L i now = 9 := by rw [HE.out, if_neg hA, if_pos hB]
    obtain ⟨hB1, hB2⟩ := hB
    have d3 : decide (0 < n) = true := decide_eq_true hB1
    have d4 : decide (i ≤ la) = true := decide_eq_true hB2
    have HE2 := Lib.hid he2
    clear he2
    go_wp2_with fail
    refine (HL.out w2 HB2.out).mono ?_
    rintro _ w3 ⟨rfl, hb3⟩
    have HB3 := Lib.hid (HB2.out.trans (hb3.mono HB2.out.size))
    clear hb3
    go_wp2
    go_ret2
    exact .inl ⟨by rw [HE2.out]; decide, by rw [HE2.out]; rfl, HB3.out⟩
  by_cases hC : 1099511627776 < q ∨ 1099511627776 < i ∨ 1099511627776 < now
  · have he2 : offE X L i now = 6 := by rw [HE.out, if_neg hA, if_neg hB, if_pos hC]
    have HE2 := Lib.hid he2
    clear he2
    obtain ⟨b1, hb1⟩ : ∃ b1, b1 = decide (1099511627776 < q) := ⟨_, rfl⟩
    obtain ⟨b2, hb2⟩ : ∃ b2, b2 = decide (1099511627776 < i) := ⟨_, rfl⟩
    obtain ⟨b3, hb3⟩ : ∃ b3, b3 = decide (1099511627776 < now) := ⟨_, rfl⟩
    have hbb : (b1 || b2 || b3) = true := by
      rw [hb1, hb2, hb3]
      rcases hC with h | h | h
      · rw [decide_eq_true h]; rfl
      · rw [decide_eq_true h]; simp
      · rw [decide_eq_true h]; simp
    have f1 : decide ((1099511627776 : Int) < (q : Int)) = b1 := by rw [hb1]; exact decide_eq_decide.2 (by omega)
    have f2 : decide ((1099511627776 : Int) < (i : Int)) = b2 := by rw [hb2]; exact decide_eq_decide.2 (by omega)
    have f3 : decide ((1099511627776 : Int) < (now : Int)) = b3 := by rw [hb3]; exact decide_eq_decide.2 (by omega)
    have g1 : decide (1099511627776 < q) = b1 := hb1.symm
    have g2 : decide (1099511627776 < i) = b2 := hb2.symm
    have g3 : decide (1099511627776 < now) = b3 := hb3.symm
    clear hb1 hb2 hb3 hC
    cases b1 <;> cases b2 <;> cases b3 <;> first | cases hbb | skip
    all_goals
      rcases Nat.eq_zero_or_pos n with h0 | h0
      · have d3 : decide (0 < n) = false := decide_eq_false (by omega)
        have h0' : ¬ 0 < n := by omega
        clear h0
        go_wp2
        go_ret2
        exact .inl ⟨by rw [HE2.out]; decide, by rw [HE2.out]; rfl, HB2.out⟩
      · have d3 : decide (0 < n) = true := decide_eq_true h0
        have d4 : decide (i ≤ la) = false := decide_eq_false (fun h => hB ⟨h0, h⟩)
        go_wp2_with fail
        refine (HL.out w2 HB2.out).mono ?_
        rintro _ w3 ⟨rfl, hb3⟩
        have HB3 := Lib.hid (HB2.out.trans (hb3.mono HB2.out.size))
        clear hb3
        go_wp2
        go_ret2
        exact .inl ⟨by rw [HE2.out]; decide, by rw [HE2.out]; rfl, HB3.out⟩
  have he2 : offE X L i now = 0 := by rw [HE.out, if_neg hA, if_neg hB, if_neg hC]
  have HE2 := Lib.hid he2
  clear he2
  have f1 : decide ((1099511627776 : Int) < (q : Int)) = false := decide_eq_false (by omega)
  have f2 : decide ((1099511627776 : Int) < (i : Int)) = false := decide_eq_false (by omega)
  have f3 : decide ((1099511627776 : Int) < (now : Int)) = false := decide_eq_false (by omega)
  have g1 : decide (1099511627776 < q) = false := decide_eq_false (by omega)
  have g2 : decide (1099511627776 < i) = false := decide_eq_false (by omega)
  have g3 : decide (1099511627776 < now) = false := decide_eq_false (by omega)
  have HB := Lib.hid hB
  clear hC hB
  rcases Nat.eq_zero_or_pos n with h0 | h0
  · have d3 : decide (0 < n) = false := decide_eq_false (by omega)
    have h0' : ¬ 0 < n := by omega
    clear h0
    go_upto_region 10 with fail
    have HB3 := HB2
    obtain ⟨w3, hw3⟩ : ∃ w3, w3 = w2 := ⟨_, rfl⟩
    rw [← hw3] at HB3 ⊢
    clear hw3
    have hs3 := HH.out.below HB3.out
    obtain ⟨v3, k1, k2⟩ := hs3.row
    have ev : v3 = .slice A n c := by
      have h3 : w3.cell? ⟨s, 4, none⟩ = some v3 := cell_of_row _ _ 4 _ _ _ k1
      rw [HC4.out w3 HB3.out] at h3
      exact (Option.some.inj h3).symm
    subst ev
    have hsl : s < w3.heap.size := hs3.lt s hs3.sS
    have hfw := hs3.few
    have hvS : ∀ k, (Value.slice A n c).ownBlock = some k → S k ∧ k ≠ s := fun k hk => by
      rcases k2.row with ⟨e, _⟩ | ⟨g, o, c', cur, e, q2, q3, _⟩
      · rw [e] at hk; cases hk
      · rw [e] at hk
        have hk : some g = some k := hk
        injection hk with hk
        rw [← hk]; exact ⟨q2, q3⟩
    obtain ⟨R, hR⟩ : ∃ R : Nat → Prop, R = fun k => (Value.slice A n c).ownBlock = some k := ⟨_, rfl⟩
    have hRs : ¬ R s := fun h => by rw [hR] at h; exact (hvS s h).2 rfl
    have HC : Hid (∀ W, Only R w3 W → W.cell? ⟨s, 4, none⟩ = some (.slice A n c) ∧ W.cell? ⟨s, 1, none⟩ = some (.int .u64 X.f) ∧ W.frozen? ⟨s, 4, none⟩ = false) := fun W hW => by
      have hb : W.heap[s]? = _ := (hW.block s hsl hRs).trans k1
      exact ⟨cell_of_row _ _ 4 _ _ _ hb, cell_of_row _ _ 1 _ _ _ hb, frozen_of_row _ _ 4 _ _ hb⟩
    have HS3 := Lib.hid hs3
    have HK := Lib.hid (⟨k1, k2, hvS, hR⟩ : _ ∧ _ ∧ _ ∧ _)
    clear hs3 k1 k2 hvS hR HN HR HL HC4 c4
    refine wp_region_noPanic ?_
    refine keepBegin (S := fun W => Only R w3 W) 17 (by kernel_rfl) ?_ (fun hHeld => ?_)
    · exact Only.of_below ((Below.refl _ _).drew) _
    try simp only [keepPut, List.set, Nat.zero_add]
    refine keepTake (i := 0) (v := ?_) [0] rfl (by kernel_rfl) (by kernel_rfl) (by kernel_rfl) (by kernel_rfl) (by kernel_rfl) (by kernel_rfl) (fun _ _ _ h => h) (Or.inl ⟨by rfl, ?_⟩) (by assumption) ?_
    rotate_left
    · (intro W hSw; (try dsimp only at hSw); obtain ⟨f4, f1, -⟩ := HC.out W hSw; go_simp; try with_reducible rfl)
    try simp only [keepPut, List.set, Nat.zero_add]
    refine keepTake (i := 1) (v := ?_) [1] rfl (by kernel_rfl) (by kernel_rfl) (by kernel_rfl) (by kernel_rfl) (by kernel_rfl) (by kernel_rfl) (fun _ _ _ h => h) (Or.inl ⟨by rfl, ?_⟩) (by assumption) ?_
    rotate_left
    · (intro W hSw; (try dsimp only at hSw); obtain ⟨f4, f1, -⟩ := HC.out W hSw; go_simp; try with_reducible rfl)
    try simp only [keepPut, List.set, Nat.zero_add]
    refine keepTake (i := 2) (v := ?_) [2] rfl (by kernel_rfl) (by kernel_rfl) (by kernel_rfl) (by kernel_rfl) (by kernel_rfl) (by kernel_rfl) (fun _ _ _ h => h) (Or.inl ⟨by rfl, ?_⟩) (by assumption) ?_
    rotate_left
    · (intro W hSw; (try dsimp only at hSw); obtain ⟨f4, f1, -⟩ := HC.out W hSw; go_simp; try with_reducible rfl)
    try simp only [keepPut, List.set, Nat.zero_add]
    refine keepTake (i := 3) (v := ?_) [3] rfl (by kernel_rfl) (by kernel_rfl) (by kernel_rfl) (by kernel_rfl) (by kernel_rfl) (by kernel_rfl) (fun _ _ _ h => h) (Or.inl ⟨by rfl, ?_⟩) (by assumption) ?_
    rotate_left
    · (intro W hSw; (try dsimp only at hSw); obtain ⟨f4, f1, -⟩ := HC.out W hSw; go_simp; try with_reducible rfl)
    try simp only [keepPut, List.set, Nat.zero_add]
    refine keepTake (i := 4) (v := ?_) [4] rfl (by kernel_rfl) (by kernel_rfl) (by kernel_rfl) (by kernel_rfl) (by kernel_rfl) (by kernel_rfl) (fun _ _ _ h => h) (Or.inl ⟨by rfl, ?_⟩) (by assumption) ?_
    rotate_left
    · (intro W hSw; (try dsimp only at hSw); obtain ⟨f4, f1, -⟩ := HC.out W hSw; go_simp; try with_reducible rfl)
    try simp only [keepPut, List.set, Nat.zero_add]
    refine keepTake (i := 5) (v := ?_) [5] rfl (by kernel_rfl) (by kernel_rfl) (by kernel_rfl) (by kernel_rfl) (by kernel_rfl) (by kernel_rfl) (fun _ _ _ h => h) (Or.inl ⟨by rfl, ?_⟩) (by assumption) ?_
    rotate_left
    · (intro W hSw; (try dsimp only at hSw); obtain ⟨f4, f1, -⟩ := HC.out W hSw; go_simp; try with_reducible rfl)
    try simp only [keepPut, List.set, Nat.zero_add]
    refine keepTake (i := 6) (v := ?_) [6] rfl (by kernel_rfl) (by kernel_rfl) (by kernel_rfl) (by kernel_rfl) (by kernel_rfl) (by kernel_rfl) (fun _ _ _ h => h) (Or.inl ⟨by rfl, ?_⟩) (by assumption) ?_
    rotate_left
    · (intro W hSw; (try dsimp only at hSw); obtain ⟨f4, f1, -⟩ := HC.out W hSw; go_simp; try with_reducible rfl)
    try simp only [keepPut, List.set, Nat.zero_add]
    refine keepTake (i := 7) (v := ?_) [7] rfl (by kernel_rfl) (by kernel_rfl) (by kernel_rfl) (by kernel_rfl) (by kernel_rfl) (by kernel_rfl) (fun _ _ _ h => h) (Or.inl ⟨by rfl, ?_⟩) (by assumption) ?_
    rotate_left
    · (intro W hSw; (try dsimp only at hSw); obtain ⟨f4, f1, -⟩ := HC.out W hSw; go_simp; try with_reducible rfl)
    try simp only [keepPut, List.set, Nat.zero_add]
    refine keepTake (i := 8) (v := ?_) [8] rfl (by kernel_rfl) (by kernel_rfl) (by kernel_rfl) (by kernel_rfl) (by kernel_rfl) (by kernel_rfl) (fun _ _ _ h => h) (Or.inl ⟨by rfl, ?_⟩) (by assumption) ?_
    rotate_left
    · (intro W hSw; (try dsimp only at hSw); obtain ⟨f4, f1, -⟩ := HC.out W hSw; go_simp; try with_reducible rfl)
    try simp only [keepPut, List.set, Nat.zero_add]
    refine keepTake (i := 9) (v := ?_) [9] rfl (by kernel_rfl) (by kernel_rfl) (by kernel_rfl) (by kernel_rfl) (by kernel_rfl) (by kernel_rfl) (fun _ _ _ h => h) (Or.inl ⟨by rfl, ?_⟩) (by assumption) ?_
    rotate_left
    · (intro W hSw; (try dsimp only at hSw); obtain ⟨f4, f1, -⟩ := HC.out W hSw; go_simp; try with_reducible rfl)
    try simp only [keepPut, List.set, Nat.zero_add]
    refine keepTake (i := 10) (v := ?_) [10] rfl (by kernel_rfl) (by kernel_rfl) (by kernel_rfl) (by kernel_rfl) (by kernel_rfl) (by kernel_rfl) (fun _ _ _ h => h) (Or.inl ⟨by rfl, ?_⟩) (by assumption) ?_
    rotate_left
    · (intro W hSw; (try dsimp only at hSw); obtain ⟨f4, f1, -⟩ := HC.out W hSw; go_simp; try with_reducible rfl)
    try simp only [keepPut, List.set, Nat.zero_add]
    refine keepTake (i := 11) (v := ?_) [11] rfl (by kernel_rfl) (by kernel_rfl) (by kernel_rfl) (by kernel_rfl) (by kernel_rfl) (by kernel_rfl) (fun _ _ _ h => h) (Or.inl ⟨by rfl, ?_⟩) (by assumption) ?_
    rotate_left
    · (intro W hSw; (try dsimp only at hSw); obtain ⟨f4, f1, -⟩ := HC.out W hSw; go_simp; try with_reducible rfl)
    try simp only [keepPut, List.set, Nat.zero_add]
    refine keepTake (i := 12) (v := .agg #[.int .u64 q, .int .u64 i, .int .u64 now, .int .u64 X.f, .bool false, .bool false]) [12] rfl (by kernel_rfl) (by kernel_rfl) (by kernel_rfl) (by kernel_rfl) (by kernel_rfl) (by kernel_rfl) (fun _ _ _ h => h) (Or.inl ⟨by rfl, ?_⟩) (by assumption) ?_
    · (intro W hSw; go_simp)
    try simp only [keepPut, List.set, Nat.zero_add]
    refine keepAll (rs := [13]) (by kernel_rfl) (by simp) (AllReadyK.cons rfl (fun K hK => ?_) AllReadyK.nil)
    go_simp
    obtain ⟨w4, hw4⟩ : ∃ w4, w4 = (w3.alloc (.cells #[.int .u64 q, .int .u64 i, .int .u64 now, .int .u64 X.f, .bool false, .bool false] 93)).drew := ⟨_, rfl⟩
    rw [← hw4]
    have hb34 : Below w3.heap.size w3 w4 := by rw [hw4]; exact ((Below.refl _ _).alloc (Nat.le_refl _) _).drew
    have hbx : w4.heap[w3.heap.size]? = some (.cells #[.int .u64 q, .int .u64 i, .int .u64 now, .int .u64 X.f, .bool false, .bool false] 93 (0, 0)) := by rw [hw4]; exact heap_alloc_new w3 _
    clear hw4
    refine hK.out _ _ (Only.of_below hb34 _) (fun hHeld => ?_)
    clear hK K
    try simp only [keepPut, List.set, Nat.zero_add]
    refine keepAll (rs := [14]) (by kernel_rfl) (by simp) (AllReadyK.cons rfl (fun K hK => ?_) AllReadyK.nil)
    obtain ⟨k1, k2, hvS, hR⟩ := HK.out
    have hl34 := hb34.size
    have k24 := k2.only HS3.out.lt (Only.of_below hb34 (fun _ => False)) (fun _ _ h => h)
    have hap := k24.app (b := w3.heap.size) (c0 := 1) (f := ⟨q, i, now, X.f, false, false⟩) (fun k hk => Nat.lt_of_lt_of_le (HS3.out.lt k hk) hl34) (Nat.lt_of_lt_of_le hsl hl34) (by have := HQ.out.1; omega) 73 (fun j u hj => by
      rw [cell_of_row _ _ _ _ _ _ hbx]
      have hj6 := (List.getElem?_eq_some_iff.1 hj).1
      match j, hj6 with
      | 0, _ => exact hj
      | 1, _ => exact hj
      | 2, _ => exact hj
      | 3, _ => exact hj
      | 4, _ => exact hj
      | 5, _ => exact hj)
    rw [← HQ.out.1] at hap
    obtain ⟨A5, c5, w5, hrun, r5, ho5, hn5⟩ := hap
    refine step_append_at rfl (.tmp 45) (.tmp 54) rfl rfl rfl hrun ?_
    have hon5 : Only R w3 w5 := (Only.of_below hb34 R).trans ho5 (fun k hk => .inl (by rw [hR]; exact hk))
    have HR5 := Lib.hid r5
    have HN5 := Lib.hid hn5
    have HO5 := Lib.hid hon5
    clear hrun r5 ho5 hn5 k1 k2 hvS hR k24 hbx
    refine hK.out _ _ (HO5.out) (fun hHeld => ?_)
    clear hK K
    try simp only [keepPut, List.set, Nat.zero_add]
    refine keepTake (i := 15) (v := ?_) [16, 15] rfl (by kernel_rfl) (by kernel_rfl) (by kernel_rfl) (by kernel_rfl) (by kernel_rfl) (by kernel_rfl) (fun _ _ _ h => h) (Or.inl ⟨by rfl, ?_⟩) (by assumption) ?_
    rotate_left
    · (intro W hSw; (try dsimp only at hSw); go_simp; try with_reducible rfl)
    try simp only [keepPut, List.set, Nat.zero_add]
    refine keepTake (i := 16) (v := ?_) [16] rfl (by kernel_rfl) (by kernel_rfl) (by kernel_rfl) (by kernel_rfl) (by kernel_rfl) (by kernel_rfl) (fun _ _ _ h => h) (Or.inl ⟨by rfl, ?_⟩) (by assumption) ?_
    rotate_left
    · (intro W hSw; (try dsimp only at hSw); go_simp; try with_reducible rfl)
    try simp only [keepPut, List.set, Nat.zero_add]
    refine keepLast rfl (by kernel_rfl) (fun K hK => ?_)
    have f4 := (HC.out w5 HO5.out).1
    have f5 := (HC.out w5 HO5.out).2.2
    go_simp
    refine hK.out _ _ ?_
    clear hK K
    try simp only [keepPut, List.set, Nat.zero_add]
    refine keepDone (by kernel_rfl) ?_ _
    refine NoPanic.normal ?_
    obtain ⟨w6, hw6⟩ : ∃ w6, w6 = w5.setCell ⟨s, 4, none⟩ (.slice A5 (n + 1) c5) := ⟨_, rfl⟩
    rw [← hw6]
    have HF : Hid (∃ S', SdAt w6 S' s X (L ++ [offF X L i now]) ∧ Step w S w6 S') := by
      obtain ⟨k1, k2, hvS, hR⟩ := HK.out
      have ef : offF X L i now = ⟨q, i, now, X.f, false, false⟩ := by unfold offF; rw [HQ.out.2]
      rw [ef]
      have ho56 : Only (fun k => k = s) w5 w6 := by rw [hw6]; exact Only.setCell _ _ _ rfl
      have hb5 : w5.heap[s]? = _ := (HO5.out.block s hsl hRs).trans k1
      refine ⟨_, by rw [hw6]; exact SdAt.row_new hb5 HR5.out (fun k hk => hk.elim (fun h => Nat.lt_of_lt_of_le (HS3.out.lt k h) HO5.out.size) (fun h => (HN5.out k h).2)) (.inl HS3.out.sS), ?_, fun k hk => ?_⟩
      · refine ((Only.of_below HB3.out S).trans (HO5.out.mono (fun k hk => (hvS k (by rw [hR] at hk; exact hk)).1)) (fun _ h => .inl h)).trans ho56 (fun k hk => .inl (by have hk : k = s := hk; rw [hk]; exact HS3.out.sS))
      · rcases hk with hk | hk
        · exact .inl hk
        · rcases (HN5.out k hk).1 with h | h
          · exact .inl (hvS k h).1
          · exact .inr (by have := HB3.out.size; omega)
    clear hw6
    go_wp2
    go_ret2
    exact .inr ⟨HE2.out, by rw [← HQ.out.2]; rfl, HF.out⟩
  · have d3 : decide (0 < n) = true := decide_eq_true h0
    have d4 : decide (i ≤ la) = false := decide_eq_false (fun h => HB.out ⟨h0, h⟩)
    go_wp2_with fail
    refine (HL.out w2 HB2.out).mono ?_
    rintro _ w3 ⟨rfl, hb3⟩
    have HB3 := Lib.hid (HB2.out.trans (hb3.mono HB2.out.size))
    clear hb3
    go_upto_region 10 with fail
    have hs3 := HH.out.below HB3.out
    obtain ⟨v3, k1, k2⟩ := hs3.row
    have ev : v3 = .slice A n c := by
      have h3 : w3.cell? ⟨s, 4, none⟩ = some v3 := cell_of_row _ _ 4 _ _ _ k1
      rw [HC4.out w3 HB3.out] at h3
      exact (Option.some.inj h3).symm
    subst ev
    have hsl : s < w3.heap.size := hs3.lt s hs3.sS
    have hfw := hs3.few
    have hvS : ∀ k, (Value.slice A n c).ownBlock = some k → S k ∧ k ≠ s := fun k hk => by
      rcases k2.row with ⟨e, _⟩ | ⟨g, o, c', cur, e, q2, q3, _⟩
      · rw [e] at hk; cases hk
      · rw [e] at hk
        have hk : some g = some k := hk
        injection hk with hk
        rw [← hk]; exact ⟨q2, q3⟩
    obtain ⟨R, hR⟩ : ∃ R : Nat → Prop, R = fun k => (Value.slice A n c).ownBlock = some k := ⟨_, rfl⟩
    have hRs : ¬ R s := fun h => by rw [hR] at h; exact (hvS s h).2 rfl
    have HC : Hid (∀ W, Only R w3 W → W.cell? ⟨s, 4, none⟩ = some (.slice A n c) ∧ W.cell? ⟨s, 1, none⟩ = some (.int .u64 X.f) ∧ W.frozen? ⟨s, 4, none⟩ = false) := fun W hW => by
      have hb : W.heap[s]? = _ := (hW.block s hsl hRs).trans k1
      exact ⟨cell_of_row _ _ 4 _ _ _ hb, cell_of_row _ _ 1 _ _ _ hb, frozen_of_row _ _ 4 _ _ hb⟩
    have HS3 := Lib.hid hs3
    have HK := Lib.hid (⟨k1, k2, hvS, hR⟩ : _ ∧ _ ∧ _ ∧ _)
    clear hs3 k1 k2 hvS hR HN HR HL HC4 c4
    refine wp_region_noPanic ?_
    refine keepBegin (S := fun W => Only R w3 W) 17 (by kernel_rfl) ?_ (fun hHeld => ?_)
    · exact Only.of_below ((Below.refl _ _).drew) _
    try simp only [keepPut, List.set, Nat.zero_add]
    refine keepTake (i := 0) (v := ?_) [0] rfl (by kernel_rfl) (by kernel_rfl) (by kernel_rfl) (by kernel_rfl) (by kernel_rfl) (by kernel_rfl) (fun _ _ _ h => h) (Or.inl ⟨by rfl, ?_⟩) (by assumption) ?_
    rotate_left
    · (intro W hSw; (try dsimp only at hSw); obtain ⟨f4, f1, -⟩ := HC.out W hSw; go_simp; try with_reducible rfl)
    try simp only [keepPut, List.set, Nat.zero_add]
    refine keepTake (i := 1) (v := ?_) [1] rfl (by kernel_rfl) (by kernel_rfl) (by kernel_rfl) (by kernel_rfl) (by kernel_rfl) (by kernel_rfl) (fun _ _ _ h => h) (Or.inl ⟨by rfl, ?_⟩) (by assumption) ?_
    rotate_left
    · (intro W hSw; (try dsimp only at hSw); obtain ⟨f4, f1, -⟩ := HC.out W hSw; go_simp; try with_reducible rfl)
    try simp only [keepPut, List.set, Nat.zero_add]
    refine keepTake (i := 2) (v := ?_) [2] rfl (by kernel_rfl) (by kernel_rfl) (by kernel_rfl) (by kernel_rfl) (by kernel_rfl) (by kernel_rfl) (fun _ _ _ h => h) (Or.inl ⟨by rfl, ?_⟩) (by assumption) ?_
    rotate_left
    · (intro W hSw; (try dsimp only at hSw); obtain ⟨f4, f1, -⟩ := HC.out W hSw; go_simp; try with_reducible rfl)
    try simp only [keepPut, List.set, Nat.zero_add]
    refine keepTake (i := 3) (v := ?_) [3] rfl (by kernel_rfl) (by kernel_rfl) (by kernel_rfl) (by kernel_rfl) (by kernel_rfl) (by kernel_rfl) (fun _ _ _ h => h) (Or.inl ⟨by rfl, ?_⟩) (by assumption) ?_
    rotate_left
    · (intro W hSw; (try dsimp only at hSw); obtain ⟨f4, f1, -⟩ := HC.out W hSw; go_simp; try with_reducible rfl)
    try simp only [keepPut, List.set, Nat.zero_add]
    refine keepTake (i := 4) (v := ?_) [4] rfl (by kernel_rfl) (by kernel_rfl) (by kernel_rfl) (by kernel_rfl) (by kernel_rfl) (by kernel_rfl) (fun _ _ _ h => h) (Or.inl ⟨by rfl, ?_⟩) (by assumption) ?_
    rotate_left
    · (intro W hSw; (try dsimp only at hSw); obtain ⟨f4, f1, -⟩ := HC.out W hSw; go_simp; try with_reducible rfl)
    try simp only [keepPut, List.set, Nat.zero_add]
    refine keepTake (i := 5) (v := ?_) [5] rfl (by kernel_rfl) (by kernel_rfl) (by kernel_rfl) (by kernel_rfl) (by kernel_rfl) (by kernel_rfl) (fun _ _ _ h => h) (Or.inl ⟨by rfl, ?_⟩) (by assumption) ?_
    rotate_left
    · (intro W hSw; (try dsimp only at hSw); obtain ⟨f4, f1, -⟩ := HC.out W hSw; go_simp; try with_reducible rfl)
    try simp only [keepPut, List.set, Nat.zero_add]
    refine keepTake (i := 6) (v := ?_) [6] rfl (by kernel_rfl) (by kernel_rfl) (by kernel_rfl) (by kernel_rfl) (by kernel_rfl) (by kernel_rfl) (fun _ _ _ h => h) (Or.inl ⟨by rfl, ?_⟩) (by assumption) ?_
    rotate_left
    · (intro W hSw; (try dsimp only at hSw); obtain ⟨f4, f1, -⟩ := HC.out W hSw; go_simp; try with_reducible rfl)
    try simp only [keepPut, List.set, Nat.zero_add]
    refine keepTake (i := 7) (v := ?_) [7] rfl (by kernel_rfl) (by kernel_rfl) (by kernel_rfl) (by kernel_rfl) (by kernel_rfl) (by kernel_rfl) (fun _ _ _ h => h) (Or.inl ⟨by rfl, ?_⟩) (by assumption) ?_
    rotate_left
    · (intro W hSw; (try dsimp only at hSw); obtain ⟨f4, f1, -⟩ := HC.out W hSw; go_simp; try with_reducible rfl)
    try simp only [keepPut, List.set, Nat.zero_add]
    refine keepTake (i := 8) (v := ?_) [8] rfl (by kernel_rfl) (by kernel_rfl) (by kernel_rfl) (by kernel_rfl) (by kernel_rfl) (by kernel_rfl) (fun _ _ _ h => h) (Or.inl ⟨by rfl, ?_⟩) (by assumption) ?_
    rotate_left
    · (intro W hSw; (try dsimp only at hSw); obtain ⟨f4, f1, -⟩ := HC.out W hSw; go_simp; try with_reducible rfl)
    try simp only [keepPut, List.set, Nat.zero_add]
    refine keepTake (i := 9) (v := ?_) [9] rfl (by kernel_rfl) (by kernel_rfl) (by kernel_rfl) (by kernel_rfl) (by kernel_rfl) (by kernel_rfl) (fun _ _ _ h => h) (Or.inl ⟨by rfl, ?_⟩) (by assumption) ?_
    rotate_left
    · (intro W hSw; (try dsimp only at hSw); obtain ⟨f4, f1, -⟩ := HC.out W hSw; go_simp; try with_reducible rfl)
    try simp only [keepPut, List.set, Nat.zero_add]
    refine keepTake (i := 10) (v := ?_) [10] rfl (by kernel_rfl) (by kernel_rfl) (by kernel_rfl) (by kernel_rfl) (by kernel_rfl) (by kernel_rfl) (fun _ _ _ h => h) (Or.inl ⟨by rfl, ?_⟩) (by assumption) ?_
    rotate_left
    · (intro W hSw; (try dsimp only at hSw); obtain ⟨f4, f1, -⟩ := HC.out W hSw; go_simp; try with_reducible rfl)
    try simp only [keepPut, List.set, Nat.zero_add]
    refine keepTake (i := 11) (v := ?_) [11] rfl (by kernel_rfl) (by kernel_rfl) (by kernel_rfl) (by kernel_rfl) (by kernel_rfl) (by kernel_rfl) (fun _ _ _ h => h) (Or.inl ⟨by rfl, ?_⟩) (by assumption) ?_
    rotate_left
    · (intro W hSw; (try dsimp only at hSw); obtain ⟨f4, f1, -⟩ := HC.out W hSw; go_simp; try with_reducible rfl)
    try simp only [keepPut, List.set, Nat.zero_add]
    refine keepTake (i := 12) (v := .agg #[.int .u64 q, .int .u64 i, .int .u64 now, .int .u64 X.f, .bool false, .bool false]) [12] rfl (by kernel_rfl) (by kernel_rfl) (by kernel_rfl) (by kernel_rfl) (by kernel_rfl) (by kernel_rfl) (fun _ _ _ h => h) (Or.inl ⟨by rfl, ?_⟩) (by assumption) ?_
    · (intro W hSw; go_simp)
    try simp only [keepPut, List.set, Nat.zero_add]
    refine keepAll (rs := [13]) (by kernel_rfl) (by simp) (AllReadyK.cons rfl (fun K hK => ?_) AllReadyK.nil)
    go_simp
    obtain ⟨w4, hw4⟩ : ∃ w4, w4 = (w3.alloc (.cells #[.int .u64 q, .int .u64 i, .int .u64 now, .int .u64 X.f, .bool false, .bool false] 93)).drew := ⟨_, rfl⟩
    rw [← hw4]
    have hb34 : Below w3.heap.size w3 w4 := by rw [hw4]; exact ((Below.refl _ _).alloc (Nat.le_refl _) _).drew
    have hbx : w4.heap[w3.heap.size]? = some (.cells #[.int .u64 q, .int .u64 i, .int .u64 now, .int .u64 X.f, .bool false, .bool false] 93 (0, 0)) := by rw [hw4]; exact heap_alloc_new w3 _
    clear hw4
    refine hK.out _ _ (Only.of_below hb34 _) (fun hHeld => ?_)
    clear hK K
    try simp only [keepPut, List.set, Nat.zero_add]
    refine keepAll (rs := [14]) (by kernel_rfl) (by simp) (AllReadyK.cons rfl (fun K hK => ?_) AllReadyK.nil)
    obtain ⟨k1, k2, hvS, hR⟩ := HK.out
    have hl34 := hb34.size
    have k24 := k2.only HS3.out.lt (Only.of_below hb34 (fun _ => False)) (fun _ _ h => h)
    have hap := k24.app (b := w3.heap.size) (c0 := 1) (f := ⟨q, i, now, X.f, false, false⟩) (fun k hk => Nat.lt_of_lt_of_le (HS3.out.lt k hk) hl34) (Nat.lt_of_lt_of_le hsl hl34) (by have := HQ.out.1; omega) 73 (fun j u hj => by
      rw [cell_of_row _ _ _ _ _ _ hbx]
      have hj6 := (List.getElem?_eq_some_iff.1 hj).1
      match j, hj6 with
      | 0, _ => exact hj
      | 1, _ => exact hj
      | 2, _ => exact hj
      | 3, _ => exact hj
      | 4, _ => exact hj
      | 5, _ => exact hj)
    rw [← HQ.out.1] at hap
    obtain ⟨A5, c5, w5, hrun, r5, ho5, hn5⟩ := hap
    refine step_append_at rfl (.tmp 45) (.tmp 54) rfl rfl rfl hrun ?_
    have hon5 : Only R w3 w5 := (Only.of_below hb34 R).trans ho5 (fun k hk => .inl (by rw [hR]; exact hk))
    have HR5 := Lib.hid r5
    have HN5 := Lib.hid hn5
    have HO5 := Lib.hid hon5
    clear hrun r5 ho5 hn5 k1 k2 hvS hR k24 hbx
    refine hK.out _ _ (HO5.out) (fun hHeld => ?_)
    clear hK K
    try simp only [keepPut, List.set, Nat.zero_add]
    refine keepTake (i := 15) (v := ?_) [16, 15] rfl (by kernel_rfl) (by kernel_rfl) (by kernel_rfl) (by kernel_rfl) (by kernel_rfl) (by kernel_rfl) (fun _ _ _ h => h) (Or.inl ⟨by rfl, ?_⟩) (by assumption) ?_
    rotate_left
    · (intro W hSw; (try dsimp only at hSw); go_simp; try with_reducible rfl)
    try simp only [keepPut, List.set, Nat.zero_add]
    refine keepTake (i := 16) (v := ?_) [16] rfl (by kernel_rfl) (by kernel_rfl) (by kernel_rfl) (by kernel_rfl) (by kernel_rfl) (by kernel_rfl) (fun _ _ _ h => h) (Or.inl ⟨by rfl, ?_⟩) (by assumption) ?_
    rotate_left
    · (intro W hSw; (try dsimp only at hSw); go_simp; try with_reducible rfl)
    try simp only [keepPut, List.set, Nat.zero_add]
    refine keepLast rfl (by kernel_rfl) (fun K hK => ?_)
    have f4 := (HC.out w5 HO5.out).1
    have f5 := (HC.out w5 HO5.out).2.2
    go_simp
    refine hK.out _ _ ?_
    clear hK K
    try simp only [keepPut, List.set, Nat.zero_add]
    refine keepDone (by kernel_rfl) ?_ _
    refine NoPanic.normal ?_
    obtain ⟨w6, hw6⟩ : ∃ w6, w6 = w5.setCell ⟨s, 4, none⟩ (.slice A5 (n + 1) c5) := ⟨_, rfl⟩
    rw [← hw6]
    have HF : Hid (∃ S', SdAt w6 S' s X (L ++ [offF X L i now]) ∧ Step w S w6 S') := by
      obtain ⟨k1, k2, hvS, hR⟩ := HK.out
      have ef : offF X L i now = ⟨q, i, now, X.f, false, false⟩ := by unfold offF; rw [HQ.out.2]
      rw [ef]
      have ho56 : Only (fun k => k = s) w5 w6 := by rw [hw6]; exact Only.setCell _ _ _ rfl
      have hb5 : w5.heap[s]? = _ := (HO5.out.block s hsl hRs).trans k1
      refine ⟨_, by rw [hw6]; exact SdAt.row_new hb5 HR5.out (fun k hk => hk.elim (fun h => Nat.lt_of_lt_of_le (HS3.out.lt k h) HO5.out.size) (fun h => (HN5.out k h).2)) (.inl HS3.out.sS), ?_, fun k hk => ?_⟩
      · refine ((Only.of_below HB3.out S).trans (HO5.out.mono (fun k hk => (hvS k (by rw [hR] at hk; exact hk)).1)) (fun _ h => .inl h)).trans ho56 (fun k hk => .inl (by have hk : k = s := hk; rw [hk]; exact HS3.out.sS))
      · rcases hk with hk | hk
        · exact .inl hk
        · rcases (HN5.out k hk).1 with h | h
          · exact .inl (hvS k h).1
          · exact .inr (by have := HB3.out.size; omega)
    clear hw6
    go_wp2
    go_ret2
    exact .inr ⟨HE2.out, by rw [← HQ.out.2]; rfl, HF.out⟩
end Go.Proofs.Ytocdhnlffemnhaa
