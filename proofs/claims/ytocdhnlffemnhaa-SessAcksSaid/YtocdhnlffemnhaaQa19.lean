/- Several texts in one: SsMem, SsEnds. -/
import Derived.Test.YtocdhnlffemnhaaQa10
import Derived.Test.YtocdhnlffemnhaaQa14
import Derived.Test.YtocdhnlffemnhaaQa18
/- Layer 12: the two ends of a link in memory: their blocks, a sender, a receiver. -/
namespace Go.Proofs.Ytocdhnlffemnhaa
open Go.RowKit

/-- a sending end: which node it is, which one the other; its life; the window, the waits; the session; the other end's life that was seen -/
structure Ou where
  me : Nat
  pe : Nat
  li : Nat
  W : Nat
  f : Nat
  m : Nat
  ss : Nat
  se : Nat
def Ou.ep (O : Ou) : Nat := O.li * 1048576 + O.ss
def outC (O : Ou) (v : Value) : Array Value := #[.int .u8 O.me, .int .u8 O.pe, .int .u64 O.li, .int .i64 O.W, .int .u64 O.f, .int .u64 O.m, .int .u64 O.ss, v, .int .u64 O.se]
/-- a taking end: which node it is, which one the other; its life; the window; the epoch -/
structure Ix where
  me : Nat
  pe : Nat
  li : Nat
  W : Nat
  ep : Nat
def inC (I : Ix) (v : Value) : Array Value := #[.int .u8 I.me, .int .u8 I.pe, .int .u64 I.li, .int .i64 I.W, .int .u64 I.ep, v]
structure OutAt (w : World) (S : Nat → Prop) (o : Nat) (O : Ou) (X : Sd) (L : List Fg) : Prop where
  row : ∃ s T, w.heap[o]? = some (.cells (outC O (.pointer (some ⟨s, 0, none⟩))) 70 (0, 0)) ∧ SdAt w T s X L ∧ ∀ k, T k → S k ∧ k ≠ o
  oS : S o
  lt : ∀ k, S k → k < w.heap.size
structure InAt (w : World) (S : Nat → Prop) (i : Nat) (I : Ix) (V : Rv) (F : Hs) (k : Nat) : Prop where
  row : ∃ s m, w.heap[i]? = some (.cells (inC I (.pointer (some ⟨s, 0, none⟩))) 80 (0, 0)) ∧ RvAt w s m V F k ∧ S s ∧ S m ∧ s ≠ i ∧ m ≠ i
  iS : S i
  lt : ∀ k, S k → k < w.heap.size
  lab : ∀ q h, F q = some h → ∀ a, h.A = some a → 0 < h.x.l.length → ¬ S a.block
section
variable {w w' : World} {S S' T T' : Nat → Prop} {o i s m k k' : Nat} {O O' : Ou} {I I' : Ix} {X X' : Sd} {L L' : List Fg} {V V' : Rv} {F F' : Hs}
theorem OutAt.keep (h : OutAt w S o O X L) (ho : Only T w w') (hT : ∀ k, S k → ¬ T k) : OutAt w' S o O X L := by
  obtain ⟨s, U, h1, h2, h3⟩ := h.row
  exact ⟨⟨s, U, (ho.block o (h.lt o h.oS) (hT o h.oS)).trans h1, h2.keep ho (fun k hk => hT k (h3 k hk).1), h3⟩, h.oS, fun k hk => Nat.lt_of_lt_of_le (h.lt k hk) ho.size⟩
theorem OutAt.below (h : OutAt w S o O X L) (hb : Below w.heap.size w w') : OutAt w' S o O X L := h.keep (T := fun _ => False) (Only.of_below hb _) (fun _ _ h => h)
theorem InAt.keep (h : InAt w S i I V F k) (ho : Only T w w') (hT : ∀ k, S k → ¬ T k) (hE : ∀ q x, F q = some x → ∀ a, x.A = some a → 0 < x.x.l.length → ¬ T a.block) : InAt w' S i I V F k := by
  obtain ⟨s, m, h1, h2, h3, h4, h5⟩ := h.row
  exact ⟨⟨s, m, (ho.block i (h.lt i h.iS) (hT i h.iS)).trans h1, h2.keep ho (hT s h3) (hT m h4) hE, h3, h4, h5⟩, h.iS, fun k hk => Nat.lt_of_lt_of_le (h.lt k hk) ho.size, h.lab⟩
theorem InAt.below (h : InAt w S i I V F k) (hb : Below w.heap.size w w') : InAt w' S i I V F k := h.keep (T := fun _ => False) (Only.of_below hb _) (fun _ _ h => h) (fun _ _ _ _ _ _ h => h)
/-- the cells of a sending end -/
theorem OutAt.cells (h : OutAt w S o O X L) : ∃ s T, w.cell? ⟨o, 0, none⟩ = some (.int .u8 O.me) ∧ w.cell? ⟨o, 1, none⟩ = some (.int .u8 O.pe) ∧ w.cell? ⟨o, 2, none⟩ = some (.int .u64 O.li) ∧ w.cell? ⟨o, 3, none⟩ = some (.int .i64 O.W) ∧ w.cell? ⟨o, 4, none⟩ = some (.int .u64 O.f) ∧ w.cell? ⟨o, 5, none⟩ = some (.int .u64 O.m) ∧
    w.cell? ⟨o, 6, none⟩ = some (.int .u64 O.ss) ∧ w.cell? ⟨o, 7, none⟩ = some (.pointer (some ⟨s, 0, none⟩)) ∧ w.cell? ⟨o, 8, none⟩ = some (.int .u64 O.se) ∧ (∀ j, w.frozen? ⟨o, j, none⟩ = false) ∧ SdAt w T s X L ∧ ∀ k, T k → S k ∧ k ≠ o := by
  obtain ⟨s, T, h1, h2, h3⟩ := h.row
  exact ⟨s, T, cell_of_row _ _ 0 _ _ _ h1, cell_of_row _ _ 1 _ _ _ h1, cell_of_row _ _ 2 _ _ _ h1, cell_of_row _ _ 3 _ _ _ h1, cell_of_row _ _ 4 _ _ _ h1, cell_of_row _ _ 5 _ _ _ h1, cell_of_row _ _ 6 _ _ _ h1, cell_of_row _ _ 7 _ _ _ h1, cell_of_row _ _ 8 _ _ _ h1, fun j => frozen_of_row _ _ j _ _ h1, h2, h3⟩
theorem InAt.cells (h : InAt w S i I V F k) : ∃ s m, w.cell? ⟨i, 0, none⟩ = some (.int .u8 I.me) ∧ w.cell? ⟨i, 1, none⟩ = some (.int .u8 I.pe) ∧ w.cell? ⟨i, 2, none⟩ = some (.int .u64 I.li) ∧ w.cell? ⟨i, 3, none⟩ = some (.int .i64 I.W) ∧ w.cell? ⟨i, 4, none⟩ = some (.int .u64 I.ep) ∧ w.cell? ⟨i, 5, none⟩ = some (.pointer (some ⟨s, 0, none⟩)) ∧
    (∀ j, w.frozen? ⟨i, j, none⟩ = false) ∧ RvAt w s m V F k ∧ S s ∧ S m ∧ s ≠ i ∧ m ≠ i := by
  obtain ⟨s, m, h1, h2, h3⟩ := h.row
  exact ⟨s, m, cell_of_row _ _ 0 _ _ _ h1, cell_of_row _ _ 1 _ _ _ h1, cell_of_row _ _ 2 _ _ _ h1, cell_of_row _ _ 3 _ _ _ h1, cell_of_row _ _ 4 _ _ _ h1, cell_of_row _ _ 5 _ _ _ h1, fun j => frozen_of_row _ _ j _ _ h1, h2, h3⟩
/-- a call on the sender -/
theorem OutAt.turn (h : OutAt w S o O X L) (hc : w.cell? ⟨o, 7, none⟩ = some (.pointer (some ⟨s, 0, none⟩))) (hT : ∀ k, T k → S k ∧ k ≠ o) (hs : Step w T w' T') (hd : SdAt w' T' s X' L') :
    OutAt w' (fun k => S k ∨ T' k) o O X' L' ∧ Step w S w' (fun k => S k ∨ T' k) := by
  obtain ⟨s2, U, h1, h2, h3⟩ := h.row
  have hc2 : w.cell? ⟨o, 7, none⟩ = some (.pointer (some ⟨s2, 0, none⟩)) := cell_of_row _ _ 7 _ _ _ h1
  rw [hc] at hc2
  injection hc2 with hc2
  injection hc2 with hc2
  injection hc2 with hc2
  have e : s = s2 := congrArg Addr.block hc2
  subst e
  have hol := h.lt o h.oS
  have hoT : ¬ T o := fun hk => (hT o hk).2 rfl
  refine ⟨⟨⟨s, T', (hs.only.block o hol hoT).trans h1, hd, fun k hk => ⟨.inr hk, fun e => ?_⟩⟩, .inl h.oS, fun k hk => ?_⟩, hs.only.mono (fun k hk => (hT k hk).1), fun k hk => ?_⟩
  · rcases hs.new k hk with h4 | h4
    · exact (hT k h4).2 e
    · omega
  · rcases hk with hk | hk
    · exact Nat.lt_of_lt_of_le (h.lt k hk) hs.only.size
    · exact hd.lt k hk
  · rcases hk with hk | hk
    · exact .inl hk
    · exact (hs.new k hk).imp (fun h4 => (hT k h4).1) id
/-- a cell of the block is set -/
theorem OutAt.set (h : OutAt w S o O X L) (j : Nat) (u : Value) (hX : ∀ v, (outC O v).setIfInBounds j u = outC O' v) : OutAt (w.setCell ⟨o, j, none⟩ u) S o O' X L ∧ Step w S (w.setCell ⟨o, j, none⟩ u) S := by
  obtain ⟨s, T, h1, h2, h3⟩ := h.row
  have ho : Only (fun k => k = o) w (w.setCell ⟨o, j, none⟩ u) := Only.setCell _ _ _ rfl
  refine ⟨⟨⟨s, T, ?_, h2.keep ho (fun k hk e => (h3 k hk).2 e), h3⟩, h.oS, fun k hk => Nat.lt_of_lt_of_le (h.lt k hk) ho.size⟩, ho.mono (fun k hk => by rw [hk]; exact h.oS), fun k hk => .inl hk⟩
  rw [← hX]
  exact heap_setCell_same _ o j _ _ u h1
/-- a new session: another sender -/
theorem out_fresh {v : Value} (h1 : w.heap[o]? = some (.cells (outC O v) 70 (0, 0))) (oS : S o) (hlt : ∀ k, S k → k < w.heap.size) (hs : SdAt w T s X' L') (hT : ∀ k, T k → ¬ S k) (v6 v7 : Value) (h7 : v7 = .pointer (some ⟨s, 0, none⟩)) (hO : ∀ a b, ((outC O a).setIfInBounds 6 v6).setIfInBounds 7 b = outC O' b) :
    OutAt ((w.setCell ⟨o, 6, none⟩ v6).setCell ⟨o, 7, none⟩ v7) (fun k => S k ∨ T k) o O' X' L' := by
  have ho : Only (fun k => k = o) w ((w.setCell ⟨o, 6, none⟩ v6).setCell ⟨o, 7, none⟩ v7) := (Only.setCell (T := fun k => k = o) _ _ _ rfl).trans (Only.setCell (T := fun k => k = o) _ _ _ rfl) (fun _ h => .inl h)
  have hoT : ∀ k, T k → k ≠ o := fun k hk e => hT k hk (by rw [e]; exact oS)
  refine ⟨⟨s, T, ?_, hs.keep ho (fun k hk e => hoT k hk e), fun k hk => ⟨.inr hk, hoT k hk⟩⟩, .inl oS, fun k hk => ?_⟩
  · rw [← h7, ← hO v]
    exact heap_setCell_same _ o 7 _ _ v7 (heap_setCell_same _ o 6 _ _ v6 h1)
  · rcases hk with hk | hk
    · exact Nat.lt_of_lt_of_le (hlt k hk) ho.size
    · exact Nat.lt_of_lt_of_le (hs.lt k hk) ho.size
/-- a call on the receiver -/
theorem InAt.turn (h : InAt w S i I V F k) (hc : w.cell? ⟨i, 5, none⟩ = some (.pointer (some ⟨s, 0, none⟩))) (hs : S s) (hm : S m) (hsi : s ≠ i) (hmi : m ≠ i) (ho : Only (fun k => k = s ∨ k = m) w w') (hr : RvAt w' s m V' F' k') (hl : ∀ q x, F' q = some x → F q = some x ∨ ∀ a, x.A = some a → 0 < x.x.l.length → ¬ S a.block) :
    InAt w' S i I V' F' k' ∧ Step w S w' S := by
  obtain ⟨s2, m2, h1, h2, h3⟩ := h.row
  have hc2 : w.cell? ⟨i, 5, none⟩ = some (.pointer (some ⟨s2, 0, none⟩)) := cell_of_row _ _ 5 _ _ _ h1
  rw [hc] at hc2
  injection hc2 with hc2
  injection hc2 with hc2
  injection hc2 with hc2
  have e : s = s2 := congrArg Addr.block hc2
  subst e
  refine ⟨⟨⟨s, m, (ho.block i (h.lt i h.iS) (fun e => e.elim (fun e => hsi e.symm) (fun e => hmi e.symm))).trans h1, hr, hs, hm, hsi, hmi⟩, h.iS, fun k hk => Nat.lt_of_lt_of_le (h.lt k hk) ho.size, fun q x hq => (hl q x hq).elim (h.lab q x) id⟩, ho.mono (fun k hk => hk.elim (fun e => by rw [e]; exact hs) (fun e => by rw [e]; exact hm)), fun k hk => .inl hk⟩
/-- a new epoch: another receiver -/
theorem in_fresh {v : Value} (h1 : w.heap[i]? = some (.cells (inC I v) 80 (0, 0))) (iS : S i) (hlt : ∀ k, S k → k < w.heap.size) (hr : RvAt w s m V' (fun _ => none) k') (hs : ¬ S s) (hm : ¬ S m) (v4 v5 : Value) (h5 : v5 = .pointer (some ⟨s, 0, none⟩)) (hI : ∀ a b, ((inC I a).setIfInBounds 4 v4).setIfInBounds 5 b = inC I' b) :
    InAt ((w.setCell ⟨i, 4, none⟩ v4).setCell ⟨i, 5, none⟩ v5) (fun k => S k ∨ k = s ∨ k = m) i I' V' (fun _ => none) k' := by
  have ho : Only (fun k => k = i) w ((w.setCell ⟨i, 4, none⟩ v4).setCell ⟨i, 5, none⟩ v5) := (Only.setCell (T := fun k => k = i) _ _ _ rfl).trans (Only.setCell (T := fun k => k = i) _ _ _ rfl) (fun _ h => .inl h)
  have hsi : s ≠ i := fun e => hs (by rw [e]; exact iS)
  have hmi : m ≠ i := fun e => hm (by rw [e]; exact iS)
  refine ⟨⟨s, m, ?_, hr.keep ho hsi hmi (fun q x hq => by cases hq), .inr (.inl rfl), .inr (.inr rfl), hsi, hmi⟩, .inl iS, fun k hk => ?_, fun q x hq => by cases hq⟩
  · rw [← h5, ← hI v]
    exact heap_setCell_same _ i 5 _ _ v5 (heap_setCell_same _ i 4 _ _ v4 h1)
  · rcases hk with hk | hk | hk
    · exact Nat.lt_of_lt_of_le (hlt k hk) ho.size
    · rw [hk]; exact Nat.lt_of_lt_of_le hr.slt ho.size
    · rw [hk]; exact Nat.lt_of_lt_of_le hr.mi.lt ho.size
end
theorem Try.infoOut : (Try.prog.info? 70).map (·.size) = some 9 := by kernel_rfl
theorem Try.infoIn : (Try.prog.info? 80).map (·.size) = some 6 := by kernel_rfl
theorem Try.infoFrm : (Try.prog.info? 32).map (·.size) = some 21 := by kernel_rfl
end Go.Proofs.Ytocdhnlffemnhaa
/- Layer 12: the ends of a link: which may be; a frame's kind and way. -/
namespace Go.Proofs.Ytocdhnlffemnhaa
open Go.RowKit

theorem Try.infoEnds : (Try.prog.info? 66).map (·.size) = some 3 := by kernel_rfl
theorem below_row {w : World} {cs cs' : Array Value} {t : TypeId} : Below w.heap.size w ((w.alloc (.cells cs t)).setRow w.heap.size cs') := below_setRow ((Below.refl _ _).alloc (Nat.le_refl _) _) (Nat.le_refl _) _
set_option maxRecDepth 100000 in
set_option maxHeartbeats 400000 in
theorem newEnds_node (a b l : Nat) (h : 31 < a ∨ 31 < b ∨ a = b) (w : World) :
    Calls Try.prog 22 #[.int .u8 a, .int .u8 b, .int .u64 l] w fun e w' => e = .returned (.tuple #[.agg #[.int .u8 0, .int .u8 0, .int .u64 0], .int .i64 20]) ∧ Below w.heap.size w w' := by
  obtain ⟨b1, hb1⟩ : ∃ b1, b1 = decide (32 ≤ a) := ⟨_, rfl⟩
  obtain ⟨b2, hb2⟩ : ∃ b2, b2 = decide (32 ≤ b) := ⟨_, rfl⟩
  obtain ⟨b3, hb3⟩ : ∃ b3, b3 = ((a : Int) == (b : Int)) := ⟨_, rfl⟩
  have f1 : decide ((32 : Int) ≤ (a : Int)) = b1 := by rw [hb1]; exact decide_eq_decide.2 (by omega)
  have f2 : decide ((32 : Int) ≤ (b : Int)) = b2 := by rw [hb2]; exact decide_eq_decide.2 (by omega)
  have g1 : decide (32 ≤ a) = b1 := hb1.symm
  have g2 : decide (32 ≤ b) = b2 := hb2.symm
  have g3 : ((a : Int) == (b : Int)) = b3 := hb3.symm
  have hbb : (b1 || b2 || b3) = true := by
    rw [hb1, hb2, hb3]
    rcases h with h | h | h
    · rw [decide_eq_true (show 32 ≤ a by omega)]; rfl
    · rw [decide_eq_true (show 32 ≤ b by omega)]; simp
    · rw [h]; simp
  have HBX := Lib.hid (heap_alloc_new w (.cells #[.int .u8 0, .int .u8 0, .int .u64 0] 66))
  clear hb1 hb2 hb3 h
  go_enter Try.func22, Try.ntmps22
  cases b1 <;> cases b2 <;> cases b3 <;> first | cases hbb | skip
  all_goals
    go_wp2_with (refine wpList_store_row rfl _ _ _ rfl w.heap.size _ rfl rfl _ _ HBX.out Try.infoEnds rfl (by simp [Value.oneCell']) ?_)
    refine bodyPost_ret (v := .tuple #[.agg #[.int .u8 0, .int .u8 0, .int .u64 0], .int .i64 20]) (results_cell_two rfl _ _ w.heap.size _ _ _ _ rfl rfl (setRow_heap _ _ _ _ _ _ HBX.out) Try.underlying66 rfl Try.infoEnds) rfl ⟨rfl, below_row⟩
set_option maxRecDepth 100000 in
set_option maxHeartbeats 400000 in
theorem newEnds_range (a b l : Nat) (ha : a ≤ 31) (hb : b ≤ 31) (hab : a ≠ b) (h : l = 0 ∨ 1048575 < l) (w : World) :
    Calls Try.prog 22 #[.int .u8 a, .int .u8 b, .int .u64 l] w fun e w' => e = .returned (.tuple #[.agg #[.int .u8 0, .int .u8 0, .int .u64 0], .int .i64 6]) ∧ Below w.heap.size w w' := by
  have f1 : decide ((32 : Int) ≤ (a : Int)) = false := decide_eq_false (by omega)
  have f2 : decide ((32 : Int) ≤ (b : Int)) = false := decide_eq_false (by omega)
  have g1 : decide (32 ≤ a) = false := decide_eq_false (by omega)
  have g2 : decide (32 ≤ b) = false := decide_eq_false (by omega)
  have g3 : ((a : Int) == (b : Int)) = false := by rw [beq_eq_false_iff_ne]; omega
  obtain ⟨b1, hb1⟩ : ∃ b1, b1 = ((l : Int) == 0) := ⟨_, rfl⟩
  obtain ⟨b2, hb2⟩ : ∃ b2, b2 = decide (1048575 < l) := ⟨_, rfl⟩
  have k1 : ((l : Int) == 0) = b1 := hb1.symm
  have k2 : decide (1048575 < l) = b2 := hb2.symm
  have k3 : decide ((1048575 : Int) < (l : Int)) = b2 := by rw [hb2]; exact decide_eq_decide.2 (by omega)
  have hbb : (b1 || b2) = true := by
    rw [hb1, hb2]
    rcases h with h | h
    · rw [h]; rfl
    · rw [decide_eq_true h]; simp
  have HBX := Lib.hid (heap_alloc_new w (.cells #[.int .u8 0, .int .u8 0, .int .u64 0] 66))
  clear hb1 hb2 h hab ha hb
  go_enter Try.func22, Try.ntmps22
  cases b1 <;> cases b2 <;> first | cases hbb | skip
  all_goals
    go_wp2_with (refine wpList_store_row rfl _ _ _ rfl w.heap.size _ rfl rfl _ _ HBX.out Try.infoEnds rfl (by simp [Value.oneCell']) ?_)
    refine bodyPost_ret (v := .tuple #[.agg #[.int .u8 0, .int .u8 0, .int .u64 0], .int .i64 6]) (results_cell_two rfl _ _ w.heap.size _ _ _ _ rfl rfl (setRow_heap _ _ _ _ _ _ HBX.out) Try.underlying66 rfl Try.infoEnds) rfl ⟨rfl, below_row⟩
set_option maxRecDepth 100000 in
set_option maxHeartbeats 400000 in
theorem newEnds_any (a b l : Nat) (ha : a ≤ 31) (hb : b ≤ 31) (hab : a ≠ b) (hl : 1 ≤ l) (hl2 : l ≤ 1048575) (w : World) :
    Calls Try.prog 22 #[.int .u8 a, .int .u8 b, .int .u64 l] w fun e w' => e = .returned (.tuple #[.agg #[.int .u8 a, .int .u8 b, .int .u64 l], .int .i64 0]) ∧ Below w.heap.size w w' := by
  have f1 : decide ((32 : Int) ≤ (a : Int)) = false := decide_eq_false (by omega)
  have f2 : decide ((32 : Int) ≤ (b : Int)) = false := decide_eq_false (by omega)
  have g1 : decide (32 ≤ a) = false := decide_eq_false (by omega)
  have g2 : decide (32 ≤ b) = false := decide_eq_false (by omega)
  have g3 : ((a : Int) == (b : Int)) = false := by rw [beq_eq_false_iff_ne]; omega
  have k1 : ((l : Int) == 0) = false := by rw [beq_eq_false_iff_ne]; omega
  have k2 : decide (1048575 < l) = false := decide_eq_false (by omega)
  have k3 : decide ((1048575 : Int) < (l : Int)) = false := decide_eq_false (by omega)
  have HBX := Lib.hid (heap_alloc_new w (.cells #[.int .u8 0, .int .u8 0, .int .u64 0] 66))
  go_enter Try.func22, Try.ntmps22
  go_wp2_with (refine wpList_store_row rfl _ _ _ rfl w.heap.size _ rfl rfl _ _ HBX.out Try.infoEnds rfl (by simp [Value.oneCell']) ?_)
  refine bodyPost_ret (v := .tuple #[.agg #[.int .u8 a, .int .u8 b, .int .u64 l], .int .i64 0]) (results_cell_two rfl _ _ w.heap.size _ _ _ _ rfl rfl (setRow_heap _ _ _ _ _ _ HBX.out) Try.underlying66 rfl Try.infoEnds) rfl ⟨rfl, below_row⟩
end Go.Proofs.Ytocdhnlffemnhaa
