/- Layer 11: the document's own receiver in memory: its block, its row of numbers and items; Find. -/
import Derived.Test.YtileaoanekphaaaRvAck
import Derived.Test.YtileaoanekphaaaHeldK
import Derived.Test.YtileaoanekphaaaApp
import Derived.Test.YtileaoanekphaaaItRefCheck
namespace Go.Proofs.Ytileaoanekphaaa
open Go.RowKit

/-- the window, the expected number, how many came that were there -/
structure Mr where
  W : Nat
  n : Nat
  o : Nat
def mrC (X : Mr) (v : Value) : Array Value := #[.int .i64 X.W, .int .u64 X.n, .int .u64 X.o, v]
structure EtOk (w : World) (S : Nat → Prop) (e : Ett) : Prop where
  ix : e.i < 18446744073709551616
  ln : e.x.l.length ≤ 1000
  nil : e.A = none → e.x.l.length = 0
  rd : RdP w w.heap.size e.A e.x.l
  ap : ∀ a, e.A = some a → 0 < e.x.l.length → ¬ S a.block
structure MrR (w : World) (S : Nat → Prop) (g : Nat) (v : Value) (L : List Ett) : Prop where
  own : w.ownsRow 0 60 14 v L.length (cellsE L)
  vg : v.ownBlock ≠ some g
  vS : ∀ i, v.ownBlock = some i → S i
structure MrAt (w : World) (S : Nat → Prop) (g : Nat) (X : Mr) (L : List Ett) : Prop where
  row : ∃ v, w.heap[g]? = some (.cells (mrC X v) 32 (0, 0)) ∧ MrR w S g v L
  sS : S g
  lt : ∀ k, S k → k < w.heap.size
  few : L.length ≤ 1000
  ent : ∀ e ∈ L, EtOk w S e
section
variable {w w' : World} {S S' T : Nat → Prop} {g : Nat} {X : Mr} {v : Value} {L : List Ett} {e : Ett}
theorem EtOk.only (h : EtOk w S e) (ho : Only T w w') (hT : ∀ a, e.A = some a → 0 < e.x.l.length → ¬ T a.block) (hS : ∀ k, S' k → S k ∨ w.heap.size ≤ k) : EtOk w' S' e :=
  ⟨h.ix, h.ln, h.nil, ho.rdP h.rd hT, fun a ha h0 hs => (hS _ hs).elim (h.ap a ha h0) (fun h' => by have := rdP_lt h.rd ha h0; omega)⟩
theorem EtOk.step (h : EtOk w S e) (hs : Step w S w' S') : EtOk w' S' e := h.only hs.only h.ap hs.new
theorem MrR.only (h : MrR w S g v L) (ho : Only T w w') (hT : ∀ k, S k → ¬ T k) : MrR w' S g v L := ⟨ho.own h.own (fun k hk => hT k (h.vS k hk)), h.vg, h.vS⟩
theorem MrAt.keep (h : MrAt w S g X L) (ho : Only T w w') (hT : ∀ k, S k → ¬ T k) (hE : ∀ e ∈ L, ∀ a, e.A = some a → 0 < e.x.l.length → ¬ T a.block) : MrAt w' S g X L := by
  obtain ⟨v, h1, h2⟩ := h.row
  exact ⟨⟨v, (ho.block g (h.lt g h.sS) (hT g h.sS)).trans h1, h2.only ho hT⟩, h.sS, fun k hk => Nat.lt_of_lt_of_le (h.lt k hk) ho.size, h.few, fun e he => (h.ent e he).only ho (hE e he) (fun _ h => .inl h)⟩
theorem MrAt.below (h : MrAt w S g X L) (hb : Below w.heap.size w w') : MrAt w' S g X L := h.keep (T := fun _ => False) (Only.of_below hb _) (fun _ _ h => h) (fun _ _ _ _ _ h => h)
theorem MrAt.cells (h : MrAt w S g X L) : ∃ A c, MrR w S g (.slice A L.length c) L ∧ w.cell? ⟨g, 0, none⟩ = some (.int .i64 X.W) ∧ w.cell? ⟨g, 1, none⟩ = some (.int .u64 X.n) ∧ w.cell? ⟨g, 2, none⟩ = some (.int .u64 X.o) ∧ w.cell? ⟨g, 3, none⟩ = some (.slice A L.length c) ∧ ∀ j, w.frozen? ⟨g, j, none⟩ = false := by
  obtain ⟨v, h1, h2⟩ := h.row
  obtain ⟨A, c, rfl⟩ := ownB_slice h2.own
  exact ⟨A, c, h2, cell_of_row _ _ 0 _ _ _ h1, cell_of_row _ _ 1 _ _ _ h1, cell_of_row _ _ 2 _ _ _ h1, cell_of_row _ _ 3 _ _ _ h1, fun j => frozen_of_row _ _ j _ _ h1⟩
/-- an entry of the row -/
theorem MrR.at_ {k : Nat} (h : MrR w S g v L) (hk : L[k]? = some e) : ∃ b c, v = .slice (some ⟨b, 0, none⟩) L.length c ∧ b < w.heap.size ∧ w.rangeAt b (k * 14) (entC e) ∧ w.rangeAt b (k * 14 + 1) (itC e.x e.A e.c) := by
  have hkl := (List.getElem?_eq_some_iff.1 hk).1
  obtain ⟨b, c, hv, _, hlt⟩ := h.own.form (by omega)
  subst hv
  have hc : ∀ (j : Nat) u, (entC e)[j]? = some u → w.cell? ⟨b, k * 14 + j, none⟩ = some u := fun j u hj => by
    have := h.own.cells (g := b) rfl _ _ (cellsE_get hk hj)
    rw [Addr.add_lit, Nat.zero_add] at this
    exact this
  refine ⟨b, c, rfl, hlt, hc, fun j u hj => ?_⟩
  have := hc (j + 1) u hj
  rw [show k * 14 + 1 + j = k * 14 + (j + 1) by omega]
  exact this
/-- a number of the block is set -/
theorem MrAt.set {X' : Mr} (h : MrAt w S g X L) (j : Nat) (u : Value) (hX : ∀ v, (mrC X v).setIfInBounds j u = mrC X' v) : MrAt (w.setCell ⟨g, j, none⟩ u) S g X' L := by
  obtain ⟨v, h1, h2⟩ := h.row
  have ho : Only (fun k => k = g) w (w.setCell ⟨g, j, none⟩ u) := Only.setCell _ _ _ rfl
  refine ⟨⟨v, ?_, ho.own h2.own (fun k hk e => h2.vg (by rw [hk, e])), h2.vg, h2.vS⟩, h.sS, fun k hk => Nat.lt_of_lt_of_le (h.lt k hk) ho.size, h.few, fun e he => (h.ent e he).only ho (fun a ha h0 hk => (h.ent e he).ap a ha h0 (by rw [hk]; exact h.sS)) (fun _ h => .inl h)⟩
  rw [← hX v]
  exact heap_setCell_same _ g j _ _ u h1
/-- the row is another one: in w the block still has the old one -/
theorem MrAt.row_new {v' : Value} {L' : List Ett} (hb : w.heap[g]? = some (.cells (mrC X v) 32 (0, 0))) (hr : MrR w S g v' L') (hl : ∀ k, S k → k < w.heap.size) (hs : S g) (hf : L'.length ≤ 1000) (he : ∀ e ∈ L', EtOk w S e) :
    MrAt (w.setCell ⟨g, 3, none⟩ v') S g X L' := by
  have ho : Only (fun k => k = g) w (w.setCell ⟨g, 3, none⟩ v') := Only.setCell _ _ _ rfl
  exact ⟨⟨v', heap_setCell_same _ g 3 _ _ _ hb, ho.own hr.own (fun k hk e => hr.vg (by rw [hk, e])), hr.vg, hr.vS⟩, hs, fun k hk => Nat.lt_of_lt_of_le (hl k hk) ho.size, hf, fun e h => (he e h).only ho (fun a ha h0 hk => (he e h).ap a ha h0 (by rw [hk]; exact hs)) (fun _ h => .inl h)⟩
/-- a new one -/
theorem MrAt.made (w : World) (W : Nat) : MrAt (w.alloc (.cells (mrC ⟨W, 1, 0⟩ (.slice none 0 0)) 32)) (fun k => k = w.heap.size) w.heap.size ⟨W, 1, 0⟩ [] :=
  ⟨⟨.slice none 0 0, heap_alloc_new _ _, ⟨World.ownsRow_nil _ _ _ _, (fun h => by cases h), (fun i h => by cases h)⟩⟩, rfl, (fun k hk => by rw [hk]; simp), by decide, (fun e he => by cases he)⟩

/-- where a number is -/
def posE (L : List Ett) (q : Nat) : Option Nat := L.findIdx? (fun e => e.i == q)
def posZ (L : List Ett) (q : Nat) : Int := match posE L q with | some j => (j : Int) | none => -1
theorem posE_none {q : Nat} (h : ∀ e ∈ L, e.i ≠ q) : posE L q = none := by
  unfold posE
  rw [List.findIdx?_eq_none_iff]
  intro e he
  rw [beq_eq_false_iff_ne]
  exact h e he
theorem posE_some {q j : Nat} (hj : L[j]? = some e) (he : e.i = q) (hb : ∀ i, i < j → ∀ e', L[i]? = some e' → e'.i ≠ q) : posE L q = some j := by
  unfold posE
  obtain ⟨hjl, hje⟩ := List.getElem?_eq_some_iff.1 hj
  rw [List.findIdx?_eq_some_iff_getElem]
  refine ⟨hjl, by rw [hje, he]; exact beq_self_eq_true q, fun i hi => ?_⟩
  have := hb i hi _ (List.getElem?_eq_getElem (by omega))
  simpa using this
set_option maxRecDepth 100000 in
set_option maxHeartbeats 1000000 in
theorem mfind_any (q : Nat) (w : World) (h : MrAt w S g X L) :
    Calls Try.prog 15 #[.pointer (some ⟨g, 0, none⟩), .int .u64 q] w fun e w' => e = .returned (.int .i64 (posZ L q)) ∧ Below w.heap.size w w' := by
  obtain ⟨A, c, hr, -, -, -, c3, -⟩ := h.cells
  have HR := Lib.hid hr
  have HL := Lib.hid h.few
  have hgl := h.lt g h.sS
  obtain ⟨n, hn⟩ : ∃ n, n = L.length := ⟨_, rfl⟩
  rw [← hn] at c3 HR HL
  have HC3 : Hid (∀ W, Below w.heap.size w W → W.cell? ⟨g, 3, none⟩ = some (.slice A n c)) := fun W hW => (hW.cell (p := ⟨g, 3, none⟩) hgl).trans c3
  have HN := Lib.hid hn
  clear h hr c3 hgl hn
  go_enter Try.func15, Try.ntmps15
  go_wp2
  go_loopw [5] (fun iv wx => ∃ i : Nat, i ≤ n ∧ iv = .int .i64 i ∧ Hid (Below w.heap.size w wx) ∧ Hid (∀ j, j < i → ∀ e, L[j]? = some e → e.i ≠ q)) (fun iv _ => n - (intOf iv).toNat)
  case atStart => exact ⟨0, Nat.zero_le _, rfl, Below.refl _ _, fun j hj => by omega⟩
  case round =>
    obtain ⟨i, hi, rfl, HB, HNO⟩ := hrel
    have c3 := HC3.out _ HB.out
    have hn1000 := HL.out
    by_cases hlt : i < n
    · have q1 : decide ((i : Int) < (n : Int)) = true := decide_eq_true (by omega)
      have q2 : decide (i < n) = true := decide_eq_true hlt
      obtain ⟨y, hy⟩ : ∃ y, L[i]? = some y := ⟨_, List.getElem?_eq_getElem (by rw [← HN.out]; exact hlt)⟩
      obtain ⟨b, c', hv, hbl, hr1, -⟩ := HR.out.at_ hy
      injection hv with hv1 _ _
      subst hv1
      have ci : wr.cell? ⟨b, i * 14, none⟩ = some (.int .u64 y.i) := (HB.out.cell (p := ⟨b, i * 14, none⟩) hbl).trans (hr1 0 _ rfl)
      have HY := Lib.hid hy
      clear hy hr1 hbl
      by_cases he : y.i = q
      · have d1 : ((y.i : Int) == (q : Int)) = true := by rw [beq_iff_eq]; omega
        have d2 : (y.i == q) = true := by rw [beq_iff_eq]; exact he
        have hz : posZ L q = (i : Int) := by unfold posZ; rw [posE_some HY.out he HNO.out]
        have HZ := Lib.hid hz
        subst he
        clear hz
        go_wp2
        go_ret
        exact ⟨by rw [HZ.out]; rfl, HB.out⟩
      · have d1 : ((y.i : Int) == (q : Int)) = false := by rw [beq_eq_false_iff_ne]; omega
        have d2 : (y.i == q) = false := by rw [beq_eq_false_iff_ne]; exact he
        have HNO2 : Hid (∀ j, j < i + 1 → ∀ e, L[j]? = some e → e.i ≠ q) := fun j hj e hje => by
          rcases Nat.lt_or_ge j i with h1 | h1
          · exact HNO.out j h1 e hje
          · obtain rfl : j = i := by omega
            rw [HY.out] at hje
            injection hje with hje
            rw [← hje]; exact he
        clear HNO
        go_wp2
        go_roundw
        case rel => exact ⟨i + 1, by omega, by go_num, HB.out, HNO2.out⟩
        case measure => simp [intOf]; omega
    · obtain rfl : i = n := by omega
      have q1 : decide ((i : Int) < (i : Int)) = false := decide_eq_false (by omega)
      have q2 : decide (i < i) = false := decide_eq_false (by omega)
      have hz : posZ L q = -1 := by
        unfold posZ
        rw [posE_none (fun e he => by
          obtain ⟨j, hj, hje⟩ := List.getElem_of_mem he
          exact HNO.out j (by rw [HN.out]; exact hj) e (by rw [List.getElem?_eq_getElem hj, hje]))]
      have HZ := Lib.hid hz
      clear hz
      go_wp2
      go_ret
      exact ⟨by rw [HZ.out]; rfl, HB.out⟩
end
theorem Try.infoHe : (Try.prog.info? 60).map (fun i => (i.zero, i.size, i.bytes)) = some (some (.agg #[.int .u64 0, .bool false, .int .u8 0, .int .u64 0, .int .u64 0, .string ⟨#[]⟩, .slice none 0 0, .int .u8 0, .int .u8 0, .int .i64 0, .int .u8 0, .int .u8 0, .int .u64 0, .int .u64 0]), 14, 128) := by kernel_rfl
end Go.Proofs.Ytileaoanekphaaa
