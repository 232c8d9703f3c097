/- Layer 4: item.Put. -/
import Derived.Test.YtileaoanekphaaaItPlain
import Derived.Test.YtileaoanekphaaaPkWtr
import Derived.Test.YtileaoanekphaaaRead
namespace Go.Proofs.Ytileaoanekphaaa
open Go.RowKit

/-- a text, a label, labels, an event, a gap, an item as they are put -/
def textB (s : ByteArray) : List Nat := leb s.size ++ bytesN s
def labsB : List Pr → List Nat
  | [] => []
  | p :: r => textB p.1 ++ textB p.2 ++ labsB r
def headB (x : It) : List Nat := [x.o] ++ leb x.q ++ leb x.t ++ textB x.r ++ leb x.l.length
def tailB (x : It) : List Nat := [x.s] ++ [x.p] ++ leb (zig x.v) ++ [x.w]
def evB (x : It) : List Nat := headB x ++ labsB x.l ++ tailB x
def gapB (x : It) : List Nat := [x.ga] ++ leb x.gf ++ leb x.gt
def itemB (x : It) : List Nat := if x.g then 1 :: gapB x else 0 :: evB x

theorem textB_length (s : ByteArray) : (textB s).length = (leb s.size).length + s.size := by rw [textB, List.length_append, bytesN_length]
theorem labsB_append : ∀ (a b : List Pr), labsB (a ++ b) = labsB a ++ labsB b
  | [], b => rfl
  | p :: r, b => by simp [labsB, labsB_append r b]
theorem labsB_take {l : List Pr} {k : Nat} {p : Pr} (h : l[k]? = some p) : labsB (l.take (k + 1)) = labsB (l.take k) ++ textB p.1 ++ textB p.2 := by
  obtain ⟨h1, rfl⟩ := List.getElem?_eq_some_iff.1 h
  rw [List.take_succ_eq_append_getElem h1, labsB_append]
  simp [labsB]
theorem labsB_le (l : List Pr) (k : Nat) : (labsB (l.take k)).length ≤ (labsB l).length := by
  conv => rhs; rw [← List.take_append_drop k l, labsB_append, List.length_append]
  omega
theorem labsB_mem {l : List Pr} {k : Nat} {p : Pr} (h : l[k]? = some p) : (labsB (l.take k)).length + (textB p.1).length + (textB p.2).length ≤ (labsB l).length := by
  have := labsB_le l (k + 1)
  rw [labsB_take h, List.length_append, List.length_append] at this
  omega

/-- the texts of x are short enough to be put -/
structure ShortI (x : It) : Prop where
  r : x.r.size ≤ 1048576
  l : ∀ (i : Nat) (p : Pr), x.l[i]? = some p → p.1.size ≤ 1048576 ∧ p.2.size ≤ 1048576

theorem EvAt.wrote {w w1 : World} {b g : Nat} {x : It} {A : Option Addr} {n c : Nat} {r r' : Option Nat} (h : EvAt w b x A n c) (hw : Wrote w w1 g r r') (hg : b ≠ g) (hr : some b ≠ r) : EvAt w1 b x A n c :=
  ⟨Nat.lt_of_lt_of_le h.lt hw.size, (hw.cell (p := ⟨b, 0, none⟩) h.lt hg hr).trans h.c0, (hw.cell (p := ⟨b, 1, none⟩) h.lt hg hr).trans h.c1, (hw.cell (p := ⟨b, 2, none⟩) h.lt hg hr).trans h.c2, (hw.cell (p := ⟨b, 3, none⟩) h.lt hg hr).trans h.c3, (hw.cell (p := ⟨b, 4, none⟩) h.lt hg hr).trans h.c4, (hw.cell (p := ⟨b, 5, none⟩) h.lt hg hr).trans h.c5, (hw.cell (p := ⟨b, 6, none⟩) h.lt hg hr).trans h.c6, (hw.cell (p := ⟨b, 7, none⟩) h.lt hg hr).trans h.c7, (hw.cell (p := ⟨b, 8, none⟩) h.lt hg hr).trans h.c8⟩
theorem ItAt.wrote {w w1 : World} {b g : Nat} {x : It} {A : Option Addr} {n c : Nat} {r r' : Option Nat} (h : ItAt w b x A n c) (hw : Wrote w w1 g r r') (hg : b ≠ g) (hr : some b ≠ r) : ItAt w1 b x A n c :=
  ⟨Nat.lt_of_lt_of_le h.lt hw.size, (hw.cell (p := ⟨b, 0, none⟩) h.lt hg hr).trans h.c0, (hw.cell (p := ⟨b, 1, none⟩) h.lt hg hr).trans h.c1, (hw.cell (p := ⟨b, 2, none⟩) h.lt hg hr).trans h.c2, (hw.cell (p := ⟨b, 3, none⟩) h.lt hg hr).trans h.c3, (hw.cell (p := ⟨b, 4, none⟩) h.lt hg hr).trans h.c4, (hw.cell (p := ⟨b, 5, none⟩) h.lt hg hr).trans h.c5, (hw.cell (p := ⟨b, 6, none⟩) h.lt hg hr).trans h.c6, (hw.cell (p := ⟨b, 7, none⟩) h.lt hg hr).trans h.c7, (hw.cell (p := ⟨b, 8, none⟩) h.lt hg hr).trans h.c8, (hw.cell (p := ⟨b, 9, none⟩) h.lt hg hr).trans h.c9, (hw.cell (p := ⟨b, 10, none⟩) h.lt hg hr).trans h.c10, (hw.cell (p := ⟨b, 11, none⟩) h.lt hg hr).trans h.c11, (hw.cell (p := ⟨b, 12, none⟩) h.lt hg hr).trans h.c12⟩

/-- labels that a Writer at g with the row r does not write to -/
def LabAt (w : World) (g : Nat) (r : Option Nat) (A : Option Addr) (l : List Pr) : Prop :=
  0 < l.length → ∃ b o, A = some ⟨b, o, none⟩ ∧ b < w.heap.size ∧ b ≠ g ∧ some b ≠ r ∧ ∀ (i : Nat) (p : Pr), l[i]? = some p → w.cell? ⟨b, o + i * 2, none⟩ = some (.string p.1) ∧ w.cell? ⟨b, o + i * 2 + 1, none⟩ = some (.string p.2)
theorem LabAt.wrote {w w1 : World} {g : Nat} {r r1 : Option Nat} {A : Option Addr} {l : List Pr} (h : LabAt w g r A l) (hw : Wrote w w1 g r r1) : LabAt w1 g r1 A l := fun h0 => by
  obtain ⟨b, o, e, hb, hg, hr, hc⟩ := h h0
  refine ⟨b, o, e, Nat.lt_of_lt_of_le hb hw.size, hg, ?_, fun i p hp => ⟨(hw.cell (p := ⟨b, _, none⟩) hb hg hr).trans (hc i p hp).1, (hw.cell (p := ⟨b, _, none⟩) hb hg hr).trans (hc i p hp).2⟩⟩
  rcases hw.row with h1 | ⟨k, h1, h2⟩
  · rw [h1]; exact hr
  · rw [h1]; intro e; injection e with e; omega
theorem LabAt.below {w w1 : World} {g : Nat} {r : Option Nat} {A : Option Addr} {l : List Pr} (h : LabAt w g r A l) (hb : Below w.heap.size w w1) : LabAt w1 g r A l := h.wrote (Wrote.of_below hb g r)
theorem LabAt.at_ {w : World} {g : Nat} {r : Option Nat} {A : Option Addr} {l : List Pr} {k : Nat} (h : LabAt w g r A l) (hk : k < l.length) : ∃ b o p, A = some ⟨b, o, none⟩ ∧ b < w.heap.size ∧ l[k]? = some p ∧ w.cell? ⟨b, o + k * 2, none⟩ = some (.string p.1) ∧ w.cell? ⟨b, o + k * 2 + 1, none⟩ = some (.string p.2) := by
  obtain ⟨b, o, e, hb, _, _, hc⟩ := h (by omega)
  have hg : l[k]? = some l[k] := List.getElem?_eq_getElem hk
  exact ⟨b, o, _, e, hb, hg, (hc k _ hg).1, (hc k _ hg).2⟩
/-- a Writer newer than the labels -/
theorem LabAt.of_rd {w : World} {g : Nat} {r : Option Nat} {A : Option Addr} {l : List Pr} {B : Nat} (h : RdP w B A l) (hB : B ≤ w.heap.size) (hg : B ≤ g) (hr : ∀ k, r = some k → g < k) : LabAt w g r A l := fun h0 => by
  obtain ⟨b, o, e, hb, hc⟩ := h h0
  exact ⟨b, o, e, by omega, by omega, fun e => by have := hr b e.symm; omega, hc⟩

theorem Wtr.row_lt {w : World} {g : Nat} {v : Value} {l : List Nat} (h : Wtr w g v l) {k : Nat} (e : v.ownBlock = some k) : k < w.heap.size := by
  exact (h.own.lt k e).2

end Go.Proofs.Ytileaoanekphaaa
