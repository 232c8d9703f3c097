/- Layer 1: how a slice of pairs lies in memory. No program is named here. -/
import Derived.Test.YtileaoanekphaaaPlain
namespace Go.Proofs.Ytileaoanekphaaa
open Go.RowKit

/-- The slice at A reads as these pairs; it lies below block B. -/
def RdP (w : World) (B : Nat) (A : Option Addr) (l : List Pr) : Prop :=
  0 < l.length → ∃ b o, A = some ⟨b, o, none⟩ ∧ b < B ∧ ∀ (i : Nat) (p : Pr), l[i]? = some p → w.cell? ⟨b, o + i * 2, none⟩ = some (.string p.1) ∧ w.cell? ⟨b, o + i * 2 + 1, none⟩ = some (.string p.2)

/-- No string is longer than can be read. -/
def OkP (l : List Pr) : Prop := ∀ (i : Nat) (p : Pr), l[i]? = some p → p.1.size ≤ maxLen ∧ p.2.size ≤ maxLen

section
variable {w w' : World} {B B' : Nat} {A : Option Addr} {l : List Pr}
theorem RdP.none_ : RdP w B A [] := fun h => absurd h (by simp)
theorem RdP.keep (h : RdP w B A l) (hk : ∀ p : Addr, p.block < B → w'.cell? p = w.cell? p) : RdP w' B A l := fun h0 => by
  obtain ⟨b, o, e, hb, hc⟩ := h h0
  exact ⟨b, o, e, hb, fun i p hp => ⟨(hk ⟨b, _, none⟩ hb).trans (hc i p hp).1, (hk ⟨b, _, none⟩ hb).trans (hc i p hp).2⟩⟩
theorem RdP.more (h : RdP w B A l) (hB : B ≤ B') : RdP w B' A l := fun h0 => by
  obtain ⟨b, o, e, hb, hc⟩ := h h0
  exact ⟨b, o, e, by omega, hc⟩
theorem RdP.below (h : RdP w B A l) (hb : Below B w w') : RdP w' B A l := h.keep fun _ hp => hb.cell hp
theorem RdP.at_ {k : Nat} (h : RdP w B A l) (hk : k < l.length) : ∃ b o p, A = some ⟨b, o, none⟩ ∧ b < B ∧ l[k]? = some p ∧ w.cell? ⟨b, o + k * 2, none⟩ = some (.string p.1) ∧ w.cell? ⟨b, o + k * 2 + 1, none⟩ = some (.string p.2) := by
  obtain ⟨b, o, e, hb, hc⟩ := h (by omega)
  have hg : l[k]? = some (l[k]) := List.getElem?_eq_getElem hk
  exact ⟨b, o, l[k], e, hb, hg, (hc k _ hg).1, (hc k _ hg).2⟩
theorem RdP.two {j : Nat} (h : RdP w B A l) (hk : j + 1 < l.length) : ∃ b o q p, A = some ⟨b, o, none⟩ ∧ b < B ∧ l[j]? = some q ∧ l[j + 1]? = some p ∧
    (∀ w', Below B w w' → w'.cell? ⟨b, o + j * 2, none⟩ = some (.string q.1) ∧ w'.cell? ⟨b, o + j * 2 + 1, none⟩ = some (.string q.2) ∧ w'.cell? ⟨b, o + (j + 1) * 2, none⟩ = some (.string p.1) ∧ w'.cell? ⟨b, o + (j + 1) * 2 + 1, none⟩ = some (.string p.2)) := by
  obtain ⟨b, o, e, hb, hc⟩ := h (by omega)
  have g1 : l[j]? = some (l[j]) := List.getElem?_eq_getElem (by omega)
  have g2 : l[j + 1]? = some (l[j + 1]) := List.getElem?_eq_getElem hk
  refine ⟨b, o, _, _, e, hb, g1, g2, fun w' hw => ⟨?_, ?_, ?_, ?_⟩⟩
  · exact (hw.cell (p := ⟨b, _, none⟩) hb).trans (hc _ _ g1).1
  · exact (hw.cell (p := ⟨b, _, none⟩) hb).trans (hc _ _ g1).2
  · exact (hw.cell (p := ⟨b, _, none⟩) hb).trans (hc _ _ g2).1
  · exact (hw.cell (p := ⟨b, _, none⟩) hb).trans (hc _ _ g2).2
theorem RdP.of_own {base : Nat} {e : TypeId} {n c : Nat} (h : w.ownsRow base e 2 (.slice A n c) n (cellsP l)) : RdP w w.heap.size A l := fun h0 => by
  have hn : n = l.length := by have := h.1; rw [cellsP_length] at this; omega
  obtain ⟨g, cap, hv, _, hlt⟩ := h.form (by omega)
  have hA : A = some ⟨g, 0, none⟩ := by injection hv
  subst hA
  have hcs := h.cells (g := g) rfl
  refine ⟨g, 0, rfl, hlt, fun i p hp => ?_⟩
  obtain ⟨h1, h2⟩ := cellsP_get l i p hp
  have c1 := hcs _ _ h1
  have c2 := hcs _ _ h2
  rw [Addr.add_lit] at c1 c2
  exact ⟨c1, by rw [Nat.add_assoc]; exact c2⟩
end
theorem below_drewN {B : Nat} {a w : World} (h : Below B a w) (n : Nat) : Below B a (w.drewN n) := ⟨h.os, h.tape, h.output, h.size, h.block⟩
/-- behind a call: the block of two cells that was made last still holds them; what lay below is as it was -/
theorem boxed {B : Nat} {w0 w w2 : World} {a b : Value} {t : TypeId} (h0 : Below B w0 w) (hB : B ≤ w.heap.size) (hb : Below (w.alloc (.cells #[a, b] t)).heap.size (w.alloc (.cells #[a, b] t)) w2) :
    w2.cell? ⟨w.heap.size, 0, none⟩ = some a ∧ w2.cell? ⟨w.heap.size, 1, none⟩ = some b ∧ Below B w0 w2 ∧ w.heap.size < w2.heap.size := by
  have hs := hb.size
  simp at hs
  refine ⟨?_, ?_, (h0.alloc hB _).trans (hb.mono (by simp; omega)), by omega⟩
  · rw [hb.cell (p := ⟨w.heap.size, 0, none⟩) (by simp), World.cell?_alloc_at _ _ _ _ rfl]; rfl
  · rw [hb.cell (p := ⟨w.heap.size, 1, none⟩) (by simp), World.cell?_alloc_at _ _ _ _ rfl]; rfl
/-- behind one call more -/
theorem later {B : Nat} {w0 w w2 : World} {g : Nat} {a b : Value} (h1 : w.cell? ⟨g, 0, none⟩ = some a) (h2 : w.cell? ⟨g, 1, none⟩ = some b) (h0 : Below B w0 w) (hg : g < w.heap.size) (hB : B ≤ w.heap.size) (hb : Below w.heap.size w w2) :
    w2.cell? ⟨g, 0, none⟩ = some a ∧ w2.cell? ⟨g, 1, none⟩ = some b ∧ Below B w0 w2 ∧ g < w2.heap.size :=
  ⟨(hb.cell (p := ⟨g, 0, none⟩) hg).trans h1, (hb.cell (p := ⟨g, 1, none⟩) hg).trans h2, h0.trans (hb.mono hB), by have := hb.size; omega⟩
end Go.Proofs.Ytileaoanekphaaa
