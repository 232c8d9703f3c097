/- Several texts in one: Plain, Mem. -/
import Derived.Below
import Derived.OneCell
import Derived.Laws.OwnMore
import Derived.Laws.Strings
import Derived.Deep.AppendLies
import Derived.Deep.Draws
import Derived.Lib.Bytealg
import Derived.Sort.Walk0
import Derived.Sort.Statements
import Derived.Lib.Hide
import Derived.Test.YtnagmopejblegaaMa1
/- Layer 1, plain words: pairs, their order, what labels are; how a slice of pairs lies in memory. No program is named here. -/
namespace Go.Proofs.Ytnagmopejblegaa
open Go.RowKit

abbrev Pr := ByteArray × ByteArray
def encP (p : Pr) : List Value := [.string p.1, .string p.2]
def cellsP (l : List Pr) : List Value := l.flatMap encP

theorem cellsP_length (l : List Pr) : (cellsP l).length = l.length * 2 := by
  induction l with
  | nil => rfl
  | cons p l ih => simp only [cellsP, List.flatMap_cons, List.length_append] at *; rw [ih]; simp [encP]; omega
theorem cellsP_append (a b : List Pr) : cellsP (a ++ b) = cellsP a ++ cellsP b := by simp [cellsP]
theorem cellsP_get (l : List Pr) (i : Nat) (p : Pr) (h : l[i]? = some p) : (cellsP l)[i * 2]? = some (.string p.1) ∧ (cellsP l)[i * 2 + 1]? = some (.string p.2) := by
  induction l generalizing i with
  | nil => simp at h
  | cons q l ih =>
    cases i with
    | zero =>
      simp at h; subst h
      simp [cellsP, encP]
    | succ i =>
      simp at h
      obtain ⟨h1, h2⟩ := ih i h
      have e : cellsP (q :: l) = .string q.1 :: .string q.2 :: cellsP l := rfl
      rw [e, show (i + 1) * 2 = i * 2 + 2 from by omega]
      exact ⟨by simpa using h1, by simpa using h2⟩
theorem cellsP_one (l : List Pr) : ∀ u ∈ cellsP l, u.oneCell' = true := by
  intro u hu
  simp only [cellsP, List.mem_flatMap] at hu
  obtain ⟨p, _, hp⟩ := hu
  simp [encP] at hp
  rcases hp with rfl | rfl <;> rfl

/-- strings: equal, less -/
def eqS (a b : ByteArray) : Bool := a.toList == b.toList
def ltS (a b : ByteArray) : Bool := Op.bytesLess a.toList b.toList
theorem eqS_iff (a b : ByteArray) : eqS a b = true ↔ a = b := by
  unfold eqS
  rw [ByteArray.toList_eq, ByteArray.toList_eq, beq_iff_eq]
  constructor
  · intro h
    cases a; cases b
    simp at h
    simpa using h
  · intro h; rw [h]
theorem eqS_refl (a : ByteArray) : eqS a a = true := (eqS_iff a a).2 rfl
theorem ltS_eq (a b : ByteArray) : ltS a b = decide (a.data.toList < b.data.toList) := by
  unfold ltS
  rw [bytesLess_eq, ByteArray.toList_eq, ByteArray.toList_eq]

/-- one pair comes ahead of another one -/
def ltP (p q : Pr) : Bool := if eqS p.1 q.1 then ltS p.2 q.2 else ltS p.1 q.1

theorem ltS_irrefl (a : ByteArray) : ltS a a = false := by rw [ltS_eq]; simp [List.lt_irrefl]
theorem ltS_trans {a b c : ByteArray} (h1 : ltS a b = true) (h2 : ltS b c = true) : ltS a c = true := by
  rw [ltS_eq] at *
  simp only [decide_eq_true_eq] at *
  exact List.lt_trans h1 h2
theorem ltS_total {a b : ByteArray} (h1 : ltS a b = false) (h2 : ltS b a = false) : a = b := by
  rw [ltS_eq] at *
  simp only [decide_eq_false_iff_not] at *
  have h : a.data.toList = b.data.toList := List.le_antisymm (List.not_lt.1 h2) (List.not_lt.1 h1)
  cases a; cases b
  simp at h
  simpa using h

/-- the pair's labels from place k on, the previous pair known: an error's number -/
def chk : Option Pr → List Pr → Nat
  | _, [] => 0
  | none, p :: r => if keyB p.1 && valueB p.2 then chk (some p) r else 8
  | some q, p :: r => if keyB p.1 && valueB p.2 then (if eqS q.1 p.1 then 7 else if ltS p.1 q.1 then 9 else chk (some p) r) else 8
def check (l : List Pr) : Nat := if 8 < l.length then 5 else chk none l
end Go.Proofs.Ytnagmopejblegaa
/- Layer 1: how a slice of pairs lies in memory. No program is named here. -/
namespace Go.Proofs.Ytnagmopejblegaa
open Go.RowKit

/-- The slice at A reads as these pairs; it lies below block B. -/
def RdP (w : World) (B : Nat) (A : Option Addr) (l : List Pr) : Prop :=
  0 < l.length → ∃ b o, A = some ⟨b, o, none⟩ ∧ b < B ∧ ∀ (i : Nat) (p : Pr), l[i]? = some p → w.cell? ⟨b, o + i * 2, none⟩ = some (.string p.1) ∧ w.cell? ⟨b, o + i * 2 + 1, none⟩ = some (.string p.2)

/-- No string is longer than can be read. -/
def OkP (l : List Pr) : Prop := ∀ (i : Nat) (p : Pr), l[i]? = some p → p.1.size ≤ maxLen ∧ p.2.size ≤ maxLen

section
variable {w w' : World} {B B' : Nat} {A : Option Addr} {l : List Pr}
theorem RdP.none_ : RdP w B A [] := fun h => absurd h (by simp)
theorem RdP.keep (h : RdP w B A l) (hk : ∀ p : Addr, p.block < B → w'.cell? p = w.cell? p) : RdP w' B A l := fun h0 => by
  obtain ⟨b, o, e, hb, hc⟩ := h h0
  exact ⟨b, o, e, hb, fun i p hp => ⟨(hk ⟨b, _, none⟩ hb).trans (hc i p hp).1, (hk ⟨b, _, none⟩ hb).trans (hc i p hp).2⟩⟩
theorem RdP.more (h : RdP w B A l) (hB : B ≤ B') : RdP w B' A l := fun h0 => by
  obtain ⟨b, o, e, hb, hc⟩ := h h0
  exact ⟨b, o, e, by omega, hc⟩
theorem RdP.below (h : RdP w B A l) (hb : Below B w w') : RdP w' B A l := h.keep fun _ hp => hb.cell hp
theorem RdP.at_ {k : Nat} (h : RdP w B A l) (hk : k < l.length) : ∃ b o p, A = some ⟨b, o, none⟩ ∧ b < B ∧ l[k]? = some p ∧ w.cell? ⟨b, o + k * 2, none⟩ = some (.string p.1) ∧ w.cell? ⟨b, o + k * 2 + 1, none⟩ = some (.string p.2) := by
  obtain ⟨b, o, e, hb, hc⟩ := h (by omega)
  have hg : l[k]? = some (l[k]) := List.getElem?_eq_getElem hk
  exact ⟨b, o, l[k], e, hb, hg, (hc k _ hg).1, (hc k _ hg).2⟩
theorem RdP.two {j : Nat} (h : RdP w B A l) (hk : j + 1 < l.length) : ∃ b o q p, A = some ⟨b, o, none⟩ ∧ b < B ∧ l[j]? = some q ∧ l[j + 1]? = some p ∧
    (∀ w', Below B w w' → w'.cell? ⟨b, o + j * 2, none⟩ = some (.string q.1) ∧ w'.cell? ⟨b, o + j * 2 + 1, none⟩ = some (.string q.2) ∧ w'.cell? ⟨b, o + (j + 1) * 2, none⟩ = some (.string p.1) ∧ w'.cell? ⟨b, o + (j + 1) * 2 + 1, none⟩ = some (.string p.2)) := by
  obtain ⟨b, o, e, hb, hc⟩ := h (by omega)
  have g1 : l[j]? = some (l[j]) := List.getElem?_eq_getElem (by omega)
  have g2 : l[j + 1]? = some (l[j + 1]) := List.getElem?_eq_getElem hk
  refine ⟨b, o, _, _, e, hb, g1, g2, fun w' hw => ⟨?_, ?_, ?_, ?_⟩⟩
  · exact (hw.cell (p := ⟨b, _, none⟩) hb).trans (hc _ _ g1).1
  · exact (hw.cell (p := ⟨b, _, none⟩) hb).trans (hc _ _ g1).2
  · exact (hw.cell (p := ⟨b, _, none⟩) hb).trans (hc _ _ g2).1
  · exact (hw.cell (p := ⟨b, _, none⟩) hb).trans (hc _ _ g2).2
theorem RdP.of_own {base : Nat} {e : TypeId} {n c : Nat} (h : w.ownsRow base e 2 (.slice A n c) n (cellsP l)) : RdP w w.heap.size A l := fun h0 => by
  have hn : n = l.length := by have := h.1; rw [cellsP_length] at this; omega
  obtain ⟨g, cap, hv, _, hlt⟩ := h.form (by omega)
  have hA : A = some ⟨g, 0, none⟩ := by injection hv
  subst hA
  have hcs := h.cells (g := g) rfl
  refine ⟨g, 0, rfl, hlt, fun i p hp => ?_⟩
  obtain ⟨h1, h2⟩ := cellsP_get l i p hp
  have c1 := hcs _ _ h1
  have c2 := hcs _ _ h2
  rw [Addr.add_lit] at c1 c2
  exact ⟨c1, by rw [Nat.add_assoc]; exact c2⟩
end
theorem below_drewN {B : Nat} {a w : World} (h : Below B a w) (n : Nat) : Below B a (w.drewN n) := ⟨h.os, h.tape, h.output, h.size, h.block⟩
/-- behind a call: the block of two cells that was made last still holds them; what lay below is as it was -/
theorem boxed {B : Nat} {w0 w w2 : World} {a b : Value} {t : TypeId} (h0 : Below B w0 w) (hB : B ≤ w.heap.size) (hb : Below (w.alloc (.cells #[a, b] t)).heap.size (w.alloc (.cells #[a, b] t)) w2) :
    w2.cell? ⟨w.heap.size, 0, none⟩ = some a ∧ w2.cell? ⟨w.heap.size, 1, none⟩ = some b ∧ Below B w0 w2 ∧ w.heap.size < w2.heap.size := by
  have hs := hb.size
  simp at hs
  refine ⟨?_, ?_, (h0.alloc hB _).trans (hb.mono (by simp; omega)), by omega⟩
  · rw [hb.cell (p := ⟨w.heap.size, 0, none⟩) (by simp), World.cell?_alloc_at _ _ _ _ rfl]; rfl
  · rw [hb.cell (p := ⟨w.heap.size, 1, none⟩) (by simp), World.cell?_alloc_at _ _ _ _ rfl]; rfl
/-- behind one call more -/
theorem later {B : Nat} {w0 w w2 : World} {g : Nat} {a b : Value} (h1 : w.cell? ⟨g, 0, none⟩ = some a) (h2 : w.cell? ⟨g, 1, none⟩ = some b) (h0 : Below B w0 w) (hg : g < w.heap.size) (hB : B ≤ w.heap.size) (hb : Below w.heap.size w w2) :
    w2.cell? ⟨g, 0, none⟩ = some a ∧ w2.cell? ⟨g, 1, none⟩ = some b ∧ Below B w0 w2 ∧ g < w2.heap.size :=
  ⟨(hb.cell (p := ⟨g, 0, none⟩) hg).trans h1, (hb.cell (p := ⟨g, 1, none⟩) hg).trans h2, h0.trans (hb.mono hB), by have := hb.size; omega⟩
end Go.Proofs.Ytnagmopejblegaa
