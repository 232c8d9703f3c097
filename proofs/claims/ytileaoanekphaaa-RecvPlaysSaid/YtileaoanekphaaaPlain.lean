/- Layer 1, plain words: pairs, their order, what labels are; how a slice of pairs lies in memory. No program is named here. -/
import Derived.Test.YtileaoanekphaaaWords
import Derived.Below
import Derived.OneCell
import Derived.Laws.OwnMore
import Derived.Laws.Strings
import Derived.Deep.AppendLies
import Derived.Deep.Draws
import Derived.Lib.Bytealg
import Derived.Sort.Walk0
import Derived.Sort.Statements
import Derived.Lib.Hide
namespace Go.Proofs.Ytileaoanekphaaa
open Go.RowKit

abbrev Pr := ByteArray × ByteArray
def encP (p : Pr) : List Value := [.string p.1, .string p.2]
def cellsP (l : List Pr) : List Value := l.flatMap encP

theorem cellsP_length (l : List Pr) : (cellsP l).length = l.length * 2 := by
  induction l with
  | nil => rfl
  | cons p l ih => simp only [cellsP, List.flatMap_cons, List.length_append] at *; rw [ih]; simp [encP]; omega
theorem cellsP_append (a b : List Pr) : cellsP (a ++ b) = cellsP a ++ cellsP b := by simp [cellsP]
theorem cellsP_get (l : List Pr) (i : Nat) (p : Pr) (h : l[i]? = some p) : (cellsP l)[i * 2]? = some (.string p.1) ∧ (cellsP l)[i * 2 + 1]? = some (.string p.2) := by
  induction l generalizing i with
  | nil => simp at h
  | cons q l ih =>
    cases i with
    | zero =>
      simp at h; subst h
      simp [cellsP, encP]
    | succ i =>
      simp at h
      obtain ⟨h1, h2⟩ := ih i h
      have e : cellsP (q :: l) = .string q.1 :: .string q.2 :: cellsP l := rfl
      rw [e, show (i + 1) * 2 = i * 2 + 2 from by omega]
      exact ⟨by simpa using h1, by simpa using h2⟩
theorem cellsP_one (l : List Pr) : ∀ u ∈ cellsP l, u.oneCell' = true := by
  intro u hu
  simp only [cellsP, List.mem_flatMap] at hu
  obtain ⟨p, _, hp⟩ := hu
  simp [encP] at hp
  rcases hp with rfl | rfl <;> rfl

/-- strings: equal, less -/
def eqS (a b : ByteArray) : Bool := a.toList == b.toList
def ltS (a b : ByteArray) : Bool := Op.bytesLess a.toList b.toList
theorem eqS_iff (a b : ByteArray) : eqS a b = true ↔ a = b := by
  unfold eqS
  rw [ByteArray.toList_eq, ByteArray.toList_eq, beq_iff_eq]
  constructor
  · intro h
    cases a; cases b
    simp at h
    simpa using h
  · intro h; rw [h]
theorem eqS_refl (a : ByteArray) : eqS a a = true := (eqS_iff a a).2 rfl
theorem ltS_eq (a b : ByteArray) : ltS a b = decide (a.data.toList < b.data.toList) := by
  unfold ltS
  rw [bytesLess_eq, ByteArray.toList_eq, ByteArray.toList_eq]

/-- one pair comes ahead of another one -/
def ltP (p q : Pr) : Bool := if eqS p.1 q.1 then ltS p.2 q.2 else ltS p.1 q.1

theorem ltS_irrefl (a : ByteArray) : ltS a a = false := by rw [ltS_eq]; simp [List.lt_irrefl]
theorem ltS_trans {a b c : ByteArray} (h1 : ltS a b = true) (h2 : ltS b c = true) : ltS a c = true := by
  rw [ltS_eq] at *
  simp only [decide_eq_true_eq] at *
  exact List.lt_trans h1 h2
theorem ltS_total {a b : ByteArray} (h1 : ltS a b = false) (h2 : ltS b a = false) : a = b := by
  rw [ltS_eq] at *
  simp only [decide_eq_false_iff_not] at *
  have h : a.data.toList = b.data.toList := List.le_antisymm (List.not_lt.1 h2) (List.not_lt.1 h1)
  cases a; cases b
  simp at h
  simpa using h

/-- the pair's labels from place k on, the previous pair known: an error's number -/
def chk : Option Pr → List Pr → Nat
  | _, [] => 0
  | none, p :: r => if keyB p.1 && valueB p.2 then chk (some p) r else 8
  | some q, p :: r => if keyB p.1 && valueB p.2 then (if eqS q.1 p.1 then 7 else if ltS p.1 q.1 then 9 else chk (some p) r) else 8
def check (l : List Pr) : Nat := if 8 < l.length then 5 else chk none l
end Go.Proofs.Ytileaoanekphaaa
