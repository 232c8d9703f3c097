/- Layer 1, plain words: the order of pairs is a total one; a list of pairs put in order. No walk stands here. -/
import Derived.Test.YtbadohcphadjfaaDoorSort
import Derived.Lib.OwnBridge
namespace Go.Proofs.YtbadohcphadjfaaDoor
open Go.RowKit Go.Sort

theorem cb_neg : ∀ (a b : List UInt8), Lib.compareBytes a b < 0 ↔ a < b
  | [], [] => by simp [Lib.compareBytes]
  | [], _ :: _ => by simp [Lib.compareBytes]
  | _ :: _, [] => by simp [Lib.compareBytes]
  | a :: xs, b :: ys => by
    rw [Lib.compareBytes, List.cons_lt_cons_iff]
    by_cases h1 : a < b
    · simp [h1]
    · by_cases h2 : b < a
      · have h3 : a ≠ b := fun e => by subst e; exact h1 h2
        simp [h1, h2, h3]
      · have h3 : a = b := UInt8.le_antisymm (UInt8.not_lt.1 h2) (UInt8.not_lt.1 h1)
        rw [if_neg h1, if_neg h2, cb_neg xs ys]
        subst h3
        simp
theorem cb_zero : ∀ (a b : List UInt8), Lib.compareBytes a b = 0 ↔ a = b
  | [], [] => by simp [Lib.compareBytes]
  | [], _ :: _ => by simp [Lib.compareBytes]
  | _ :: _, [] => by simp [Lib.compareBytes]
  | a :: xs, b :: ys => by
    rw [Lib.compareBytes]
    by_cases h1 : a < b
    · have h3 : a ≠ b := fun e => by subst e; exact absurd h1 (UInt8.lt_irrefl a)
      simp [h1, h3]
    · by_cases h2 : b < a
      · have h3 : a ≠ b := fun e => by subst e; exact h1 h2
        simp [h1, h2, h3]
      · have h3 : a = b := UInt8.le_antisymm (UInt8.not_lt.1 h2) (UInt8.not_lt.1 h1)
        rw [if_neg h1, if_neg h2, cb_zero xs ys]
        subst h3
        simp

theorem eqS_data (a b : ByteArray) : eqS a b = true ↔ a.data.toList = b.data.toList := by
  rw [eqS_iff]
  constructor
  · intro h; rw [h]
  · intro h
    cases a; cases b
    simp at h
    simpa using h
theorem ltP_eq (p q : Pr) : ltOf cmpP p q = ltP p q := by
  unfold ltOf cmpP orI ltP
  rw [ltS_eq, ltS_eq]
  by_cases h : eqS p.1 q.1 = true
  · rw [if_pos ((cb_zero _ _).2 ((eqS_data _ _).1 h)), if_pos h]
    exact decide_eq_decide.2 (cb_neg _ _)
  · rw [if_neg (fun h' => h ((eqS_data _ _).2 ((cb_zero _ _).1 h'))), if_neg h]
    exact decide_eq_decide.2 (cb_neg _ _)
theorem ltP_irrefl (p : Pr) : ltP p p = false := by
  rw [ltP, if_pos (eqS_refl _)]; exact ltS_irrefl _
theorem ltP_trans {p q r : Pr} (h1 : ltP p q = true) (h2 : ltP q r = true) : ltP p r = true := by
  unfold ltP at *
  by_cases e1 : eqS p.1 q.1 = true
  · rw [if_pos e1] at h1
    rw [(eqS_iff _ _).1 e1]
    by_cases e2 : eqS q.1 r.1 = true
    · rw [if_pos e2] at h2 ⊢; exact ltS_trans h1 h2
    · rw [if_neg e2] at h2 ⊢; exact h2
  · rw [if_neg e1] at h1
    by_cases e2 : eqS q.1 r.1 = true
    · rw [← (eqS_iff _ _).1 e2, if_neg e1]; exact h1
    · rw [if_neg e2] at h2
      have h3 := ltS_trans h1 h2
      by_cases e3 : eqS p.1 r.1 = true
      · rw [(eqS_iff _ _).1 e3, ltS_irrefl] at h3; cases h3
      · rw [if_neg e3]; exact h3
theorem ltP_total {p q : Pr} (h1 : ltP p q = false) (h2 : ltP q p = false) : p = q := by
  unfold ltP at *
  by_cases e1 : eqS p.1 q.1 = true
  · have e := (eqS_iff _ _).1 e1
    rw [if_pos e1] at h1
    rw [if_pos ((eqS_iff _ _).2 e.symm)] at h2
    exact Prod.ext e (ltS_total h1 h2)
  · rw [if_neg e1] at h1
    rw [if_neg (fun h => e1 ((eqS_iff _ _).2 ((eqS_iff _ _).1 h).symm))] at h2
    exact absurd ((eqS_iff _ _).2 (ltS_total h1 h2)) e1
theorem swoP : SWO (ltOf cmpP) where
  irrefl p := by rw [ltP_eq]; exact ltP_irrefl p
  trans p q r h1 h2 := by rw [ltP_eq] at *; exact ltP_trans h1 h2
  ntrans p q r h1 h2 := by
    rw [ltP_eq] at *
    cases h : ltP p r with
    | false => rfl
    | true =>
      exfalso
      by_cases h3 : ltP q p = true
      · have := ltP_trans h3 h; rw [h2] at this; cases this
      · have e := ltP_total h1 (by simpa using h3)
        subst e
        rw [h2] at h; cases h
theorem totP (p q : Pr) (h1 : ltOf cmpP p q = false) (h2 : ltOf cmpP q p = false) : p = q := by
  rw [ltP_eq] at *; exact ltP_total h1 h2

/-- pairs in order -/
def sortP (l : List Pr) : List Pr := l.mergeSort fun x y => !(ltOf cmpP) y x
theorem sortP_length (l : List Pr) : (sortP l).length = l.length := by simp [sortP]
theorem sortP_perm (l : List Pr) : (sortP l).Perm l := List.mergeSort_perm _ _
theorem leP_trans (a b c : Pr) (h1 : (!(ltOf cmpP) b a) = true) (h2 : (!(ltOf cmpP) c b) = true) : (!(ltOf cmpP) c a) = true := by
  simp only [Bool.not_eq_true'] at *
  exact swoP.ntrans c b a h2 h1
theorem leP_total (a b : Pr) : ((!(ltOf cmpP) b a) || (!(ltOf cmpP) a b)) = true := by
  cases h1 : ltOf cmpP b a with
  | false => simp
  | true =>
    cases h2 : ltOf cmpP a b with
    | false => simp
    | true =>
      have := swoP.trans _ _ _ h1 h2
      rw [swoP.irrefl] at this; cases this
theorem sortP_sorted (l : List Pr) : (sortP l).Pairwise fun x y => ltP y x = false := by
  have h := List.pairwise_mergeSort leP_trans leP_total l
  refine h.imp fun {a b} hab => ?_
  rw [← ltP_eq]
  simpa using hab
/-- there is one ordered list of the same pairs -/
theorem sortP_unique {l l' : List Pr} (hp : l'.Perm l) (hs : l'.Pairwise fun x y => ltP y x = false) : sortP l = l' :=
  List.Perm.eq_of_pairwise (le := fun x y => ltP y x = false) (fun _ _ _ _ h1 h2 => ltP_total h2 h1) (sortP_sorted l) hs ((sortP_perm l).trans hp.symm)
end Go.Proofs.YtbadohcphadjfaaDoor
