/- Layer 7, plain: what is put is found; and rows of numbers. -/
import Derived.Test.YtgcfofnlgdfmoaaDkPlain
import Derived.Test.YtgcfofnlgdfmoaaApp
namespace Go.Proofs.Ytgcfofnlgdfmoaa
open Go.RowKit

theorem delP_no {α : Type} {l : List (ByteArray × α)} {s : ByteArray} (h : ∀ p ∈ l, p.1 ≠ s) : delP l s = l := List.filter_eq_self.2 fun p hp => by rw [eqS_no (h p hp)]; rfl
theorem delP_ins {α : Type} {x : ByteArray × α} : ∀ {l : List (ByteArray × α)}, (∀ p ∈ l, p.1 ≠ x.1) → delP (insP x l) x.1 = l
  | [], _ => by simp [insP, delP, eqS_refl]
  | y :: r, h => by
    unfold insP
    by_cases hl : ltS x.1 y.1 = true
    · rw [if_pos hl]
      show List.filter _ _ = _
      rw [List.filter_cons_of_neg (by simp [eqS_refl])]
      exact delP_no h
    · rw [if_neg hl]
      show List.filter _ _ = _
      rw [List.filter_cons_of_pos (by rw [eqS_no (h y (by simp))]; rfl)]
      exact congrArg (y :: ·) (delP_ins (l := r) fun p hp => h p (by simp [hp]))
theorem findP_ins {α : Type} {x : ByteArray × α} : ∀ {l : List (ByteArray × α)}, (∀ p ∈ l, p.1 ≠ x.1) → findP (insP x l) x.1 = some x.2
  | [], _ => by simp [insP, findP, eqS_refl]
  | y :: r, h => by
    unfold insP
    by_cases hl : ltS x.1 y.1 = true
    · rw [if_pos hl]
      unfold findP
      rw [List.find?_cons_of_pos (by simp [eqS_refl])]
      rfl
    · rw [if_neg hl]
      have ih := findP_ins (l := r) fun p hp => h p (by simp [hp])
      unfold findP at ih ⊢
      rw [List.find?_cons_of_neg (by rw [eqS_no (h y (by simp))]; decide)]
      exact ih
theorem findP_set {α : Type} (l : List (ByteArray × α)) (s : ByteArray) (f : α) : findP (putP l s f) s = some f := findP_ins (x := (s, f)) fun _ hp => (mem_delP.1 hp).2
theorem putP_twice {α : Type} (l : List (ByteArray × α)) (s : ByteArray) (a b : α) : putP (putP l s a) s b = putP l s b := by
  have h := delP_ins (x := (s, a)) (l := delP l s) fun _ hp => (mem_delP.1 hp).2
  show insP _ (delP (insP (s, a) (delP l s)) s) = insP _ (delP l s)
  rw [h]
theorem findP_one {α : Type} (s : ByteArray) (f : α) : findP [(s, f)] s = some f := by simp [findP, eqS_refl]
def cellsN7 (l : List Nat) : List Value := l.map fun z : Nat => Value.int .i64 (z : Int)
theorem cellsN7_get {l : List Nat} {i x : Nat} (h : l[i]? = some x) : (cellsN7 l)[i]? = some (.int .i64 x) := by simp [cellsN7, h]
theorem Try.infoN7 : (Try.prog.info? 3).map (fun i => (i.zero, i.size, i.bytes)) = some (some (.int .i64 0), 1, 8) := by kernel_rfl
end Go.Proofs.Ytgcfofnlgdfmoaa
