/- Layer 2: how a slice of bytes lies in memory. No program is named here. -/
import Derived.Test.YtbadohcphadjfabCrcPlain
import Derived.Below
import Derived.OneCell
import Derived.Laws.OwnMore
import Derived.Lib.Hide
import Derived.Deep.AppendLies
import Derived.Deep.Draws
namespace Go.Proofs.Ytbadohcphadjfab
open Go.RowKit

/-- The slice at A reads as these bytes; it lies below block B. -/
def RdB (w : World) (B : Nat) (A : Option Addr) (l : List Nat) : Prop :=
  0 < l.length → ∃ b o, A = some ⟨b, o, none⟩ ∧ b < B ∧ ∀ (i x : Nat), l[i]? = some x → w.cell? ⟨b, o + i, none⟩ = some (.int .u8 x)
/-- each is a byte -/
def OkB (l : List Nat) : Prop := ∀ x ∈ l, x < 256
def encB (x : Nat) : Value := .int .u8 x
def cellsB (l : List Nat) : List Value := l.map encB
theorem cellsB_length (l : List Nat) : (cellsB l).length = l.length := by simp [cellsB]
theorem cellsB_append (a b : List Nat) : cellsB (a ++ b) = cellsB a ++ cellsB b := by simp [cellsB]
theorem cellsB_get {l : List Nat} {i x : Nat} (h : l[i]? = some x) : (cellsB l)[i]? = some (.int .u8 x) := by simp [cellsB, h, encB]
theorem cellsB_one (l : List Nat) : ∀ u ∈ cellsB l, u.oneCell' = true := by
  intro u hu
  simp only [cellsB, List.mem_map] at hu
  obtain ⟨x, _, rfl⟩ := hu
  rfl
section
variable {w w' : World} {B B' : Nat} {A : Option Addr} {l : List Nat}
theorem OkB.at_ (h : OkB l) {i x : Nat} (hx : l[i]? = some x) : x < 256 := h x (List.mem_iff_getElem?.2 ⟨i, hx⟩)
theorem OkB.append {a b : List Nat} (h : OkB a) (k : OkB b) : OkB (a ++ b) := fun x hx => (List.mem_append.1 hx).elim (h x) (k x)
theorem RdB.keep (h : RdB w B A l) (hk : ∀ p : Addr, p.block < B → w'.cell? p = w.cell? p) : RdB w' B A l := fun h0 => by
  obtain ⟨b, o, e, hb, hc⟩ := h h0
  exact ⟨b, o, e, hb, fun i x hx => (hk ⟨b, _, none⟩ hb).trans (hc i x hx)⟩
theorem RdB.more (h : RdB w B A l) (hB : B ≤ B') : RdB w B' A l := fun h0 => by
  obtain ⟨b, o, e, hb, hc⟩ := h h0
  exact ⟨b, o, e, by omega, hc⟩
theorem RdB.below (h : RdB w B A l) (hb : Below B w w') : RdB w' B A l := h.keep fun _ hp => hb.cell hp
theorem RdB.at_ {k : Nat} (h : RdB w B A l) (hk : k < l.length) : ∃ b o x, A = some ⟨b, o, none⟩ ∧ b < B ∧ l[k]? = some x ∧ w.cell? ⟨b, o + k, none⟩ = some (.int .u8 x) := by
  obtain ⟨b, o, e, hb, hc⟩ := h (by omega)
  exact ⟨b, o, _, e, hb, List.getElem?_eq_getElem hk, hc k _ (List.getElem?_eq_getElem hk)⟩
theorem RdB.of_own {base : Nat} {e : TypeId} {n c : Nat} (h : w.ownsRow base e 1 (.slice A n c) n (cellsB l)) : RdB w w.heap.size A l := fun h0 => by
  have hn : n = l.length := by have := h.1; rw [cellsB_length] at this; omega
  obtain ⟨g, cap, hv, _, hlt⟩ := h.form (by omega)
  have hA : A = some ⟨g, 0, none⟩ := by injection hv
  subst hA
  have hcs := h.cells (g := g) rfl
  refine ⟨g, 0, rfl, hlt, fun i x hx => ?_⟩
  have c1 := hcs _ _ (cellsB_get hx)
  rw [Addr.add_lit] at c1
  exact c1
end
theorem RdB.grown {w w' : World} {B : Nat} {A : Option Addr} {l : List Nat} {row : Option Nat} (h : RdB w B A l) (hg : w.grownBy w' row) (hr : ∀ k, row = some k → ∀ a, A = some a → a.block ≠ k) : RdB w' B A l := fun h0 => by
  obtain ⟨b, o, e, hb, hc⟩ := h h0
  exact ⟨b, o, e, hb, fun i x hx => hg.cell (hc i x hx) fun e' => hr b e'.symm _ e rfl⟩
theorem take_succ_nat {l : List Nat} {k x : Nat} (h : l[k]? = some x) : l.take (k + 1) = l.take k ++ [x] := by
  obtain ⟨h1, rfl⟩ := List.getElem?_eq_some_iff.1 h
  exact List.take_succ_eq_append_getElem h1
theorem reg_succ {l : List Nat} {k x : Nat} (s : Nat) (h : l[k]? = some x) : reg s (l.take (k + 1)) = byteUp (reg s (l.take k)) x := by
  rw [take_succ_nat h, reg_append]; rfl
theorem OkB.take {l : List Nat} (h : OkB l) (k : Nat) : OkB (l.take k) := fun x hx => h x (List.mem_of_mem_take hx)
end Go.Proofs.Ytbadohcphadjfab
