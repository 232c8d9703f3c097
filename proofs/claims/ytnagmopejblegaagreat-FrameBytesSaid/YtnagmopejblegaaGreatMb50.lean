/- Several texts in one: CrcAwake, CrcBits. -/
import Derived.Lib.SlBytesConst
import Derived.StillTailTactics
import Derived.Laws.OwnMore
import Derived.Test.YtnagmopejblegaaGreatMb14
import Derived.Test.YtnagmopejblegaaGreatMb26
import Derived.Test.YtnagmopejblegaaGreatMb41
/- Layer 2: the fixed fact that each statement begins with. -/
namespace Go.Proofs.YtnagmopejblegaaGreat
open Go.RowKit

theorem sumA : sumN [49, 50, 51, 52, 53, 54, 55, 56, 57] = 3421780262 := by decide +kernel

end Go.Proofs.YtnagmopejblegaaGreat
/- The walk of watchfirelaw02.CrcBits. -/
namespace Go.Proofs.YtnagmopejblegaaGreat.crcBits
open Go.RowKit Go.Proofs.YtnagmopejblegaaGreat

theorem Tab_far {w : World} {g d s b : Nat} (h : Tab w g d s b) {q j : Nat} (hq : q ≠ g) (u : Value) : Tab (w.setCell ⟨q, j, none⟩ u) g d s b := by
  have far : ∀ o, (w.setCell ⟨q, j, none⟩ u).cell? ⟨g, o, none⟩ = w.cell? ⟨g, o, none⟩ := fun o => World.cell?_setCell_other w ⟨q, j, none⟩ ⟨g, o, none⟩ u (by intro e; injection e with e; exact hq e)
  exact
    { lt := by simpa using h.lt
      c0 := (far 0).trans h.c0
      c1 := (far 1).trans h.c1
      tab := fun j hj => by
        obtain ⟨x, hx, hx2⟩ := h.tab j hj
        exact ⟨x, (far _).trans hx, hx2⟩
      sums := (far 259).trans h.sums
      bytes := (far 260).trans h.bytes
      fz := fun o => by simpa using h.fz o }

theorem cellsB_set (m : List Nat) (q v : Nat) : cellsB (m.set q v) = (cellsB m).set q (.int .u8 v) := by
  simp [cellsB, encB, List.map_set]
theorem okB_set {m : List Nat} (h : OkB m) {q v : Nat} (hv : v < 256) : OkB (m.set q v) := fun x hx => by
  rcases List.mem_or_eq_of_mem_set hx with h1 | rfl
  · exact h x h1
  · exact hv
theorem shl8 (e : Nat) (h : e < 8) : IntKind.u8.wrap ((2 : Int) ^ e) = ((2 ^ e : Nat) : Int) := by
  match e, h with
  | 0, _ => rfl
  | 1, _ => rfl
  | 2, _ => rfl
  | 3, _ => rfl
  | 4, _ => rfl
  | 5, _ => rfl
  | 6, _ => rfl
  | 7, _ => rfl

end Go.Proofs.YtnagmopejblegaaGreat.crcBits
