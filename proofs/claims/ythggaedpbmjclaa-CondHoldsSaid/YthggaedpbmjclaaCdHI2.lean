/- Layer 13: CondHolds in numbers, more: what Points, Last and both Holds answer; the two conditions, the two times. -/
import Derived.Test.YthggaedpbmjclaaCdHI
namespace Go.Proofs.Ythggaedpbmjclaa
open Go.RowKit Go.Proofs

theorem run_neqRp (a c : Nat) (b d : Int) (w : World) : (binOp .neq 41 (.agg #[.int .u64 a, .int .i64 b]) (.agg #[.int .u64 c, .int .i64 d])).run Try.prog w = .ok (.bool (!decide (a = c ∧ b = d))) w := by
  have u5 := Try.underlying24
  have u22 := Try.underlying2
  have hS : Try.prog.underlying 41 = some (.struct (Try.prog.fieldsOf 41)) := by kernel_rfl
  have hp : Try.prog.stoodInHeld 41 = false := by kernel_rfl
  rw [run_neq_struct, show (10000 : Nat) = 9999 + 1 from rfl, run_equalIn_struct w 9999 41 _ _ hS hp]
  simp only [Program.fieldsOf, Try.underlying41]
  go_simp
  have e1 : ((a : Int) = (c : Int)) = (a = c) := propext (by omega)
  simp only [e1]
  by_cases h1 : a = c <;> by_cases h2 : b = d <;> simp [h1, h2]
section
variable {w wx w' : World} {s now : Nat} {v : Value} {L : List Pt}
theorem hoi_holds (h : HoI w wx s v L now) {k tk at_ : Nat} {lim : Int} (hc : okC k lim tk) (hl2 : lim < 9223372036854775808) (ha : at_ ≤ 4398046511104) : ∃ (b : Bool) (z : Int),
    (∀ wy, HoI w wy s v L now → Calls Try.prog 12 #[.agg #[.int .u8 k, .int .i64 lim, .int .u64 tk], .pointer (some ⟨s, 0, none⟩), .int .u64 at_] wy fun e w' => e = .returned (.tuple #[.bool b, .int .i64 z]) ∧ Below wy.heap.size wy w' ∧ HoI w w' s v L now) ∧
    (∀ wy, HoI w wy s v L now → Calls Try.prog 13 #[.agg #[.int .i64 k, .int .i64 lim, .int .u64 tk], v, .int .u64 at_] wy fun e w' => e = .returned (.tuple #[.bool b, .int .i64 z]) ∧ Below wy.heap.size wy w' ∧ HoI w w' s v L now) := by
  cases e : L.getLast? with
  | none =>
    obtain rfl : L = [] := by simpa using e
    refine ⟨false, 0, fun wy hy => (chol_none wy hy.ser).mono ?_, fun wy hy => ?_⟩
    · rintro e w' ⟨rfl, hb⟩
      exact ⟨rfl, hb, hy.below hb⟩
    · obtain ⟨A, c, rfl⟩ := hy.row.slice
      refine (rhol_none A c wy).mono ?_
      rintro e w' ⟨rfl, hb⟩
      exact ⟨rfl, hb, hy.below hb⟩
  | some p =>
    unfold okC at hc
    refine ⟨holdsK k lim tk L p at_, p.v, fun wy hy => (chol_some wy hy.ser hy.ok e (by omega) (by omega) (by omega) hl2 (by omega) ha).mono ?_, fun wy hy => (rhol_some wy hy.row (by have := hy.ser.few; omega) hy.ok e (by omega) (by omega) (by omega) hl2 (by omega) ha).mono ?_⟩
    · rintro e w' ⟨rfl, hb⟩
      exact ⟨rfl, hb, hy.below hb⟩
    · rintro e w' ⟨rfl, hb⟩
      exact ⟨rfl, hb, hy.below hb⟩
/-- what Points answers: its cells in every later world -/
theorem hoi_points (h : HoI w wx s v L now) : Calls Try.prog 7 #[.pointer (some ⟨s, 0, none⟩)] wx fun e w' => ∃ A c, e = .returned (.slice A L.length c) ∧ HoI w w' s v L now ∧
    ∀ W, Below w'.heap.size w' W → ∀ i p, L[i]? = some p → ∃ g, A = some ⟨g, 0, none⟩ ∧ W.rangeAt g (i * 2) (ptC p) := by
  refine (cpoints_any wx h.ser rfl).mono ?_
  rintro e w' ⟨r, rfl, ho, hb⟩
  obtain ⟨A, c, rfl⟩ := ptown_slice ho
  refine ⟨A, c, rfl, h.below hb, fun W hW i p hp => ?_⟩
  obtain ⟨g, c2, e1, -, -, hc⟩ := ptown_cells (ptown_below ho hW) (by have := (List.getElem?_eq_some_iff.1 hp).1; omega)
  injection e1 with e1 _ _
  exact ⟨g, e1, hc i p hp⟩
/-- an element of the document's row, in every later world -/
theorem hoi_row {A : Option Addr} {n c : Nat} (h : HoI w wx s (.slice A n c) L now) {i : Nat} {p : Pt} (hp : L[i]? = some p) : ∃ g o, A = some ⟨g, o, none⟩ ∧ ∀ W, HoI w W s (.slice A n c) L now → W.rangeAt g (o + i * 2) (ptC p) := by
  obtain ⟨g, o, c', e, _⟩ := h.row.at_ hp
  injection e with e1 e2 e3
  subst e1
  refine ⟨g, o, rfl, fun W hW => ?_⟩
  obtain ⟨g', o', c2, e, hr⟩ := hW.row.at_ hp
  injection e with e1 e2 e3
  injection e1 with e1
  have e0 : o = o' := congrArg Addr.off e1
  have e1 : g = g' := congrArg Addr.block e1
  subst e1; subst e0
  exact hr
end
/-- two conditions in a row -/
def RowC (w : World) (b : Nat) : Prop := ∀ j, j < 2 → ∃ (k : Nat) (lim : Int) (tk : Nat), w.rangeAt b (j * 3) [.int .u8 k, .int .i64 lim, .int .u64 tk] ∧ k < 256 ∧ lim < 9223372036854775808
theorem RowC.below {w w' : World} {b : Nat} (h : RowC w b) (hb : Below w.heap.size w w') : RowC w' b := fun j hj => by
  obtain ⟨k, lim, tk, h1, h2⟩ := h j hj
  exact ⟨k, lim, tk, fun i u hi => (hb.cell (p := ⟨b, j * 3 + i, none⟩) (World.block_lt_of_cell? _ _ (h1 i u hi))).trans (h1 i u hi), h2⟩
theorem RowC.mk {w : World} {b k k2 tk tk2 : Nat} {lim lim2 : Int} (h : w.heap[b]? = some (.cells #[.int .u8 k, .int .i64 lim, .int .u64 tk, .int .u8 k2, .int .i64 lim2, .int .u64 tk2] 26 (0, 0))) (hk : k < 256) (hl : lim < 9223372036854775808) (hk2 : k2 < 256) (hl2 : lim2 < 9223372036854775808) : RowC w b := fun j hj => by
  match j, hj with
  | 0, _ => exact ⟨k, lim, tk, fun i u hi => by rw [cell_of_row _ _ _ _ _ _ h]; match i, hi with | 0, hi => exact hi | 1, hi => exact hi | 2, hi => exact hi | i + 3, hi => simp at hi, hk, hl⟩
  | 1, _ => exact ⟨k2, lim2, tk2, fun i u hi => by rw [cell_of_row _ _ _ _ _ _ h]; match i, hi with | 0, hi => exact hi | 1, hi => exact hi | 2, hi => exact hi | i + 3, hi => simp at hi, hk2, hl2⟩
/-- two times in a row -/
def RowT (w : World) (b : Nat) : Prop := ∀ j, j < 2 → ∃ a : Nat, w.cell? ⟨b, j, none⟩ = some (.int .u64 a) ∧ a ≤ 2000
theorem RowT.below {w w' : World} {b : Nat} (h : RowT w b) (hb : Below w.heap.size w w') : RowT w' b := fun j hj => by
  obtain ⟨a, h1, h2⟩ := h j hj
  exact ⟨a, (hb.cell (p := ⟨b, j, none⟩) (World.block_lt_of_cell? _ _ h1)).trans h1, h2⟩
end Go.Proofs.Ythggaedpbmjclaa
