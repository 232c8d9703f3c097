/- Several texts in one: Ref, ItSame. -/
import Derived.Laws.StructEq
import Derived.Deep.DeepCutAuto
import Derived.Test.YtocdhnlffemnhaaQa4
import Derived.Test.YtocdhnlffemnhaaQa7
import Derived.Test.YtocdhnlffemnhaaQa8
/- Layer 1: lists held against each other: lab.Same (slices.Equal), the document's own Same; the document's own Less. -/
namespace Go.Proofs.Ytocdhnlffemnhaa
open Go.RowKit

def eqP (p q : Pr) : Bool := eqS p.1 q.1 && eqS p.2 q.2
theorem eqP_iff (p q : Pr) : eqP p q = true ↔ p = q := by
  unfold eqP
  rw [Bool.and_eq_true, eqS_iff, eqS_iff]
  exact ⟨fun h => Prod.ext h.1 h.2, fun h => by rw [h]; exact ⟨rfl, rfl⟩⟩

theorem run_neqP (p q : Pr) (w : World) : (binOp .neq 116 (.agg #[.string p.1, .string p.2]) (.agg #[.string q.1, .string q.2])).run Try.prog w = .ok (.bool !(eqP p q)) w := by
  have u9 := Try.underlying9
  have hS : Try.prog.underlying 116 = some (.struct (Try.prog.fieldsOf 116)) := by kernel_rfl
  have hp : Try.prog.stoodInHeld 116 = false := by kernel_rfl
  rw [run_neq_struct, show (10000 : Nat) = 9999 + 1 from rfl, run_equalIn_struct w 9999 116 _ _ hS hp]
  simp only [Program.fieldsOf, Try.underlying116]
  go_simp
  unfold eqP eqS
  by_cases h1 : p.1.toList = q.1.toList <;> by_cases h2 : p.2.toList = q.2.toList <;> simp [h1, h2]

end Go.Proofs.Ytocdhnlffemnhaa
/- Layer 4: item.Same; the document's own. -/
namespace Go.Proofs.Ytocdhnlffemnhaa
open Go.RowKit

def sameEv (a b : It) : Bool := decide (a.o = b.o ∧ a.q = b.q ∧ a.t = b.t ∧ a.r = b.r ∧ a.s = b.s ∧ a.p = b.p ∧ a.v = b.v ∧ a.w = b.w ∧ a.l = b.l)
def sameG (a b : It) : Bool := decide (a.ga = b.ga ∧ a.gf = b.gf ∧ a.gt = b.gt)
/-- two items: of a gap the event is no part, nor the gap of an event -/
def sameI (a b : It) : Bool := if a.g != b.g then false else if a.g then sameG a b else sameEv a b

theorem run_eqlG (a b : It) (w : World) : (binOp .eql 28 (.agg #[.int .u8 a.ga, .int .u64 a.gf, .int .u64 a.gt]) (.agg #[.int .u8 b.ga, .int .u64 b.gf, .int .u64 b.gt])).run Try.prog w = .ok (.bool (sameG a b)) w := by
  have u5 := Try.underlying5
  have u22 := Try.underlying22
  have hS : Try.prog.underlying 28 = some (.struct (Try.prog.fieldsOf 28)) := by kernel_rfl
  have hp : Try.prog.stoodInHeld 28 = false := by kernel_rfl
  rw [run_eql_struct, show (10000 : Nat) = 9999 + 1 from rfl, run_equalIn_struct w 9999 28 _ _ hS hp]
  simp only [Program.fieldsOf, Try.underlying28]
  go_simp
  unfold sameG
  have e1 : ((a.ga : Int) = (b.ga : Int)) = (a.ga = b.ga) := propext (by omega)
  have e2 : ((a.gf : Int) = (b.gf : Int)) = (a.gf = b.gf) := propext (by omega)
  have e3 : ((a.gt : Int) = (b.gt : Int)) = (a.gt = b.gt) := propext (by omega)
  simp only [e1, e2, e3]
  by_cases h1 : a.ga = b.ga <;> by_cases h2 : a.gf = b.gf <;> by_cases h3 : a.gt = b.gt <;> simp [h1, h2, h3]

theorem str_ne {a b : ByteArray} (h : a ≠ b) : (a.toList == b.toList) = false := by
  have h2 := eqS_iff a b
  unfold eqS at h2
  rw [Bool.eq_false_iff]
  exact fun e => h (h2.1 e)
theorem str_eq {a b : ByteArray} (h : a = b) : (a.toList == b.toList) = true := by rw [h]; exact beq_self_eq_true _

/-- the first difference of two events -/
theorem sameEv_no {a b : It} (h : ¬ (a.o = b.o ∧ a.q = b.q ∧ a.t = b.t ∧ a.r = b.r ∧ a.s = b.s ∧ a.p = b.p ∧ a.v = b.v ∧ a.w = b.w ∧ a.l = b.l)) : sameEv a b = false := decide_eq_false h
theorem sameEv_labs {a b : It} (h : a.o = b.o ∧ a.q = b.q ∧ a.t = b.t ∧ a.r = b.r ∧ a.s = b.s ∧ a.p = b.p ∧ a.v = b.v ∧ a.w = b.w) : sameEv a b = decide (a.l = b.l) := by
  unfold sameEv
  by_cases hl : a.l = b.l
  · rw [decide_eq_true hl, decide_eq_true ⟨h.1, h.2.1, h.2.2.1, h.2.2.2.1, h.2.2.2.2.1, h.2.2.2.2.2.1, h.2.2.2.2.2.2.1, h.2.2.2.2.2.2.2, hl⟩]
  · rw [decide_eq_false hl, decide_eq_false (fun e => hl e.2.2.2.2.2.2.2.2)]

end Go.Proofs.Ytocdhnlffemnhaa
