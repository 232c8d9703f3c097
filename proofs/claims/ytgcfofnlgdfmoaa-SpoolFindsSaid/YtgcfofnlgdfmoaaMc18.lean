/- Several texts in one: Ref, ItSame. -/
import Derived.Laws.StructEq
import Derived.Deep.DeepCutAuto
import Derived.Test.YtgcfofnlgdfmoaaMc5
import Derived.Test.YtgcfofnlgdfmoaaMc7
import Derived.Test.YtgcfofnlgdfmoaaMc10
/- Layer 1: lists held against each other: lab.Same (slices.Equal), the document's own Same; the document's own Less. -/
namespace Go.Proofs.Ytgcfofnlgdfmoaa
open Go.RowKit

def eqP (p q : Pr) : Bool := eqS p.1 q.1 && eqS p.2 q.2
theorem eqP_iff (p q : Pr) : eqP p q = true ↔ p = q := by
  unfold eqP
  rw [Bool.and_eq_true, eqS_iff, eqS_iff]
  exact ⟨fun h => Prod.ext h.1 h.2, fun h => by rw [h]; exact ⟨rfl, rfl⟩⟩

theorem run_neqP (p q : Pr) (w : World) : (binOp .neq 151 (.agg #[.string p.1, .string p.2]) (.agg #[.string q.1, .string q.2])).run Try.prog w = .ok (.bool !(eqP p q)) w := by
  have u9 := Try.underlying9
  have hS : Try.prog.underlying 151 = some (.struct (Try.prog.fieldsOf 151)) := by kernel_rfl
  have hp : Try.prog.stoodInHeld 151 = false := by kernel_rfl
  rw [run_neq_struct, show (10000 : Nat) = 9999 + 1 from rfl, run_equalIn_struct w 9999 151 _ _ hS hp]
  simp only [Program.fieldsOf, Try.underlying151]
  go_simp
  unfold eqP eqS
  by_cases h1 : p.1.toList = q.1.toList <;> by_cases h2 : p.2.toList = q.2.toList <;> simp [h1, h2]

set_option maxRecDepth 100000 in
set_option maxHeartbeats 400000 in
theorem rsame_any (A : Option Addr) (n c : Nat) (a : List Pr) (A' : Option Addr) (m d : Nat) (b : List Pr) (w : World) (B : Nat) (hn : n = a.length) (hm : m = b.length) (hmx : n ≤ maxLen) (ha : RdP w B A a) (hb : RdP w B A' b) :
    Calls Try.prog 59 #[.slice A n c, .slice A' m d] w fun e w' => e = .returned (.bool (decide (a = b))) ∧ ∃ q, w' = w.drewN q := by
  unfold maxLen at hmx
  have Hn := Lib.hid hn
  have Hm := Lib.hid hm
  clear hn hm
  by_cases hl : n = m
  · have hl' := hl
    subst hl
    have hneq : ((n : Int) != (n : Int)) = false := by simp
    go_enter Try.func59, Try.ntmps59
    go_wp2
    go_loopw [5] (fun i wr => ∃ k q : Nat, k ≤ n ∧ i = .int .i64 k ∧ Hid (∀ j, j < k → a[j]? = b[j]?) ∧ wr = w.drewN q) (fun i _ => n - (intOf i).toNat)
    case atStart => exact ⟨0, 0, Nat.zero_le _, rfl, fun j hj => by omega, rfl⟩
    case round =>
      obtain ⟨k, q, hk, rfl, Hk, rfl⟩ := hrel
      by_cases hlt : k < n
      · obtain ⟨b1, o1, p1, rfl, -, hp1, hc1, hc2⟩ := ha.at_ (k := k) (by have := Hn.out; omega)
        obtain ⟨b2, o2, p2, rfl, -, hp2, hc3, hc4⟩ := hb.at_ (k := k) (by have := Hm.out; omega)
        have Hp1 := Lib.hid hp1
        have Hp2 := Lib.hid hp2
        have hne := run_neqP p1 p2
        clear hp1 hp2 ha hb
        by_cases he : eqP p1 p2 = true
        · have Hres : Hid (a[k]? = b[k]?) := by show a[k]? = b[k]?; rw [Hp1.out, Hp2.out, (eqP_iff _ _).1 he]
          rw [he] at hne
          clear he
          go_wp2
          go_quiet (fail)
          go_wp2
          refine ⟨⟨k + 1, _, by omega, by go_num, fun j hj => ?_, rfl⟩, by simp [intOf]; omega⟩
          by_cases hjk : j = k
          · subst hjk; exact Hres.out
          · exact Hk.out j (by omega)
        · have Hres : Hid (decide (a = b) = false) := decide_eq_false fun h => by
            have h1 := Hp1.out
            rw [h, Hp2.out] at h1
            exact he ((eqP_iff _ _).2 (Option.some.inj h1).symm)
          have he : eqP p1 p2 = false := by simpa using he
          rw [he] at hne
          clear he
          go_wp2
          go_quiet (fail)
          go_wp2
          go_ret
          exact ⟨ret_bool Hres.out.symm, q + nq, World.drewN_drewN ..⟩
      · have Hres : Hid (decide (a = b) = true) := decide_eq_true (List.ext_getElem? fun j => by
          by_cases hj : j < k
          · exact Hk.out j hj
          · rw [List.getElem?_eq_none (by have := Hn.out; omega), List.getElem?_eq_none (by have := Hm.out; omega)])
        clear ha hb
        go_wp2
        go_ret
        exact ⟨ret_bool Hres.out.symm, _, rfl⟩
  · have Hres : Hid (decide (a = b) = false) := decide_eq_false fun h => hl (by rw [Hn.out, Hm.out, h])
    have hneq : ((n : Int) != (m : Int)) = true := by rw [bne_iff_ne]; omega
    go_enter Try.func59, Try.ntmps59
    go_wp2
    go_ret
    exact ⟨ret_bool Hres.out.symm, 0, rfl⟩

end Go.Proofs.Ytgcfofnlgdfmoaa
/- Layer 4: item.Same; the document's own. -/
namespace Go.Proofs.Ytgcfofnlgdfmoaa
open Go.RowKit

def sameEv (a b : It) : Bool := decide (a.o = b.o ∧ a.q = b.q ∧ a.t = b.t ∧ a.r = b.r ∧ a.s = b.s ∧ a.p = b.p ∧ a.v = b.v ∧ a.w = b.w ∧ a.l = b.l)
def sameG (a b : It) : Bool := decide (a.ga = b.ga ∧ a.gf = b.gf ∧ a.gt = b.gt)
/-- two items: of a gap the event is no part, nor the gap of an event -/
def sameI (a b : It) : Bool := if a.g != b.g then false else if a.g then sameG a b else sameEv a b

theorem run_eqlG (a b : It) (w : World) : (binOp .eql 58 (.agg #[.int .u8 a.ga, .int .u64 a.gf, .int .u64 a.gt]) (.agg #[.int .u8 b.ga, .int .u64 b.gf, .int .u64 b.gt])).run Try.prog w = .ok (.bool (sameG a b)) w := by
  have u5 := Try.underlying5
  have u22 := Try.underlying52
  have hS : Try.prog.underlying 58 = some (.struct (Try.prog.fieldsOf 58)) := by kernel_rfl
  have hp : Try.prog.stoodInHeld 58 = false := by kernel_rfl
  rw [run_eql_struct, show (10000 : Nat) = 9999 + 1 from rfl, run_equalIn_struct w 9999 58 _ _ hS hp]
  simp only [Program.fieldsOf, Try.underlying58]
  go_simp
  unfold sameG
  have e1 : ((a.ga : Int) = (b.ga : Int)) = (a.ga = b.ga) := propext (by omega)
  have e2 : ((a.gf : Int) = (b.gf : Int)) = (a.gf = b.gf) := propext (by omega)
  have e3 : ((a.gt : Int) = (b.gt : Int)) = (a.gt = b.gt) := propext (by omega)
  simp only [e1, e2, e3]
  by_cases h1 : a.ga = b.ga <;> by_cases h2 : a.gf = b.gf <;> by_cases h3 : a.gt = b.gt <;> simp [h1, h2, h3]

theorem str_ne {a b : ByteArray} (h : a ≠ b) : (a.toList == b.toList) = false := by
  have h2 := eqS_iff a b
  unfold eqS at h2
  rw [Bool.eq_false_iff]
  exact fun e => h (h2.1 e)
theorem str_eq {a b : ByteArray} (h : a = b) : (a.toList == b.toList) = true := by rw [h]; exact beq_self_eq_true _

/-- the first difference of two events -/
theorem sameEv_no {a b : It} (h : ¬ (a.o = b.o ∧ a.q = b.q ∧ a.t = b.t ∧ a.r = b.r ∧ a.s = b.s ∧ a.p = b.p ∧ a.v = b.v ∧ a.w = b.w ∧ a.l = b.l)) : sameEv a b = false := decide_eq_false h
theorem sameEv_labs {a b : It} (h : a.o = b.o ∧ a.q = b.q ∧ a.t = b.t ∧ a.r = b.r ∧ a.s = b.s ∧ a.p = b.p ∧ a.v = b.v ∧ a.w = b.w) : sameEv a b = decide (a.l = b.l) := by
  unfold sameEv
  by_cases hl : a.l = b.l
  · rw [decide_eq_true hl, decide_eq_true ⟨h.1, h.2.1, h.2.2.1, h.2.2.2.1, h.2.2.2.2.1, h.2.2.2.2.2.1, h.2.2.2.2.2.2.1, h.2.2.2.2.2.2.2, hl⟩]
  · rw [decide_eq_false hl, decide_eq_false (fun e => hl e.2.2.2.2.2.2.2.2)]

end Go.Proofs.Ytgcfofnlgdfmoaa
