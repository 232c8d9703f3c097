/- Layer 1: lists held against each other: lab.Same (slices.Equal), the document's own Same; the document's own Less. -/
import Derived.Test.YtileaoanekphaaaRead
import Derived.Laws.StructEq
namespace Go.Proofs.Ytileaoanekphaaa
open Go.RowKit

def eqP (p q : Pr) : Bool := eqS p.1 q.1 && eqS p.2 q.2
theorem eqP_iff (p q : Pr) : eqP p q = true ↔ p = q := by
  unfold eqP
  rw [Bool.and_eq_true, eqS_iff, eqS_iff]
  exact ⟨fun h => Prod.ext h.1 h.2, fun h => by rw [h]; exact ⟨rfl, rfl⟩⟩

theorem run_neqP (p q : Pr) (w : World) : (binOp .neq 66 (.agg #[.string p.1, .string p.2]) (.agg #[.string q.1, .string q.2])).run Try.prog w = .ok (.bool !(eqP p q)) w := by
  have u9 := Try.underlying9
  have hS : Try.prog.underlying 66 = some (.struct (Try.prog.fieldsOf 66)) := by kernel_rfl
  have hp : Try.prog.stoodInHeld 66 = false := by kernel_rfl
  rw [run_neq_struct, show (10000 : Nat) = 9999 + 1 from rfl, run_equalIn_struct w 9999 66 _ _ hS hp]
  simp only [Program.fieldsOf, Try.underlying66]
  go_simp
  unfold eqP eqS
  by_cases h1 : p.1.toList = q.1.toList <;> by_cases h2 : p.2.toList = q.2.toList <;> simp [h1, h2]

set_option maxRecDepth 100000 in
set_option maxHeartbeats 400000 in
theorem rsame_any (A : Option Addr) (n c : Nat) (a : List Pr) (A' : Option Addr) (m d : Nat) (b : List Pr) (w : World) (B : Nat) (hn : n = a.length) (hm : m = b.length) (hmx : n ≤ maxLen) (ha : RdP w B A a) (hb : RdP w B A' b) :
    Calls Try.prog 27 #[.slice A n c, .slice A' m d] w fun e w' => e = .returned (.bool (decide (a = b))) ∧ ∃ q, w' = w.drewN q := by
  unfold maxLen at hmx
  have Hn := Lib.hid hn
  have Hm := Lib.hid hm
  clear hn hm
  by_cases hl : n = m
  · have hl' := hl
    subst hl
    have hneq : ((n : Int) != (n : Int)) = false := by simp
    go_enter Try.func27, Try.ntmps27
    go_wp2
    go_loopw [5] (fun i wr => ∃ k q : Nat, k ≤ n ∧ i = .int .i64 k ∧ Hid (∀ j, j < k → a[j]? = b[j]?) ∧ wr = w.drewN q) (fun i _ => n - (intOf i).toNat)
    case atStart => exact ⟨0, 0, Nat.zero_le _, rfl, fun j hj => by omega, rfl⟩
    case round =>
      obtain ⟨k, q, hk, rfl, Hk, rfl⟩ := hrel
      by_cases hlt : k < n
      · obtain ⟨b1, o1, p1, rfl, -, hp1, hc1, hc2⟩ := ha.at_ (k := k) (by have := Hn.out; omega)
        obtain ⟨b2, o2, p2, rfl, -, hp2, hc3, hc4⟩ := hb.at_ (k := k) (by have := Hm.out; omega)
        have Hp1 := Lib.hid hp1
        have Hp2 := Lib.hid hp2
        have hne := run_neqP p1 p2
        clear hp1 hp2 ha hb
        by_cases he : eqP p1 p2 = true
        · have Hres : Hid (a[k]? = b[k]?) := by show a[k]? = b[k]?; rw [Hp1.out, Hp2.out, (eqP_iff _ _).1 he]
          rw [he] at hne
          clear he
          go_wp2
          go_quiet (fail)
          go_wp2
          refine ⟨⟨k + 1, _, by omega, by go_num, fun j hj => ?_, rfl⟩, by simp [intOf]; omega⟩
          by_cases hjk : j = k
          · subst hjk; exact Hres.out
          · exact Hk.out j (by omega)
        · have Hres : Hid (decide (a = b) = false) := decide_eq_false fun h => by
            have h1 := Hp1.out
            rw [h, Hp2.out] at h1
            exact he ((eqP_iff _ _).2 (Option.some.inj h1).symm)
          have he : eqP p1 p2 = false := by simpa using he
          rw [he] at hne
          clear he
          go_wp2
          go_quiet (fail)
          go_wp2
          go_ret
          exact ⟨ret_bool Hres.out.symm, q + nq, World.drewN_drewN ..⟩
      · have Hres : Hid (decide (a = b) = true) := decide_eq_true (List.ext_getElem? fun j => by
          by_cases hj : j < k
          · exact Hk.out j hj
          · rw [List.getElem?_eq_none (by have := Hn.out; omega), List.getElem?_eq_none (by have := Hm.out; omega)])
        clear ha hb
        go_wp2
        go_ret
        exact ⟨ret_bool Hres.out.symm, _, rfl⟩
  · have Hres : Hid (decide (a = b) = false) := decide_eq_false fun h => hl (by rw [Hn.out, Hm.out, h])
    have hneq : ((n : Int) != (m : Int)) = true := by rw [bne_iff_ne]; omega
    go_enter Try.func27, Try.ntmps27
    go_wp2
    go_ret
    exact ⟨ret_bool Hres.out.symm, 0, rfl⟩

end Go.Proofs.Ytileaoanekphaaa
