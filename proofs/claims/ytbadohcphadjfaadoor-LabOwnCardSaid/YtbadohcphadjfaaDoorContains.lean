/- Layer 1: slices.Contains over texts. -/
import Derived.Test.YtbadohcphadjfaaDoorRlists
namespace Go.Proofs.YtbadohcphadjfaaDoor
open Go.RowKit

set_option maxRecDepth 100000 in
set_option maxHeartbeats 400000 in
theorem index_any (s : ByteArray) (A : Option Addr) (n c : Nat) (l : List ByteArray) (w : World) (hn : n = l.length) (hm : n ≤ maxLen) (hr : RdS w w.heap.size A l) :
    Calls Tryd.prog 66 #[.slice A n c, .string s] w fun e w' => ∃ z : Int, e = .returned (.int .i64 z) ∧ decide (0 ≤ z) = amongS s l ∧ Below w.heap.size w w' := by
  have Hn := Lib.hid hn
  have Hr := Lib.hid hr
  clear hn hr
  unfold maxLen at hm
  go_enter Tryd.func66, Tryd.ntmps66
  go_wp2
  go_loop [8] (fun i => ∃ k : Nat, k ≤ n ∧ i = .int .i64 k ∧ Hid (∀ (j : Nat) (t : ByteArray), j < k → l[j]? = some t → eqS t s = false)) (fun i => n - (intOf i).toNat)
  case atStart => exact ⟨0, Nat.zero_le _, rfl, fun j q hj => by omega⟩
  case round =>
    obtain ⟨k, hk, rfl, Hno⟩ := hrel
    by_cases hlt : k < n
    · obtain ⟨b, o, t, rfl, hb, hp, hc1⟩ := Hr.out.at_ (k := k) (by have := Hn.out; omega)
      have Hp := Lib.hid hp
      clear hp
      by_cases he : (s.toList == t.toList) = true
      · have Hres : Hid (decide ((0 : Int) ≤ (k : Int)) = amongS s l) := by
          show _ = amongS s l
          rw [amongS_at Hp.out (by show (t.toList == s.toList) = true; rw [BEq.comm]; exact he)]
          exact decide_eq_true (by omega)
        go_wp2
        go_ret
        exact ⟨_, rfl, Hres.out, Below.refl _ _⟩
      · have he : (s.toList == t.toList) = false := by simpa using he
        have He : Hid (eqS t s = false) := by show (t.toList == s.toList) = false; rw [BEq.comm]; exact he
        go_wp2
        go_round
        case rel =>
          refine ⟨k + 1, by omega, by go_num, fun j q hj hq => ?_⟩
          by_cases hjk : j = k
          · subst hjk
            have e := Hp.out.symm.trans hq
            simp at e; subst e
            exact He.out
          · exact Hno.out j q (by omega) hq
        case measure => simp [intOf]; omega
    · have Hres : Hid (decide ((0 : Int) ≤ -1) = amongS s l) := by
        show _ = amongS s l
        rw [amongS_no fun j q hq => Hno.out j q (by have := (List.getElem?_eq_some_iff.1 hq).1; have := Hn.out; omega) hq]
        rfl
      go_wp2
      go_ret
      exact ⟨_, rfl, Hres.out, Below.refl _ _⟩

set_option maxHeartbeats 400000 in
theorem contains_any (s : ByteArray) (A : Option Addr) (n c : Nat) (l : List ByteArray) (w : World) (hn : n = l.length) (hm : n ≤ maxLen) (hr : RdS w w.heap.size A l) :
    Calls Tryd.prog 56 #[.slice A n c, .string s] w fun e w' => e = .returned (.bool (amongS s l)) ∧ Below w.heap.size w w' := by
  have Hi := Lib.hid (index_any s A n c l w hn hm hr)
  clear hn hm hr
  go_enter Tryd.func56, Tryd.ntmps56
  go_wp2_with fail
  refine Hi.out.mono ?_
  rintro e w' ⟨z, rfl, hz, hb⟩
  have Hz := Lib.hid hz
  clear hz
  go_wp2
  go_ret
  exact ⟨ret_bool Hz.out, hb⟩
end Go.Proofs.YtbadohcphadjfaaDoor
