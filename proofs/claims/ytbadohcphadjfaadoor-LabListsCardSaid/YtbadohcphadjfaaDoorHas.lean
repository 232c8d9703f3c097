/- Layer 1: lab.Has. -/
import Derived.Test.YtbadohcphadjfaaDoorRhas
namespace Go.Proofs.YtbadohcphadjfaaDoor
open Go.RowKit

set_option maxRecDepth 100000 in
set_option maxHeartbeats 400000 in
theorem has_any (A : Option Addr) (n c : Nat) (l : List Pr) (A' : Option Addr) (m d : Nat) (ms : List Pr) (w : World) (hn : n = l.length) (hm : m = ms.length) (hnx : n ≤ maxLen) (hmx : m ≤ maxLen) (hr : RdP w w.heap.size A l) (hs : RdP w w.heap.size A' ms) :
    Calls Tryd.prog 34 #[.slice A n c, .slice A' m d] w fun e w' => e = .returned (.bool (hasP l ms)) ∧ Below w.heap.size w w' := by
  have Hn := Lib.hid hn
  have Hm := Lib.hid hm
  have Hr := Lib.hid hr
  have Hs := Lib.hid hs
  clear hn hm hr hs
  have hmx' : m ≤ 9223372036854775807 := hmx
  go_enter Tryd.func34, Tryd.ntmps34
  go_wp2
  go_loopw [11] (fun i wr => ∃ k : Nat, k ≤ m ∧ i = .int .i64 k ∧ Below w.heap.size w wr ∧ Hid (∀ (j : Nat) (p : Pr), j < k → ms[j]? = some p → hasOne l p = true)) (fun i _ => m - (intOf i).toNat)
  case atStart => exact ⟨0, Nat.zero_le _, rfl, Below.refl _ _, fun j q hj => by omega⟩
  case round =>
    obtain ⟨k, hk, rfl, hbw, Hno⟩ := hrel
    have hge := hbw.size
    by_cases hlt : k < m
    · obtain ⟨b, o, p, rfl, hb, hp, hc1, hc2⟩ := Hs.out.at_ (k := k) (by have := Hm.out; omega)
      have Hp := Lib.hid hp
      have d1 := (hbw.cell (p := ⟨b, o + k * 2, none⟩) hb).trans hc1
      have d2 := (hbw.cell (p := ⟨b, o + k * 2 + 1, none⟩) hb).trans hc2
      have hg1 := get_any A n c l p.1 (wr.alloc (.cells #[.string p.1, .string p.2] 48)) Hn.out hnx ((Hr.out.below (hbw.alloc hge _)).more (by simp; omega))
      clear hp hc1 hc2
      cases hq : getP l p.1 with
      | none =>
        rw [hq] at hg1
        have Hres : Hid (hasP l ms = false) := hasP_no Hp.out (by rw [hasOne, hq])
        have Hg1 := Lib.hid hg1
        clear hg1 hq
        go_wp2_with fail
        refine Hg1.out.mono ?_
        rintro e w2 ⟨rfl, hb2⟩
        obtain ⟨q1, q2, hbw2, hlt2⟩ := boxed hbw hge hb2
        go_wp2
        go_ret
        exact ⟨ret_bool Hres.out.symm, hbw2⟩
      | some v =>
        rw [hq] at hg1
        have Hg1 := Lib.hid hg1
        clear hg1
        by_cases he : (v.toList == p.2.toList) = true
        · have Hone : Hid (hasOne l p = true) := by show hasOne l p = true; rw [hasOne, hq]; exact he
          clear hq
          go_wp2_with fail
          refine Hg1.out.mono ?_
          rintro e w2 ⟨rfl, hb2⟩
          obtain ⟨q1, q2, hbw2, hlt2⟩ := boxed hbw hge hb2
          go_wp2
          refine ⟨⟨k + 1, by omega, by go_num, hbw2, fun j q hj hq => ?_⟩, by simp [intOf]; omega⟩
          by_cases hjk : j = k
          · subst hjk
            have e := Hp.out.symm.trans hq
            simp at e; subst e
            exact Hone.out
          · exact Hno.out j q (by omega) hq
        · have he : (v.toList == p.2.toList) = false := by simpa using he
          have Hres : Hid (hasP l ms = false) := hasP_no Hp.out (by rw [hasOne, hq]; exact he)
          clear hq
          go_wp2_with fail
          refine Hg1.out.mono ?_
          rintro e w2 ⟨rfl, hb2⟩
          obtain ⟨q1, q2, hbw2, hlt2⟩ := boxed hbw hge hb2
          go_wp2
          go_ret
          exact ⟨ret_bool Hres.out.symm, hbw2⟩
    · have Hres : Hid (hasP l ms = true) := hasP_yes fun j q hq => Hno.out j q (by have := (List.getElem?_eq_some_iff.1 hq).1; have := Hm.out; omega) hq
      go_wp2
      go_ret
      exact ⟨ret_bool Hres.out.symm, hbw⟩
end Go.Proofs.YtbadohcphadjfaaDoor
