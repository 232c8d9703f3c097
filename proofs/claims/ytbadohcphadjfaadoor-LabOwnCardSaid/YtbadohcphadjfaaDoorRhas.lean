/- Layer 1: the document's own Has and Merge. -/
import Derived.Test.YtbadohcphadjfaaDoorRlists
namespace Go.Proofs.YtbadohcphadjfaaDoor
open Go.RowKit

/-- the list has this pair (the first one of its key) -/
def hasOne (l : List Pr) (p : Pr) : Bool := match getP l p.1 with | none => false | some v => eqS v p.2
def hasP (l m : List Pr) : Bool := m.all (hasOne l)
theorem hasP_no {l m : List Pr} {k : Nat} {p : Pr} (hp : m[k]? = some p) (h : hasOne l p = false) : hasP l m = false :=
  List.all_eq_false.2 ⟨p, List.mem_iff_getElem?.2 ⟨k, hp⟩, by simp [h]⟩
theorem hasP_yes {l m : List Pr} (h : ∀ (j : Nat) (p : Pr), m[j]? = some p → hasOne l p = true) : hasP l m = true :=
  List.all_eq_true.2 fun p hp => by
    obtain ⟨j, hj⟩ := List.mem_iff_getElem?.1 hp
    exact h j p hj

set_option maxRecDepth 100000 in
set_option maxHeartbeats 400000 in
theorem rhas_any (A : Option Addr) (n c : Nat) (l : List Pr) (A' : Option Addr) (m d : Nat) (ms : List Pr) (w : World) (B : Nat) (hn : n = l.length) (hm : m = ms.length) (hnx : n ≤ maxLen) (hmx : m ≤ maxLen) (hr : RdP w B A l) (hs : RdP w B A' ms) :
    Calls Tryd.prog 35 #[.slice A n c, .slice A' m d] w fun e w' => e = .returned (.bool (hasP l ms)) ∧ w = w' := by
  have Hn := Lib.hid hn
  have Hm := Lib.hid hm
  have Hg := Lib.hid (fun key => rget_any A n c l key w B hn hnx hr)
  clear hn hm hr
  unfold maxLen at hnx hmx
  go_enter Tryd.func35, Tryd.ntmps35
  go_wp2
  go_loop [5] (fun i => ∃ k : Nat, k ≤ m ∧ i = .int .i64 k ∧ Hid (∀ (j : Nat) (p : Pr), j < k → ms[j]? = some p → hasOne l p = true)) (fun i => m - (intOf i).toNat)
  case atStart => exact ⟨0, Nat.zero_le _, rfl, fun j q hj => by omega⟩
  case round =>
    obtain ⟨k, hk, rfl, Hno⟩ := hrel
    by_cases hlt : k < m
    · obtain ⟨b, o, p, rfl, hb, hp, hc1, hc2⟩ := hs.at_ (k := k) (by have := Hm.out; omega)
      have Hp := Lib.hid hp
      clear hp hs
      have hg1 := Hg.out p.1
      cases hq : getP l p.1 with
      | none =>
        rw [hq] at hg1
        have Hres : Hid (hasP l ms = false) := hasP_no Hp.out (by rw [hasOne, hq])
        have Hg1 := Lib.hid hg1
        clear hg1 hq
        go_wp2_with fail
        refine Hg1.out.mono ?_
        rintro e w' ⟨rfl, rfl⟩
        go_wp2
        go_ret
        exact ⟨ret_bool Hres.out.symm, rfl⟩
      | some v =>
        rw [hq] at hg1
        have Hg1 := Lib.hid hg1
        clear hg1
        by_cases he : (v.toList == p.2.toList) = true
        · have Hone : Hid (hasOne l p = true) := by show hasOne l p = true; rw [hasOne, hq]; exact he
          clear hq
          go_wp2_with fail
          refine Hg1.out.mono ?_
          rintro e w' ⟨rfl, rfl⟩
          go_wp2
          go_round
          case rel =>
            refine ⟨k + 1, by omega, by go_num, fun j q hj hq => ?_⟩
            by_cases hjk : j = k
            · subst hjk
              have e := Hp.out.symm.trans hq
              simp at e; subst e
              exact Hone.out
            · exact Hno.out j q (by omega) hq
          case measure => simp [intOf]; omega
        · have he : (v.toList == p.2.toList) = false := by simpa using he
          have Hres : Hid (hasP l ms = false) := hasP_no Hp.out (by rw [hasOne, hq]; exact he)
          clear hq
          go_wp2_with fail
          refine Hg1.out.mono ?_
          rintro e w' ⟨rfl, rfl⟩
          go_wp2
          go_ret
          exact ⟨ret_bool Hres.out.symm, rfl⟩
    · have Hres : Hid (hasP l ms = true) := hasP_yes fun j q hq => Hno.out j q (by have := (List.getElem?_eq_some_iff.1 hq).1; have := Hm.out; omega) hq
      clear hs
      go_wp2
      go_ret
      exact ⟨ret_bool Hres.out.symm, rfl⟩

/-- both's: the second's, and of the first's those whose keys the second hasn't -/
def keepP (a b : List Pr) : List Pr := a.filter fun p => !(getP b p.1).isSome
def mergeP (a b : List Pr) : List Pr × Nat := makeP (b ++ keepP a b)
theorem keep_succ {a : List Pr} {k : Nat} {p : Pr} (hp : a[k]? = some p) (b : List Pr) : keepP (a.take (k + 1)) b = keepP (a.take k) b ++ if (getP b p.1).isSome = true then [] else [p] := by
  obtain ⟨h1, rfl⟩ := List.getElem?_eq_some_iff.1 hp
  rw [List.take_succ_eq_append_getElem h1, keepP, List.filter_append]
  congr 1
  rw [List.filter_cons]
  cases (getP b a[k].1).isSome <;> simp
end Go.Proofs.YtbadohcphadjfaaDoor
