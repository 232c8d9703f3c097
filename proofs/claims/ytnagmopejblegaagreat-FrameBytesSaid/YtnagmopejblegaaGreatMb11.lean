/- Several texts in one: Ref, Held. -/
import Derived.Laws.StructEq
import Derived.Deep.RegionHeld3
import Derived.Test.YtnagmopejblegaaGreatMb8
/- Layer 1: lists held against each other: lab.Same (slices.Equal), the document's own Same; the document's own Less. -/
namespace Go.Proofs.YtnagmopejblegaaGreat
open Go.RowKit

def eqP (p q : Pr) : Bool := eqS p.1 q.1 && eqS p.2 q.2
theorem eqP_iff (p q : Pr) : eqP p q = true ↔ p = q := by
  unfold eqP
  rw [Bool.and_eq_true, eqS_iff, eqS_iff]
  exact ⟨fun h => Prod.ext h.1 h.2, fun h => by rw [h]; exact ⟨rfl, rfl⟩⟩

theorem run_neqP (p q : Pr) (w : World) : (binOp .neq 98 (.agg #[.string p.1, .string p.2]) (.agg #[.string q.1, .string q.2])).run Tryz.prog w = .ok (.bool !(eqP p q)) w := by
  have u9 := Tryz.underlying9
  have hS : Tryz.prog.underlying 98 = some (.struct (Tryz.prog.fieldsOf 98)) := by kernel_rfl
  have hp : Tryz.prog.stoodInHeld 98 = false := by kernel_rfl
  rw [run_neq_struct, show (10000 : Nat) = 9999 + 1 from rfl, run_equalIn_struct w 9999 98 _ _ hS hp]
  simp only [Program.fieldsOf, Tryz.underlying98]
  go_simp
  unfold eqP eqS
  by_cases h1 : p.1.toList = q.1.toList <;> by_cases h2 : p.2.toList = q.2.toList <;> simp [h1, h2]

set_option maxRecDepth 100000 in
set_option maxHeartbeats 400000 in
theorem rsame_any (A : Option Addr) (n c : Nat) (a : List Pr) (A' : Option Addr) (m d : Nat) (b : List Pr) (w : World) (B : Nat) (hn : n = a.length) (hm : m = b.length) (hmx : n ≤ maxLen) (ha : RdP w B A a) (hb : RdP w B A' b) :
    Calls Tryz.prog 49 #[.slice A n c, .slice A' m d] w fun e w' => e = .returned (.bool (decide (a = b))) ∧ ∃ q, w' = w.drewN q := by
  unfold maxLen at hmx
  have Hn := Lib.hid hn
  have Hm := Lib.hid hm
  clear hn hm
  by_cases hl : n = m
  · have hl' := hl
    subst hl
    have hneq : ((n : Int) != (n : Int)) = false := by simp
    go_enter Tryz.func49, Tryz.ntmps49
    go_wp2
    go_loopw [5] (fun i wr => ∃ k q : Nat, k ≤ n ∧ i = .int .i64 k ∧ Hid (∀ j, j < k → a[j]? = b[j]?) ∧ wr = w.drewN q) (fun i _ => n - (intOf i).toNat)
    case atStart => exact ⟨0, 0, Nat.zero_le _, rfl, fun j hj => by omega, rfl⟩
    case round =>
      obtain ⟨k, q, hk, rfl, Hk, rfl⟩ := hrel
      by_cases hlt : k < n
      · obtain ⟨b1, o1, p1, rfl, -, hp1, hc1, hc2⟩ := ha.at_ (k := k) (by have := Hn.out; omega)
        obtain ⟨b2, o2, p2, rfl, -, hp2, hc3, hc4⟩ := hb.at_ (k := k) (by have := Hm.out; omega)
        have Hp1 := Lib.hid hp1
        have Hp2 := Lib.hid hp2
        have hne := run_neqP p1 p2
        clear hp1 hp2 ha hb
        by_cases he : eqP p1 p2 = true
        · have Hres : Hid (a[k]? = b[k]?) := by show a[k]? = b[k]?; rw [Hp1.out, Hp2.out, (eqP_iff _ _).1 he]
          rw [he] at hne
          clear he
          go_wp2
          go_quiet (fail)
          go_wp2
          refine ⟨⟨k + 1, _, by omega, by go_num, fun j hj => ?_, rfl⟩, by simp [intOf]; omega⟩
          by_cases hjk : j = k
          · subst hjk; exact Hres.out
          · exact Hk.out j (by omega)
        · have Hres : Hid (decide (a = b) = false) := decide_eq_false fun h => by
            have h1 := Hp1.out
            rw [h, Hp2.out] at h1
            exact he ((eqP_iff _ _).2 (Option.some.inj h1).symm)
          have he : eqP p1 p2 = false := by simpa using he
          rw [he] at hne
          clear he
          go_wp2
          go_quiet (fail)
          go_wp2
          go_ret
          exact ⟨ret_bool Hres.out.symm, q + nq, World.drewN_drewN ..⟩
      · have Hres : Hid (decide (a = b) = true) := decide_eq_true (List.ext_getElem? fun j => by
          by_cases hj : j < k
          · exact Hk.out j hj
          · rw [List.getElem?_eq_none (by have := Hn.out; omega), List.getElem?_eq_none (by have := Hm.out; omega)])
        clear ha hb
        go_wp2
        go_ret
        exact ⟨ret_bool Hres.out.symm, _, rfl⟩
  · have Hres : Hid (decide (a = b) = false) := decide_eq_false fun h => hl (by rw [Hn.out, Hm.out, h])
    have hneq : ((n : Int) != (m : Int)) = true := by rw [bne_iff_ne]; omega
    go_enter Tryz.func49, Tryz.ntmps49
    go_wp2
    go_ret
    exact ⟨ret_bool Hres.out.symm, 0, rfl⟩

set_option maxRecDepth 100000 in
set_option maxHeartbeats 400000 in
theorem equal_any (A : Option Addr) (n c : Nat) (a : List Pr) (A' : Option Addr) (m d : Nat) (b : List Pr) (w : World) (B : Nat) (hn : n = a.length) (hm : m = b.length) (hmx : n ≤ maxLen) (ha : RdP w B A a) (hb : RdP w B A' b) :
    Calls Tryz.prog 81 #[.slice A n c, .slice A' m d] w fun e w' => e = .returned (.bool (decide (a = b))) ∧ ∃ q, w' = w.drewN q := by
  unfold maxLen at hmx
  have Hn := Lib.hid hn
  have Hm := Lib.hid hm
  clear hn hm
  by_cases hl : n = m
  · have hl' := hl
    subst hl
    have hneq : ((n : Int) != (n : Int)) = false := by simp
    go_enter Tryz.func81, Tryz.ntmps81
    go_wp2
    go_loopw [13] (fun i wr => ∃ k q : Nat, k ≤ n ∧ i = .int .i64 k ∧ Hid (∀ j, j < k → a[j]? = b[j]?) ∧ wr = w.drewN q) (fun i _ => n - (intOf i).toNat)
    case atStart => exact ⟨0, 0, Nat.zero_le _, rfl, fun j hj => by omega, rfl⟩
    case round =>
      obtain ⟨k, q, hk, rfl, Hk, rfl⟩ := hrel
      by_cases hlt : k < n
      · obtain ⟨b1, o1, p1, rfl, -, hp1, hc1, hc2⟩ := ha.at_ (k := k) (by have := Hn.out; omega)
        obtain ⟨b2, o2, p2, rfl, -, hp2, hc3, hc4⟩ := hb.at_ (k := k) (by have := Hm.out; omega)
        have Hp1 := Lib.hid hp1
        have Hp2 := Lib.hid hp2
        have hne := run_neqP p1 p2
        clear hp1 hp2 ha hb
        by_cases he : eqP p1 p2 = true
        · have Hres : Hid (a[k]? = b[k]?) := by show a[k]? = b[k]?; rw [Hp1.out, Hp2.out, (eqP_iff _ _).1 he]
          rw [he] at hne
          clear he
          go_wp2
          go_quiet (fail)
          go_wp2
          refine ⟨⟨k + 1, _, by omega, by go_num, fun j hj => ?_, rfl⟩, by simp [intOf]; omega⟩
          by_cases hjk : j = k
          · subst hjk; exact Hres.out
          · exact Hk.out j (by omega)
        · have Hres : Hid (decide (a = b) = false) := decide_eq_false fun h => by
            have h1 := Hp1.out
            rw [h, Hp2.out] at h1
            exact he ((eqP_iff _ _).2 (Option.some.inj h1).symm)
          have he : eqP p1 p2 = false := by simpa using he
          rw [he] at hne
          clear he
          go_wp2
          go_quiet (fail)
          go_wp2
          go_ret
          exact ⟨ret_bool Hres.out.symm, q + nq, World.drewN_drewN ..⟩
      · have Hres : Hid (decide (a = b) = true) := decide_eq_true (List.ext_getElem? fun j => by
          by_cases hj : j < k
          · exact Hk.out j hj
          · rw [List.getElem?_eq_none (by have := Hn.out; omega), List.getElem?_eq_none (by have := Hm.out; omega)])
        clear ha hb
        go_wp2
        go_ret
        exact ⟨ret_bool Hres.out.symm, _, rfl⟩
  · have Hres : Hid (decide (a = b) = false) := decide_eq_false fun h => hl (by rw [Hn.out, Hm.out, h])
    have hneq : ((n : Int) != (m : Int)) = true := by rw [bne_iff_ne]; omega
    go_enter Tryz.func81, Tryz.ntmps81
    go_wp2
    go_ret
    exact ⟨ret_bool Hres.out.symm, 0, rfl⟩

set_option maxHeartbeats 400000 in
theorem same_any (A : Option Addr) (n c : Nat) (a : List Pr) (A' : Option Addr) (m d : Nat) (b : List Pr) (w : World) (B : Nat) (hn : n = a.length) (hm : m = b.length) (hmx : n ≤ maxLen) (ha : RdP w B A a) (hb : RdP w B A' b) :
    Calls Tryz.prog 69 #[.slice A n c, .slice A' m d] w fun e w' => e = .returned (.bool (decide (a = b))) ∧ ∃ q, w' = w.drewN q := by
  have He := Lib.hid (equal_any A n c a A' m d b w B hn hm hmx ha hb)
  clear hn hm hmx ha hb
  go_enter Tryz.func69, Tryz.ntmps69
  go_wp2_with fail
  refine He.out.mono ?_
  rintro e w' ⟨rfl, q, rfl⟩
  go_wp2
  go_ret
  exact ⟨rfl, q, rfl⟩

end Go.Proofs.YtnagmopejblegaaGreat
/- A region that draws its order, walked under one condition on the world: the laws of Derived/OrdersHeld.lean with the operation read out of the list. No program is named here. -/
namespace Go.Proofs.YtnagmopejblegaaGreat

section
variable {P : Program} {md : Region.Mode} {ops : Array Oper} {Q : Exit → Act → World → Prop} {S : World → Prop}

theorem heldTake {i : Nat} {oi : Oper} {v : Value} {fuel : Nat} {listed : Array Bool} {a : Act} {w : World} (hi : ops.toList[i]? = some oi)
    (hs : Region.noSelect ops = true) (hf : Region.free md ops listed i = true) (hr : (Region.ready md ops listed).contains i = true)
    (hQ : ∀ c a w, Q (.panic c) (a.put oi.dst v) w → Q (.panic c) a w) (hy : YieldsIf P ops S oi v a) (hS : S w)
    (h : wpAnyH P md ops Q S fuel (listed.setIfInBounds i true) (a.put oi.dst v) w) : wpAnyH P md ops Q S (fuel + 1) listed a w :=
  wpAnyH_take (by rw [← Array.getElem?_toList]; exact hi) hs hf hr hQ hy hS h

theorem heldOne {i : Nat} {o : Oper} {fuel : Nat} {listed : Array Bool} {a : Act} {w : World} (ho : ops.toList[i]? = some o) (hr : Region.ready md ops listed = [i])
    (h : ∀ K' : Act → World → Prop, Shut (∀ a w, S w → (S w → wpAnyH P md ops Q S fuel (listed.setIfInBounds i true) a w) → K' a w) → if Region.wanted o (yielded ops a.tmps) = true then Oper.wp P o a w K' Q else K' (a.put o.dst undef) w) :
    wpAnyH P md ops Q S (fuel + 1) listed a w :=
  wpAnyH_ready hr (by simp) (AllReadyH.cons (by rw [← Array.getElem?_toList]; exact ho) h AllReadyH.nil)

theorem heldTwo {i j : Nat} {o o' : Oper} {fuel : Nat} {listed : Array Bool} {a : Act} {w : World} (ho : ops.toList[i]? = some o) (ho' : ops.toList[j]? = some o') (hr : Region.ready md ops listed = [i, j])
    (h : ∀ K' : Act → World → Prop, Shut (∀ a w, S w → (S w → wpAnyH P md ops Q S fuel (listed.setIfInBounds i true) a w) → K' a w) → if Region.wanted o (yielded ops a.tmps) = true then Oper.wp P o a w K' Q else K' (a.put o.dst undef) w)
    (h' : ∀ K' : Act → World → Prop, Shut (∀ a w, S w → (S w → wpAnyH P md ops Q S fuel (listed.setIfInBounds j true) a w) → K' a w) → if Region.wanted o' (yielded ops a.tmps) = true then Oper.wp P o' a w K' Q else K' (a.put o'.dst undef) w) :
    wpAnyH P md ops Q S (fuel + 1) listed a w :=
  wpAnyH_ready hr (by simp) (AllReadyH.cons (by rw [← Array.getElem?_toList]; exact ho) h (AllReadyH.cons (by rw [← Array.getElem?_toList]; exact ho') h' AllReadyH.nil))

theorem heldThree {i j k : Nat} {o o' o2 : Oper} {fuel : Nat} {listed : Array Bool} {a : Act} {w : World} (ho : ops.toList[i]? = some o) (ho' : ops.toList[j]? = some o') (ho2 : ops.toList[k]? = some o2) (hr : Region.ready md ops listed = [i, j, k])
    (h : ∀ K' : Act → World → Prop, Shut (∀ a w, S w → (S w → wpAnyH P md ops Q S fuel (listed.setIfInBounds i true) a w) → K' a w) → if Region.wanted o (yielded ops a.tmps) = true then Oper.wp P o a w K' Q else K' (a.put o.dst undef) w)
    (h' : ∀ K' : Act → World → Prop, Shut (∀ a w, S w → (S w → wpAnyH P md ops Q S fuel (listed.setIfInBounds j true) a w) → K' a w) → if Region.wanted o' (yielded ops a.tmps) = true then Oper.wp P o' a w K' Q else K' (a.put o'.dst undef) w)
    (h2 : ∀ K' : Act → World → Prop, Shut (∀ a w, S w → (S w → wpAnyH P md ops Q S fuel (listed.setIfInBounds k true) a w) → K' a w) → if Region.wanted o2 (yielded ops a.tmps) = true then Oper.wp P o2 a w K' Q else K' (a.put o2.dst undef) w) :
    wpAnyH P md ops Q S (fuel + 1) listed a w :=
  wpAnyH_ready hr (by simp) (AllReadyH.cons (by rw [← Array.getElem?_toList]; exact ho) h (AllReadyH.cons (by rw [← Array.getElem?_toList]; exact ho') h' (AllReadyH.cons (by rw [← Array.getElem?_toList]; exact ho2) h2 AllReadyH.nil)))

/-- the condition on the world may be turned into one that says more, wherever it holds -/
theorem heldMore {S2 : World → Prop} (himp : ∀ w, S2 w → S w) : ∀ {fuel : Nat} {listed : Array Bool} {a : Act} {w : World}, wpAnyH P md ops Q S2 fuel listed a w → wpAnyH P md ops Q S fuel listed a w
  | 0, _, _, _, h => h
  | _ + 1, _, _, _, h => ⟨h.1, fun i hi => wpOp_mono (fun _ _ h' => ⟨himp _ h'.1, heldMore himp h'.2⟩) (h.2 i hi)⟩

theorem heldPut (l : List Value) (ds : List Deferred) (d : Nat) (v : Value) : Act.put { tmps := l.toArray, defers := ds } (some d) v = { tmps := (l.set d v).toArray, defers := ds } := by
  simp [Act.put]
end
end Go.Proofs.YtnagmopejblegaaGreat
