/- Layer 1: lab.Compare. -/
import Derived.Test.YtbadohcphadjfaaDoorRcompare
import Derived.Test.YtbadohcphadjfaaDoorMake
namespace Go.Proofs.YtbadohcphadjfaaDoor
open Go.RowKit

theorem cb_three : ∀ (a b : List UInt8), Lib.compareBytes a b = -1 ∨ Lib.compareBytes a b = 0 ∨ Lib.compareBytes a b = 1
  | [], [] => .inr (.inl rfl)
  | [], _ :: _ => .inl rfl
  | _ :: _, [] => .inr (.inr rfl)
  | a :: xs, b :: ys => by
    rw [Lib.compareBytes]
    split
    · exact .inl rfl
    · split
      · exact .inr (.inr rfl)
      · exact cb_three xs ys
theorem cmpP_three (p q : Pr) : cmpP p q = -1 ∨ cmpP p q = 0 ∨ cmpP p q = 1 := by
  unfold cmpP orI
  split
  · exact cb_three _ _
  · exact cb_three _ _
theorem cmpP_self (p : Pr) : cmpP p p = 0 := by
  unfold cmpP orI
  rw [if_pos ((cb_zero _ _).2 rfl)]
  exact (cb_zero _ _).2 rfl
theorem cmpP_lt (p q : Pr) : (cmpP p q < 0) ↔ ltP p q = true := by
  rw [← ltP_eq]; unfold ltOf; exact decide_eq_true_iff.symm
theorem cmpP_zero {p q : Pr} (h : cmpP p q = 0) : p = q := by
  unfold cmpP orI at h
  split at h
  · rename_i h1
    have e1 := (eqS_iff _ _).1 ((eqS_data _ _).2 ((cb_zero _ _).1 h1))
    have e2 := (eqS_iff _ _).1 ((eqS_data _ _).2 ((cb_zero _ _).1 h))
    exact Prod.ext e1 e2
  · rename_i h1
    exact absurd h h1
theorem cmpP_val (p q : Pr) : cmpP p q = if ltP p q then -1 else if ltP q p then 1 else 0 := by
  cases h1 : ltP p q with
  | true =>
    have h := (cmpP_lt p q).2 h1
    rw [if_pos rfl]
    rcases cmpP_three p q with e | e | e <;> omega
  | false =>
    have h : ¬ cmpP p q < 0 := fun h => by rw [(cmpP_lt p q).1 h] at h1; cases h1
    rw [if_neg (by simp)]
    cases h2 : ltP q p with
    | true =>
      rw [if_pos rfl]
      have hne : cmpP p q ≠ 0 := fun e => by rw [cmpP_zero e, ltP_irrefl] at h2; cases h2
      rcases cmpP_three p q with e | e | e <;> omega
    | false =>
      rw [if_neg (by simp), ltP_total h1 h2]
      exact cmpP_self _

set_option maxRecDepth 100000 in
set_option maxHeartbeats 1000000 in
theorem comparef_any (A : Option Addr) (n c : Nat) (a : List Pr) (A' : Option Addr) (m d : Nat) (b : List Pr) (w : World) (hn : n = a.length) (hm : m = b.length) (hnx : n ≤ 1048576) (hr : RdP w w.heap.size A a) (hs : RdP w w.heap.size A' b) :
    Calls Tryd.prog 51 #[.slice A n c, .slice A' m d, .func (.func 42) #[] #[]] w fun e w' => e = .returned (.int .i64 (cmpL a b)) ∧ Below w.heap.size w w' := by
  have hmix : Tryd.prog.follows .mixedOrders = true := by kernel_rfl
  have Hn := Lib.hid hn
  have Hm := Lib.hid hm
  have Hr := Lib.hid hr
  have Hs := Lib.hid hs
  clear hn hm hr hs
  go_enter Tryd.func51, Tryd.ntmps51
  go_wp2
  go_loopw [13] (fun i wr => ∃ k : Nat, k ≤ n ∧ k ≤ m ∧ i = .int .i64 k ∧ Below w.heap.size w wr ∧ Hid (∀ j, j < k → a[j]? = b[j]?)) (fun i _ => n - (intOf i).toNat)
  case atStart => exact ⟨0, Nat.zero_le _, Nat.zero_le _, rfl, Below.refl _ _, fun j hj => by omega⟩
  case round =>
    obtain ⟨k, hk, hkm, rfl, hbw, Heq⟩ := hrel
    have hge := hbw.size
    by_cases hlt : k < n
    · obtain ⟨b1, o1, x, rfl, hb1, hx, hc1, hc2⟩ := Hr.out.at_ (k := k) (by have := Hn.out; omega)
      have d1 := (hbw.cell (p := ⟨b1, o1 + k * 2, none⟩) hb1).trans hc1
      have d2 := (hbw.cell (p := ⟨b1, o1 + k * 2 + 1, none⟩) hb1).trans hc2
      by_cases hlm : k < m
      · obtain ⟨b2, o2, y, rfl, hb2, hy, hc3, hc4⟩ := Hs.out.at_ (k := k) (by have := Hm.out; omega)
        have hcmp := cmpL_at k a b Heq.out hx hy
        have hval := cmpP_val x y
        have Hx := Lib.hid hx
        have Hy := Lib.hid hy
        have d3 := (hbw.cell (p := ⟨b2, o2 + k * 2, none⟩) hb2).trans hc3
        have d4 := (hbw.cell (p := ⟨b2, o2 + k * 2 + 1, none⟩) hb2).trans hc4
        have d5 := ((hbw.alloc hge (.cells #[.string x.1, .string x.2] 48)).cell (p := ⟨b2, o2 + k * 2, none⟩) hb2).trans hc3
        have d6 := ((hbw.alloc hge (.cells #[.string x.1, .string x.2] 48)).cell (p := ⟨b2, o2 + k * 2 + 1, none⟩) hb2).trans hc4
        have Hc := Lib.hid (comparePairs_any x y)
        clear hx hy hc1 hc2 hc3 hc4
        by_cases hz : cmpP x y = 0
        · have Hxy := Lib.hid (cmpP_zero hz)
          rw [hz] at Hc
          clear hcmp hval hz
          go_wp2_with fail
          refine (Hc.out _).mono ?_
          rintro e w2 ⟨rfl, q, os, rfl⟩
          go_wp2
          refine ⟨⟨k + 1, by omega, by omega, by go_num, below_grow (below_drewN ((hbw.alloc hge _).alloc (by simp; omega) _) q) (below_drewN ((hbw.alloc hge _).alloc (by simp; omega) _) q).size _, fun j hj => ?_⟩, by simp [intOf]; omega⟩
          by_cases hjk : j = k
          · subst hjk; rw [Hx.out, Hy.out, Hxy.out]
          · exact Heq.out j (by omega)
        · have Hres : Hid (cmpL a b = cmpP x y) := by
            show cmpL a b = cmpP x y
            rw [hcmp, hval]
            split
            · rfl
            · split
              · rfl
              · rename_i h1 h2; rw [hval, if_neg h1, if_neg h2] at hz; exact absurd rfl hz
          have hne : (cmpP x y != 0) = true := by rw [bne_iff_ne]; exact hz
          clear hcmp hval hz
          generalize cmpP x y = z at *
          go_wp2_with fail
          refine (Hc.out _).mono ?_
          rintro e w2 ⟨rfl, q, os, rfl⟩
          go_wp2
          go_ret
          exact ⟨ret_i64 Hres.out.symm, below_grow (below_drewN ((hbw.alloc hge _).alloc (by simp; omega) _) q) (below_drewN ((hbw.alloc hge _).alloc (by simp; omega) _) q).size _⟩
      · have hlm2 : m = k := by omega
        have Hres : Hid (cmpL a b = 1) := by
          show cmpL a b = 1
          rw [cmpL_end a b fun j h1 h2 => Heq.out j (by have := Hm.out; omega), if_neg (by have := Hm.out; have := Hn.out; omega), if_pos (by have := Hm.out; have := Hn.out; omega)]
        go_wp2
        go_ret
        exact ⟨ret_i64 Hres.out.symm, hbw.alloc hge _⟩
    · have hlm2 : n = k := by omega
      have hce := cmpL_end a b fun j h1 h2 => Heq.out j (by have := Hn.out; omega)
      by_cases hlm : k < m
      · have Hres : Hid (cmpL a b = -1) := hce.trans (if_pos (by have := Hm.out; have := Hn.out; omega))
        clear hce
        go_wp2
        go_ret
        exact ⟨ret_i64 Hres.out.symm, hbw⟩
      · have Hres : Hid (cmpL a b = 0) := by
          show cmpL a b = 0
          rw [hce, if_neg (by have := Hm.out; have := Hn.out; omega), if_neg (by have := Hm.out; have := Hn.out; omega)]
        clear hce
        have hmk : m = k := by omega
        go_wp2
        go_ret
        exact ⟨ret_i64 Hres.out.symm, hbw⟩

set_option maxHeartbeats 400000 in
theorem labCompare_any (A : Option Addr) (n c : Nat) (a : List Pr) (A' : Option Addr) (m d : Nat) (b : List Pr) (w : World) (hn : n = a.length) (hm : m = b.length) (hnx : n ≤ 1048576) (hr : RdP w w.heap.size A a) (hs : RdP w w.heap.size A' b) :
    Calls Tryd.prog 27 #[.slice A n c, .slice A' m d] w fun e w' => e = .returned (.int .i64 (cmpL a b)) ∧ Below w.heap.size w w' := by
  have Hc := Lib.hid (comparef_any A n c a A' m d b w hn hm hnx hr hs)
  clear hn hm hr hs
  go_enter Tryd.func27, Tryd.ntmps27
  go_wp2_with fail
  refine Hc.out.mono ?_
  rintro e w' ⟨rfl, hb⟩
  go_wp2
  go_ret
  exact ⟨rfl, hb⟩
end Go.Proofs.YtbadohcphadjfaaDoor
