/- Layer 1: the document's own Compare. -/
import Derived.Test.YtbadohcphadjfaaDoorRef
import Derived.Test.YtbadohcphadjfaaDoorSorted
namespace Go.Proofs.YtbadohcphadjfaaDoor
open Go.RowKit

def cmpL : List Pr → List Pr → Int
  | [], [] => 0
  | [], _ :: _ => -1
  | _ :: _, [] => 1
  | x :: a, y :: b => if ltP x y then -1 else if ltP y x then 1 else cmpL a b
theorem ret_i64 {x y : Int} (h : x = y) : Ending.returned (Value.int .i64 x) = Ending.returned (Value.int .i64 y) := by rw [h]
theorem cmpL_at : ∀ (k : Nat) (a b : List Pr) {x y : Pr}, (∀ j, j < k → a[j]? = b[j]?) → a[k]? = some x → b[k]? = some y → cmpL a b = if ltP x y then -1 else if ltP y x then 1 else cmpL (a.drop (k + 1)) (b.drop (k + 1))
  | 0, x' :: a, y' :: b, x, y, _, hx, hy => by
    obtain rfl : x' = x := by simpa using hx
    obtain rfl : y' = y := by simpa using hy
    simp [cmpL]
  | 0, [], _, _, _, _, hx, _ => by simp at hx
  | 0, _ :: _, [], _, _, _, _, hy => by simp at hy
  | k + 1, [], _, _, _, _, hx, _ => by simp at hx
  | k + 1, _ :: _, [], _, _, _, _, hy => by simp at hy
  | k + 1, x' :: a, y' :: b, x, y, he, hx, hy => by
    have e : x' = y' := by have := he 0 (by omega); simpa using this
    subst e
    have ih := cmpL_at k a b (fun j hj => by have := he (j + 1) (by omega); simpa using this) (by simpa using hx) (by simpa using hy)
    rw [cmpL, ltP_irrefl, ih]
    simp
theorem cmpL_end : ∀ (a b : List Pr), (∀ j, j < a.length → j < b.length → a[j]? = b[j]?) → cmpL a b = if a.length < b.length then -1 else if b.length < a.length then 1 else 0
  | [], [], _ => by simp [cmpL]
  | [], _ :: _, _ => by simp [cmpL]
  | _ :: _, [], _ => by simp [cmpL]
  | x :: a, y :: b, he => by
    have e : x = y := by have := he 0 (by simp) (by simp); simpa using this
    subst e
    have ih := cmpL_end a b fun j h1 h2 => by have := he (j + 1) (by simp; omega) (by simp; omega); simpa using this
    rw [cmpL, ltP_irrefl, ih]
    simp

set_option maxRecDepth 100000 in
set_option maxHeartbeats 1500000 in
theorem rcompare_any (A : Option Addr) (n c : Nat) (a : List Pr) (A' : Option Addr) (m d : Nat) (b : List Pr) (w : World) (hn : n = a.length) (hm : m = b.length) (hnx : n ≤ 1048576) (hr : RdP w w.heap.size A a) (hs : RdP w w.heap.size A' b) :
    Calls Tryd.prog 30 #[.slice A n c, .slice A' m d] w fun e w' => e = .returned (.int .i64 (cmpL a b)) ∧ Below w.heap.size w w' := by
  have hmix : Tryd.prog.follows .mixedOrders = true := by kernel_rfl
  have Hn := Lib.hid hn
  have Hm := Lib.hid hm
  have Hr := Lib.hid hr
  have Hs := Lib.hid hs
  clear hn hm hr hs
  go_enter Tryd.func30, Tryd.ntmps30
  go_wp2
  go_loopw [5] (fun i wr => ∃ k : Nat, k ≤ n ∧ k ≤ m ∧ i = .int .i64 k ∧ Below w.heap.size w wr ∧ Hid (∀ j, j < k → a[j]? = b[j]?)) (fun i _ => n - (intOf i).toNat)
  case atStart => exact ⟨0, Nat.zero_le _, Nat.zero_le _, rfl, Below.refl _ _, fun j hj => by omega⟩
  case round =>
    obtain ⟨k, hk, hkm, rfl, hbw, Heq⟩ := hrel
    have hge := hbw.size
    by_cases hlt : k < n
    · by_cases hlm : k < m
      · obtain ⟨b1, o1, x, rfl, hb1, hx, hc1, hc2⟩ := Hr.out.at_ (k := k) (by have := Hn.out; omega)
        obtain ⟨b2, o2, y, rfl, hb2, hy, hc3, hc4⟩ := Hs.out.at_ (k := k) (by have := Hm.out; omega)
        have hcmp := cmpL_at k a b Heq.out hx hy
        have Hx := Lib.hid hx
        have Hy := Lib.hid hy
        have HF : Hid (∀ W, Below w.heap.size w W → (∀ n os, (Sort.grow (W.drewN n) os).cell? ⟨b1, o1 + k * 2, none⟩ = some (.string x.1)) ∧ (∀ n os, (Sort.grow (W.drewN n) os).cell? ⟨b1, o1 + k * 2 + 1, none⟩ = some (.string x.2)) ∧
            (∀ n os, (Sort.grow (W.drewN n) os).cell? ⟨b2, o2 + k * 2, none⟩ = some (.string y.1)) ∧ (∀ n os, (Sort.grow (W.drewN n) os).cell? ⟨b2, o2 + k * 2 + 1, none⟩ = some (.string y.2))) := fun W hW => by
          have hs := hW.size
          exact ⟨Go.cell_grown (by show b1 < W.heap.size; omega) ((hW.cell (p := ⟨b1, o1 + k * 2, none⟩) hb1).trans hc1), Go.cell_grown (by show b1 < W.heap.size; omega) ((hW.cell (p := ⟨b1, o1 + k * 2 + 1, none⟩) hb1).trans hc2),
            Go.cell_grown (by show b2 < W.heap.size; omega) ((hW.cell (p := ⟨b2, o2 + k * 2, none⟩) hb2).trans hc3), Go.cell_grown (by show b2 < W.heap.size; omega) ((hW.cell (p := ⟨b2, o2 + k * 2 + 1, none⟩) hb2).trans hc4)⟩
        clear hx hy hc1 hc2 hc3 hc4
        obtain ⟨f1, f2, f3, f4⟩ := HF.out wr hbw
        have hls := less_grown x y wr
        cases h1 : ltP x y with
        | true =>
          have Hres : Hid (cmpL a b = -1) := by show cmpL a b = -1; rw [hcmp, h1, if_pos rfl]
          rw [h1] at hls
          clear hcmp h1
          go_wp2
          go_quiet_grown (exact hls _ _)
          go_wp2
          go_ret
          exact ⟨ret_i64 Hres.out.symm, below_grow (below_drewN hbw _) (by exact hge) _⟩
        | false =>
          rw [h1] at hls
          cases h2 : ltP y x with
          | true =>
            have Hres : Hid (cmpL a b = 1) := by show cmpL a b = 1; rw [hcmp, h1, if_neg (by simp), h2, if_pos rfl]
            have Hls2 := Lib.hid (less_grown y x)
            rw [h2] at Hls2
            clear hcmp h1 h2
            go_wp2
            go_quiet_grown (exact hls _ _)
            go_wp2
            clear hls f1 f2 f3 f4
            obtain ⟨wi, hwi, hbi⟩ : ∃ wi, wi = Sort.grow (wr.drewN nq) osq ∧ Below w.heap.size w wi := ⟨_, rfl, below_grow (below_drewN hbw _) (by exact hge) _⟩
            rw [← hwi]
            clear hwi
            have hgi := hbi.size
            obtain ⟨f1, f2, f3, f4⟩ := HF.out wi hbi
            go_quiet_grown (exact Hls2.out _ _ _)
            go_wp2
            go_ret
            exact ⟨ret_i64 Hres.out.symm, below_grow (below_drewN hbi _) (by exact hgi) _⟩
          | false =>
            have Hls2 := Lib.hid (less_grown y x)
            rw [h2] at Hls2
            have Hxy := Lib.hid (ltP_total h1 h2)
            clear hcmp h1 h2
            go_wp2
            go_quiet_grown (exact hls _ _)
            go_wp2
            clear hls f1 f2 f3 f4
            obtain ⟨wi, hwi, hbi⟩ : ∃ wi, wi = Sort.grow (wr.drewN nq) osq ∧ Below w.heap.size w wi := ⟨_, rfl, below_grow (below_drewN hbw _) (by exact hge) _⟩
            rw [← hwi]
            clear hwi
            have hgi := hbi.size
            obtain ⟨f1, f2, f3, f4⟩ := HF.out wi hbi
            go_quiet_grown (exact Hls2.out _ _ _)
            go_wp2
            refine ⟨⟨k + 1, by omega, by omega, by go_num, below_grow (below_drewN hbi _) (by exact hgi) _, fun j hj => ?_⟩, by simp [intOf]; omega⟩
            by_cases hjk : j = k
            · subst hjk; rw [Hx.out, Hy.out, Hxy.out]
            · exact Heq.out j (by omega)
      · have hlm2 : m = k := by omega
        have Hres : Hid (cmpL a b = 1) := by
          show cmpL a b = 1
          rw [cmpL_end a b fun j h1 h2 => Heq.out j (by have := Hm.out; omega), if_neg (by have := Hm.out; have := Hn.out; omega), if_pos (by have := Hm.out; have := Hn.out; omega)]
        go_wp2
        go_ret
        exact ⟨ret_i64 Hres.out.symm, hbw⟩
    · have hlm2 : n = k := by omega
      have hce := cmpL_end a b fun j h1 h2 => Heq.out j (by have := Hn.out; omega)
      by_cases hlm : k < m
      · have Hres : Hid (cmpL a b = -1) := hce.trans (if_pos (by have := Hm.out; have := Hn.out; omega))
        clear hce
        go_wp2
        go_ret
        exact ⟨ret_i64 Hres.out.symm, hbw⟩
      · have Hres : Hid (cmpL a b = 0) := by
          show cmpL a b = 0
          rw [hce, if_neg (by have := Hm.out; have := Hn.out; omega), if_neg (by have := Hm.out; have := Hn.out; omega)]
        clear hce
        have hmk : m = k := by omega
        go_wp2
        go_ret
        exact ⟨ret_i64 Hres.out.symm, hbw⟩
end Go.Proofs.YtbadohcphadjfaaDoor
