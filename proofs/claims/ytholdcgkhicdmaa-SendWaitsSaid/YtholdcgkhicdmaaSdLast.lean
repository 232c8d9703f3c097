/- Layer 10: Last; an append to the row of flights. -/
import Derived.Test.YtholdcgkhicdmaaSdNew
import Derived.Test.YtholdcgkhicdmaaApp
namespace Go.Proofs.Ytholdcgkhicdmaa
open Go.RowKit

def lastI (L : List Fg) : Nat := (L.getLast?.map (·.i)).getD 0
theorem lastI_nil : lastI [] = 0 := rfl
theorem lastI_get {L : List Fg} (h : 0 < L.length) : ∃ f, L[L.length - 1]? = some f ∧ lastI L = f.i := by
  refine ⟨L[L.length - 1]'(by omega), List.getElem?_eq_getElem _, ?_⟩
  unfold lastI
  rw [List.getLast?_eq_getElem?, List.getElem?_eq_getElem (by omega)]
  rfl
section
variable {S : Nat → Prop} {s : Nat} {X : Sd} {L : List Fg}
set_option maxRecDepth 100000 in
set_option maxHeartbeats 400000 in
theorem sdlast_nil (w : World) : Calls Try.prog 15 #[.pointer none] w fun e w' => e = .returned (.int .u64 0) ∧ w = w' := by
  go_enter Try.func15, Try.ntmps15
  go_wp2
  go_ret
  exact ⟨rfl, rfl⟩
set_option maxRecDepth 100000 in
set_option maxHeartbeats 400000 in
theorem sdlast_any (w : World) (h : SdAt w S s X L) :
    Calls Try.prog 15 #[.pointer (some ⟨s, 0, none⟩)] w fun e w' => e = .returned (.int .u64 (lastI L)) ∧ Below w.heap.size w w' := by
  obtain ⟨v, h1, h2⟩ := h.row
  have hfw := h.few
  rcases Nat.eq_zero_or_pos L.length with h0 | h0
  · obtain ⟨A, c, rfl⟩ := h2.slice
    have c4 : w.cell? ⟨s, 4, none⟩ = some (.slice A 0 c) := by rw [← h0]; exact cell_of_row _ _ 4 _ _ _ h1
    obtain rfl : L = [] := List.eq_nil_of_length_eq_zero h0
    clear h h1 h2 hfw h0
    go_enter Try.func15, Try.ntmps15
    go_wp2
    go_ret
    exact ⟨rfl, Below.refl _ _⟩
  · obtain ⟨f, hf, hl⟩ := lastI_get h0
    obtain ⟨g, o, c, rfl, hS, hgs, hfz, hr⟩ := h2.at_ hf
    have c4 : w.cell? ⟨s, 4, none⟩ = some (.slice (some ⟨g, o, none⟩) L.length c) := cell_of_row _ _ 4 _ _ _ h1
    have cI : w.cell? ⟨g, o + (L.length - 1) * 6 + 1, none⟩ = some (.int .u64 f.i) := hr 1 _ rfl
    rw [hl]
    obtain ⟨n, hn⟩ : ∃ n, n = L.length := ⟨_, rfl⟩
    rw [← hn] at c4 hfw h0 cI
    have e1 : ((n : Int) - 1) = ((n - 1 : Nat) : Int) := by omega
    have hw : IntKind.i64.wrap ((n : Int) - 1) = ((n - 1 : Nat) : Int) := by rw [IntKind.wrap_i64]; omega
    have d1 : ((n : Int) == 0) = false := by rw [beq_eq_false_iff_ne]; omega
    have d2 : (n == 0) = false := by rw [beq_eq_false_iff_ne]; omega
    have d3 : decide (((n - 1 : Nat) : Int) < (n : Int)) = true := decide_eq_true (by omega)
    have d4 : decide (n - 1 < n) = true := decide_eq_true (by omega)
    obtain ⟨m, hm⟩ : ∃ m, m = n - 1 := ⟨_, rfl⟩
    rw [← hm] at cI hw d3 d4 e1
    have hmn : m < n := by omega
    have hn0 : ¬ n = 0 := by omega
    clear h h1 h2 hn hm hl hr hf hfz
    go_enter Try.func15, Try.ntmps15
    go_wp2
    go_quiet (fail)
    go_wp2
    go_ret
    exact ⟨rfl, cbelow_drewN (Below.refl _ _) _⟩
end
theorem sdR_own {w : World} {S : Nat → Prop} {s : Nat} {v : Value} {L : List Fg} (h : w.ownsRow 0 48 6 v L.length (cellsF L)) (hf : L.length ≤ 100000) (hS : ∀ k, v.ownBlock = some k → S k ∧ k ≠ s) : SdR w S s v L := by
  refine ⟨hf, ?_⟩
  rcases h.2 with ⟨e, h0⟩ | ⟨g, cap, cur, e, _, hcur, hn, hcm, hcs, hcl⟩
  · exact .inl ⟨e, List.eq_nil_of_length_eq_zero h0⟩
  · refine .inr ⟨g, 0, cap, cur, e, (hS g (by rw [e]; rfl)).1, (hS g (by rw [e]; rfl)).2, hcur, .inl h, fun j u hj => ?_⟩
    rw [← hcl, List.getElem?_take] at hj
    split at hj
    · rw [Nat.zero_add]
      rw [Array.getElem?_toList] at hj
      exact hj
    · cases hj
/-- a flight is appended, whether there is room or not -/
theorem SdR.app {w : World} {S : Nat → Prop} {s b c0 : Nat} {v : Value} {L : List Fg} (h : SdR w S s v L) (hl : ∀ k, S k → k < w.heap.size) (hs : s < w.heap.size) (f : Fg) (hf : L.length < 100000) (ty : TypeId) (hsrc : ∀ (j : Nat) u, (flC f)[j]? = some u → w.cell? ⟨b, j, none⟩ = some u) :
    ∃ A' c' w', (Builtin.append_ #[31, 31] ty #[v, .slice (some ⟨b, 0, none⟩) 1 c0]).run Try.prog w = .ok (.slice A' (L.length + 1) c') w' ∧ SdR w' (fun k => S k ∨ (Value.slice A' (L.length + 1) c').ownBlock = some k) s (.slice A' (L.length + 1) c') (L ++ [f]) ∧ Only (fun k => v.ownBlock = some k) w w' ∧ (∀ k, (Value.slice A' (L.length + 1) c').ownBlock = some k → (v.ownBlock = some k ∨ w.heap.size ≤ k) ∧ k < w'.heap.size) := by
  obtain ⟨i0, hi0, hz0, hz1, hz2⟩ := info_parts Try.infoFgZ
  have hnews : ∀ (j : Nat) u, (flC f)[j]? = some u → w.cell? ((⟨b, 0, none⟩ : Addr).add j) = some u := fun j u hj => by
    rw [Addr.add_lit, Nat.zero_add]
    exact hsrc j u hj
  have hc : cellsF L ++ flC f = cellsF (L ++ [f]) := by rw [cellsF_append, cellsF_cons, cellsF_nil, List.append_nil]
  have hlen : (L ++ [f]).length = L.length + 1 := by simp
  have hvS : ∀ k, v.ownBlock = some k → S k ∧ k ≠ s := fun k hk => by
    rcases h.row with ⟨rfl, _⟩ | ⟨g, o, c, cur, rfl, k2, k3, _⟩
    · cases hk
    · have hk : some g = some k := hk
      injection hk with hk
      rw [← hk]; exact ⟨k2, k3⟩
  have own : w.ownsRow 0 48 6 v L.length (cellsF L) → ∃ A' c' w', (Builtin.append_ #[31, 31] ty #[v, .slice (some ⟨b, 0, none⟩) 1 c0]).run Try.prog w = .ok (.slice A' (L.length + 1) c') w' ∧ SdR w' (fun k => S k ∨ (Value.slice A' (L.length + 1) c').ownBlock = some k) s (.slice A' (L.length + 1) c') (L ++ [f]) ∧ Only (fun k => v.ownBlock = some k) w w' ∧ (∀ k, (Value.slice A' (L.length + 1) c').ownBlock = some k → (v.ownBlock = some k ∨ w.heap.size ≤ k) ∧ k < w'.heap.size) := by
    intro ho
    obtain ⟨v', w', h1, h2, h3, h4⟩ := run_append_src (P := Try.prog) (w := w) (ty := ty) (t := 31) (e := 48) (base := 0) (m := 1) (c := c0) (A := some ⟨b, 0, none⟩) (news := flC f) Try.underlying31 hi0 hz0 hz1 hz2 rfl (by decide) ho ⟨rfl, fun _ => ⟨_, rfl, hnews⟩⟩ (fun u hu => cellsF_one [f] u (by rw [cellsF_cons, cellsF_nil, List.append_nil]; exact hu)) (by unfold maxLen; omega) (by omega) (Nat.zero_le _)
    obtain ⟨A', c', rfl⟩ := ownB_slice h2
    rw [hc] at h2
    have hon : Only (fun k => v.ownBlock = some k) w w' := Only.of_grown h3 (fun k hk => hk)
    have hb : ∀ k, (Value.slice A' (L.length + 1) c').ownBlock = some k → (v.ownBlock = some k ∨ w.heap.size ≤ k) ∧ k < w'.heap.size := fun k hk => ⟨by
      rcases h4 with h4 | h4
      · rw [h4] at hk; exact .inl hk
      · rw [h4] at hk; injection hk with hk; exact .inr (by omega), (h2.lt k hk).2⟩
    refine ⟨A', c', w', h1, sdR_own (by rw [hlen]; exact h2) (by rw [hlen]; omega) (fun k hk => ⟨.inr hk, ?_⟩), hon, hb⟩
    rcases (hb k hk).1 with h5 | h5
    · exact (hvS k h5).2
    · omega
  rcases h.row with ⟨rfl, rfl⟩ | ⟨g, o, c, cur, rfl, k2, k3, k4, k5, k6⟩
  · exact own (World.ownsRow_nil _ _ _ _)
  · rcases k5 with k5 | k5
    · exact own k5
    · subst k5
      obtain ⟨v', w', h1, h2, h3⟩ := run_append_arg_grows (P := Try.prog) (w := w) 31 ty 48 i0 _ 6 _ Try.underlying31 hi0 hz0 hz1 hz2 rfl (by decide) ⟨g, o, none⟩ L.length L.length (cellsF L) (cellsF_length L) (fun j u hj => by
        rw [Addr.add_lit, cell_of_row _ _ _ _ _ _ k4]
        exact k6 j u hj) ⟨b, 0, none⟩ 1 c0 (flC f) rfl hnews (by omega) (by unfold maxLen; omega) (by omega)
      obtain ⟨A', c', rfl⟩ := ownB_slice h2
      rw [hc] at h2
      have hon : Only (fun k => (Value.slice (some ⟨g, o, none⟩) L.length L.length).ownBlock = some k) w w' := Only.of_grown h3 (fun k hk => by cases hk)
      have hb : ∀ k, (Value.slice A' (L.length + 1) c').ownBlock = some k → ((Value.slice (some ⟨g, o, none⟩) L.length L.length).ownBlock = some k ∨ w.heap.size ≤ k) ∧ k < w'.heap.size := fun k hk => ⟨.inr (h2.lt k hk).1, (h2.lt k hk).2⟩
      exact ⟨A', c', w', h1, sdR_own (by rw [hlen]; exact ownB_mono h2 (Nat.zero_le _)) (by rw [hlen]; omega) (fun k hk => ⟨.inr hk, by have := (h2.lt k hk).1; omega⟩), hon, hb⟩
end Go.Proofs.Ytholdcgkhicdmaa
