/- Layer 10: send: a window that is filled and acknowledged, in numbers (SendWindow). -/
import Derived.Test.YtholdcgkhicdmaaSdList
namespace Go.Proofs.Ytholdcgkhicdmaa
open Go.RowKit
/-- the flights' numbers follow b, and their indices are a hundred more -/
def WL (b : Nat) (L : List Fg) : Prop := ∀ (j : Nat) (f : Fg), L[j]? = some f → f.q = b + 1 + j ∧ f.i = b + 1 + j + 100
theorem WL.nil (b : Nat) : WL b [] := fun j f h => by simp at h
theorem WL.lt {b : Nat} {L : List Fg} (h : WL b L) {n : Nat} (hn : b + L.length < n) : ∀ f ∈ L, f.q < n := fun f hf => by
  obtain ⟨j, hj, he⟩ := List.getElem_of_mem hf
  have := (h j f (by rw [List.getElem?_eq_getElem hj, he])).1
  omega
theorem WL.head {b : Nat} {L : List Fg} (h : WL b L) : WL b (headF L) := by
  cases L with
  | nil => exact h
  | cons g r =>
    intro j f hf
    cases j with
    | zero =>
      have hf : ({ g with c := false } : Fg) = f := by simpa [headF] using hf
      rw [← hf]
      exact h 0 g rfl
    | succ j =>
      have hf : r[j]? = some f := by simpa [headF] using hf
      exact h (j + 1) f (by simpa using hf)
theorem WL.drop {b : Nat} {L : List Fg} (h : WL b L) (m : Nat) : WL (b + m) (L.drop m) := fun j f hf => by
  rw [List.getElem?_drop] at hf
  obtain ⟨h1, h2⟩ := h (m + j) f hf
  exact ⟨by omega, by omega⟩
theorem WL.app {b : Nat} {L : List Fg} (h : WL b L) {f : Fg} (h1 : f.q = b + 1 + L.length) (h2 : f.i = b + 1 + L.length + 100) : WL b (L ++ [f]) := fun j g hg => by
  by_cases hj : j < L.length
  · rw [List.getElem?_append_left hj] at hg
    exact h j g hg
  · rw [List.getElem?_append_right (by omega)] at hg
    have h3 := (List.getElem?_eq_some_iff.1 hg).1
    have h4 : j = L.length := by simp at h3; omega
    subst h4
    rw [Nat.sub_self] at hg
    have hg : f = g := by simpa using hg
    rw [← hg]
    exact ⟨h1, h2⟩
theorem WL.last {b : Nat} {L : List Fg} (h : WL b L) (h0 : 0 < L.length) : lastI L = b + L.length + 100 := by
  obtain ⟨f, hf, he⟩ := lastI_get h0
  have := (h _ f hf).2
  omega
/-- a sender of window W, whose base is cm and whose next number is nx, all new since w0 -/
def WS (w0 w : World) (s W nx cm : Nat) : Prop :=
  ∃ S X L, SdAt w S s X L ∧ X.W = W ∧ X.b = cm ∧ WL cm L ∧ cm + L.length + 1 = nx ∧ L.length ≤ W ∧ (∀ k, S k → w0.heap.size ≤ k) ∧ Below w0.heap.size w0 w
section
variable {w0 w w' : World} {s W nx cm : Nat}
theorem WS.below (h : WS w0 w s W nx cm) (hb : Below w.heap.size w w') : WS w0 w' s W nx cm := by
  obtain ⟨S, X, L, h1, h2, h3, h4, h5, h6, h7, h8⟩ := h
  exact ⟨S, X, L, h1.below hb, h2, h3, h4, h5, h6, h7, h8.trans (hb.mono h8.size)⟩
theorem ws_new (hW : 1 ≤ W) (hW2 : W ≤ 64) (w : World) :
    Calls Try.prog 7 #[.int .i64 W, .int .u64 1, .int .u64 8] w fun e w' => e = .returned (.tuple #[.pointer (some ⟨w.heap.size, 0, none⟩), .int .i64 0]) ∧ WS w w' w.heap.size W 1 0 :=
  (sdnew_any W 1 8 hW hW2 (by decide) (by decide) (by decide) w).mono fun e w' ⟨he, hs, hb⟩ =>
    ⟨he, _, _, [], hs, rfl, rfl, WL.nil 0, rfl, Nat.zero_le _, fun k hk => by have hk : k = w.heap.size := hk; omega, hb⟩
theorem ws_full (h : WS w0 w s W nx cm) (hW : W ≤ 64) (hc : cm ≤ 1000000) (hf : cm + W + 1 = nx) :
    Calls Try.prog 8 #[.pointer (some ⟨s, 0, none⟩), .int .u64 (nx + 100 : Nat), .int .u64 0] w fun e w' => e = .returned (.tuple #[.int .u64 0, .int .i64 19]) ∧ WS w0 w' s W nx cm := by
  have hh := h
  obtain ⟨S, X, L, h1, h2, h3, h4, h5, h6, h7, h8⟩ := h
  have he : offE X L (nx + 100) 0 = 19 := by
    unfold offE
    rw [if_pos (by omega)]
  refine (sdoffer_any (i := nx + 100) (now := 0) w h1 (by omega) (by omega)).mono ?_
  rintro e w' (⟨_, k1, k2⟩ | ⟨k1, _⟩)
  · rw [he] at k1
    exact ⟨k1, hh.below k2⟩
  · rw [he] at k1; cases k1
theorem ws_offer (h : WS w0 w s W nx cm) (hW : W ≤ 64) (hc : cm ≤ 1000000) (hf : nx < cm + W + 1) :
    Calls Try.prog 8 #[.pointer (some ⟨s, 0, none⟩), .int .u64 (nx + 100 : Nat), .int .u64 0] w fun e w' => e = .returned (.tuple #[.int .u64 nx, .int .i64 0]) ∧ WS w0 w' s W (nx + 1) cm := by
  obtain ⟨S, X, L, h1, h2, h3, h4, h5, h6, h7, h8⟩ := h
  have he : offE X L (nx + 100) 0 = 0 := by
    unfold offE
    rw [if_neg (by omega), if_neg (fun hl => by have := h4.last hl.1; omega), if_neg (by omega)]
  refine (sdoffer_any (i := nx + 100) (now := 0) w h1 (by omega) (by omega)).mono ?_
  rintro e w' (⟨k1, _⟩ | ⟨_, k1, S', k2, k3⟩)
  · exact absurd he k1
  · have e1 : X.b + L.length + 1 = nx := by omega
    rw [e1] at k1
    have hsz := h8.size
    refine ⟨k1, S', X, _, k2, h2, h3, h4.app ?_ ?_, ?_, ?_, fun k hk => ?_, h8.trans (k3.only.below hsz h7)⟩
    · show X.b + L.length + 1 = _
      omega
    · show nx + 100 = _
      omega
    · rw [List.length_append, List.length_singleton]; omega
    · rw [List.length_append, List.length_singleton]; omega
    · rcases k3.new k hk with k4 | k4
      · exact h7 k k4
      · omega
theorem ws_list (h : WS w0 w s W nx cm) :
    Calls Try.prog 11 #[.pointer (some ⟨s, 0, none⟩)] w fun e w' => (∃ A c, e = .returned (.slice A (nx - 1 - cm) c)) ∧ WS w0 w' s W nx cm := by
  have hh := h
  obtain ⟨S, X, L, h1, h2, h3, h4, h5, h6, h7, h8⟩ := h
  refine (sdlist_any w h1).mono ?_
  rintro e w' ⟨⟨A, c, he⟩, hb⟩
  exact ⟨⟨A, c, by rw [he, show nx - 1 - cm = L.length by omega]⟩, hh.below hb⟩
theorem ws_room (h : WS w0 w s W nx cm) (hW : W ≤ 64) (hf : cm + W + 1 = nx) :
    Calls Try.prog 12 #[.pointer (some ⟨s, 0, none⟩)] w fun e w' => e = .returned (.int .i64 0) ∧ WS w0 w' s W nx cm := by
  have hh := h
  obtain ⟨S, X, L, h1, h2, h3, h4, h5, h6, h7, h8⟩ := h
  refine (sdroom_any w h1 (by omega)).mono ?_
  rintro e w' ⟨he, hb⟩
  exact ⟨by rw [he, show (X.W : Int) - L.length = 0 by omega], hh.below hb⟩
theorem ws_ack {c : Nat} (h : WS w0 w s W nx cm) (hc : nx ≤ 1000000) (h9 : cm ≤ c) (h10 : c < nx) :
    Calls Try.prog 10 #[.pointer (some ⟨s, 0, none⟩), .int .u64 c, .int .u64 0] w fun e w' => (∃ ix : Nat, e = .returned (.tuple #[.int .u64 ix, .int .i64 0]) ∧ (ix = 0 ∨ ix = c + 100)) ∧ WS w0 w' s W nx c := by
  obtain ⟨S, X, L, h1, h2, h3, h4, h5, h6, h7, h8⟩ := h
  have hq : ∀ f ∈ L, f.q < 18446744073709551616 := h4.lt (by omega)
  have hsz := h8.size
  by_cases he : c = cm
  · subst he
    refine (sdack_old (bits := 0) w h1 (by omega) (by omega) hq).mono ?_
    rintro e w' ⟨k1, k2, k3⟩
    rw [markL_zero] at k2
    exact ⟨⟨0, k1, .inl rfl⟩, S, X, _, k2, h2, h3, h4.head, by rw [headF_len]; exact h5, by rw [headF_len]; exact h6, h7, h8.trans (k3.only.below hsz h7)⟩
  · obtain ⟨m, hm⟩ : ∃ m, c = cm + (m + 1) := ⟨c - cm - 1, by omega⟩
    have hml : m + 1 ≤ L.length := by omega
    have hf : L[m]? = some (L[m]'(by omega)) := List.getElem?_eq_getElem _
    have hfi := (h4 _ _ hf).2
    refine (sdack_new (bits := 0) w h1 (by omega) (by omega) hml hf (by omega) hq).mono ?_
    rintro e w' ⟨k1, k2, k3⟩
    rw [markL_zero] at k2
    refine ⟨⟨_, k1, .inr (by omega)⟩, S, _, _, k2, h2, rfl, ?_, ?_, ?_, h7, h8.trans (k3.only.below hsz h7)⟩
    · have := h4.drop (m + 1)
      rw [← hm] at this
      exact this.head
    · rw [headF_len, List.length_drop]; omega
    · rw [headF_len, List.length_drop]; omega
end
end Go.Proofs.Ytholdcgkhicdmaa
