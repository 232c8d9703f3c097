/- Layer 10: send: one item that is sent over and over, in numbers (SendWaits). -/
import Derived.Test.YtholdcgkhicdmaaSdAwk
namespace Go.Proofs.Ytholdcgkhicdmaa
open Go.RowKit
/-- a sender of one item that is due at d and then waits v, at most b; all new since w0 -/
def SW (w0 w : World) (s b t d v : Nat) : Prop :=
  ∃ S X f, SdAt w S s X [f] ∧ X.b = 0 ∧ X.m = b ∧ X.t ≤ t ∧ X.a ≤ t ∧ f.q = 1 ∧ f.c = false ∧ f.d = d ∧ f.v = v ∧ (∀ k, S k → w0.heap.size ≤ k) ∧ Below w0.heap.size w0 w
section
variable {w0 w w' : World} {s a b t d v now : Nat}
theorem SW.bl (h : SW w0 w s b t d v) : Below w0.heap.size w0 w := by
  obtain ⟨S, X, f, -, -, -, -, -, -, -, -, -, -, h⟩ := h
  exact h
theorem SW.below (h : SW w0 w s b t d v) (hb : Below w.heap.size w w') : SW w0 w' s b t d v := by
  obtain ⟨S, X, f, h1, h2, h3, h4, h5, h6, h7, h8, h9, h10, h11⟩ := h
  exact ⟨S, X, f, h1.below hb, h2, h3, h4, h5, h6, h7, h8, h9, h10, h11.trans (hb.mono h11.size)⟩
theorem sw_offer {S : Nat → Prop} (h : SdAt w S s ⟨3, a, b, 0, 0, 0⟩ []) (hS : ∀ k, S k → w0.heap.size ≤ k) (hb : Below w0.heap.size w0 w) :
    Calls Try.prog 8 #[.pointer (some ⟨s, 0, none⟩), .int .u64 (7 : Nat), .int .u64 (0 : Nat)] w fun e w' => e = .returned (.tuple #[.int .u64 (1 : Nat), .int .i64 0]) ∧ SW w0 w' s b 0 0 a := by
  refine (sdoffer_any (i := 7) (now := 0) w h (by show 3 ≤ 1000; decide) (by show 0 ≤ _; decide)).mono ?_
  have he : offE ⟨3, a, b, 0, 0, 0⟩ [] 7 0 = 0 := by
    unfold offE
    rw [if_neg (by show ¬ 3 ≤ 0; decide), if_neg (by decide), if_neg (by show ¬ (_ < 0 + 0 + 1 ∨ _ ∨ _); decide)]
  rintro e w' (⟨k1, _⟩ | ⟨_, k1, S', k2, k3⟩)
  · exact absurd he k1
  · refine ⟨k1, S', _, _, k2, rfl, rfl, Nat.le_refl _, Nat.le_refl _, rfl, rfl, rfl, rfl, fun k hk => ?_, hb.trans (k3.only.below hb.size hS)⟩
    rcases k3.new k hk with k4 | k4
    · exact hS k k4
    · have := hb.size; omega
theorem sw_due (h : SW w0 w s b t d v) (hn : now ≤ 1000000) (ht : t ≤ 1000000) (hv : v ≤ 1000000) (hd : d ≤ now) :
    Calls Try.prog 9 #[.pointer (some ⟨s, 0, none⟩), .int .u64 now] w fun e w' => (∃ A c, e = .returned (.slice A 1 c)) ∧ SW w0 w' s b (t + 1) (now + v) (min (2 * v) b) := by
  obtain ⟨S, X, f, h1, h2, h3, h4, h5, h6, h7, h8, h9, h10, h11⟩ := h
  have hB : dueB now f = true := by unfold dueB; rw [h7, decide_eq_true (show f.d ≤ now by omega)]; rfl
  have hN : dueN now [f] = 1 := by unfold dueN; simp [hB]
  have hL : dueL X.m now [f] = [sndF X.m now f] := by unfold dueL; rw [List.map_cons, List.map_nil]; unfold dueF; rw [hB]; rfl
  obtain ⟨x1, x2, -, -, x3, x4⟩ := dueX_le now [f] X
  have hl1 : ([f] : List Fg).length = 1 := rfl
  refine (sddue_any (now := now) w h1 (by omega) (by omega) (by omega) (fun g hg => by
    rw [List.mem_singleton] at hg
    rw [hg]; omega)).mono ?_
  rintro e w' ⟨k1, k2, k3⟩
  rw [hN] at k1
  rw [hL] at k2
  refine ⟨k1, S, _, _, k2, by omega, by omega, by omega, by omega, h6, h7, ?_, ?_, h10, h11.trans (k3.only.below h11.size h10)⟩
  · show now + f.v = _
    omega
  · show min (2 * f.v) X.m = _
    rw [h9, h3]
theorem sw_not (h : SW w0 w s b t d v) (hn : now ≤ 1000000) (ht : t ≤ 1000000) (hv : v ≤ 1000000) (hd : now < d) :
    Calls Try.prog 9 #[.pointer (some ⟨s, 0, none⟩), .int .u64 now] w fun e w' => (∃ A c, e = .returned (.slice A 0 c)) ∧ SW w0 w' s b (t + 1) d v := by
  obtain ⟨S, X, f, h1, h2, h3, h4, h5, h6, h7, h8, h9, h10, h11⟩ := h
  have hB : dueB now f = false := by unfold dueB; rw [decide_eq_false (show ¬ f.d ≤ now by omega)]; simp
  have hN : dueN now [f] = 0 := by unfold dueN; simp [hB]
  have hL : dueL X.m now [f] = [f] := by unfold dueL; rw [List.map_cons, List.map_nil]; unfold dueF; rw [hB]; rfl
  obtain ⟨x1, x2, -, -, x3, x4⟩ := dueX_le now [f] X
  have hl1 : ([f] : List Fg).length = 1 := rfl
  refine (sddue_any (now := now) w h1 (by omega) (by omega) (by omega) (fun g hg => by
    rw [List.mem_singleton] at hg
    rw [hg]; omega)).mono ?_
  rintro e w' ⟨k1, k2, k3⟩
  rw [hN] at k1
  rw [hL] at k2
  exact ⟨k1, S, _, _, k2, by omega, by omega, by omega, by omega, h6, h7, h8, h9, h10, h11.trans (k3.only.below h11.size h10)⟩
theorem sw_ack0 (h : SW w0 w s b t d v) :
    Calls Try.prog 10 #[.pointer (some ⟨s, 0, none⟩), .int .u64 (0 : Nat), .int .u64 (0 : Nat)] w fun e w' => e = .returned (.tuple #[.int .u64 0, .int .i64 0]) ∧ SW w0 w' s b t d v := by
  obtain ⟨S, X, f, h1, h2, h3, h4, h5, h6, h7, h8, h9, h10, h11⟩ := h
  refine (sdack_old (cum := 0) (bits := 0) w h1 (by omega) (by omega) (fun g hg => by
    rw [List.mem_singleton] at hg
    rw [hg, h6]; decide)).mono ?_
  rintro e w' ⟨k1, k2, k3⟩
  rw [markL_zero] at k2
  exact ⟨k1, S, X, { f with c := false }, k2, h2, h3, h4, h5, h6, rfl, h8, h9, h10, h11.trans (k3.only.below h11.size h10)⟩
/-- nothing is in flight any more -/
def SW0 (w0 w : World) (s t : Nat) : Prop := ∃ S X, SdAt w S s X [] ∧ X.t ≤ t ∧ X.a ≤ t ∧ (∀ k, S k → w0.heap.size ≤ k) ∧ Below w0.heap.size w0 w
theorem sw_ack1 (h : SW w0 w s b t d v) :
    Calls Try.prog 10 #[.pointer (some ⟨s, 0, none⟩), .int .u64 (1 : Nat), .int .u64 (0 : Nat)] w fun e w' => (∃ x : Nat, e = .returned (.tuple #[.int .u64 x, .int .i64 0])) ∧ SW0 w0 w' s t := by
  obtain ⟨S, X, f, h1, h2, h3, h4, h5, h6, h7, h8, h9, h10, h11⟩ := h
  refine (sdack_new (cum := 1) (bits := 0) (m := 0) (f := f) w h1 (by omega) (by omega) (Nat.le_refl 1) rfl (by decide) (fun g hg => by
    rw [List.mem_singleton] at hg
    rw [hg, h6]; decide)).mono ?_
  rintro e w' ⟨k1, k2, k3⟩
  exact ⟨⟨_, k1⟩, S, _, k2, h4, h5, h10, h11.trans (k3.only.below h11.size h10)⟩
theorem sw_due0 (h : SW0 w0 w s t) (hn : now ≤ 1000000) (ht : t ≤ 1000000) :
    Calls Try.prog 9 #[.pointer (some ⟨s, 0, none⟩), .int .u64 now] w fun e w' => (∃ A c, e = .returned (.slice A 0 c)) ∧ Below w0.heap.size w0 w' := by
  obtain ⟨S, X, h1, h2, h3, h4, h5⟩ := h
  refine (sddue_any (now := now) w h1 (by omega) (by omega) (by omega) (fun g hg => by cases hg)).mono ?_
  rintro e w' ⟨k1, k2, k3⟩
  exact ⟨k1, h5.trans (k3.only.below h5.size h4)⟩
end
end Go.Proofs.Ytholdcgkhicdmaa
