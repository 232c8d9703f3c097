/- Layer 10: SendNone's walk. -/
import Derived.Test.YtholdcgkhicdmaaSdAwk
namespace Go.Proofs.Ytholdcgkhicdmaa
open Go.RowKit
/-- New, whatever it is given -/
theorem sdnew_all (z : Int) (f m : Nat) (w : World) : ∃ (p : Option Addr) (code : Nat), Calls Try.prog 7 #[.int .i64 z, .int .u64 f, .int .u64 m] w (fun e w' => e = .returned (.tuple #[.pointer p, .int .i64 code]) ∧ Below w.heap.size w w') ∧
    ((z < 1 ∧ p = none ∧ code = 19) ∨ (1 ≤ z ∧ 64 < z ∧ p = none ∧ code = 19) ∨ (1 ≤ z ∧ z ≤ 64 ∧ f = 0 ∧ p = none ∧ code = 6) ∨ (1 ≤ z ∧ z ≤ 64 ∧ 0 < f ∧ m < f ∧ p = none ∧ code = 6) ∨ (1 ≤ z ∧ z ≤ 64 ∧ 0 < f ∧ f ≤ m ∧ 1048576 < m ∧ p = none ∧ code = 6) ∨ (1 ≤ z ∧ z ≤ 64 ∧ 0 < f ∧ f ≤ m ∧ m ≤ 1048576 ∧ p = some ⟨w.heap.size, 0, none⟩ ∧ code = 0)) := by
  by_cases h1 : z < 1
  · exact ⟨none, 19, (sdnew_wrong z f m (.inl h1) w).mono fun e w' ⟨he, hw⟩ => ⟨he, hw ▸ Below.refl _ _⟩, .inl ⟨h1, rfl, rfl⟩⟩
  by_cases h2 : 64 < z
  · exact ⟨none, 19, (sdnew_wrong z f m (.inr h2) w).mono fun e w' ⟨he, hw⟩ => ⟨he, hw ▸ Below.refl _ _⟩, .inr (.inl ⟨by omega, h2, rfl, rfl⟩)⟩
  by_cases h3 : f = 0
  · exact ⟨none, 6, (sdnew_range z f m (by omega) (by omega) (.inl h3) w).mono fun e w' ⟨he, hw⟩ => ⟨he, hw ▸ Below.refl _ _⟩, .inr (.inr (.inl ⟨by omega, by omega, h3, rfl, rfl⟩))⟩
  by_cases h4 : m < f
  · exact ⟨none, 6, (sdnew_range z f m (by omega) (by omega) (.inr (.inl h4)) w).mono fun e w' ⟨he, hw⟩ => ⟨he, hw ▸ Below.refl _ _⟩, .inr (.inr (.inr (.inl ⟨by omega, by omega, by omega, h4, rfl, rfl⟩)))⟩
  by_cases h5 : 1048576 < m
  · exact ⟨none, 6, (sdnew_range z f m (by omega) (by omega) (.inr (.inr h5)) w).mono fun e w' ⟨he, hw⟩ => ⟨he, hw ▸ Below.refl _ _⟩, .inr (.inr (.inr (.inr (.inl ⟨by omega, by omega, by omega, by omega, h5, rfl, rfl⟩))))⟩
  obtain ⟨k, rfl⟩ : ∃ k : Nat, z = k := ⟨z.toNat, by omega⟩
  exact ⟨_, 0, (sdnew_any k f m (by omega) (by omega) (by omega) (by omega) (by omega) w).mono fun e w' ⟨he, _, hb⟩ => ⟨he, hb⟩, .inr (.inr (.inr (.inr (.inr ⟨by omega, by omega, by omega, by omega, by omega, rfl, rfl⟩))))⟩
namespace sendNone
set_option maxRecDepth 100000 in
set_option maxHeartbeats 4000000 in
theorem walk (z : Int) (f m n : Nat) (w : World) (hn : n < 18446744073709551616) :
    Calls Try.prog 5 #[.int .i64 z, .int .u64 f, .int .u64 m, .int .u64 n] w fun e w' => e = .returned (.bool true) ∧ Below w.heap.size w w' := by
  obtain ⟨r, hr⟩ : ∃ r, r = n % 5 := ⟨_, rfl⟩
  obtain ⟨t, ht⟩ : ∃ t, t = 1099511627777 + r := ⟨_, rfl⟩
  have e1 : (n : Int) % 5 = (r : Int) := by omega
  have e2 : (1099511627777 : Int) + (r : Int) = (t : Int) := by omega
  have e3 : IntKind.u64.wrap ((1099511627777 : Int) + (r : Int)) = (t : Int) := by rw [IntKind.wrap_u64]; omega
  have HT := Lib.hid (show 1099511627776 < t by omega)
  clear hr ht
  go_enter Try.func5, Try.ntmps5
  go_wp2_with fail
  refine (awake10_any w).mono ?_
  rintro _ w0 ⟨rfl, hb0⟩
  have HB0 := Lib.hid hb0
  clear hb0
  obtain ⟨p, code, hnew, hc⟩ := sdnew_all z f m w0
  have HNEW := Lib.hid hnew
  clear hnew
  have HCT : Hid (∀ W : World, Calls Try.prog 7 #[.int .i64 1, .int .u64 1, .int .u64 1] W fun e w' => e = .returned (.tuple #[.pointer (some ⟨W.heap.size, 0, none⟩), .int .i64 0]) ∧ SdAt w' (fun k => k = W.heap.size) W.heap.size ⟨1, 1, 1, 0, 0, 0⟩ [] ∧ Below W.heap.size W w') := fun W => sdnew_any 1 1 1 (by decide) (by decide) (by decide) (by decide) (by decide) W
  have HOF : Hid (∀ (W : World) (S : Nat → Prop) (s : Nat), SdAt W S s ⟨1, 1, 1, 0, 0, 0⟩ [] → Calls Try.prog 8 #[.pointer (some ⟨s, 0, none⟩), .int .u64 1, .int .u64 t] W fun e w' => e = .returned (.tuple #[.int .u64 0, .int .i64 6]) ∧ Below W.heap.size W w') := fun W S s hs => by
    have he : offE ⟨1, 1, 1, 0, 0, 0⟩ [] 1 t = 6 := by
      unfold offE
      rw [if_neg (by decide), if_neg (by decide), if_pos (.inr (.inr HT.out))]
    refine (sdoffer_any (i := 1) (now := t) W hs (by decide) (by decide)).mono ?_
    rintro e w' (⟨_, h2, h3⟩ | ⟨h1, _⟩)
    · rw [he] at h2; exact ⟨h2, h3⟩
    · rw [he] at h1; cases h1
  clear hn
  go_wp2_with fail
  refine HNEW.out.mono ?_
  rintro _ w1 ⟨rfl, hb1⟩
  have HB1 := Lib.hid (HB0.out.trans (hb1.mono HB0.out.size))
  clear hb1 HNEW HB0
  rcases hc with ⟨h1, rfl, rfl⟩ | ⟨h1, h2, rfl, rfl⟩ | ⟨h1, h2, rfl, rfl, rfl⟩ | ⟨h1, h2, h3, h4, rfl, rfl⟩ | ⟨h1, h2, h3, h4, h5, rfl, rfl⟩ | ⟨h1, h2, h3, h4, h5, rfl, rfl⟩
  · have x1 : decide (z < 1) = true := decide_eq_true h1
    go_upto_region 9 with fail
    clear x1
    go_wp2_with fail
    refine (sdoffer_nil n n w1).mono ?_
    rintro _ _ ⟨rfl, rfl⟩
    go_wp2_with fail
    refine (sdack_nil n n w1).mono ?_
    rintro _ _ ⟨rfl, rfl⟩
    go_wp2_with fail
    refine (sdwake_nil w1).mono ?_
    rintro _ _ ⟨rfl, rfl⟩
    go_wp2_with fail
    refine (sdcounts_nil w1).mono ?_
    rintro _ _ ⟨rfl, rfl⟩
    go_wp2_with fail
    refine (HCT.out w1).mono ?_
    rintro _ w2 ⟨rfl, hs2, hb2⟩
    obtain ⟨s, hs⟩ : ∃ s, s = w1.heap.size := ⟨_, rfl⟩
    rw [← hs] at hs2 ⊢
    have HO2 := Lib.hid (HOF.out w2 _ s hs2)
    have HB2 := Lib.hid (HB1.out.trans (hb2.mono HB1.out.size))
    clear hs2 hb2 hs HOF HCT HB1
    go_wp2_with fail
    refine HO2.out.mono ?_
    rintro _ w3 ⟨rfl, hb3⟩
    have HB3 := Lib.hid (HB2.out.trans (hb3.mono HB2.out.size))
    clear hb3 HO2 HB2
    go_wp2_with fail
    refine (sdlast_nil w3).mono ?_
    rintro _ _ ⟨rfl, rfl⟩
    go_wp2_with fail
    refine (sddue_nil n w3).mono ?_
    rintro _ _ ⟨rfl, rfl⟩
    go_wp2_with fail
    refine (sdlist_nil w3).mono ?_
    rintro _ _ ⟨rfl, rfl⟩
    go_wp2_with fail
    refine (sdroom_nil w3).mono ?_
    rintro _ _ ⟨rfl, rfl⟩
    go_wp2_with fail
    refine (sddue_late (s := s) (now := 1099511627777) w3 (by decide)).mono ?_
    rintro _ _ ⟨rfl, rfl⟩
    go_wp2
    go_ret
    exact ⟨rfl, HB3.out⟩
  · have x1 : decide (z < 1) = false := decide_eq_false (by omega)
    have x2 : decide (64 < z) = true := decide_eq_true h2
    go_upto_region 9 with fail
    clear x1 x2
    go_wp2_with fail
    refine (sdoffer_nil n n w1).mono ?_
    rintro _ _ ⟨rfl, rfl⟩
    go_wp2_with fail
    refine (sdack_nil n n w1).mono ?_
    rintro _ _ ⟨rfl, rfl⟩
    go_wp2_with fail
    refine (sdwake_nil w1).mono ?_
    rintro _ _ ⟨rfl, rfl⟩
    go_wp2_with fail
    refine (sdcounts_nil w1).mono ?_
    rintro _ _ ⟨rfl, rfl⟩
    go_wp2_with fail
    refine (HCT.out w1).mono ?_
    rintro _ w2 ⟨rfl, hs2, hb2⟩
    obtain ⟨s, hs⟩ : ∃ s, s = w1.heap.size := ⟨_, rfl⟩
    rw [← hs] at hs2 ⊢
    have HO2 := Lib.hid (HOF.out w2 _ s hs2)
    have HB2 := Lib.hid (HB1.out.trans (hb2.mono HB1.out.size))
    clear hs2 hb2 hs HOF HCT HB1
    go_wp2_with fail
    refine HO2.out.mono ?_
    rintro _ w3 ⟨rfl, hb3⟩
    have HB3 := Lib.hid (HB2.out.trans (hb3.mono HB2.out.size))
    clear hb3 HO2 HB2
    go_wp2_with fail
    refine (sdlast_nil w3).mono ?_
    rintro _ _ ⟨rfl, rfl⟩
    go_wp2_with fail
    refine (sddue_nil n w3).mono ?_
    rintro _ _ ⟨rfl, rfl⟩
    go_wp2_with fail
    refine (sdlist_nil w3).mono ?_
    rintro _ _ ⟨rfl, rfl⟩
    go_wp2_with fail
    refine (sdroom_nil w3).mono ?_
    rintro _ _ ⟨rfl, rfl⟩
    go_wp2_with fail
    refine (sddue_late (s := s) (now := 1099511627777) w3 (by decide)).mono ?_
    rintro _ _ ⟨rfl, rfl⟩
    go_wp2
    go_ret
    exact ⟨rfl, HB3.out⟩
  · have x1 : decide (z < 1) = false := decide_eq_false (by omega)
    have x2 : decide (64 < z) = false := decide_eq_false (by omega)
    go_upto_region 9 with fail
    clear x1 x2
    go_wp2_with fail
    refine (sdoffer_nil n n w1).mono ?_
    rintro _ _ ⟨rfl, rfl⟩
    go_wp2_with fail
    refine (sdack_nil n n w1).mono ?_
    rintro _ _ ⟨rfl, rfl⟩
    go_wp2_with fail
    refine (sdwake_nil w1).mono ?_
    rintro _ _ ⟨rfl, rfl⟩
    go_wp2_with fail
    refine (sdcounts_nil w1).mono ?_
    rintro _ _ ⟨rfl, rfl⟩
    go_wp2_with fail
    refine (HCT.out w1).mono ?_
    rintro _ w2 ⟨rfl, hs2, hb2⟩
    obtain ⟨s, hs⟩ : ∃ s, s = w1.heap.size := ⟨_, rfl⟩
    rw [← hs] at hs2 ⊢
    have HO2 := Lib.hid (HOF.out w2 _ s hs2)
    have HB2 := Lib.hid (HB1.out.trans (hb2.mono HB1.out.size))
    clear hs2 hb2 hs HOF HCT HB1
    go_wp2_with fail
    refine HO2.out.mono ?_
    rintro _ w3 ⟨rfl, hb3⟩
    have HB3 := Lib.hid (HB2.out.trans (hb3.mono HB2.out.size))
    clear hb3 HO2 HB2
    go_wp2_with fail
    refine (sdlast_nil w3).mono ?_
    rintro _ _ ⟨rfl, rfl⟩
    go_wp2_with fail
    refine (sddue_nil n w3).mono ?_
    rintro _ _ ⟨rfl, rfl⟩
    go_wp2_with fail
    refine (sdlist_nil w3).mono ?_
    rintro _ _ ⟨rfl, rfl⟩
    go_wp2_with fail
    refine (sdroom_nil w3).mono ?_
    rintro _ _ ⟨rfl, rfl⟩
    go_wp2_with fail
    refine (sddue_late (s := s) (now := 1099511627777) w3 (by decide)).mono ?_
    rintro _ _ ⟨rfl, rfl⟩
    go_wp2
    go_ret
    exact ⟨rfl, HB3.out⟩
  · have x1 : decide (z < 1) = false := decide_eq_false (by omega)
    have x2 : decide (64 < z) = false := decide_eq_false (by omega)
    have x3 : ¬ (f : Int) = 0 := by omega
    have x4 : ((f : Int) == 0) = false := by rw [beq_eq_false_iff_ne]; exact x3
    have x5 : decide ((m : Int) < (f : Int)) = true := decide_eq_true (by omega)
    have x6 : decide (m < f) = true := decide_eq_true h4
    go_upto_region 9 with fail
    clear x1 x2 x3 x4 x5 x6
    go_wp2_with fail
    refine (sdoffer_nil n n w1).mono ?_
    rintro _ _ ⟨rfl, rfl⟩
    go_wp2_with fail
    refine (sdack_nil n n w1).mono ?_
    rintro _ _ ⟨rfl, rfl⟩
    go_wp2_with fail
    refine (sdwake_nil w1).mono ?_
    rintro _ _ ⟨rfl, rfl⟩
    go_wp2_with fail
    refine (sdcounts_nil w1).mono ?_
    rintro _ _ ⟨rfl, rfl⟩
    go_wp2_with fail
    refine (HCT.out w1).mono ?_
    rintro _ w2 ⟨rfl, hs2, hb2⟩
    obtain ⟨s, hs⟩ : ∃ s, s = w1.heap.size := ⟨_, rfl⟩
    rw [← hs] at hs2 ⊢
    have HO2 := Lib.hid (HOF.out w2 _ s hs2)
    have HB2 := Lib.hid (HB1.out.trans (hb2.mono HB1.out.size))
    clear hs2 hb2 hs HOF HCT HB1
    go_wp2_with fail
    refine HO2.out.mono ?_
    rintro _ w3 ⟨rfl, hb3⟩
    have HB3 := Lib.hid (HB2.out.trans (hb3.mono HB2.out.size))
    clear hb3 HO2 HB2
    go_wp2_with fail
    refine (sdlast_nil w3).mono ?_
    rintro _ _ ⟨rfl, rfl⟩
    go_wp2_with fail
    refine (sddue_nil n w3).mono ?_
    rintro _ _ ⟨rfl, rfl⟩
    go_wp2_with fail
    refine (sdlist_nil w3).mono ?_
    rintro _ _ ⟨rfl, rfl⟩
    go_wp2_with fail
    refine (sdroom_nil w3).mono ?_
    rintro _ _ ⟨rfl, rfl⟩
    go_wp2_with fail
    refine (sddue_late (s := s) (now := 1099511627777) w3 (by decide)).mono ?_
    rintro _ _ ⟨rfl, rfl⟩
    go_wp2
    go_ret
    exact ⟨rfl, HB3.out⟩
  · have x1 : decide (z < 1) = false := decide_eq_false (by omega)
    have x2 : decide (64 < z) = false := decide_eq_false (by omega)
    have x3 : ¬ (f : Int) = 0 := by omega
    have x4 : ((f : Int) == 0) = false := by rw [beq_eq_false_iff_ne]; exact x3
    have x5 : decide ((m : Int) < (f : Int)) = false := decide_eq_false (by omega)
    have x6 : decide (m < f) = false := decide_eq_false (by omega)
    have x7 : decide ((1048576 : Int) < (m : Int)) = true := decide_eq_true (by omega)
    have x8 : decide (1048576 < m) = true := decide_eq_true h5
    go_upto_region 9 with fail
    clear x1 x2 x3 x4 x5 x6 x7 x8
    go_wp2_with fail
    refine (sdoffer_nil n n w1).mono ?_
    rintro _ _ ⟨rfl, rfl⟩
    go_wp2_with fail
    refine (sdack_nil n n w1).mono ?_
    rintro _ _ ⟨rfl, rfl⟩
    go_wp2_with fail
    refine (sdwake_nil w1).mono ?_
    rintro _ _ ⟨rfl, rfl⟩
    go_wp2_with fail
    refine (sdcounts_nil w1).mono ?_
    rintro _ _ ⟨rfl, rfl⟩
    go_wp2_with fail
    refine (HCT.out w1).mono ?_
    rintro _ w2 ⟨rfl, hs2, hb2⟩
    obtain ⟨s, hs⟩ : ∃ s, s = w1.heap.size := ⟨_, rfl⟩
    rw [← hs] at hs2 ⊢
    have HO2 := Lib.hid (HOF.out w2 _ s hs2)
    have HB2 := Lib.hid (HB1.out.trans (hb2.mono HB1.out.size))
    clear hs2 hb2 hs HOF HCT HB1
    go_wp2_with fail
    refine HO2.out.mono ?_
    rintro _ w3 ⟨rfl, hb3⟩
    have HB3 := Lib.hid (HB2.out.trans (hb3.mono HB2.out.size))
    clear hb3 HO2 HB2
    go_wp2_with fail
    refine (sdlast_nil w3).mono ?_
    rintro _ _ ⟨rfl, rfl⟩
    go_wp2_with fail
    refine (sddue_nil n w3).mono ?_
    rintro _ _ ⟨rfl, rfl⟩
    go_wp2_with fail
    refine (sdlist_nil w3).mono ?_
    rintro _ _ ⟨rfl, rfl⟩
    go_wp2_with fail
    refine (sdroom_nil w3).mono ?_
    rintro _ _ ⟨rfl, rfl⟩
    go_wp2_with fail
    refine (sddue_late (s := s) (now := 1099511627777) w3 (by decide)).mono ?_
    rintro _ _ ⟨rfl, rfl⟩
    go_wp2
    go_ret
    exact ⟨rfl, HB3.out⟩
  · have x1 : decide (z < 1) = false := decide_eq_false (by omega)
    have x2 : decide (64 < z) = false := decide_eq_false (by omega)
    have x3 : ¬ (f : Int) = 0 := by omega
    have x4 : ((f : Int) == 0) = false := by rw [beq_eq_false_iff_ne]; exact x3
    have x5 : decide ((m : Int) < (f : Int)) = false := decide_eq_false (by omega)
    have x6 : decide (m < f) = false := decide_eq_false (by omega)
    have x7 : decide ((1048576 : Int) < (m : Int)) = false := decide_eq_false (by omega)
    have x8 : decide (1048576 < m) = false := decide_eq_false (by omega)
    go_upto_region 9 with fail
    clear x1 x2 x3 x4 x5 x6 x7 x8
    go_wp2_with fail
    refine (sdoffer_nil n n w1).mono ?_
    rintro _ _ ⟨rfl, rfl⟩
    go_wp2_with fail
    refine (sdack_nil n n w1).mono ?_
    rintro _ _ ⟨rfl, rfl⟩
    go_wp2_with fail
    refine (sdwake_nil w1).mono ?_
    rintro _ _ ⟨rfl, rfl⟩
    go_wp2_with fail
    refine (sdcounts_nil w1).mono ?_
    rintro _ _ ⟨rfl, rfl⟩
    go_wp2_with fail
    refine (HCT.out w1).mono ?_
    rintro _ w2 ⟨rfl, hs2, hb2⟩
    obtain ⟨s, hs⟩ : ∃ s, s = w1.heap.size := ⟨_, rfl⟩
    rw [← hs] at hs2 ⊢
    have HO2 := Lib.hid (HOF.out w2 _ s hs2)
    have HB2 := Lib.hid (HB1.out.trans (hb2.mono HB1.out.size))
    clear hs2 hb2 hs HOF HCT HB1
    go_wp2_with fail
    refine HO2.out.mono ?_
    rintro _ w3 ⟨rfl, hb3⟩
    have HB3 := Lib.hid (HB2.out.trans (hb3.mono HB2.out.size))
    clear hb3 HO2 HB2
    go_wp2_with fail
    refine (sdlast_nil w3).mono ?_
    rintro _ _ ⟨rfl, rfl⟩
    go_wp2_with fail
    refine (sddue_nil n w3).mono ?_
    rintro _ _ ⟨rfl, rfl⟩
    go_wp2_with fail
    refine (sdlist_nil w3).mono ?_
    rintro _ _ ⟨rfl, rfl⟩
    go_wp2_with fail
    refine (sdroom_nil w3).mono ?_
    rintro _ _ ⟨rfl, rfl⟩
    go_wp2_with fail
    refine (sddue_late (s := s) (now := 1099511627777) w3 (by decide)).mono ?_
    rintro _ _ ⟨rfl, rfl⟩
    go_wp2
    go_ret
    exact ⟨rfl, HB3.out⟩
end sendNone
end Go.Proofs.Ytholdcgkhicdmaa
