/- Layer 10: Ack. -/
import Derived.Test.YtholdcgkhicdmaaSdMark
namespace Go.Proofs.Ytholdcgkhicdmaa
open Go.RowKit

def headF : List Fg → List Fg
  | [] => []
  | f :: r => { f with c := false } :: r
theorem headF_len (L : List Fg) : (headF L).length = L.length := by cases L <;> rfl
section
variable {S : Nat → Prop} {s : Nat} {X : Sd} {L : List Fg}
set_option maxRecDepth 100000 in
set_option maxHeartbeats 400000 in
theorem sdack_nil (cum bits : Nat) (w : World) : Calls Try.prog 10 #[.pointer none, .int .u64 cum, .int .u64 bits] w fun e w' => e = .returned (.tuple #[.int .u64 0, .int .i64 1]) ∧ w = w' := by
  go_enter Try.func10, Try.ntmps10
  go_wp2
  go_ret2
  exact ⟨rfl, rfl⟩
set_option maxRecDepth 100000 in
set_option maxHeartbeats 400000 in
theorem sdack_wrong {cum bits : Nat} (w : World) (h : SdAt w S s X L) (hb : X.b ≤ 1099511627776000) (hc : X.b + L.length + 1 ≤ cum) :
    Calls Try.prog 10 #[.pointer (some ⟨s, 0, none⟩), .int .u64 cum, .int .u64 bits] w fun e w' => e = .returned (.tuple #[.int .u64 0, .int .i64 6]) ∧ Below w.heap.size w w' := by
  have HN := Lib.hid (sdnext_any w h hb)
  obtain ⟨q, hq⟩ : ∃ q, q = X.b + L.length + 1 := ⟨_, rfl⟩
  rw [← hq] at HN hc
  have d1 : decide (q ≤ cum) = true := decide_eq_true hc
  clear hq h
  go_enter Try.func10, Try.ntmps10
  go_wp2_with fail
  refine HN.out.mono ?_
  rintro _ w1 ⟨rfl, hb1⟩
  have HB := Lib.hid hb1
  clear hb1
  go_wp2
  go_ret2
  exact ⟨rfl, HB.out⟩
set_option maxRecDepth 100000 in
set_option maxHeartbeats 1000000 in
theorem sdack_of {cum bits ix : Nat} {X1 : Sd} {L1 : List Fg} (w : World) (h : SdAt w S s X L) (hb : X.b ≤ 1099511627776000) (hc : cum < X.b + L.length + 1) (hq : ∀ f ∈ L1, f.q < 18446744073709551616) (hl : L.length ≤ 100000)
    (HL : ∀ w1, Below w.heap.size w w1 → Calls Try.prog 18 #[.pointer (some ⟨s, 0, none⟩), .int .u64 cum] w1 fun e w' => e = .returned (.int .u64 ix) ∧ SdAt w' S s X1 L1 ∧ Step w1 S w' S) :
    Calls Try.prog 10 #[.pointer (some ⟨s, 0, none⟩), .int .u64 cum, .int .u64 bits] w fun e w' => e = .returned (.tuple #[.int .u64 ix, .int .i64 0]) ∧ SdAt w' S s X1 (headF (markL (cum + 2) bits L1)) ∧ Step w S w' S := by
  have HN := Lib.hid (sdnext_any w h hb)
  have HLD := Lib.hid HL
  have HQ := Lib.hid hq
  obtain ⟨q, hqq⟩ : ∃ q, q = X.b + L.length + 1 := ⟨_, rfl⟩
  have hq9 : cum < 2000000000000000 := by omega
  rw [← hqq] at HN hc
  have d1 : decide (q ≤ cum) = false := decide_eq_false (by omega)
  have d2 : decide ((q : Int) ≤ (cum : Int)) = false := decide_eq_false (by omega)
  obtain ⟨c2, hc2⟩ : ∃ c2, c2 = cum + 2 := ⟨_, rfl⟩
  have e1 : IntKind.u64.wrap ((cum : Int) + 2) = (c2 : Int) := by rw [IntKind.wrap_u64]; omega
  have e2 : (cum : Int) + 2 = (c2 : Int) := by omega
  rw [← hc2]
  clear hqq h hq HL hc2
  go_enter Try.func10, Try.ntmps10
  go_wp2_with fail
  refine HN.out.mono ?_
  rintro _ w1 ⟨rfl, hb1⟩
  have HB1 := Lib.hid hb1
  clear hb1
  go_wp2_with fail
  refine (HLD.out w1 HB1.out).mono ?_
  rintro _ w2 ⟨rfl, hs2, ht2⟩
  have HT2 := Lib.hid ((Step.of_below S HB1.out).trans ht2)
  have HM := Lib.hid (sdmark_any (fr := c2) (bits := bits) w2 hs2 HQ.out)
  clear hs2 ht2 HLD HN HB1
  go_wp2_with fail
  refine HM.out.mono ?_
  rintro _ w3 ⟨rfl, hs3, ht3⟩
  obtain ⟨L3, hL3⟩ : ∃ L3, L3 = markL c2 bits L1 := ⟨_, rfl⟩
  rw [← hL3] at hs3
  have HL3 := Lib.hid hL3
  have HT3 := Lib.hid (HT2.out.trans ht3)
  obtain ⟨v, k1, k2⟩ := hs3.row
  have HS3 := Lib.hid hs3
  clear hL3 ht3 HM HT2 hs3
  rcases Nat.eq_zero_or_pos L3.length with h0 | h0
  · obtain ⟨A, c, rfl⟩ := k2.slice
    have c4 : w3.cell? ⟨s, 4, none⟩ = some (.slice A 0 c) := by rw [← h0]; exact cell_of_row _ _ 4 _ _ _ k1
    obtain rfl : L3 = [] := List.eq_nil_of_length_eq_zero h0
    clear k1 k2 h0
    go_wp2
    go_ret2
    exact ⟨rfl, by rw [← HL3.out]; exact HS3.out, HT3.out⟩
  · obtain ⟨f, r, rfl⟩ : ∃ f r, L3 = f :: r := by
      cases L3 with
      | nil => simp at h0
      | cons f r => exact ⟨f, r, rfl⟩
    obtain ⟨g, o, c, rfl, hS, hgs, hfz, hr⟩ := k2.at_ (k := 0) (f := f) rfl
    have c4 : w3.cell? ⟨s, 4, none⟩ = some (.slice (some ⟨g, o, none⟩) (f :: r).length c) := cell_of_row _ _ 4 _ _ _ k1
    have hset := HS3.out.put (g := g) (o := o) (c := c) (k := 0) (j := 5) (f := f) (f' := { f with c := false }) (u := .bool false) c4 rfl (by decide) rfl
    have c5 : w3.cell? ⟨g, o + 5, none⟩ = some (.bool f.c) := by have := hr 5 _ rfl; rw [Nat.zero_mul, Nat.add_zero] at this; exact this
    have f5 := hfz (o + 5)
    rw [Nat.zero_mul, Nat.add_zero] at hset
    obtain ⟨n, hn⟩ : ∃ n, n = (f :: r).length := ⟨_, rfl⟩
    rw [← hn] at c4 h0
    have HF : Hid (SdAt (w3.setCell ⟨g, o + 5, none⟩ (.bool false)) S s X1 (headF (f :: r)) ∧ Step w S (w3.setCell ⟨g, o + 5, none⟩ (.bool false)) S) :=
      ⟨hset.1, HT3.out.trans ⟨Only.setCell (T := S) _ _ _ hS, fun _ h => .inl h⟩⟩
    clear k1 k2 hset hr hfz hn HS3 HT3
    go_wp2
    go_ret2
    exact ⟨rfl, by rw [← HL3.out]; exact HF.out.1, HF.out.2⟩
theorem sdack_old {cum bits : Nat} (w : World) (h : SdAt w S s X L) (hb : X.b ≤ 1099511627776000) (hc : cum ≤ X.b) (hq : ∀ f ∈ L, f.q < 18446744073709551616) :
    Calls Try.prog 10 #[.pointer (some ⟨s, 0, none⟩), .int .u64 cum, .int .u64 bits] w fun e w' => e = .returned (.tuple #[.int .u64 0, .int .i64 0]) ∧ SdAt w' S s X (headF (markL (cum + 2) bits L)) ∧ Step w S w' S :=
  sdack_of (ix := 0) w h hb (by omega) hq h.few fun w1 hb1 => (sdland_old w1 (h.below hb1) hc).mono fun e w' ⟨he, hw⟩ => ⟨he, hw ▸ h.below hb1, hw ▸ Step.refl _ _⟩
theorem sdack_new {cum bits m : Nat} {f : Fg} (w : World) (h : SdAt w S s X L) (hb : X.b ≤ 1099511627776000) (hc : cum = X.b + (m + 1)) (hm : m + 1 ≤ L.length) (hf : L[m]? = some f) (hcb : cum ≤ 1099511627776000) (hq : ∀ f ∈ L, f.q < 18446744073709551616) :
    Calls Try.prog 10 #[.pointer (some ⟨s, 0, none⟩), .int .u64 cum, .int .u64 bits] w fun e w' => e = .returned (.tuple #[.int .u64 f.i, .int .i64 0]) ∧ SdAt w' S s { X with b := cum } (headF (markL (cum + 2) bits (L.drop (m + 1)))) ∧ Step w S w' S :=
  sdack_of (ix := f.i) w h hb (by omega) (fun x hx => hq x (List.mem_of_mem_drop hx)) h.few fun w1 hb1 => sdland_any w1 (h.below hb1) hc hm hf hcb
end
/-- bits of 0 mark nothing -/
theorem bitB_zero (j : Nat) : bitB 0 j = false := by
  unfold bitB
  rw [show ((0 : Nat) : Int) / 2 ^ min j 64 = 0 by simp]
  decide
theorem markL_zero (fr : Nat) (L : List Fg) : markL fr 0 L = L := by
  unfold markL
  conv => rhs; rw [← List.map_id L]
  refine List.map_congr_left fun f _ => ?_
  unfold markF markB
  rw [bitB_zero, Bool.and_false]
  rfl
end Go.Proofs.Ytholdcgkhicdmaa
