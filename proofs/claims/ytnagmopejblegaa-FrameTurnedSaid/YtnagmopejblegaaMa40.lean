/- Several texts in one: PkText. -/
import Derived.Test.YtnagmopejblegaaMa39
/- Layer 3: the Reader's Text. -/
namespace Go.Proofs.Ytnagmopejblegaa
open Go.RowKit

theorem RdB.dropMap {w : World} {B : Nat} {A : Option Addr} {l : List Nat} (h : RdB w B A l) (hs : ∀ a, A = some a → ∃ b o, a = ⟨b, o, none⟩) (k : Nat) : RdB w B (A.map (fun x => x.add k)) (l.drop k) := by
  cases A with
  | none =>
    intro h0
    obtain ⟨b, o, e, _⟩ := h (by simp at h0; omega)
    cases e
  | some a =>
    obtain ⟨b, o, rfl⟩ := hs a rfl
    have := h.drop k
    simpa [Addr.add_lit] using this

set_option maxHeartbeats 400000 in
theorem rtext_nil (z : Int) (w : World) :
    Calls Try.prog 68 #[.pointer none, .int .i64 z] w fun e w' => e = .returned (.string ⟨#[]⟩) ∧ w = w' := by
  go_enter Try.func68, Try.ntmps68
  go_wp2
  go_ret
  exact ⟨rfl, rfl⟩

set_option maxRecDepth 100000 in
set_option maxHeartbeats 1000000 in
theorem rtext_any (g : Nat) (l : List Nat) (most : Int) (hmx : most < 9223372036854775808) (w : World) (h : Rdr w g l 0) :
    Calls Try.prog 68 #[.pointer (some ⟨g, 0, none⟩), .int .i64 most] w fun e w' => e = .returned (.string (strB (getT most.toNat l).1)) ∧ Rdr w' g (getT most.toNat l).2.1 ((getT most.toNat l).2.2 : Nat) ∧ w.grownBy w' (some g) := by
  have Hu := Lib.hid (ruint_any g l w h)
  have hz := getU_zero l 0 0
  have hn := getU_lt l 0 0 h.ok (by omega) (by decide)
  unfold getT
  obtain ⟨n', l', e', hR⟩ : ∃ n' l' e', getU 0 0 l = (n', l', e') := ⟨_, _, _, rfl⟩
  rw [hR] at Hu hz hn ⊢
  clear hR h
  simp only at Hu hz hn ⊢
  have HU : Hid (Calls Try.prog 42 #[.pointer (some ⟨g, 0, none⟩)] w fun e w' => e = .returned (.int .u64 (n' : Nat)) ∧ Hid (Rdr w' g l' (e' : Nat)) ∧ Hid (w.grownBy w' (some g))) := Hu
  clear Hu
  have hif : (if most < 0 then (0 : Int) else most) = (most.toNat : Nat) := by split <;> omega
  generalize hM : most.toNat = M at *
  have hMx : M < 9223372036854775808 := by omega
  clear hM hmx
  by_cases he : e' ≠ 0
  · obtain ⟨rfl, rfl⟩ := hz he
    rw [if_pos he]
    replace he := Lib.hid he
    clear hz
    go_enter Try.func68, Try.ntmps68
    go_wp2_with fail
    refine HU.out.mono ?_
    rintro e w1 ⟨rfl, H1, H2⟩
    obtain ⟨A, n, c, c0, hn0, hnc, hA, hr, hm, hs⟩ := H1.out.c0
    obtain rfl : n = 0 := hn0.out
    have f0 := H1.out.f0
    have hcv := conv_any (A := A) (n := 0) (c := c) (l := []) hr rfl (fun _ => rfl)
    have He : Hid ((e' : Int) ≠ 0) := by show _ ≠ _; have := he.out; omega
    go_wp2
    go_ret
    exact ⟨rfl, H1.out.cut rfl (Nat.zero_le _) (fun e => ⟨rfl, (hA.out e).2⟩) RdB.empty (by omega) hs OkB.nil (fun _ => rfl), grownBy_trans H2.out (grown_set _ _ _ _)⟩
  · rw [if_neg he]
    obtain rfl : e' = 0 := by omega
    clear hz he
    by_cases ht : M < n'
    · rw [if_pos ht]
      go_enter Try.func68, Try.ntmps68
      go_wp2_with fail
      refine HU.out.mono ?_
      rintro e w1 ⟨rfl, H1, H2⟩
      go_wp2_with fail
      refine (rfail_set g l' 4 (by decide) w1 H1.out).mono ?_
      rintro e w3 ⟨rfl, h1, h2⟩
      have H3 := Lib.hid h1
      have H4 := Lib.hid (grownBy_trans H2.out h2)
      clear h1 h2
      go_wp2
      go_ret
      exact ⟨rfl, H3.out, H4.out⟩
    · rw [if_neg ht]
      by_cases hs : l'.length < n'
      · rw [if_pos hs]
        go_enter Try.func68, Try.ntmps68
        go_wp2_with fail
        refine HU.out.mono ?_
        rintro e w1 ⟨rfl, H1, H2⟩
        obtain ⟨A, n, c, c0, hn0, hnc, hA, hr, hm, hsp⟩ := H1.out.c0
        have hs2 : n < n' := by rw [hn0.out]; exact hs
        clear hs
        go_wp2_with fail
        refine (rfail_set g l' 3 (by decide) w1 H1.out).mono ?_
        rintro e w3 ⟨rfl, h1, h2⟩
        have H3 := Lib.hid h1
        have H4 := Lib.hid (grownBy_trans H2.out h2)
        clear h1 h2
        go_wp2
        go_ret
        exact ⟨rfl, H3.out, H4.out⟩
      · rw [if_neg hs]
        go_enter Try.func68, Try.ntmps68
        go_wp2_with fail
        refine HU.out.mono ?_
        rintro e w1 ⟨rfl, H1, H2⟩
        obtain ⟨A, n, c, c0, hn0, hnc, hA, hr, hm, hsp⟩ := H1.out.c0
        have hs2 : n' ≤ n := by rw [hn0.out]; omega
        have f0 := H1.out.f0
        have hcv := conv_any (A := A) (n := n') (c := c) (l := l'.take n') (hr.take n') (by rw [List.length_take]; omega) (fun e => by have := hA.out e; omega)
        clear hs
        have Hn : Hid ((l'.drop n').length = n - n') := by show _ = _; rw [List.length_drop, hn0.out]
        have Hr := Lib.hid hr
        have Hsp := Lib.hid hsp
        clear hr hsp
        go_wp2
        · go_ret
          obtain rfl : n = n' := by omega
          have h0 : l'.drop n = [] := List.eq_nil_of_length_eq_zero (by rw [Hn.out]; omega)
          rw [h0]
          exact ⟨rfl, H1.out.cut (by simp) (by omega) (fun e => by have := hA.out e; omega) RdB.empty (by omega) Hsp.out OkB.nil (fun _ => rfl), grownBy_trans H2.out (grown_set _ _ _ _)⟩
        · go_ret
          refine ⟨rfl, H1.out.cut Hn.out.symm (by omega) (fun e => ?_) (Hr.out.dropMap Hsp.out n') (by omega) (fun a e => ?_) (H1.out.ok.drop n') (fun e => absurd rfl e), grownBy_trans H2.out (grown_set _ _ _ _)⟩
          · have := hA.out (by cases A with | none => rfl | some a => cases e)
            omega
          · cases A with
            | none => cases e
            | some a0 =>
              obtain ⟨b, o, rfl⟩ := Hsp.out a0 rfl
              obtain rfl : (⟨b, o, none⟩ : Addr).add n' = a := by injection e
              exact ⟨b, o + n', Addr.add_lit _ _ _⟩
set_option maxRecDepth 100000 in
set_option maxHeartbeats 400000 in
theorem rtext_err (g : Nat) (er most : Int) (he : er ≠ 0) (hmx : most < 9223372036854775808) (w : World) (h : Rdr w g [] er) :
    Calls Try.prog 68 #[.pointer (some ⟨g, 0, none⟩), .int .i64 most] w fun e w' => e = .returned (.string ⟨#[]⟩) ∧ Rdr w' g [] er ∧ w.grownBy w' (some g) := by
  have HU := Lib.hid (ruint_err g er he w h)
  have H := Lib.hid h
  have hif : (if most < 0 then (0 : Int) else most) = (most.toNat : Nat) := by split <;> omega
  generalize hM : most.toNat = M at *
  have hMx : M < 9223372036854775808 := by omega
  clear hM hmx
  obtain ⟨A, n, c, c0, hn0, hnc, hA, hr, hm, hs⟩ := h.c0
  obtain rfl : n = 0 := hn0.out
  have f0 := h.f0
  have hcv := conv_any (A := A) (n := 0) (c := c) (l := []) hr rfl (fun _ => rfl)
  have He := Lib.hid he
  have hb : strB [] = ⟨#[]⟩ := rfl
  rw [hb] at hcv
  clear he h hb
  go_enter Try.func68, Try.ntmps68
  go_wp2_with fail
  refine HU.out.mono ?_
  rintro e w1 ⟨rfl, rfl⟩
  go_wp2
  go_ret
  exact ⟨rfl, H.out.cut rfl (Nat.zero_le _) (fun e => ⟨rfl, (hA.out e).2⟩) RdB.empty (by omega) hs OkB.nil (fun _ => rfl), grown_set _ _ _ _⟩
end Go.Proofs.Ytnagmopejblegaa
