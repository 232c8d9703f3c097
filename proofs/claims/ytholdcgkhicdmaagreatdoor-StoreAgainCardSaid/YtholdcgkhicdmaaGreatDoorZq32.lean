/- Several texts in one: PkRead, PkText, ItTk, ItTkL. -/
import Derived.Test.YtholdcgkhicdmaaGreatDoorZq31
namespace Go.Proofs.YtholdcgkhicdmaaGreatDoor
open Go.RowKit
set_option maxRecDepth 100000 in
set_option maxHeartbeats 400000 in
theorem rread_any (A : Option Addr) (n c : Nat) (l : List Nat) (B : Nat) (w : World) (hn : n = l.length) (hA : A = none → n = 0) (hm : n ≤ 2097152) (hr : RdB w B A l) (hB : B ≤ w.heap.size) (hok : OkB l) :
  Calls Tryz.prog 102 #[.slice A n c] w fun e w' => ∃ g, e = .returned (.pointer (some ⟨g, 0, none⟩)) ∧ Rdr w' g l 0 ∧ w.heap.size ≤ g ∧ Below w.heap.size w w' := by
 have Hb := Lib.hid (bclone_any A n c l w B hn hA (by omega) hr hB)
 have Hn := Lib.hid hn
 clear hr hn hA
 go_enter Tryz.func102, Tryz.ntmps102
 go_wp2_with fail
 refine Hb.out.mono ?_
 rintro e w1 ⟨v, rfl, ho, hb⟩
 obtain ⟨A1, c1, rfl⟩ := ownB_slice ho
 have Ho := Lib.hid ho
 clear ho
 go_wp2
 go_ret
 have hrd : RdB w1 w1.heap.size A1 l := RdB.of_own Ho.out
 have hsz := hb.size
 refine ⟨_, rfl, ⟨by simp, ⟨A1, n, c1, by rw [World.cell?_alloc_at _ _ _ _ rfl]; rfl, Hn.out, ?_, ?_, hrd.below ((Below.refl _ _).alloc (Nat.le_refl _) _), hm, ?_⟩, by rw [World.cell?_alloc_at _ _ _ _ rfl]; rfl, World.frozen?_alloc_at _ _ _ _ rfl, World.frozen?_alloc_at _ _ _ _ rfl, hok, fun h => absurd rfl h⟩, hsz, hb.alloc hsz _⟩
 ·rcases Ho.out.2 with ⟨e, _⟩ | ⟨g, cap, cur, e, _, _, h, _⟩
  ·injection e with _ e1 e2; omega
  ·injection e with _ e1 e2; omega
 ·rintro rfl
  rcases Ho.out.2 with ⟨e, _⟩ | ⟨g, cap, cur, e, _, _, h, _⟩
  ·injection e with _ e1 e2; exact ⟨e1, e2⟩
  ·injection e with e; cases e
 ·rintro a rfl
  rcases Ho.out.2 with ⟨e, _⟩ | ⟨g, cap, cur, e, _, _, h, _⟩
  ·injection e with e; cases e
  ·injection e with e; injection e with e; exact ⟨g, 0, e⟩
theorem ret_i64 {x y : Int} (h : x = y) : Ending.returned (.int .i64 x) = .returned (.int .i64 y) := by rw [h]
theorem zagNeg {n : Nat} (hn : n < 18446744073709551616) (h : n % 2 = 1) : wrap64 (bits .xor .u64 IntKind.u64.max ((n : Int) / 2)) = zag n := by
 have h2 : ((n : Int) / 2) = ((n / 2 : Nat) : Int) := by omega
 rw [h2]
 have h3 : bits .xor .u64 IntKind.u64.max ((n / 2 : Nat) : Int) = ((18446744073709551615 - n / 2 : Nat) : Int) := by
  show IntKind.u64.wrap ((BitVec.ofInt 64 IntKind.u64.max ^^^ BitVec.ofInt 64 ((n / 2 : Nat) : Int)).toNat : Int) = _
  have h1 : BitVec.ofInt 64 IntKind.u64.max = BitVec.allOnes 64 := by decide
  rw [h1, BitVec.allOnes_xor, BitVec.toNat_not, ofInt_u64 (n / 2) (by omega), IntKind.wrap_u64]
  omega
 rw [h3]
 unfold wrap64
 unfold zag
 rw [if_pos h]
 omega
set_option maxRecDepth 100000 in
set_option maxHeartbeats 400000 in
theorem rint_any (g : Nat) (l : List Nat) (w : World) (h : Rdr w g l 0) :
  Calls Tryz.prog 200 #[.pointer (some ⟨g, 0, none⟩)] w fun e w' => e = .returned (.int .i64 (zag (getU 0 0 l).1)) ∧ Rdr w' g (getU 0 0 l).2.1 ((getU 0 0 l).2.2 : Nat) ∧ w.grownBy w' (some g) := by
 have Hu := Lib.hid (ruint_any g l w h)
 have hn := getU_lt l 0 0 h.ok (by omega) (by decide)
 obtain ⟨n', l', e', hR⟩ : ∃ n' l' e', getU 0 0 l = (n', l', e') := ⟨_, _, _, rfl⟩
 rw [hR] at Hu hn ⊢
 clear hR h
 simp only at Hu hn ⊢
 have hb : bits .and .u64 (n' : Int) 1 = ((n' % 2 : Nat) : Int) := by
  have := u64_and_nat n' 1 hn (by decide)
  rw [Nat.and_one_is_mod] at this
  exact this
 go_enter Tryz.func200, Tryz.ntmps200
 go_wp2_with fail
 refine Hu.out.mono ?_
 rintro e w1 ⟨rfl, h1, h2⟩
 have H1 := Lib.hid h1
 have H2 := Lib.hid h2
 clear h1 h2
 by_cases ho : n' % 2 = 1
 ·have hz := Lib.hid (zagNeg hn ho)
  go_wp2
  go_ret
  exact ⟨ret_i64 hz.out, H1.out, H2.out⟩
 ·have hz : Hid (((n' : Int) / 2) = zag n') := by
   show _ = _
   unfold zag
   rw [if_neg ho]
   omega
  go_wp2
  go_ret
  exact ⟨ret_i64 hz.out, H1.out, H2.out⟩
set_option maxHeartbeats 400000 in
theorem rint_err (g : Nat) (er : Int) (he : er ≠ 0) (w : World) (h : Rdr w g [] er) :
  Calls Tryz.prog 200 #[.pointer (some ⟨g, 0, none⟩)] w fun e w' => e = .returned (.int .i64 0) ∧ w = w' := by
 have H := Lib.hid (ruint_err g er he w h)
 clear h he
 go_enter Tryz.func200, Tryz.ntmps200
 go_wp2_with fail
 refine H.out.mono ?_
 rintro e w1 ⟨rfl, rfl⟩
 go_wp2
 go_ret
 exact ⟨rfl, rfl⟩
set_option maxHeartbeats 400000 in
theorem rbool_err (g : Nat) (er : Int) (he : er ≠ 0) (w : World) (h : Rdr w g [] er) :
  Calls Tryz.prog 176 #[.pointer (some ⟨g, 0, none⟩)] w fun e w' => e = .returned (.bool false) ∧ w = w' := by
 have H := Lib.hid (rbyte_err g er he w h)
 clear h he
 go_enter Tryz.func176, Tryz.ntmps176
 go_wp2_with fail
 refine H.out.mono ?_
 rintro e w1 ⟨rfl, rfl⟩
 go_wp2
 go_ret
 exact ⟨rfl, rfl⟩
set_option maxHeartbeats 400000 in
theorem rbool_any (g : Nat) (l : List Nat) (w : World) (h : Rdr w g l 0) :
  Calls Tryz.prog 176 #[.pointer (some ⟨g, 0, none⟩)] w fun e w' => e = .returned (.bool (getB l).1) ∧ Rdr w' g (getB l).2.1 ((getB l).2.2 : Nat) ∧ w.grownBy w' (some g) := by
 cases l with
 | nil =>
   have H := Lib.hid (rbyte_short g w h)
   clear h
   go_enter Tryz.func176, Tryz.ntmps176
   go_wp2_with fail
   refine H.out.mono ?_
   rintro e w1 ⟨rfl, h1, h2⟩
   have H1 := Lib.hid h1
   have H2 := Lib.hid h2
   clear h1 h2
   go_wp2
   go_ret
   exact ⟨rfl, H1.out, H2.out⟩
 | cons c t =>
   have H := Lib.hid (rbyte_cons g c t w h)
   clear h
   by_cases hc : 1 < c
   ·have hg : Hid (getB (c :: t) = (false, [], 2)) := by show _ = _; rw [getB, if_pos hc]
    rw [hg.out]
    have e1 : ((c : Int) == 1) = false := by rw [beq_eq_false_iff_ne]; omega
    go_enter Tryz.func176, Tryz.ntmps176
    go_wp2_with fail
    refine H.out.mono ?_
    rintro e w1 ⟨rfl, h1, h2⟩
    have H1 := Lib.hid h1
    have H2 := Lib.hid h2
    clear h1 h2
    go_wp2_with fail
    refine (rfail_set g t 2 (by decide) w1 H1.out).mono ?_
    rintro e w3 ⟨rfl, h1, h2⟩
    have H3 := Lib.hid h1
    have H4 := Lib.hid (grownBy_trans H2.out h2)
    clear h1 h2
    go_wp2
    go_ret
    exact ⟨rfl, H3.out, H4.out⟩
   ·have hg : Hid (getB (c :: t) = (c == 1, t, 0)) := by show _ = _; rw [getB, if_neg hc]
    rw [hg.out]
    have e1 : ((c : Int) == 1) = (c == 1) := by rw [Bool.eq_iff_iff, beq_iff_eq, beq_iff_eq]; omega
    go_enter Tryz.func176, Tryz.ntmps176
    go_wp2_with fail
    refine H.out.mono ?_
    rintro e w1 ⟨rfl, h1, h2⟩
    have H1 := Lib.hid h1
    have H2 := Lib.hid h2
    clear h1 h2
    go_wp2
    go_ret
    exact ⟨rfl, H1.out, H2.out⟩
set_option maxHeartbeats 400000 in
theorem rdone_empty (g : Nat) (er : Int) (w : World) (h : Rdr w g [] er) :
  Calls Tryz.prog 106 #[.pointer (some ⟨g, 0, none⟩)] w fun e w' => e = .returned (.int .i64 er) ∧ w = w' := by
 have H := Lib.hid h
 clear h
 go_enter Tryz.func106, Tryz.ntmps106
 go_wp2_with fail
 refine (rleft_any g [] er w H.out).mono ?_
 rintro e w1 ⟨rfl, rfl⟩
 go_wp2_with fail
 refine (rerr_any g [] er w H.out).mono ?_
 rintro e w1 ⟨rfl, rfl⟩
 go_wp2
 go_ret
 exact ⟨rfl, rfl⟩
set_option maxHeartbeats 400000 in
theorem rdone_rest (g : Nat) (l : List Nat) (hl : 0 < l.length) (w : World) (h : Rdr w g l 0) :
  Calls Tryz.prog 106 #[.pointer (some ⟨g, 0, none⟩)] w fun e w' => e = .returned (.int .i64 25) ∧ Rdr w' g [] 25 ∧ w.grownBy w' (some g) := by
 have H := Lib.hid h
 clear h
 go_enter Tryz.func106, Tryz.ntmps106
 go_wp2_with fail
 refine (rleft_any g l 0 w H.out).mono ?_
 rintro e w1 ⟨rfl, rfl⟩
 go_wp2_with fail
 refine (rfail_set g l 25 (by decide) w H.out).mono ?_
 rintro e w3 ⟨rfl, h1, h2⟩
 have H3 := Lib.hid h1
 have H4 := Lib.hid h2
 clear h1 h2
 go_wp2_with fail
 refine (rerr_any g [] 25 w3 H3.out).mono ?_
 rintro e w4 ⟨rfl, rfl⟩
 go_wp2
 go_ret
 exact ⟨rfl, H3.out, H4.out⟩
set_option maxHeartbeats 400000 in
theorem rcount_any (g : Nat) (l : List Nat) (top : Nat) (w : World) (h : Rdr w g l 0) :
  Calls Tryz.prog 211 #[.pointer (some ⟨g, 0, none⟩), .int .u64 top] w fun e w' => e = .returned (.int .u64 ((getC top l).1 : Nat)) ∧ Rdr w' g (getC top l).2.1 ((getC top l).2.2 : Nat) ∧ w.grownBy w' (some g) := by
 have Hu := Lib.hid (ruint_any g l w h)
 have hz := getU_zero l 0 0
 unfold getC
 obtain ⟨n', l', e', hR⟩ : ∃ n' l' e', getU 0 0 l = (n', l', e') := ⟨_, _, _, rfl⟩
 rw [hR] at Hu hz ⊢
 clear hR h
 simp only at Hu hz ⊢
 have HU : Hid (Calls Tryz.prog 105 #[.pointer (some ⟨g, 0, none⟩)] w fun e w' => e = .returned (.int .u64 (n' : Nat)) ∧ Hid (Rdr w' g l' (e' : Nat)) ∧ Hid (w.grownBy w' (some g))) := Hu
 clear Hu
 by_cases he : e' ≠ 0
 ·obtain ⟨rfl, rfl⟩ := hz he
  rw [if_pos he]
  replace he := Lib.hid he
  clear hz
  go_enter Tryz.func211, Tryz.ntmps211
  go_wp2_with fail
  refine HU.out.mono ?_
  rintro e w1 ⟨rfl, H1, H2⟩
  go_wp2
  go_ret
  exact ⟨rfl, H1.out, H2.out⟩
 ·rw [if_neg he]
  obtain rfl : e' = 0 := by omega
  clear hz he
  by_cases ht : top < n'
  ·rw [if_pos ht]
   go_enter Tryz.func211, Tryz.ntmps211
   go_wp2_with fail
   refine HU.out.mono ?_
   rintro e w1 ⟨rfl, H1, H2⟩
   go_wp2_with fail
   refine (rfail_set g l' 6 (by decide) w1 H1.out).mono ?_
   rintro e w3 ⟨rfl, h1, h2⟩
   have H3 := Lib.hid h1
   have H4 := Lib.hid (grownBy_trans H2.out h2)
   clear h1 h2
   go_wp2
   go_ret
   exact ⟨rfl, H3.out, H4.out⟩
  ·rw [if_neg ht]
   go_enter Tryz.func211, Tryz.ntmps211
   go_wp2_with fail
   refine HU.out.mono ?_
   rintro e w1 ⟨rfl, H1, H2⟩
   go_wp2
   go_ret
   exact ⟨rfl, H1.out, H2.out⟩
set_option maxHeartbeats 400000 in
theorem rcount_err (g : Nat) (er : Int) (top : Nat) (he : er ≠ 0) (w : World) (h : Rdr w g [] er) :
  Calls Tryz.prog 211 #[.pointer (some ⟨g, 0, none⟩), .int .u64 top] w fun e w' => e = .returned (.int .u64 0) ∧ w = w' := by
 have H := Lib.hid (ruint_err g er he w h)
 clear h he
 go_enter Tryz.func211, Tryz.ntmps211
 go_wp2_with fail
 refine H.out.mono ?_
 rintro e w1 ⟨rfl, rfl⟩
 go_wp2
 go_ret
 exact ⟨rfl, rfl⟩
theorem RdB.dropMap {w : World} {B : Nat} {A : Option Addr} {l : List Nat} (h : RdB w B A l) (hs : ∀ a, A = some a → ∃ b o, a = ⟨b, o, none⟩) (k : Nat) : RdB w B (A.map (fun x => x.add k)) (l.drop k) := by
 cases A with
 | none =>
   intro h0
   obtain ⟨b, o, e, _⟩ := h (by simp at h0; omega)
   cases e
 | some a =>
   obtain ⟨b, o, rfl⟩ := hs a rfl
   have := h.drop k
   simpa [Addr.add_lit] using this
set_option maxRecDepth 100000 in
set_option maxHeartbeats 1000000 in
theorem rtext_any (g : Nat) (l : List Nat) (most : Int) (hmx : most < 9223372036854775808) (w : World) (h : Rdr w g l 0) :
  Calls Tryz.prog 198 #[.pointer (some ⟨g, 0, none⟩), .int .i64 most] w fun e w' => e = .returned (.string (strB (getT most.toNat l).1)) ∧ Rdr w' g (getT most.toNat l).2.1 ((getT most.toNat l).2.2 : Nat) ∧ w.grownBy w' (some g) := by
 have Hu := Lib.hid (ruint_any g l w h)
 have hz := getU_zero l 0 0
 have hn := getU_lt l 0 0 h.ok (by omega) (by decide)
 unfold getT
 obtain ⟨n', l', e', hR⟩ : ∃ n' l' e', getU 0 0 l = (n', l', e') := ⟨_, _, _, rfl⟩
 rw [hR] at Hu hz hn ⊢
 clear hR h
 simp only at Hu hz hn ⊢
 have HU : Hid (Calls Tryz.prog 105 #[.pointer (some ⟨g, 0, none⟩)] w fun e w' => e = .returned (.int .u64 (n' : Nat)) ∧ Hid (Rdr w' g l' (e' : Nat)) ∧ Hid (w.grownBy w' (some g))) := Hu
 clear Hu
 have hif : (if most < 0 then (0 : Int) else most) = (most.toNat : Nat) := by split <;> omega
 generalize hM : most.toNat = M at *
 have hMx : M < 9223372036854775808 := by omega
 clear hM hmx
 by_cases he : e' ≠ 0
 ·obtain ⟨rfl, rfl⟩ := hz he
  rw [if_pos he]
  replace he := Lib.hid he
  clear hz
  go_enter Tryz.func198, Tryz.ntmps198
  go_wp2_with fail
  refine HU.out.mono ?_
  rintro e w1 ⟨rfl, H1, H2⟩
  obtain ⟨A, n, c, c0, hn0, hnc, hA, hr, hm, hs⟩ := H1.out.c0
  obtain rfl : n = 0 := hn0.out
  have f0 := H1.out.f0
  have hcv := conv_any (A := A) (n := 0) (c := c) (l := []) hr rfl (fun _ => rfl)
  have He : Hid ((e' : Int) ≠ 0) := by show _ ≠ _; have := he.out; omega
  go_wp2
  go_ret
  exact ⟨rfl, H1.out.cut rfl (Nat.zero_le _) (fun e => ⟨rfl, (hA.out e).2⟩) RdB.empty (by omega) hs OkB.nil (fun _ => rfl), grownBy_trans H2.out (grown_set _ _ _ _)⟩
 ·rw [if_neg he]
  obtain rfl : e' = 0 := by omega
  clear hz he
  by_cases ht : M < n'
  ·rw [if_pos ht]
   go_enter Tryz.func198, Tryz.ntmps198
   go_wp2_with fail
   refine HU.out.mono ?_
   rintro e w1 ⟨rfl, H1, H2⟩
   go_wp2_with fail
   refine (rfail_set g l' 4 (by decide) w1 H1.out).mono ?_
   rintro e w3 ⟨rfl, h1, h2⟩
   have H3 := Lib.hid h1
   have H4 := Lib.hid (grownBy_trans H2.out h2)
   clear h1 h2
   go_wp2
   go_ret
   exact ⟨rfl, H3.out, H4.out⟩
  ·rw [if_neg ht]
   by_cases hs : l'.length < n'
   ·rw [if_pos hs]
    go_enter Tryz.func198, Tryz.ntmps198
    go_wp2_with fail
    refine HU.out.mono ?_
    rintro e w1 ⟨rfl, H1, H2⟩
    obtain ⟨A, n, c, c0, hn0, hnc, hA, hr, hm, hsp⟩ := H1.out.c0
    have hs2 : n < n' := by rw [hn0.out]; exact hs
    clear hs
    go_wp2_with fail
    refine (rfail_set g l' 3 (by decide) w1 H1.out).mono ?_
    rintro e w3 ⟨rfl, h1, h2⟩
    have H3 := Lib.hid h1
    have H4 := Lib.hid (grownBy_trans H2.out h2)
    clear h1 h2
    go_wp2
    go_ret
    exact ⟨rfl, H3.out, H4.out⟩
   ·rw [if_neg hs]
    go_enter Tryz.func198, Tryz.ntmps198
    go_wp2_with fail
    refine HU.out.mono ?_
    rintro e w1 ⟨rfl, H1, H2⟩
    obtain ⟨A, n, c, c0, hn0, hnc, hA, hr, hm, hsp⟩ := H1.out.c0
    have hs2 : n' ≤ n := by rw [hn0.out]; omega
    have f0 := H1.out.f0
    have hcv := conv_any (A := A) (n := n') (c := c) (l := l'.take n') (hr.take n') (by rw [List.length_take]; omega) (fun e => by have := hA.out e; omega)
    clear hs
    have Hn : Hid ((l'.drop n').length = n - n') := by show _ = _; rw [List.length_drop, hn0.out]
    have Hr := Lib.hid hr
    have Hsp := Lib.hid hsp
    clear hr hsp
    go_wp2
    ·go_ret
     obtain rfl : n = n' := by omega
     have h0 : l'.drop n = [] := List.eq_nil_of_length_eq_zero (by rw [Hn.out]; omega)
     rw [h0]
     exact ⟨rfl, H1.out.cut (by simp) (by omega) (fun e => by have := hA.out e; omega) RdB.empty (by omega) Hsp.out OkB.nil (fun _ => rfl), grownBy_trans H2.out (grown_set _ _ _ _)⟩
    ·go_ret
     refine ⟨rfl, H1.out.cut Hn.out.symm (by omega) (fun e => ?_) (Hr.out.dropMap Hsp.out n') (by omega) (fun a e => ?_) (H1.out.ok.drop n') (fun e => absurd rfl e), grownBy_trans H2.out (grown_set _ _ _ _)⟩
     ·have := hA.out (by cases A with | none => rfl | some a => cases e)
      omega
     ·cases A with
      | none => cases e
      | some a0 =>
        obtain ⟨b, o, rfl⟩ := Hsp.out a0 rfl
        obtain rfl : (⟨b, o, none⟩ : Addr).add n' = a := by injection e
        exact ⟨b, o + n', Addr.add_lit _ _ _⟩
set_option maxRecDepth 100000 in
set_option maxHeartbeats 400000 in
theorem rtext_err (g : Nat) (er most : Int) (he : er ≠ 0) (hmx : most < 9223372036854775808) (w : World) (h : Rdr w g [] er) :
  Calls Tryz.prog 198 #[.pointer (some ⟨g, 0, none⟩), .int .i64 most] w fun e w' => e = .returned (.string ⟨#[]⟩) ∧ Rdr w' g [] er ∧ w.grownBy w' (some g) := by
 have HU := Lib.hid (ruint_err g er he w h)
 have H := Lib.hid h
 have hif : (if most < 0 then (0 : Int) else most) = (most.toNat : Nat) := by split <;> omega
 generalize hM : most.toNat = M at *
 have hMx : M < 9223372036854775808 := by omega
 clear hM hmx
 obtain ⟨A, n, c, c0, hn0, hnc, hA, hr, hm, hs⟩ := h.c0
 obtain rfl : n = 0 := hn0.out
 have f0 := h.f0
 have hcv := conv_any (A := A) (n := 0) (c := c) (l := []) hr rfl (fun _ => rfl)
 have He := Lib.hid he
 have hb : strB [] = ⟨#[]⟩ := rfl
 rw [hb] at hcv
 clear he h hb
 go_enter Tryz.func198, Tryz.ntmps198
 go_wp2_with fail
 refine HU.out.mono ?_
 rintro e w1 ⟨rfl, rfl⟩
 go_wp2
 go_ret
 exact ⟨rfl, H.out.cut rfl (Nat.zero_le _) (fun e => ⟨rfl, (hA.out e).2⟩) RdB.empty (by omega) hs OkB.nil (fun _ => rfl), grown_set _ _ _ _⟩
def RdT (w : World) (g : Nat) (s : St) : Prop := Rdr w g s.1 (s.2 : Nat)
def Tk (w : World) (g : Nat) (v : Value) (s : St) (e : Ending) (w' : World) : Prop := e = .returned v ∧ RdT w' g s ∧ w.grownBy w' (some g)
section
variable {w w' : World} {g : Nat} {s : St}
theorem RdT.bare (h : RdT w g s) (he : s.2 ≠ 0) : s.1 = [] := Rdr.none_ h (by omega)
theorem RdT.lt (h : RdT w g s) : g < w.heap.size := Rdr.lt h
theorem RdT.below (h : RdT w g s) (hb : Below w.heap.size w w') : RdT w' g s := Rdr.below h hb
theorem RdT.kept {r : Option Nat} (h : RdT w g s) (hg : w.grownBy w' r) (hr : ∀ k, r = some k → g < k) : RdT w' g s :=
 Rdr.keep h hg.size fun k hk => hg.block k (by have := h.lt; omega) (fun e => by have := hr k e.symm; omega)
theorem RdT.setRow {X : Nat} (h : RdT w g s) (hX : g < X) (cs : Array Value) : RdT (w.setRow X cs) g s :=
 Rdr.keep h (by simp [World.setRow]) fun k hk => setRow_other w X k cs (by omega)
theorem RdT.setCell {X o : Nat} (h : RdT w g s) (hX : g < X) (v : Value) : RdT (w.setCell ⟨X, o, none⟩ v) g s :=
 h.kept (grown_set w X o v) (fun k e => by cases e; exact hX)
theorem grown_setRow {w0 : World} {X : Nat} (h : w0.grownBy w (some g)) (hX : w0.heap.size ≤ X) (cs : Array Value) : w0.grownBy (w.setRow X cs) (some g) :=
 ⟨h.os, h.tape, h.output, Nat.le_trans h.size (by simp [World.setRow]), fun k hk hne => (setRow_other w X k cs (by omega)).trans (h.block k hk hne)⟩
theorem grown_fresh {w0 : World} {r : Option Nat} (h : w0.grownBy w (some g)) (h2 : w.grownBy w' r) (hr : ∀ k, r = some k → w0.heap.size ≤ k) : w0.grownBy w' (some g) :=
 ⟨h2.os.trans h.os, h2.tape.trans h.tape, h2.output.trans h.output, Nat.le_trans h.size h2.size, fun k hk hne => (h2.block k (Nat.lt_of_lt_of_le hk h.size) (fun e => by have := hr k e.symm; omega)).trans (h.block k hk hne)⟩
theorem grown_below0 (h : Below w.heap.size w w') (r : Option Nat) : w.grownBy w' r := ⟨h.os, h.tape, h.output, h.size, fun k hk _ => h.block k hk⟩
theorem grown_alloc {w0 : World} (h : w0.grownBy w (some g)) (o : Obj) : w0.grownBy (w.alloc o) (some g) := grown_fresh h (World.grownBy_alloc w o none) (fun _ e => by cases e)
end
theorem tk_byte (g : Nat) (s : St) (w : World) (h : RdT w g s) :
  Calls Tryz.prog 148 #[.pointer (some ⟨g, 0, none⟩)] w (Tk w g (.int .u8 ((rByte s).1 : Nat)) (rByte s).2) := by
 obtain ⟨l, er⟩ := s
 by_cases he : er = 0
 ·subst he
  cases l with
  | nil => exact (rbyte_short g w h).mono fun e w' ⟨h1, h2, h3⟩ => ⟨h1, h2, h3⟩
  | cons x l => exact (rbyte_cons g x l w h).mono fun e w' ⟨h1, h2, h3⟩ => ⟨h1, h2, h3⟩
 ·obtain rfl : l = [] := h.bare he
  refine (rbyte_err g er (by omega) w h).mono ?_
  rintro e w' ⟨rfl, rfl⟩
  have hs : rByte ([], er) = (0, ([], er)) := by simp [rByte, lft, he]
  rw [hs]; exact ⟨rfl, h, World.grownBy.refl w _⟩
theorem tk_uint (g : Nat) (s : St) (w : World) (h : RdT w g s) :
  Calls Tryz.prog 105 #[.pointer (some ⟨g, 0, none⟩)] w (Tk w g (.int .u64 ((rU s).1 : Nat)) (rU s).2) := by
 obtain ⟨l, er⟩ := s
 by_cases he : er = 0
 ·subst he
  have hs : rU (l, 0) = getU 0 0 l := rfl
  rw [hs]
  exact (ruint_any g l w h).mono fun e w' ⟨h1, h2, h3⟩ => ⟨h1, h2, h3⟩
 ·obtain rfl : l = [] := h.bare he
  refine (ruint_err g er (by omega) w h).mono ?_
  rintro e w' ⟨rfl, rfl⟩
  have hs : rU ([], er) = (0, ([], er)) := by simp [rU, lft, he]
  rw [hs]; exact ⟨rfl, h, World.grownBy.refl w _⟩
theorem tk_int (g : Nat) (s : St) (w : World) (h : RdT w g s) :
  Calls Tryz.prog 200 #[.pointer (some ⟨g, 0, none⟩)] w (Tk w g (.int .i64 (rI s).1) (rI s).2) := by
 obtain ⟨l, er⟩ := s
 by_cases he : er = 0
 ·subst he
  have hs : rI (l, 0) = (zag (getU 0 0 l).1, (getU 0 0 l).2) := rfl
  rw [hs]
  exact (rint_any g l w h).mono fun e w' ⟨h1, h2, h3⟩ => ⟨h1, h2, h3⟩
 ·obtain rfl : l = [] := h.bare he
  refine (rint_err g er (by omega) w h).mono ?_
  rintro e w' ⟨rfl, rfl⟩
  have hs : rI ([], er) = (0, ([], er)) := by simp [rI, rU, bnd, ret, lft, he]; rfl
  rw [hs]; exact ⟨rfl, h, World.grownBy.refl w _⟩
theorem tk_bool (g : Nat) (s : St) (w : World) (h : RdT w g s) :
  Calls Tryz.prog 176 #[.pointer (some ⟨g, 0, none⟩)] w (Tk w g (.bool (rB s).1) (rB s).2) := by
 obtain ⟨l, er⟩ := s
 by_cases he : er = 0
 ·subst he
  have hs : rB (l, 0) = getB l := rfl
  rw [hs]
  exact (rbool_any g l w h).mono fun e w' ⟨h1, h2, h3⟩ => ⟨h1, h2, h3⟩
 ·obtain rfl : l = [] := h.bare he
  refine (rbool_err g er (by omega) w h).mono ?_
  rintro e w' ⟨rfl, rfl⟩
  have hs : rB ([], er) = (false, ([], er)) := by simp [rB, lft, he]
  rw [hs]; exact ⟨rfl, h, World.grownBy.refl w _⟩
theorem tk_text (m : Nat) (hm : m < 1000) (g : Nat) (s : St) (w : World) (h : RdT w g s) :
  Calls Tryz.prog 198 #[.pointer (some ⟨g, 0, none⟩), .int .i64 (m : Nat)] w (Tk w g (.string (rT m s).1) (rT m s).2) := by
 obtain ⟨l, er⟩ := s
 by_cases he : er = 0
 ·subst he
  have hs : rT m (l, 0) = (strB (getT m l).1, (getT m l).2) := rfl
  rw [hs]
  exact (rtext_any g l (m : Nat) (by omega) w h).mono fun e w' ⟨h1, h2, h3⟩ => ⟨h1, h2, h3⟩
 ·obtain rfl : l = [] := h.bare he
  refine (rtext_err g er (m : Nat) (by omega) (by omega) w h).mono ?_
  rintro e w' ⟨rfl, h2, h3⟩
  have hs : rT m ([], er) = (⟨#[]⟩, ([], er)) := by simp [rT, bnd, ret, lft, he]; rfl
  rw [hs]; exact ⟨rfl, h2, h3⟩
theorem tk_text12 (g : Nat) (s : St) (w : World) (h : RdT w g s) : Calls Tryz.prog 198 #[.pointer (some ⟨g, 0, none⟩), .int .i64 12] w (Tk w g (.string (rT 12 s).1) (rT 12 s).2) := tk_text 12 (by decide) g s w h
theorem tk_text8 (g : Nat) (s : St) (w : World) (h : RdT w g s) : Calls Tryz.prog 198 #[.pointer (some ⟨g, 0, none⟩), .int .i64 8] w (Tk w g (.string (rT 8 s).1) (rT 8 s).2) := tk_text 8 (by decide) g s w h
theorem tk_text16 (g : Nat) (s : St) (w : World) (h : RdT w g s) : Calls Tryz.prog 198 #[.pointer (some ⟨g, 0, none⟩), .int .i64 16] w (Tk w g (.string (rT 16 s).1) (rT 16 s).2) := tk_text 16 (by decide) g s w h
theorem tk_count8 (g : Nat) (s : St) (w : World) (h : RdT w g s) :
  Calls Tryz.prog 211 #[.pointer (some ⟨g, 0, none⟩), .int .u64 8] w (Tk w g (.int .u64 ((rC 8 s).1 : Nat)) (rC 8 s).2) := by
 obtain ⟨l, er⟩ := s
 by_cases he : er = 0
 ·subst he
  have hs : rC 8 (l, 0) = getC 8 l := rfl
  rw [hs]
  exact (rcount_any g l 8 w h).mono fun e w' ⟨h1, h2, h3⟩ => ⟨h1, h2, h3⟩
 ·obtain rfl : l = [] := h.bare he
  refine (rcount_err g er (8 : Nat) (by omega) w h).mono ?_
  rintro e w' ⟨rfl, rfl⟩
  have hs : rC 8 ([], er) = (0, ([], er)) := by simp [rC, lft, he]
  rw [hs]; exact ⟨rfl, h, World.grownBy.refl w _⟩
theorem rC_le (top : Nat) (s : St) : (rC top s).1 ≤ top := by
 unfold rC lft
 split
 ·unfold getC
  split
  ·simp
  ·split
   ·simp
   ·simp only; omega
 ·simp
theorem Tryz.infoGap : (Tryz.prog.info? 45).map (·.size) = some 3 := by kernel_rfl
set_option maxRecDepth 100000 in
set_option maxHeartbeats 1000000 in
theorem takeGap_any (g : Nat) (s : St) (w : World) (h : RdT w g s) :
  Calls Tryz.prog 177 #[.pointer (some ⟨g, 0, none⟩)] w (Tk w g (.agg #[.int .u8 ((gapR s).1.ga : Nat), .int .u64 ((gapR s).1.gf : Nat), .int .u64 ((gapR s).1.gt : Nat)]) (gapR s).2) := by
 obtain ⟨o, s1, h1⟩ : ∃ o s1, rByte s = (o, s1) := ⟨_, _, rfl⟩
 obtain ⟨f, s2, h2⟩ : ∃ o s2, rU s1 = (o, s2) := ⟨_, _, rfl⟩
 obtain ⟨t, s3, h3⟩ : ∃ o s3, rU s2 = (o, s3) := ⟨_, _, rfl⟩
 have hG : gapR s = (⟨true, 0, 0, 0, ⟨#[]⟩, [], 0, 0, 0, 0, o, f, t⟩, s3) := by simp [gapR, bnd, h1, h2, h3, ret]
 rw [hG]
 have t1 := fun W H => tk_byte g s W H
 have t2 := fun W H => tk_uint g s1 W H
 have t3 := fun W H => tk_uint g s2 W H
 rw [h1] at t1
 rw [h2] at t2
 rw [h3] at t3
 have HT1 := Lib.hid t1
 have HT2 := Lib.hid t2
 have HT3 := Lib.hid t3
 obtain ⟨W, hW⟩ : ∃ W, W = w.alloc (.cells #[.int .u8 0, .int .u64 0, .int .u64 0] 45) := ⟨_, rfl⟩
 have hb : Below w.heap.size w W := by rw [hW]; exact (Below.refl _ _).alloc (Nat.le_refl _) _
 have hc : W.heap[w.heap.size]? = some (.cells #[.int .u8 0, .int .u64 0, .int .u64 0] 45 (0, 0)) := by rw [hW]; exact heap_alloc_new _ _
 have hl : w.heap.size < W.heap.size := by rw [hW]; simp
 have hgl := h.lt
 have HW := Lib.hid hW
 have HB := Lib.hid hb
 have HC := Lib.hid hc
 have HR := Lib.hid (h.below hb)
 have HL := Lib.hid hl
 clear hW hb hc h hG h1 h2 h3 t1 t2 t3 hl
 go_enter Tryz.func177, Tryz.ntmps177
 go_upto_region 1 with fail
 rw [← HW.out]
 go_wp2_with fail
 refine (HT1.out W HR.out).mono ?_
 rintro e w1 ⟨rfl, hr1, hg1⟩
 have HR1 := Lib.hid hr1
 have HG1 := Lib.hid hg1
 clear hr1 hg1
 go_wp2_with fail
 refine (HT2.out w1 HR1.out).mono ?_
 rintro e w2 ⟨rfl, hr2, hg2⟩
 have HR2 := Lib.hid hr2
 have HG2 := Lib.hid (grownBy_trans HG1.out hg2)
 clear hr2 hg2
 go_wp2_with fail
 refine (HT3.out w2 HR2.out).mono ?_
 rintro e w3 ⟨rfl, hr3, hg3⟩
 have HR3 := Lib.hid hr3
 have HG3 := Lib.hid (grownBy_trans HG2.out hg3)
 have HC3 := Lib.hid ((HG3.out.block w.heap.size HL.out (by simp; omega)).trans HC.out)
 clear hr3 hg3
 go_wp2_with (first | (refine wpList_store_row rfl _ _ _ rfl w.heap.size _ rfl rfl _ _ HC3.out Tryz.infoGap rfl (by simp [Value.oneCell']) ?_) | fail)
 refine bodyPost_ret (v := .agg #[.int .u8 (o : Nat), .int .u64 (f : Nat), .int .u64 (t : Nat)]) ?_ rfl ⟨rfl, ?_, ?_⟩
 ·exact results_cell_row rfl _ _ w.heap.size _ _ _ _ rfl (setRow_heap _ _ _ _ _ _ HC3.out) Tryz.underlying45 rfl (by kernel_rfl)
 ·exact HR3.out.setRow hgl _
 ·exact grown_setRow (grownBy_trans (grown_below0 HB.out _) HG3.out) (Nat.le_refl _) _
theorem rL_len (mk mv : Nat) : ∀ (n : Nat) (s : St), (rL mk mv n s).1.length = n
 | 0, _ => rfl
 | n + 1, s => by
   show ((rL mk mv n (rT mv (rT mk s).2).2).1).length + 1 = n + 1
   rw [rL_len mk mv n]
theorem rL_succ {mk mv n : Nat} {s s1 s2 : St} {a b : ByteArray} (h1 : rT mk s = (a, s1)) (h2 : rT mv s1 = (b, s2)) : rL mk mv (n + 1) s = ((a, b) :: (rL mk mv n s2).1, (rL mk mv n s2).2) := by
 simp [rL, bnd, h1, h2, ret]
def LabsRet (l : List Pr) (s : St) (g : Nat) (w : World) (e : Ending) (w' : World) : Prop :=
 ∃ A n c, e = .returned (.slice A n c) ∧ n = l.length ∧ w'.ownsRow w.heap.size 37 2 (.slice A n c) n (cellsP l) ∧ RdT w' g s ∧ w.grownBy w' (some g)
theorem labs_round {w wr w1 w2 : World} {g k : Nat} {a b : ByteArray} {s2 : St} {v : Value} {d : List Pr} {e : TypeId}
  (hg : w.grownBy wr (some g)) (h1 : wr.grownBy w1 (some g)) (h2 : w1.grownBy w2 (some g)) (hv : wr.ownsRow w.heap.size e 2 v k (cellsP d)) (hgl : g < w.heap.size) (hr : RdT w2 g s2) :
  (w2.alloc (.cells #[.string a, .string b] e)).ownsRow w.heap.size e 2 v k (cellsP d) ∧ RdT (w2.alloc (.cells #[.string a, .string b] e)) g s2 ∧ w.grownBy (w2.alloc (.cells #[.string a, .string b] e)) (some g) := by
 have hne : v.ownBlock = none ∨ v.ownBlock ≠ some g := by
  cases hv0 : v.ownBlock with
  | none => exact .inl rfl
  | some k => exact .inr (fun e => by have := (hv.lt k hv0).1; cases e; omega)
 have hb : Below w2.heap.size w2 (w2.alloc (.cells #[.string a, .string b] e)) := (Below.refl _ _).alloc (Nat.le_refl _) _
 exact ⟨own_below ((hv.kept h1 hne).kept h2 hne) hb, hr.below hb, grown_alloc (grownBy_trans (grownBy_trans hg h1) h2) _⟩
set_option maxRecDepth 100000 in
set_option maxHeartbeats 1000000 in
theorem takeLabels_any (g : Nat) (s : St) (w : World) (h : RdT w g s) :
  Calls Tryz.prog 199 #[.pointer (some ⟨g, 0, none⟩)] w (LabsRet (rLabs 8 8 16 s).1 (rLabs 8 8 16 s).2 g w) := by
 obtain ⟨n, s1, h1⟩ : ∃ n s1, rC 8 s = (n, s1) := ⟨_, _, rfl⟩
 have hn : n ≤ 8 := by have := rC_le 8 s; rw [h1] at this; exact this
 have hL : rLabs 8 8 16 s = rL 8 16 n s1 := by simp [rLabs, bnd, h1]
 rw [hL]
 obtain ⟨i0, hi, hz0, hz1, hz2⟩ := info_parts Tryz.infoP
 have t1 := tk_count8 g s w h
 rw [h1] at t1
 have HT1 := Lib.hid t1
 have hgl := h.lt
 clear t1 h1 hL h
 go_enter Tryz.func199, Tryz.ntmps199
 go_wp2_with fail
 refine HT1.out.mono ?_
 rintro e w1 ⟨rfl, hr1, hg1⟩
 have HR1 := Lib.hid hr1
 have HG1 := Lib.hid hg1
 have HO1 := Lib.hid (World.ownsRow_nil w1 w.heap.size 37 2)
 clear hr1 hg1 HT1
 go_wp2_with fail
 go_loopw [3, 6] (fun x3 x6 wr => ∃ (k j : Nat) (v : Value) (d : List Pr) (sk : St), k + j = n ∧ x3 = v ∧ x6 = .int .u64 k ∧ Hid (d.length = k) ∧ Hid (rL 8 16 n s1 = (d ++ (rL 8 16 j sk).1, (rL 8 16 j sk).2)) ∧ Hid (wr.ownsRow w.heap.size 37 2 v k (cellsP d)) ∧ Hid (RdT wr g sk) ∧ Hid (w.grownBy wr (some g))) (fun _ x6 _ => 9 - (intOf x6).toNat)
 case atStart => exact ⟨0, n, _, [], s1, by omega, rfl, rfl, rfl, rfl, HO1.out, HR1.out, HG1.out⟩
 case round =>
  obtain ⟨k, j, v, d, sk, hkj, rfl, rfl, HD, HL, HV, HR, HG⟩ := hrel
  clear HR1 HG1 HO1
  by_cases hlt : k < n
  ·have hb1 : decide ((k : Int) < (n : Int)) = true := decide_eq_true (by omega)
   have hb2 : decide (k < n) = true := decide_eq_true hlt
   obtain ⟨j, rfl⟩ : ∃ q, j = q + 1 := ⟨j - 1, by omega⟩
   obtain ⟨a, s2, h2⟩ : ∃ a s2, rT 8 sk = (a, s2) := ⟨_, _, rfl⟩
   obtain ⟨b, s3, h3⟩ : ∃ q q2, rT 16 s2 = (q, q2) := ⟨_, _, rfl⟩
   have HL2 := Lib.hid (HL.out.trans (by rw [rL_succ h2 h3]))
   have t2 := tk_text8 g sk wr HR.out
   have t3 := fun W H => tk_text16 g s2 W H
   rw [h2] at t2
   rw [h3] at t3
   have HT2 := Lib.hid t2
   have HT3 := Lib.hid t3
   clear t2 t3 h2 h3 HR HL
   go_wp2_with fail
   refine HT2.out.mono ?_
   rintro e w2 ⟨rfl, hr2, hg2⟩
   have HR2 := Lib.hid hr2
   have HG2 := Lib.hid hg2
   clear hr2 hg2 HT2
   go_wp2_with fail
   refine (HT3.out w2 HR2.out).mono ?_
   rintro e w3 ⟨rfl, hr3, hg3⟩
   have HX := Lib.hid (labs_round (a := a) (b := b) HG.out HG2.out hg3 HV.out hgl hr3)
   have HSrc := Lib.hid (src_pair (p := (a, b)) (heap_alloc_new w3 (.cells #[.string a, .string b] 37)))
   have hws := hg3.size
   have hws2 := HG2.out.size
   have hws3 := HG.out.size
   clear hr3 hg3 HT3 HV HR2 HG2 HG
   go_wp2_with (at_builtin; refine wpList_append_src (base := w.heap.size) rfl _ _ rfl Tryz.underlying38 hi hz0 hz1 hz2 rfl (by decide) rfl HX.out.1 rfl HSrc.out (cellsP_one _) (by unfold maxLen; omega) (by omega) (by simp; omega) ?_; intro v2 w4 hr4 hg4 hb4; obtain ⟨A4, c4', rfl⟩ := own_slice hr4; have HG4 := Lib.hid (grown_fresh HX.out.2.2 hg4 (fun q hq => (HX.out.1.lt q hq).1)); have HR4 := Lib.hid (HX.out.2.1.kept hg4 (fun q hq => Nat.lt_of_lt_of_le hgl (HX.out.1.lt q hq).1)); replace hr4 := Lib.hid hr4; clear hg4 hb4)
   refine ⟨⟨k + 1, j, .slice A4 (k + 1) c4', d ++ [(a, b)], s3, by omega, rfl, by go_num, ?_, ?_, ?_, HR4.out, HG4.out⟩, by simp [intOf]; omega⟩
   ·show (d ++ [(a, b)]).length = _
    rw [List.length_append, HD.out]; rfl
   ·rw [List.append_assoc]; exact HL2.out
   ·show World.ownsRow _ _ _ _ _ _ _
    rw [cellsP_append]; exact hr4.out
  ·have hb1 : decide ((k : Int) < (n : Int)) = false := decide_eq_false (by omega)
   have hb2 : decide (k < n) = false := decide_eq_false hlt
   obtain rfl : j = 0 := by omega
   obtain rfl : k = n := by omega
   obtain ⟨A, c, rfl⟩ := own_slice HV.out
   clear hlt hkj
   go_wp2_with fail
   go_ret
   refine ⟨A, k, c, rfl, ?_, ?_, ?_, HG.out⟩
   ·rw [HL.out]; show _ = (d ++ []).length; rw [List.append_nil, HD.out]
   ·rw [HL.out]; show World.ownsRow _ _ _ _ _ _ (cellsP (d ++ [])); rw [List.append_nil]; exact HV.out
   ·rw [HL.out]; exact HR.out
end Go.Proofs.YtholdcgkhicdmaaGreatDoor