/- Several texts in one: PkRead. -/
import Derived.Laws.IdiomStrings
import Derived.Test.YtnagmopejblegaaGreatMb34
/- Layer 3: pack.Read; the Reader's Int, Bool, Text, Count, Done. -/
namespace Go.Proofs.YtnagmopejblegaaGreat
open Go.RowKit

set_option maxRecDepth 100000 in
set_option maxHeartbeats 400000 in
theorem rread_any (A : Option Addr) (n c : Nat) (l : List Nat) (B : Nat) (w : World) (hn : n = l.length) (hA : A = none → n = 0) (hm : n ≤ 2097152) (hr : RdB w B A l) (hB : B ≤ w.heap.size) (hok : OkB l) :
    Calls Tryz.prog 22 #[.slice A n c] w fun e w' => ∃ g, e = .returned (.pointer (some ⟨g, 0, none⟩)) ∧ Rdr w' g l 0 ∧ w.heap.size ≤ g ∧ Below w.heap.size w w' := by
  have Hb := Lib.hid (bclone_any A n c l w B hn hA (by omega) hr hB)
  have Hn := Lib.hid hn
  clear hr hn hA
  go_enter Tryz.func22, Tryz.ntmps22
  go_wp2_with fail
  refine Hb.out.mono ?_
  rintro e w1 ⟨v, rfl, ho, hb⟩
  obtain ⟨A1, c1, rfl⟩ := ownB_slice ho
  have Ho := Lib.hid ho
  clear ho
  go_wp2
  go_ret
  have hrd : RdB w1 w1.heap.size A1 l := RdB.of_own Ho.out
  have hsz := hb.size
  refine ⟨_, rfl, ⟨by simp, ⟨A1, n, c1, by rw [World.cell?_alloc_at _ _ _ _ rfl]; rfl, Hn.out, ?_, ?_, hrd.below ((Below.refl _ _).alloc (Nat.le_refl _) _), hm, ?_⟩, by rw [World.cell?_alloc_at _ _ _ _ rfl]; rfl, World.frozen?_alloc_at _ _ _ _ rfl, World.frozen?_alloc_at _ _ _ _ rfl, hok, fun h => absurd rfl h⟩, hsz, hb.alloc hsz _⟩
  · rcases Ho.out.2 with ⟨e, _⟩ | ⟨g, cap, cur, e, _, _, h, _⟩
    · injection e with _ e1 e2; omega
    · injection e with _ e1 e2; omega
  · rintro rfl
    rcases Ho.out.2 with ⟨e, _⟩ | ⟨g, cap, cur, e, _, _, h, _⟩
    · injection e with _ e1 e2; exact ⟨e1, e2⟩
    · injection e with e; cases e
  · rintro a rfl
    rcases Ho.out.2 with ⟨e, _⟩ | ⟨g, cap, cur, e, _, _, h, _⟩
    · injection e with e; cases e
    · injection e with e; injection e with e; exact ⟨g, 0, e⟩

theorem ret_i64 {x y : Int} (h : x = y) : Ending.returned (.int .i64 x) = .returned (.int .i64 y) := by rw [h]
theorem zagNeg {n : Nat} (hn : n < 18446744073709551616) (h : n % 2 = 1) : wrap64 (bits .xor .u64 IntKind.u64.max ((n : Int) / 2)) = zag n := by
  have h2 : ((n : Int) / 2) = ((n / 2 : Nat) : Int) := by omega
  rw [h2]
  have h3 : bits .xor .u64 IntKind.u64.max ((n / 2 : Nat) : Int) = ((18446744073709551615 - n / 2 : Nat) : Int) := by
    show IntKind.u64.wrap ((BitVec.ofInt 64 IntKind.u64.max ^^^ BitVec.ofInt 64 ((n / 2 : Nat) : Int)).toNat : Int) = _
    have h1 : BitVec.ofInt 64 IntKind.u64.max = BitVec.allOnes 64 := by decide
    rw [h1, BitVec.allOnes_xor, BitVec.toNat_not, ofInt_u64 (n / 2) (by omega), IntKind.wrap_u64]
    omega
  rw [h3]
  unfold wrap64
  unfold zag
  rw [if_pos h]
  omega

set_option maxRecDepth 100000 in
set_option maxHeartbeats 400000 in
theorem rint_any (g : Nat) (l : List Nat) (w : World) (h : Rdr w g l 0) :
    Calls Tryz.prog 78 #[.pointer (some ⟨g, 0, none⟩)] w fun e w' => e = .returned (.int .i64 (zag (getU 0 0 l).1)) ∧ Rdr w' g (getU 0 0 l).2.1 ((getU 0 0 l).2.2 : Nat) ∧ w.grownBy w' (some g) := by
  have Hu := Lib.hid (ruint_any g l w h)
  have hn := getU_lt l 0 0 h.ok (by omega) (by decide)
  obtain ⟨n', l', e', hR⟩ : ∃ n' l' e', getU 0 0 l = (n', l', e') := ⟨_, _, _, rfl⟩
  rw [hR] at Hu hn ⊢
  clear hR h
  simp only at Hu hn ⊢
  have hb : bits .and .u64 (n' : Int) 1 = ((n' % 2 : Nat) : Int) := by
    have := u64_and_nat n' 1 hn (by decide)
    rw [Nat.and_one_is_mod] at this
    exact this
  go_enter Tryz.func78, Tryz.ntmps78
  go_wp2_with fail
  refine Hu.out.mono ?_
  rintro e w1 ⟨rfl, h1, h2⟩
  have H1 := Lib.hid h1
  have H2 := Lib.hid h2
  clear h1 h2
  by_cases ho : n' % 2 = 1
  · have hz := Lib.hid (zagNeg hn ho)
    go_wp2
    go_ret
    exact ⟨ret_i64 hz.out, H1.out, H2.out⟩
  · have hz : Hid (((n' : Int) / 2) = zag n') := by
      show _ = _
      unfold zag
      rw [if_neg ho]
      omega
    go_wp2
    go_ret
    exact ⟨ret_i64 hz.out, H1.out, H2.out⟩
set_option maxHeartbeats 400000 in
theorem rint_err (g : Nat) (er : Int) (he : er ≠ 0) (w : World) (h : Rdr w g [] er) :
    Calls Tryz.prog 78 #[.pointer (some ⟨g, 0, none⟩)] w fun e w' => e = .returned (.int .i64 0) ∧ w = w' := by
  have H := Lib.hid (ruint_err g er he w h)
  clear h he
  go_enter Tryz.func78, Tryz.ntmps78
  go_wp2_with fail
  refine H.out.mono ?_
  rintro e w1 ⟨rfl, rfl⟩
  go_wp2
  go_ret
  exact ⟨rfl, rfl⟩
set_option maxHeartbeats 400000 in
theorem rint_nil (w : World) :
    Calls Tryz.prog 78 #[.pointer none] w fun e w' => e = .returned (.int .i64 0) ∧ w = w' := by
  go_enter Tryz.func78, Tryz.ntmps78
  go_wp2_with fail
  refine (ruint_nil w).mono ?_
  rintro e w1 ⟨rfl, rfl⟩
  go_wp2
  go_ret
  exact ⟨rfl, rfl⟩

set_option maxHeartbeats 400000 in
theorem rbool_err (g : Nat) (er : Int) (he : er ≠ 0) (w : World) (h : Rdr w g [] er) :
    Calls Tryz.prog 62 #[.pointer (some ⟨g, 0, none⟩)] w fun e w' => e = .returned (.bool false) ∧ w = w' := by
  have H := Lib.hid (rbyte_err g er he w h)
  clear h he
  go_enter Tryz.func62, Tryz.ntmps62
  go_wp2_with fail
  refine H.out.mono ?_
  rintro e w1 ⟨rfl, rfl⟩
  go_wp2
  go_ret
  exact ⟨rfl, rfl⟩
set_option maxHeartbeats 400000 in
theorem rbool_nil (w : World) :
    Calls Tryz.prog 62 #[.pointer none] w fun e w' => e = .returned (.bool false) ∧ w = w' := by
  go_enter Tryz.func62, Tryz.ntmps62
  go_wp2_with fail
  refine (rbyte_nil w).mono ?_
  rintro e w1 ⟨rfl, rfl⟩
  go_wp2
  go_ret
  exact ⟨rfl, rfl⟩
set_option maxHeartbeats 400000 in
theorem rbool_any (g : Nat) (l : List Nat) (w : World) (h : Rdr w g l 0) :
    Calls Tryz.prog 62 #[.pointer (some ⟨g, 0, none⟩)] w fun e w' => e = .returned (.bool (getB l).1) ∧ Rdr w' g (getB l).2.1 ((getB l).2.2 : Nat) ∧ w.grownBy w' (some g) := by
  cases l with
  | nil =>
    have H := Lib.hid (rbyte_short g w h)
    clear h
    go_enter Tryz.func62, Tryz.ntmps62
    go_wp2_with fail
    refine H.out.mono ?_
    rintro e w1 ⟨rfl, h1, h2⟩
    have H1 := Lib.hid h1
    have H2 := Lib.hid h2
    clear h1 h2
    go_wp2
    go_ret
    exact ⟨rfl, H1.out, H2.out⟩
  | cons c t =>
    have H := Lib.hid (rbyte_cons g c t w h)
    clear h
    by_cases hc : 1 < c
    · have hg : Hid (getB (c :: t) = (false, [], 2)) := by show _ = _; rw [getB, if_pos hc]
      rw [hg.out]
      have e1 : ((c : Int) == 1) = false := by rw [beq_eq_false_iff_ne]; omega
      go_enter Tryz.func62, Tryz.ntmps62
      go_wp2_with fail
      refine H.out.mono ?_
      rintro e w1 ⟨rfl, h1, h2⟩
      have H1 := Lib.hid h1
      have H2 := Lib.hid h2
      clear h1 h2
      go_wp2_with fail
      refine (rfail_set g t 2 (by decide) w1 H1.out).mono ?_
      rintro e w3 ⟨rfl, h1, h2⟩
      have H3 := Lib.hid h1
      have H4 := Lib.hid (grownBy_trans H2.out h2)
      clear h1 h2
      go_wp2
      go_ret
      exact ⟨rfl, H3.out, H4.out⟩
    · have hg : Hid (getB (c :: t) = (c == 1, t, 0)) := by show _ = _; rw [getB, if_neg hc]
      rw [hg.out]
      have e1 : ((c : Int) == 1) = (c == 1) := by rw [Bool.eq_iff_iff, beq_iff_eq, beq_iff_eq]; omega
      go_enter Tryz.func62, Tryz.ntmps62
      go_wp2_with fail
      refine H.out.mono ?_
      rintro e w1 ⟨rfl, h1, h2⟩
      have H1 := Lib.hid h1
      have H2 := Lib.hid h2
      clear h1 h2
      go_wp2
      go_ret
      exact ⟨rfl, H1.out, H2.out⟩

set_option maxHeartbeats 400000 in
theorem rdone_empty (g : Nat) (er : Int) (w : World) (h : Rdr w g [] er) :
    Calls Tryz.prog 24 #[.pointer (some ⟨g, 0, none⟩)] w fun e w' => e = .returned (.int .i64 er) ∧ w = w' := by
  have H := Lib.hid h
  clear h
  go_enter Tryz.func24, Tryz.ntmps24
  go_wp2_with fail
  refine (rleft_any g [] er w H.out).mono ?_
  rintro e w1 ⟨rfl, rfl⟩
  go_wp2_with fail
  refine (rerr_any g [] er w H.out).mono ?_
  rintro e w1 ⟨rfl, rfl⟩
  go_wp2
  go_ret
  exact ⟨rfl, rfl⟩
set_option maxHeartbeats 400000 in
theorem rdone_nil (w : World) :
    Calls Tryz.prog 24 #[.pointer none] w fun e w' => e = .returned (.int .i64 1) ∧ w = w' := by
  go_enter Tryz.func24, Tryz.ntmps24
  go_wp2_with fail
  refine (rleft_nil w).mono ?_
  rintro e w1 ⟨rfl, rfl⟩
  go_wp2_with fail
  refine (rerr_nil w).mono ?_
  rintro e w1 ⟨rfl, rfl⟩
  go_wp2
  go_ret
  exact ⟨rfl, rfl⟩
set_option maxHeartbeats 400000 in
theorem rdone_rest (g : Nat) (l : List Nat) (hl : 0 < l.length) (w : World) (h : Rdr w g l 0) :
    Calls Tryz.prog 24 #[.pointer (some ⟨g, 0, none⟩)] w fun e w' => e = .returned (.int .i64 25) ∧ Rdr w' g [] 25 ∧ w.grownBy w' (some g) := by
  have H := Lib.hid h
  clear h
  go_enter Tryz.func24, Tryz.ntmps24
  go_wp2_with fail
  refine (rleft_any g l 0 w H.out).mono ?_
  rintro e w1 ⟨rfl, rfl⟩
  go_wp2_with fail
  refine (rfail_set g l 25 (by decide) w H.out).mono ?_
  rintro e w3 ⟨rfl, h1, h2⟩
  have H3 := Lib.hid h1
  have H4 := Lib.hid h2
  clear h1 h2
  go_wp2_with fail
  refine (rerr_any g [] 25 w3 H3.out).mono ?_
  rintro e w4 ⟨rfl, rfl⟩
  go_wp2
  go_ret
  exact ⟨rfl, H3.out, H4.out⟩

set_option maxHeartbeats 400000 in
theorem rcount_any (g : Nat) (l : List Nat) (top : Nat) (w : World) (h : Rdr w g l 0) :
    Calls Tryz.prog 88 #[.pointer (some ⟨g, 0, none⟩), .int .u64 top] w fun e w' => e = .returned (.int .u64 ((getC top l).1 : Nat)) ∧ Rdr w' g (getC top l).2.1 ((getC top l).2.2 : Nat) ∧ w.grownBy w' (some g) := by
  have Hu := Lib.hid (ruint_any g l w h)
  have hz := getU_zero l 0 0
  unfold getC
  obtain ⟨n', l', e', hR⟩ : ∃ n' l' e', getU 0 0 l = (n', l', e') := ⟨_, _, _, rfl⟩
  rw [hR] at Hu hz ⊢
  clear hR h
  simp only at Hu hz ⊢
  have HU : Hid (Calls Tryz.prog 42 #[.pointer (some ⟨g, 0, none⟩)] w fun e w' => e = .returned (.int .u64 (n' : Nat)) ∧ Hid (Rdr w' g l' (e' : Nat)) ∧ Hid (w.grownBy w' (some g))) := Hu
  clear Hu
  by_cases he : e' ≠ 0
  · obtain ⟨rfl, rfl⟩ := hz he
    rw [if_pos he]
    replace he := Lib.hid he
    clear hz
    go_enter Tryz.func88, Tryz.ntmps88
    go_wp2_with fail
    refine HU.out.mono ?_
    rintro e w1 ⟨rfl, H1, H2⟩
    go_wp2
    go_ret
    exact ⟨rfl, H1.out, H2.out⟩
  · rw [if_neg he]
    obtain rfl : e' = 0 := by omega
    clear hz he
    by_cases ht : top < n'
    · rw [if_pos ht]
      go_enter Tryz.func88, Tryz.ntmps88
      go_wp2_with fail
      refine HU.out.mono ?_
      rintro e w1 ⟨rfl, H1, H2⟩
      go_wp2_with fail
      refine (rfail_set g l' 6 (by decide) w1 H1.out).mono ?_
      rintro e w3 ⟨rfl, h1, h2⟩
      have H3 := Lib.hid h1
      have H4 := Lib.hid (grownBy_trans H2.out h2)
      clear h1 h2
      go_wp2
      go_ret
      exact ⟨rfl, H3.out, H4.out⟩
    · rw [if_neg ht]
      go_enter Tryz.func88, Tryz.ntmps88
      go_wp2_with fail
      refine HU.out.mono ?_
      rintro e w1 ⟨rfl, H1, H2⟩
      go_wp2
      go_ret
      exact ⟨rfl, H1.out, H2.out⟩
set_option maxHeartbeats 400000 in
theorem rcount_err (g : Nat) (er : Int) (top : Nat) (he : er ≠ 0) (w : World) (h : Rdr w g [] er) :
    Calls Tryz.prog 88 #[.pointer (some ⟨g, 0, none⟩), .int .u64 top] w fun e w' => e = .returned (.int .u64 0) ∧ w = w' := by
  have H := Lib.hid (ruint_err g er he w h)
  clear h he
  go_enter Tryz.func88, Tryz.ntmps88
  go_wp2_with fail
  refine H.out.mono ?_
  rintro e w1 ⟨rfl, rfl⟩
  go_wp2
  go_ret
  exact ⟨rfl, rfl⟩
end Go.Proofs.YtnagmopejblegaaGreat
