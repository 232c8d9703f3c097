/- Several texts in one: PkText, ItTk. -/
import Derived.Test.YtnagmopejblegaaGreatMb13
import Derived.Test.YtnagmopejblegaaGreatMb28
import Derived.Test.YtnagmopejblegaaGreatMb35
/- Layer 3: the Reader's Text. -/
namespace Go.Proofs.YtnagmopejblegaaGreat
open Go.RowKit

theorem RdB.dropMap {w : World} {B : Nat} {A : Option Addr} {l : List Nat} (h : RdB w B A l) (hs : ∀ a, A = some a → ∃ b o, a = ⟨b, o, none⟩) (k : Nat) : RdB w B (A.map (fun x => x.add k)) (l.drop k) := by
  cases A with
  | none =>
    intro h0
    obtain ⟨b, o, e, _⟩ := h (by simp at h0; omega)
    cases e
  | some a =>
    obtain ⟨b, o, rfl⟩ := hs a rfl
    have := h.drop k
    simpa [Addr.add_lit] using this

set_option maxHeartbeats 400000 in
theorem rtext_nil (z : Int) (w : World) :
    Calls Tryz.prog 76 #[.pointer none, .int .i64 z] w fun e w' => e = .returned (.string ⟨#[]⟩) ∧ w = w' := by
  go_enter Tryz.func76, Tryz.ntmps76
  go_wp2
  go_ret
  exact ⟨rfl, rfl⟩

set_option maxRecDepth 100000 in
set_option maxHeartbeats 1000000 in
theorem rtext_any (g : Nat) (l : List Nat) (most : Int) (hmx : most < 9223372036854775808) (w : World) (h : Rdr w g l 0) :
    Calls Tryz.prog 76 #[.pointer (some ⟨g, 0, none⟩), .int .i64 most] w fun e w' => e = .returned (.string (strB (getT most.toNat l).1)) ∧ Rdr w' g (getT most.toNat l).2.1 ((getT most.toNat l).2.2 : Nat) ∧ w.grownBy w' (some g) := by
  have Hu := Lib.hid (ruint_any g l w h)
  have hz := getU_zero l 0 0
  have hn := getU_lt l 0 0 h.ok (by omega) (by decide)
  unfold getT
  obtain ⟨n', l', e', hR⟩ : ∃ n' l' e', getU 0 0 l = (n', l', e') := ⟨_, _, _, rfl⟩
  rw [hR] at Hu hz hn ⊢
  clear hR h
  simp only at Hu hz hn ⊢
  have HU : Hid (Calls Tryz.prog 42 #[.pointer (some ⟨g, 0, none⟩)] w fun e w' => e = .returned (.int .u64 (n' : Nat)) ∧ Hid (Rdr w' g l' (e' : Nat)) ∧ Hid (w.grownBy w' (some g))) := Hu
  clear Hu
  have hif : (if most < 0 then (0 : Int) else most) = (most.toNat : Nat) := by split <;> omega
  generalize hM : most.toNat = M at *
  have hMx : M < 9223372036854775808 := by omega
  clear hM hmx
  by_cases he : e' ≠ 0
  · obtain ⟨rfl, rfl⟩ := hz he
    rw [if_pos he]
    replace he := Lib.hid he
    clear hz
    go_enter Tryz.func76, Tryz.ntmps76
    go_wp2_with fail
    refine HU.out.mono ?_
    rintro e w1 ⟨rfl, H1, H2⟩
    obtain ⟨A, n, c, c0, hn0, hnc, hA, hr, hm, hs⟩ := H1.out.c0
    obtain rfl : n = 0 := hn0.out
    have f0 := H1.out.f0
    have hcv := conv_any (A := A) (n := 0) (c := c) (l := []) hr rfl (fun _ => rfl)
    have He : Hid ((e' : Int) ≠ 0) := by show _ ≠ _; have := he.out; omega
    go_wp2
    go_ret
    exact ⟨rfl, H1.out.cut rfl (Nat.zero_le _) (fun e => ⟨rfl, (hA.out e).2⟩) RdB.empty (by omega) hs OkB.nil (fun _ => rfl), grownBy_trans H2.out (grown_set _ _ _ _)⟩
  · rw [if_neg he]
    obtain rfl : e' = 0 := by omega
    clear hz he
    by_cases ht : M < n'
    · rw [if_pos ht]
      go_enter Tryz.func76, Tryz.ntmps76
      go_wp2_with fail
      refine HU.out.mono ?_
      rintro e w1 ⟨rfl, H1, H2⟩
      go_wp2_with fail
      refine (rfail_set g l' 4 (by decide) w1 H1.out).mono ?_
      rintro e w3 ⟨rfl, h1, h2⟩
      have H3 := Lib.hid h1
      have H4 := Lib.hid (grownBy_trans H2.out h2)
      clear h1 h2
      go_wp2
      go_ret
      exact ⟨rfl, H3.out, H4.out⟩
    · rw [if_neg ht]
      by_cases hs : l'.length < n'
      · rw [if_pos hs]
        go_enter Tryz.func76, Tryz.ntmps76
        go_wp2_with fail
        refine HU.out.mono ?_
        rintro e w1 ⟨rfl, H1, H2⟩
        obtain ⟨A, n, c, c0, hn0, hnc, hA, hr, hm, hsp⟩ := H1.out.c0
        have hs2 : n < n' := by rw [hn0.out]; exact hs
        clear hs
        go_wp2_with fail
        refine (rfail_set g l' 3 (by decide) w1 H1.out).mono ?_
        rintro e w3 ⟨rfl, h1, h2⟩
        have H3 := Lib.hid h1
        have H4 := Lib.hid (grownBy_trans H2.out h2)
        clear h1 h2
        go_wp2
        go_ret
        exact ⟨rfl, H3.out, H4.out⟩
      · rw [if_neg hs]
        go_enter Tryz.func76, Tryz.ntmps76
        go_wp2_with fail
        refine HU.out.mono ?_
        rintro e w1 ⟨rfl, H1, H2⟩
        obtain ⟨A, n, c, c0, hn0, hnc, hA, hr, hm, hsp⟩ := H1.out.c0
        have hs2 : n' ≤ n := by rw [hn0.out]; omega
        have f0 := H1.out.f0
        have hcv := conv_any (A := A) (n := n') (c := c) (l := l'.take n') (hr.take n') (by rw [List.length_take]; omega) (fun e => by have := hA.out e; omega)
        clear hs
        have Hn : Hid ((l'.drop n').length = n - n') := by show _ = _; rw [List.length_drop, hn0.out]
        have Hr := Lib.hid hr
        have Hsp := Lib.hid hsp
        clear hr hsp
        go_wp2
        · go_ret
          obtain rfl : n = n' := by omega
          have h0 : l'.drop n = [] := List.eq_nil_of_length_eq_zero (by rw [Hn.out]; omega)
          rw [h0]
          exact ⟨rfl, H1.out.cut (by simp) (by omega) (fun e => by have := hA.out e; omega) RdB.empty (by omega) Hsp.out OkB.nil (fun _ => rfl), grownBy_trans H2.out (grown_set _ _ _ _)⟩
        · go_ret
          refine ⟨rfl, H1.out.cut Hn.out.symm (by omega) (fun e => ?_) (Hr.out.dropMap Hsp.out n') (by omega) (fun a e => ?_) (H1.out.ok.drop n') (fun e => absurd rfl e), grownBy_trans H2.out (grown_set _ _ _ _)⟩
          · have := hA.out (by cases A with | none => rfl | some a => cases e)
            omega
          · cases A with
            | none => cases e
            | some a0 =>
              obtain ⟨b, o, rfl⟩ := Hsp.out a0 rfl
              obtain rfl : (⟨b, o, none⟩ : Addr).add n' = a := by injection e
              exact ⟨b, o + n', Addr.add_lit _ _ _⟩
set_option maxRecDepth 100000 in
set_option maxHeartbeats 400000 in
theorem rtext_err (g : Nat) (er most : Int) (he : er ≠ 0) (hmx : most < 9223372036854775808) (w : World) (h : Rdr w g [] er) :
    Calls Tryz.prog 76 #[.pointer (some ⟨g, 0, none⟩), .int .i64 most] w fun e w' => e = .returned (.string ⟨#[]⟩) ∧ Rdr w' g [] er ∧ w.grownBy w' (some g) := by
  have HU := Lib.hid (ruint_err g er he w h)
  have H := Lib.hid h
  have hif : (if most < 0 then (0 : Int) else most) = (most.toNat : Nat) := by split <;> omega
  generalize hM : most.toNat = M at *
  have hMx : M < 9223372036854775808 := by omega
  clear hM hmx
  obtain ⟨A, n, c, c0, hn0, hnc, hA, hr, hm, hs⟩ := h.c0
  obtain rfl : n = 0 := hn0.out
  have f0 := h.f0
  have hcv := conv_any (A := A) (n := 0) (c := c) (l := []) hr rfl (fun _ => rfl)
  have He := Lib.hid he
  have hb : strB [] = ⟨#[]⟩ := rfl
  rw [hb] at hcv
  clear he h hb
  go_enter Tryz.func76, Tryz.ntmps76
  go_wp2_with fail
  refine HU.out.mono ?_
  rintro e w1 ⟨rfl, rfl⟩
  go_wp2
  go_ret
  exact ⟨rfl, H.out.cut rfl (Nat.zero_le _) (fun e => ⟨rfl, (hA.out e).2⟩) RdB.empty (by omega) hs OkB.nil (fun _ => rfl), grown_set _ _ _ _⟩
end Go.Proofs.YtnagmopejblegaaGreat
/- Layer 4: the Reader's calls as functions on what is left and the error. -/
namespace Go.Proofs.YtnagmopejblegaaGreat
open Go.RowKit

/-- the Reader at block g: what is left, and the error -/
def RdT (w : World) (g : Nat) (s : St) : Prop := Rdr w g s.1 (s.2 : Nat)
def Tk (w : World) (g : Nat) (v : Value) (s : St) (e : Ending) (w' : World) : Prop := e = .returned v ∧ RdT w' g s ∧ w.grownBy w' (some g)
section
variable {w w' : World} {g : Nat} {s : St}
theorem RdT.bare (h : RdT w g s) (he : s.2 ≠ 0) : s.1 = [] := Rdr.none_ h (by omega)
theorem RdT.lt (h : RdT w g s) : g < w.heap.size := Rdr.lt h
theorem RdT.below (h : RdT w g s) (hb : Below w.heap.size w w') : RdT w' g s := Rdr.below h hb
theorem RdT.kept {r : Option Nat} (h : RdT w g s) (hg : w.grownBy w' r) (hr : ∀ k, r = some k → g < k) : RdT w' g s :=
  Rdr.keep h hg.size fun k hk => hg.block k (by have := h.lt; omega) (fun e => by have := hr k e.symm; omega)
theorem RdT.setRow {X : Nat} (h : RdT w g s) (hX : g < X) (cs : Array Value) : RdT (w.setRow X cs) g s :=
  Rdr.keep h (by simp [World.setRow]) fun k hk => setRow_other w X k cs (by omega)
theorem RdT.setCell {X o : Nat} (h : RdT w g s) (hX : g < X) (v : Value) : RdT (w.setCell ⟨X, o, none⟩ v) g s :=
  h.kept (grown_set w X o v) (fun k e => by cases e; exact hX)
theorem grown_setRow {w0 : World} {X : Nat} (h : w0.grownBy w (some g)) (hX : w0.heap.size ≤ X) (cs : Array Value) : w0.grownBy (w.setRow X cs) (some g) :=
  ⟨h.os, h.tape, h.output, Nat.le_trans h.size (by simp [World.setRow]), fun k hk hne => (setRow_other w X k cs (by omega)).trans (h.block k hk hne)⟩
theorem grown_fresh {w0 : World} {r : Option Nat} (h : w0.grownBy w (some g)) (h2 : w.grownBy w' r) (hr : ∀ k, r = some k → w0.heap.size ≤ k) : w0.grownBy w' (some g) :=
  ⟨h2.os.trans h.os, h2.tape.trans h.tape, h2.output.trans h.output, Nat.le_trans h.size h2.size, fun k hk hne => (h2.block k (Nat.lt_of_lt_of_le hk h.size) (fun e => by have := hr k e.symm; omega)).trans (h.block k hk hne)⟩
theorem grown_below0 (h : Below w.heap.size w w') (r : Option Nat) : w.grownBy w' r := ⟨h.os, h.tape, h.output, h.size, fun k hk _ => h.block k hk⟩
theorem grown_alloc {w0 : World} (h : w0.grownBy w (some g)) (o : Obj) : w0.grownBy (w.alloc o) (some g) := grown_fresh h (World.grownBy_alloc w o none) (fun _ e => by cases e)
end

theorem tk_byte (g : Nat) (s : St) (w : World) (h : RdT w g s) :
    Calls Tryz.prog 40 #[.pointer (some ⟨g, 0, none⟩)] w (Tk w g (.int .u8 ((rByte s).1 : Nat)) (rByte s).2) := by
  obtain ⟨l, er⟩ := s
  by_cases he : er = 0
  · subst he
    cases l with
    | nil => exact (rbyte_short g w h).mono fun e w' ⟨h1, h2, h3⟩ => ⟨h1, h2, h3⟩
    | cons x l => exact (rbyte_cons g x l w h).mono fun e w' ⟨h1, h2, h3⟩ => ⟨h1, h2, h3⟩
  · obtain rfl : l = [] := h.bare he
    refine (rbyte_err g er (by omega) w h).mono ?_
    rintro e w' ⟨rfl, rfl⟩
    have hs : rByte ([], er) = (0, ([], er)) := by simp [rByte, lft, he]
    rw [hs]; exact ⟨rfl, h, World.grownBy.refl w _⟩
theorem tk_uint (g : Nat) (s : St) (w : World) (h : RdT w g s) :
    Calls Tryz.prog 42 #[.pointer (some ⟨g, 0, none⟩)] w (Tk w g (.int .u64 ((rU s).1 : Nat)) (rU s).2) := by
  obtain ⟨l, er⟩ := s
  by_cases he : er = 0
  · subst he
    have hs : rU (l, 0) = getU 0 0 l := rfl
    rw [hs]
    exact (ruint_any g l w h).mono fun e w' ⟨h1, h2, h3⟩ => ⟨h1, h2, h3⟩
  · obtain rfl : l = [] := h.bare he
    refine (ruint_err g er (by omega) w h).mono ?_
    rintro e w' ⟨rfl, rfl⟩
    have hs : rU ([], er) = (0, ([], er)) := by simp [rU, lft, he]
    rw [hs]; exact ⟨rfl, h, World.grownBy.refl w _⟩
theorem tk_int (g : Nat) (s : St) (w : World) (h : RdT w g s) :
    Calls Tryz.prog 78 #[.pointer (some ⟨g, 0, none⟩)] w (Tk w g (.int .i64 (rI s).1) (rI s).2) := by
  obtain ⟨l, er⟩ := s
  by_cases he : er = 0
  · subst he
    have hs : rI (l, 0) = (zag (getU 0 0 l).1, (getU 0 0 l).2) := rfl
    rw [hs]
    exact (rint_any g l w h).mono fun e w' ⟨h1, h2, h3⟩ => ⟨h1, h2, h3⟩
  · obtain rfl : l = [] := h.bare he
    refine (rint_err g er (by omega) w h).mono ?_
    rintro e w' ⟨rfl, rfl⟩
    have hs : rI ([], er) = (0, ([], er)) := by simp [rI, rU, bnd, ret, lft, he]; rfl
    rw [hs]; exact ⟨rfl, h, World.grownBy.refl w _⟩
theorem tk_bool (g : Nat) (s : St) (w : World) (h : RdT w g s) :
    Calls Tryz.prog 62 #[.pointer (some ⟨g, 0, none⟩)] w (Tk w g (.bool (rB s).1) (rB s).2) := by
  obtain ⟨l, er⟩ := s
  by_cases he : er = 0
  · subst he
    have hs : rB (l, 0) = getB l := rfl
    rw [hs]
    exact (rbool_any g l w h).mono fun e w' ⟨h1, h2, h3⟩ => ⟨h1, h2, h3⟩
  · obtain rfl : l = [] := h.bare he
    refine (rbool_err g er (by omega) w h).mono ?_
    rintro e w' ⟨rfl, rfl⟩
    have hs : rB ([], er) = (false, ([], er)) := by simp [rB, lft, he]
    rw [hs]; exact ⟨rfl, h, World.grownBy.refl w _⟩
theorem tk_text (m : Nat) (hm : m < 1000) (g : Nat) (s : St) (w : World) (h : RdT w g s) :
    Calls Tryz.prog 76 #[.pointer (some ⟨g, 0, none⟩), .int .i64 (m : Nat)] w (Tk w g (.string (rT m s).1) (rT m s).2) := by
  obtain ⟨l, er⟩ := s
  by_cases he : er = 0
  · subst he
    have hs : rT m (l, 0) = (strB (getT m l).1, (getT m l).2) := rfl
    rw [hs]
    exact (rtext_any g l (m : Nat) (by omega) w h).mono fun e w' ⟨h1, h2, h3⟩ => ⟨h1, h2, h3⟩
  · obtain rfl : l = [] := h.bare he
    refine (rtext_err g er (m : Nat) (by omega) (by omega) w h).mono ?_
    rintro e w' ⟨rfl, h2, h3⟩
    have hs : rT m ([], er) = (⟨#[]⟩, ([], er)) := by simp [rT, bnd, ret, lft, he]; rfl
    rw [hs]; exact ⟨rfl, h2, h3⟩
theorem tk_text12 (g : Nat) (s : St) (w : World) (h : RdT w g s) : Calls Tryz.prog 76 #[.pointer (some ⟨g, 0, none⟩), .int .i64 12] w (Tk w g (.string (rT 12 s).1) (rT 12 s).2) := tk_text 12 (by decide) g s w h
theorem tk_text8 (g : Nat) (s : St) (w : World) (h : RdT w g s) : Calls Tryz.prog 76 #[.pointer (some ⟨g, 0, none⟩), .int .i64 8] w (Tk w g (.string (rT 8 s).1) (rT 8 s).2) := tk_text 8 (by decide) g s w h
theorem tk_text16 (g : Nat) (s : St) (w : World) (h : RdT w g s) : Calls Tryz.prog 76 #[.pointer (some ⟨g, 0, none⟩), .int .i64 16] w (Tk w g (.string (rT 16 s).1) (rT 16 s).2) := tk_text 16 (by decide) g s w h
theorem tk_count8 (g : Nat) (s : St) (w : World) (h : RdT w g s) :
    Calls Tryz.prog 88 #[.pointer (some ⟨g, 0, none⟩), .int .u64 8] w (Tk w g (.int .u64 ((rC 8 s).1 : Nat)) (rC 8 s).2) := by
  obtain ⟨l, er⟩ := s
  by_cases he : er = 0
  · subst he
    have hs : rC 8 (l, 0) = getC 8 l := rfl
    rw [hs]
    exact (rcount_any g l 8 w h).mono fun e w' ⟨h1, h2, h3⟩ => ⟨h1, h2, h3⟩
  · obtain rfl : l = [] := h.bare he
    refine (rcount_err g er (8 : Nat) (by omega) w h).mono ?_
    rintro e w' ⟨rfl, rfl⟩
    have hs : rC 8 ([], er) = (0, ([], er)) := by simp [rC, lft, he]
    rw [hs]; exact ⟨rfl, h, World.grownBy.refl w _⟩
theorem rC_le (top : Nat) (s : St) : (rC top s).1 ≤ top := by
  unfold rC lft
  split
  · unfold getC
    split
    · simp
    · split
      · simp
      · simp only; omega
  · simp
theorem Tryz.infoGap : (Tryz.prog.info? 38).map (·.size) = some 3 := by kernel_rfl

set_option maxRecDepth 100000 in
set_option maxHeartbeats 1000000 in
theorem takeGap_any (g : Nat) (s : St) (w : World) (h : RdT w g s) :
    Calls Tryz.prog 63 #[.pointer (some ⟨g, 0, none⟩)] w (Tk w g (.agg #[.int .u8 ((gapR s).1.ga : Nat), .int .u64 ((gapR s).1.gf : Nat), .int .u64 ((gapR s).1.gt : Nat)]) (gapR s).2) := by
  obtain ⟨o, s1, h1⟩ : ∃ o s1, rByte s = (o, s1) := ⟨_, _, rfl⟩
  obtain ⟨f, s2, h2⟩ : ∃ o s2, rU s1 = (o, s2) := ⟨_, _, rfl⟩
  obtain ⟨t, s3, h3⟩ : ∃ o s3, rU s2 = (o, s3) := ⟨_, _, rfl⟩
  have hG : gapR s = (⟨true, 0, 0, 0, ⟨#[]⟩, [], 0, 0, 0, 0, o, f, t⟩, s3) := by simp [gapR, bnd, h1, h2, h3, ret]
  rw [hG]
  have t1 := fun W H => tk_byte g s W H
  have t2 := fun W H => tk_uint g s1 W H
  have t3 := fun W H => tk_uint g s2 W H
  rw [h1] at t1
  rw [h2] at t2
  rw [h3] at t3
  have HT1 := Lib.hid t1
  have HT2 := Lib.hid t2
  have HT3 := Lib.hid t3
  obtain ⟨W, hW⟩ : ∃ W, W = w.alloc (.cells #[.int .u8 0, .int .u64 0, .int .u64 0] 38) := ⟨_, rfl⟩
  have hb : Below w.heap.size w W := by rw [hW]; exact (Below.refl _ _).alloc (Nat.le_refl _) _
  have hc : W.heap[w.heap.size]? = some (.cells #[.int .u8 0, .int .u64 0, .int .u64 0] 38 (0, 0)) := by rw [hW]; exact heap_alloc_new _ _
  have hl : w.heap.size < W.heap.size := by rw [hW]; simp
  have hgl := h.lt
  have HW := Lib.hid hW
  have HB := Lib.hid hb
  have HC := Lib.hid hc
  have HR := Lib.hid (h.below hb)
  have HL := Lib.hid hl
  clear hW hb hc h hG h1 h2 h3 t1 t2 t3 hl
  go_enter Tryz.func63, Tryz.ntmps63
  go_upto_region 1 with fail
  rw [← HW.out]
  go_wp2_with fail
  refine (HT1.out W HR.out).mono ?_
  rintro e w1 ⟨rfl, hr1, hg1⟩
  have HR1 := Lib.hid hr1
  have HG1 := Lib.hid hg1
  clear hr1 hg1
  go_wp2_with fail
  refine (HT2.out w1 HR1.out).mono ?_
  rintro e w2 ⟨rfl, hr2, hg2⟩
  have HR2 := Lib.hid hr2
  have HG2 := Lib.hid (grownBy_trans HG1.out hg2)
  clear hr2 hg2
  go_wp2_with fail
  refine (HT3.out w2 HR2.out).mono ?_
  rintro e w3 ⟨rfl, hr3, hg3⟩
  have HR3 := Lib.hid hr3
  have HG3 := Lib.hid (grownBy_trans HG2.out hg3)
  have HC3 := Lib.hid ((HG3.out.block w.heap.size HL.out (by simp; omega)).trans HC.out)
  clear hr3 hg3
  go_wp2_with (first | (refine wpList_store_row rfl _ _ _ rfl w.heap.size _ rfl rfl _ _ HC3.out Tryz.infoGap rfl (by simp [Value.oneCell']) ?_) | fail)
  refine bodyPost_ret (v := .agg #[.int .u8 (o : Nat), .int .u64 (f : Nat), .int .u64 (t : Nat)]) ?_ rfl ⟨rfl, ?_, ?_⟩
  · exact results_cell_row rfl _ _ w.heap.size _ _ _ _ rfl (setRow_heap _ _ _ _ _ _ HC3.out) Tryz.underlying38 rfl (by kernel_rfl)
  · exact HR3.out.setRow hgl _
  · exact grown_setRow (grownBy_trans (grown_below0 HB.out _) HG3.out) (Nat.le_refl _) _
end Go.Proofs.YtnagmopejblegaaGreat
