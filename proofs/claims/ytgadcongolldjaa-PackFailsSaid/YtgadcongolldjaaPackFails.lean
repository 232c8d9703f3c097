/- The walk of watchfirelaw03.PackFails. -/
import Derived.Test.YtgadcongolldjaaPkAwake
import Derived.Test.YtgadcongolldjaaPkText
namespace Go.Proofs.Ytgadcongolldjaa.packFails
open Go.RowKit Go.Proofs.Ytgadcongolldjaa

set_option maxRecDepth 100000 in
set_option maxHeartbeats 2000000 in
theorem walk (A : Option Addr) (n c : Nat) (l : List Nat) (hn : n = l.length) (hA : A = none → n = 0) (B : Nat) (hok : OkB l) (A2 : Option Addr) (m c2 : Nat) (e : Int) (w : World) (hB : B ≤ w.heap.size) (hrd : RdB w B A l) :
    Calls Try.prog 5 #[.slice A n c, .slice A2 m c2, .int .i64 e] w fun e w' => e = .returned (.bool true) ∧ Below w.heap.size w w' := by

  have Hn := Lib.hid hn
  have HA := Lib.hid hA
  have Hok := Lib.hid hok
  have Hr := Lib.hid hrd
  clear hn hA hok hrd
  go_enter Try.func5, Try.ntmps5
  go_wp2_with fail
  refine (pawake_any _).mono ?_
  rintro e1 w1 ⟨rfl, hb1⟩
  have hsz1 := hb1.size
  by_cases hn1 : 100 < n
  · have hn2 : (100 : Int) < n := by omega
    go_wp2
    go_ret
    exact ⟨rfl, hb1⟩
  by_cases hm1 : 20 < m
  · go_wp2
    go_ret
    exact ⟨rfl, hb1⟩
  go_wp2_with fail
  refine (rread_any A n c l B w1 Hn.out HA.out (by omega) (Hr.out.below (hb1.mono hB)) (by omega) Hok.out).mono ?_
  rintro e1 w2 ⟨g, rfl, h1, hg, hb2⟩
  have H1 := Lib.hid h1
  have hb2 := Lib.hid (hb1.trans (hb2.mono hsz1))
  have hsz2 := hb2.out.size
  clear h1 hb1
  by_cases he : e = 0
  · subst he
    go_wp2_with fail
    refine (rfail_keep g l 0 0 (.inr rfl) w2 H1.out).mono ?_
    rintro e1 w3 ⟨rfl, rfl⟩
    go_wp2_with fail
    refine (rerr_any g l 0 w2 H1.out).mono ?_
    rintro e1 w3 ⟨rfl, rfl⟩
    go_wp2_with fail
    refine (rleft_any g l 0 w2 H1.out).mono ?_
    rintro e1 w3 ⟨rfl, rfl⟩
    rw [← Hn.out]
    go_wp2
    go_ret
    exact ⟨rfl, hb2.out⟩
  · have he2 : (e == 0) = false := by simpa using he
    have He := Lib.hid he
    clear he
    go_wp2_with fail
    refine (rfail_set g l e He.out w2 H1.out).mono ?_
    rintro e1 w3 ⟨rfl, h1, h2⟩
    have H3 := Lib.hid h1
    have hb3 := Lib.hid (hb2.out.grown h2 (by omega) (fun k hk => by cases hk; omega))
    clear h1 h2 H1
    go_wp2
    go_loopw [39] (fun iv wr => ∃ k : Nat, k ≤ m ∧ iv = .int .i64 k ∧ Hid (Rdr wr g [] e) ∧ Hid (Below w.heap.size w wr)) (fun iv _ => m - (intOf iv).toNat)
    case atStart => exact ⟨0, by omega, rfl, H3.out, hb3.out⟩
    case round =>
      obtain ⟨k, hk, rfl, HR, Hb⟩ := hrel
      by_cases hlt : k < m
      · go_wp2_with fail
        refine (rbyte_err g e He.out wr HR.out).mono ?_
        rintro e1 w4 ⟨rfl, rfl⟩
        go_wp2_with fail
        refine (ruint_err g e He.out wr HR.out).mono ?_
        rintro e1 w4 ⟨rfl, rfl⟩
        go_wp2_with fail
        refine (rint_err g e He.out wr HR.out).mono ?_
        rintro e1 w4 ⟨rfl, rfl⟩
        go_wp2_with fail
        refine (rbool_err g e He.out wr HR.out).mono ?_
        rintro e1 w4 ⟨rfl, rfl⟩
        go_wp2_with fail
        refine (rtext_err g e 9 He.out (by decide) wr HR.out).mono ?_
        rintro e1 w4 ⟨rfl, h1, h2⟩
        have H4 := Lib.hid h1
        have hb4 := Lib.hid (Hb.out.grown h2 Hb.out.size (fun k hk => by cases hk; omega))
        clear h1 h2
        go_wp2_with fail
        refine (rcount_err g e 9 He.out w4 H4.out).mono ?_
        rintro e1 w5 ⟨rfl, rfl⟩
        go_wp2_with fail
        refine (rfail_keep g [] e _ (.inl He.out) w4 H4.out).mono ?_
        rintro e1 w5 ⟨rfl, rfl⟩
        go_wp2
        exact ⟨⟨k + 1, by omega, by go_num, H4.out, hb4.out⟩, by simp [intOf]; omega⟩
      · have hkm : k = m := by omega
        subst hkm
        go_wp2_with fail
        refine (rleft_any g [] e wr HR.out).mono ?_
        rintro e1 w4 ⟨rfl, rfl⟩
        go_wp2_with fail
        refine (rerr_any g [] e wr HR.out).mono ?_
        rintro e1 w4 ⟨rfl, rfl⟩
        go_wp2_with fail
        refine (rdone_empty g e wr HR.out).mono ?_
        rintro e1 w4 ⟨rfl, rfl⟩
        go_wp2
        go_ret
        exact ⟨rfl, Hb.out⟩
end Go.Proofs.Ytgadcongolldjaa.packFails
