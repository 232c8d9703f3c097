/- Layer 13: CondNumbers' walk. -/
import Derived.Test.YthggaedpbmjclaaDoorCdRSig
import Derived.Test.YthggaedpbmjclaaDoorCdAwk
namespace Go.Proofs.YthggaedpbmjclaaDoor
open Go.RowKit Go.Proofs
namespace condNumbers
set_option maxRecDepth 100000 in
set_option maxHeartbeats 4000000 in
theorem walk (s : ByteArray) (most : Nat) (w : World) (hg : GlC w) :
    Calls Tryd.prog 4 #[.string s, .int .u64 most] w fun e w' => e = .returned (.bool true) ∧ Below w.heap.size w w' := by
  have HG := Lib.hid hg
  clear hg
  go_enter Tryd.func4, Tryd.ntmps4
  go_wp2_with fail
  refine (awake13_any w).mono ?_
  rintro _ w0 ⟨rfl, hb0⟩
  have HB0 := Lib.hid hb0
  have HG0 := Lib.hid (HG.out.below hb0)
  clear hb0 HG
  by_cases h40 : 40 < s.size
  · have p1 : decide ((40 : Int) < (s.size : Int)) = true := decide_eq_true (by omega)
    have p2 : decide (40 < s.size) = true := decide_eq_true h40
    go_wp2
    go_ret
    exact ⟨rfl, HB0.out⟩
  have p1 : decide ((40 : Int) < (s.size : Int)) = false := decide_eq_false (by omega)
  have p2 : decide (40 < s.size) = false := decide_eq_false h40
  have hs : s.size ≤ 281474976710656 := by omega
  have H1 := Lib.hid (cnum_any s most w0 hs HG0.out)
  obtain ⟨n, b, hv, hb, hm, -⟩ := rnumV_eq s.data.toList most
  have H2 : Hid (∀ W, Calls Tryd.prog 15 #[.string s, .int .u64 most] W fun e w' => e = .returned (.tuple #[.int .u64 n, .bool b]) ∧ W = w') := fun W => by
    have := rnum_any s most W hs
    rw [hv] at this
    exact this
  have H3 : Hid (∀ W, GlC W → Calls Tryd.prog 16 #[.string s] W fun e w' => e = .returned (signV (signF s.data.toList)) ∧ Below W.heap.size W w') := fun W hW => csign_any s W hs hW
  have H4 : Hid (∀ W, Calls Tryd.prog 17 #[.string s] W fun e w' => ∃ z : Int, e = .returned (.tuple #[.int .i64 z, .bool (signF s.data.toList).isSome]) ∧ (∀ y, signF s.data.toList = some y → z = y) ∧ W = w') := fun W => rsign_any s W hs
  have HBM : Hid (b = (numN s.data.toList most).isSome ∧ ∀ m, numN s.data.toList most = some m → n = m) := ⟨hb, hm⟩
  generalize numN s.data.toList most = O1 at H1 HBM
  generalize signF s.data.toList = O2 at H3 H4
  clear hv hb hm hs h40
  go_wp2_with fail
  refine H1.out.mono ?_
  rintro _ w1 ⟨rfl, hb1⟩
  have HB1 := Lib.hid (HB0.out.trans (hb1.mono HB0.out.size))
  have HG1 := Lib.hid (HG0.out.below hb1)
  clear hb1 H1 HB0 HG0 p1 p2
  cases O1 with
  | none =>
    obtain rfl : b = false := HBM.out.1
    unfold numV
    go_wp2_with fail
    refine (H2.out _).mono ?_
    rintro _ w2 ⟨rfl, rfl⟩
    go_wp2_with fail
    refine (H3.out _ HG1.out).mono ?_
    rintro _ w3 ⟨rfl, hb3⟩
    have HB3 := Lib.hid (HB1.out.trans (hb3.mono HB1.out.size))
    clear hb3 H2 H3 HB1
    cases O2 with
    | none =>
      unfold signV
      go_wp2_with fail
      refine (H4.out _).mono ?_
      rintro _ w4 ⟨z, rfl, -, rfl⟩
      rw [show (none : Option Int).isSome = false from rfl]
      clear H4 HBM
      go_wp2
      go_ret
      exact ⟨rfl, HB3.out⟩
    | some y =>
      unfold signV
      go_wp2_with fail
      refine (H4.out _).mono ?_
      rintro _ w4 ⟨z, rfl, hz, rfl⟩
      obtain rfl : z = y := hz y rfl
      rw [show (some z : Option Int).isSome = true from rfl]
      have k1 : (z == z) = true := by simp
      clear H4 HBM hz
      go_wp2
      go_ret
      exact ⟨rfl, HB3.out⟩
  | some m =>
    obtain rfl : b = true := HBM.out.1
    obtain rfl : n = m := HBM.out.2 m rfl
    have k0 : ((n : Int) == (n : Int)) = true := by simp
    unfold numV
    go_wp2_with fail
    refine (H2.out _).mono ?_
    rintro _ w2 ⟨rfl, rfl⟩
    go_wp2_with fail
    refine (H3.out _ HG1.out).mono ?_
    rintro _ w3 ⟨rfl, hb3⟩
    have HB3 := Lib.hid (HB1.out.trans (hb3.mono HB1.out.size))
    clear hb3 H2 H3 HB1
    cases O2 with
    | none =>
      unfold signV
      go_wp2_with fail
      refine (H4.out _).mono ?_
      rintro _ w4 ⟨z, rfl, -, rfl⟩
      rw [show (none : Option Int).isSome = false from rfl]
      clear H4 HBM
      go_wp2
      go_ret
      exact ⟨rfl, HB3.out⟩
    | some y =>
      unfold signV
      go_wp2_with fail
      refine (H4.out _).mono ?_
      rintro _ w4 ⟨z, rfl, hz, rfl⟩
      obtain rfl : z = y := hz y rfl
      rw [show (some z : Option Int).isSome = true from rfl]
      have k1 : (z == z) = true := by simp
      clear H4 HBM hz
      go_wp2
      go_ret
      exact ⟨rfl, HB3.out⟩
end condNumbers
end Go.Proofs.YthggaedpbmjclaaDoor
