/- Several texts in one: PkRef. -/
import Derived.Lib.AppendStr
import Derived.Test.YtnagmopejblegaaGreatMb2
import Derived.Test.YtnagmopejblegaaGreatMb5
/- Layer 3: the document's numbers and texts as bytes: watchfireref01.Uint, Int, Long. -/
namespace Go.Proofs.YtnagmopejblegaaGreat
open Go.RowKit

set_option maxRecDepth 100000 in
set_option maxHeartbeats 400000 in
theorem refUint_any (n : Nat) (hn : n < 18446744073709551616) (w : World) :
    Calls Tryz.prog 13 #[.int .u64 n] w fun e w' => ∃ v, e = .returned v ∧ w'.ownsRow w.heap.size 5 1 v (leb n).length (cellsB (leb n)) ∧ Below w.heap.size w w' := by
  obtain ⟨i0, hi, hz0, hz1, hz2⟩ := info_parts Tryz.infoB
  have hL := leb_le10 hn
  go_enter Tryz.func13, Tryz.ntmps13
  go_wp2
  go_loopw [0, 3] (fun nv v wr => ∃ (m : Nat) (pre : List Nat), nv = .int .u64 m ∧ m < 18446744073709551616 ∧ Hid (pre ++ leb m = leb n) ∧ Hid (wr.ownsRow w.heap.size 5 1 v pre.length (cellsB pre)) ∧ Below w.heap.size w wr) (fun nv _ _ => (intOf nv).toNat)
  case atStart => exact ⟨n, [], rfl, hn, rfl, World.ownsRow_nil _ _ _ _, Below.refl _ _⟩
  case round =>
    obtain ⟨m, pre, rfl, hm, Hp, Ho, hb⟩ := hrel
    have hsz := hb.size
    obtain ⟨A1, c1, rfl⟩ := ownB_slice Ho.out
    have hpl : pre.length ≤ 10 := by have := congrArg List.length Hp.out; rw [List.length_append] at this; omega
    by_cases hlt : m < 128
    · have h1 : ¬ (128 ≤ (m : Int)) := by omega
      go_wp2_with (at_builtin; refine wpList_append_src (base := w.heap.size) rfl _ _ rfl Tryz.underlying22 hi hz0 hz1 hz2 rfl (by decide) rfl (Ho.out.alloc _) rfl (src_one _ _ _ m (by omega)) (cellsB_one [m]) (by unfold maxLen; omega) (by omega) (by simp; omega) ?_; intro v2 w2 hr2 hg2 hb2; replace hg2 : Below w.heap.size w w2 := (hb.alloc (by omega) _).grown hg2 (by simp; omega) (fun q hq => (Ho.out.lt q hq).1); replace hr2 := Lib.hid hr2; clear hb2)
      go_ret
      have h := hr2.out
      rw [← cellsB_append, ← leb_lt hlt, Hp.out, show pre.length + 1 = (leb n).length by rw [← Hp.out, List.length_append, leb_lt hlt]; rfl] at h
      exact ⟨_, rfl, h, hg2⟩
    · have h1 : (128 ≤ (m : Int)) := by omega
      go_wp2_with (at_builtin; refine wpList_append_src (base := w.heap.size) rfl _ _ rfl Tryz.underlying22 hi hz0 hz1 hz2 rfl (by decide) rfl (Ho.out.alloc _) rfl (src_one _ _ _ (m % 128 + 128) (by omega)) (cellsB_one [m % 128 + 128]) (by unfold maxLen; omega) (by omega) (by simp; omega) ?_; intro v2 w2 hr2 hg2 hb2; replace hg2 : Below w.heap.size w w2 := (hb.alloc (by omega) _).grown hg2 (by simp; omega) (fun q hq => (Ho.out.lt q hq).1); replace hr2 := Lib.hid hr2; clear hb2)
      have h := hr2.out
      rw [← cellsB_append] at h
      refine ⟨⟨m / 128, pre ++ [m % 128 + 128], by go_num, by omega, ?_, ?_, hg2⟩, by simp [intOf]; omega⟩
      · show _ = _
        rw [List.append_assoc, List.singleton_append, ← leb_ge hlt, Hp.out]
      · show World.ownsRow _ _ _ _ _ _ _
        rw [List.length_append]; exact h

theorem refUint_at {x : Int} (n : Nat) (hx : x = n) (hn : n < 18446744073709551616) (w : World) :
    Calls Tryz.prog 13 #[.int .u64 x] w fun e w' => ∃ v, e = .returned v ∧ w'.ownsRow w.heap.size 5 1 v (leb n).length (cellsB (leb n)) ∧ Below w.heap.size w w' := by
  subst hx; exact refUint_any n hn w

set_option maxRecDepth 100000 in
set_option maxHeartbeats 400000 in
theorem refInt_any (z : Int) (h1 : -9223372036854775808 ≤ z) (h2 : z < 9223372036854775808) (w : World) :
    Calls Tryz.prog 32 #[.int .i64 z] w fun e w' => ∃ v, e = .returned v ∧ w'.ownsRow w.heap.size 5 1 v (leb (zig z)).length (cellsB (leb (zig z))) ∧ Below w.heap.size w w' := by
  have hlt := zig_lt h1 h2
  by_cases hz : z < 0
  · have hzz : Hid (zig z = 2 * (-(z + 1)).toNat + 1) := by show _ = _; unfold zig; rw [if_pos hz]
    go_enter Tryz.func32, Tryz.ntmps32
    go_wp2_with fail
    refine (refUint_at (zig z) (by rw [hzz.out]; omega) hlt _).mono ?_
    rintro e w2 ⟨v, rfl, ho, hb⟩
    have Ho := Lib.hid ho
    clear ho
    go_wp2
    go_ret
    exact ⟨_, rfl, Ho.out, hb⟩
  · have hzz : Hid (zig z = 2 * z.toNat) := by show _ = _; unfold zig; rw [if_neg hz]
    go_enter Tryz.func32, Tryz.ntmps32
    go_wp2_with fail
    refine (refUint_at (zig z) (by rw [hzz.out]; omega) hlt _).mono ?_
    rintro e w2 ⟨v, rfl, ho, hb⟩
    have Ho := Lib.hid ho
    clear ho
    go_wp2
    go_ret
    exact ⟨_, rfl, Ho.out, hb⟩

set_option maxRecDepth 100000 in
set_option maxHeartbeats 400000 in
theorem refLong_any (s : ByteArray) (hs : s.size ≤ 1048576) (w : World) :
    Calls Tryz.prog 31 #[.string s] w fun e w' => ∃ v, e = .returned v ∧ w'.ownsRow w.heap.size 5 1 v ((leb s.size).length + s.size) (cellsB (leb s.size ++ bytesN s)) ∧ Below w.heap.size w w' := by
  obtain ⟨i0, hi, hz0, hz1, hz2⟩ := info_parts Tryz.infoB
  have hL := leb_le10 (n := s.size) (by omega)
  have Hr := Lib.hid (refUint_any s.size (by omega) w)
  go_enter Tryz.func31, Tryz.ntmps31
  go_wp2_with fail
  refine Hr.out.mono ?_
  rintro e w2 ⟨v, rfl, ho, hb⟩
  have Ho := Lib.hid ho
  have hsz := hb.size
  clear ho
  go_wp2_with (at_builtin; refine wpList_append_str (base := w.heap.size) rfl _ _ rfl Tryz.underlying22 Tryz.underlying9 hi hz0 hz1 hz2 rfl Ho.out rfl (by unfold maxLen; omega) (by omega) hsz ?_; intro v2 w3 hr2 hg2 hb2; replace hg2 : Below w.heap.size w w3 := hb.grown hg2 hsz (fun q hq => (Ho.out.lt q hq).1); replace hr2 := Lib.hid hr2; clear hb2)
  go_ret
  have h := hr2.out
  rw [← cellsB_append] at h
  exact ⟨_, rfl, h, hg2⟩
end Go.Proofs.YtnagmopejblegaaGreat
