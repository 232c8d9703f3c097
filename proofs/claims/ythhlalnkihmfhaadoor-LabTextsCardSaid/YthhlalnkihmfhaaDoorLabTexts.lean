/- The walk of watchfirelaw01.LabTexts. -/
import Derived.Test.YthhlalnkihmfhaaDoorRound
import Derived.Test.YthhlalnkihmfhaaDoorRef
import Derived.Test.YthhlalnkihmfhaaDoorAwake
namespace Go.Proofs.YthhlalnkihmfhaaDoor.labTexts
open Go.RowKit Go.Proofs.YthhlalnkihmfhaaDoor

theorem makeP_le (l : List Pr) : (makeP l).1.length ≤ 8 := by
  unfold makeP
  split
  · rename_i h
    unfold check at h
    split at h
    · cases h
    · show (sortP l).length ≤ 8
      omega
  · exact Nat.zero_le _
theorem partsP_le : ∀ (xs : List ByteArray) (acc : List Pr), (partsP xs acc).1.length ≤ 8
  | [], acc => makeP_le acc
  | x :: r, acc => by
    unfold partsP
    split
    · exact Nat.zero_le _
    · split
      · exact Nat.zero_le _
      · exact partsP_le r _
theorem parseP_length (s : ByteArray) : (parseP s).1.length ≤ 8 := by
  unfold parseP
  split
  · exact Nat.zero_le _
  · split
    · exact Nat.zero_le _
    · exact partsP_le _ _

set_option maxRecDepth 100000 in
set_option maxHeartbeats 1000000 in
theorem walk (s : ByteArray) (A : Option Addr) (n c : Nat) (l : List Pr) (w : World) (hn : n = l.length) (hA : OkA A n) (hr : RdP w w.heap.size A l) :
    Calls Tryd.prog 5 #[.string s, .slice A n c] w fun e w' => e = .returned (.bool true) ∧ Below w.heap.size w w' := by
  have Ha := Lib.hid awake_any
  have Hn := Lib.hid hn
  have Hr := Lib.hid hr
  clear hn hr
  by_cases h300 : 300 < s.size
  · have hb1 : decide ((300 : Int) < (s.size : Int)) = true := decide_eq_true (by omega)
    go_enter Tryd.func5, Tryd.ntmps5
    go_wp2_with fail
    refine (Ha.out _).mono ?_
    rintro e w1 ⟨rfl, hb1⟩
    go_wp2
    go_ret
    exact ⟨rfl, hb1⟩
  · have hb1 : decide ((300 : Int) < (s.size : Int)) = false := decide_eq_false (by omega)
    by_cases h12 : 12 < n
    · have hb2 : decide ((12 : Int) < (n : Int)) = true := decide_eq_true (by omega)
      go_enter Tryd.func5, Tryd.ntmps5
      go_wp2_with fail
      refine (Ha.out _).mono ?_
      rintro e w1 ⟨rfl, hb1⟩
      go_wp2
      go_ret
      exact ⟨rfl, hb1⟩
    · have hb2 : decide ((12 : Int) < (n : Int)) = false := decide_eq_false (by omega)
      go_enter Tryd.func5, Tryd.ntmps5
      go_wp2_with fail
      refine (Ha.out _).mono ?_
      rintro e w1 ⟨rfl, hb1⟩
      go_wp2_with fail
      refine (parse_any s w1).mono ?_
      rintro e w2 ⟨v2, rfl, hown2, hb2⟩
      have Hown2 := Lib.hid hown2
      clear hown2
      obtain ⟨A2, c2, rfl⟩ := own_slice Hown2.out
      have hb2 := hb1.trans (hb2.mono hb1.size)
      go_wp2_with fail
      refine (rparse_any s w2).mono ?_
      rintro e w3 ⟨v3, rfl, hown3, hb3⟩
      have Hown3 := Lib.hid hown3
      clear hown3
      obtain ⟨A3, c3, rfl⟩ := own_slice Hown3.out
      have Hown2 := Lib.hid (own_below Hown2.out hb3)
      have hb3 := hb2.trans (hb3.mono hb2.size)
      have em : (((parseP s).2 : Int) != ((parseP s).2 : Int)) = false := by simp
      go_wp2_with fail
      refine (rsame_any A2 _ c2 _ A3 _ c3 _ w3 w3.heap.size rfl rfl (by have := parseP_length s; unfold maxLen; omega) (RdP.of_own Hown2.out) (RdP.of_own Hown3.out)).mono ?_
      rintro e w4 ⟨rfl, hq⟩
      have hb4 : Below w3.heap.size w3 w4 := by obtain ⟨q, rfl⟩ := hq; exact below_drewN (Below.refl _ _) q
      have hb4 := hb3.trans (hb4.mono hb3.size)
      clear hq Hown2 Hown3
      go_wp2_with fail
      have Hr4 := Lib.hid ((Hr.out.below hb4).more hb4.size)
      refine (make_any A n c l w4 Hn.out hA (by omega) Hr4.out).mono ?_
      rintro e w5 ⟨v5, rfl, hown5, hb5⟩
      have Hown5 := Lib.hid hown5
      clear hown5
      obtain ⟨A5, c5, rfl⟩ := own_slice Hown5.out
      have hb5 := hb4.trans (hb5.mono hb4.size)
      by_cases hz : (makeP l).2 = 0
      · have hbz : (((makeP l).2 : Int) != 0) = false := by rw [hz]; rfl
        have hmk : makeP l = ((makeP l).1, 0) := Prod.ext rfl hz
        have Htxt := Lib.hid (made_text hmk)
        have Hprs := Lib.hid (parse_text hmk)
        have hlen := (made_good hmk).2.2.1
        clear hmk
        generalize (makeP l).1 = z at *
        go_wp2_with fail
        refine (text_any A5 _ c5 z w5 rfl (by unfold maxLen; omega) (RdP.of_own Hown5.out) (by have := Htxt.out; omega)).mono ?_
        rintro e w6 ⟨rfl, hb6⟩
        have Hown6 := Lib.hid (own_below Hown5.out hb6)
        have hb6 := hb5.trans (hb6.mono hb5.size)
        go_wp2_with fail
        refine (parse_any (strOf (textL z)) w6).mono ?_
        rw [Hprs.out]
        rintro e w7 ⟨v7, rfl, hown7, hb7⟩
        have Hown7 := Lib.hid hown7
        clear hown7
        obtain ⟨A7, c7, rfl⟩ := own_slice Hown7.out
        have Hown6 := Lib.hid (own_below Hown6.out hb7)
        have hb7 := hb6.trans (hb7.mono hb6.size)
        go_wp2_with fail
        refine (same_any A7 _ c7 z A5 _ c5 z w7 w7.heap.size rfl rfl (by unfold maxLen; omega) (RdP.of_own Hown7.out) (RdP.of_own Hown6.out)).mono ?_
        rintro e w8 ⟨rfl, hq⟩
        have hb8 : Below w7.heap.size w7 w8 := by obtain ⟨q, rfl⟩ := hq; exact below_drewN (Below.refl _ _) q
        have hb8 := hb7.trans (hb8.mono hb7.size)
        clear hq
        go_wp2
        go_ret
        exact ⟨rfl, hb8⟩
      · have hbz : (((makeP l).2 : Int) != 0) = true := by rw [bne_iff_ne]; omega
        go_wp2
        go_ret
        exact ⟨rfl, hb5⟩
end Go.Proofs.YthhlalnkihmfhaaDoor.labTexts
