/- The walk of watchfirelaw01.LabMakes. -/
import Derived.Test.YthhlalnkihmfhaaDoorRmake
import Derived.Test.YthhlalnkihmfhaaDoorText
import Derived.Test.YthhlalnkihmfhaaDoorRef
import Derived.Test.YthhlalnkihmfhaaDoorAwake
namespace Go.Proofs.YthhlalnkihmfhaaDoor.labMakes
open Go.RowKit Go.Proofs.YthhlalnkihmfhaaDoor

theorem makeP_length (l : List Pr) : (makeP l).1.length ≤ l.length := by
  unfold makeP
  split
  · exact Nat.le_of_eq (sortP_length l)
  · exact Nat.zero_le _

set_option maxRecDepth 100000 in
set_option maxHeartbeats 1000000 in
theorem walk (A : Option Addr) (n c : Nat) (l : List Pr) (key : ByteArray) (w : World) (hn : n = l.length) (hA : OkA A n) (hmx : n ≤ maxLen) (hr : RdP w w.heap.size A l) (hok : OkP l) (hlen : (textL l).length ≤ 140737488355328) :
    Calls Tryd.prog 4 #[.slice A n c, .string key] w fun e w' => e = .returned (.bool true) ∧ Below w.heap.size w w' := by
  have Ha := Lib.hid awake_any
  have Hn := Lib.hid hn
  have Hok := Lib.hid hok
  have Hlen := Lib.hid hlen
  have Hr := Lib.hid hr
  clear hn hok hlen hr
  by_cases h30 : 30 < n
  · unfold maxLen at hmx
    go_enter Tryd.func4, Tryd.ntmps4
    go_wp2_with fail
    refine (Ha.out _).mono ?_
    rintro e w1 ⟨rfl, hb1⟩
    go_wp2
    go_ret
    exact ⟨rfl, hb1⟩
  · go_enter Tryd.func4, Tryd.ntmps4
    go_wp2_with fail
    refine (Ha.out _).mono ?_
    rintro e w1 ⟨rfl, hb1⟩
    go_wp2_with fail
    have Hr1 := Lib.hid ((Hr.out.below hb1).more hb1.size)
    refine (make_any A n c l w1 Hn.out hA (by omega) Hr1.out).mono ?_
    rintro e w2 ⟨v2, rfl, hown2, hb2⟩
    have Hown2 := Lib.hid hown2
    clear hown2
    obtain ⟨A2, c2, rfl⟩ := own_slice Hown2.out
    have Hr2 := Lib.hid ((Hr1.out.below hb2).more hb2.size)
    have hb2 := hb1.trans (hb2.mono hb1.size)
    go_wp2_with fail
    refine (rmake_any A n c l w2 Hn.out (by omega) Hr2.out Hok.out).mono ?_
    rintro e w3 ⟨v3, rfl, hown3, hb3⟩
    have Hown3 := Lib.hid hown3
    clear hown3
    obtain ⟨A3, c3, rfl⟩ := own_slice Hown3.out
    have Hr3 := Lib.hid ((Hr2.out.below hb3).more hb3.size)
    have Hown2 := Lib.hid (own_below Hown2.out hb3)
    have hb3 := hb2.trans (hb3.mono hb2.size)
    have em : (((makeP l).2 : Int) == ((makeP l).2 : Int)) = true := beq_self_eq_true _
    have ec : ((check l : Int) == (check l : Int)) = true := beq_self_eq_true _
    have ei : ((getP l key).isSome == (getP l key).isSome) = true := beq_self_eq_true _
    go_wp2_with fail
    refine (get_any A n c l key w3 Hn.out (by unfold maxLen; omega) Hr3.out).mono ?_
    rintro e w4 ⟨rfl, hb4⟩
    have Hr4 := Lib.hid ((Hr3.out.below hb4).more hb4.size)
    have Hown2 := Lib.hid (own_below Hown2.out (hb4.mono (by omega)))
    have Hown3 := Lib.hid (own_below Hown3.out hb4)
    have hb4 := hb3.trans (hb4.mono hb3.size)
    go_wp2_with fail
    refine (rget_any A n c l key w4 w4.heap.size Hn.out (by unfold maxLen; omega) Hr4.out).mono ?_
    rintro e w5 ⟨rfl, rfl⟩
    go_wp2_with fail
    refine (rsame_any A2 _ c2 _ A3 _ c3 _ w4 w4.heap.size rfl rfl (by have := makeP_length l; have := Hn.out; unfold maxLen; omega) (RdP.of_own Hown2.out) (RdP.of_own Hown3.out)).mono ?_
    rintro e w5 ⟨rfl, hq⟩
    have hb5 : Below w4.heap.size w4 w5 := by obtain ⟨q, rfl⟩ := hq; exact below_drewN (Below.refl _ _) q
    clear hq Hown2 Hown3
    have Hr5 := Lib.hid ((Hr4.out.below hb5).more hb5.size)
    have hb5 := hb4.trans (hb5.mono hb4.size)
    go_wp2_with fail
    refine (check_any A n c l w5 Hn.out (by unfold maxLen; omega) Hr5.out).mono ?_
    rintro e w6 ⟨rfl, hb6⟩
    have Hr6 := Lib.hid ((Hr5.out.below hb6).more hb6.size)
    have hb6 := hb5.trans (hb6.mono hb5.size)
    go_wp2_with fail
    refine (rcheck_any A n c l w6 Hn.out (by unfold maxLen; omega) Hr6.out Hok.out).mono ?_
    rintro e w7 ⟨rfl, hb7⟩
    have Hr7 := Lib.hid ((Hr6.out.below hb7).more hb7.size)
    have hb7 := hb6.trans (hb7.mono hb6.size)
    go_wp2_with fail
    refine (text_any A n c l w7 Hn.out (by unfold maxLen; omega) Hr7.out Hlen.out).mono ?_
    rintro e w8 ⟨rfl, hb8⟩
    have Hr8 := Lib.hid ((Hr7.out.below hb8).more hb8.size)
    have hb8 := hb7.trans (hb8.mono hb7.size)
    go_wp2_with fail
    refine (rtext_any A n c l w8 Hn.out (by unfold maxLen; omega) Hr8.out Hlen.out).mono ?_
    rintro e w9 ⟨rfl, hb9⟩
    have hb9 := hb8.trans (hb9.mono hb8.size)
    go_wp2
    go_ret
    exact ⟨rfl, hb9⟩
end Go.Proofs.YthhlalnkihmfhaaDoor.labMakes
