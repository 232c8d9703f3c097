/- The walk of watchfirelaw01.LabLists. -/
import Derived.Test.YtbadohcphadjfaaDoorMerge
import Derived.Test.YtbadohcphadjfaaDoorCompare
import Derived.Test.YtbadohcphadjfaaDoorHas
import Derived.Test.YtbadohcphadjfaaDoorAwake
import Derived.Test.YtbadohcphadjfaaDoorRef
namespace Go.Proofs.YtbadohcphadjfaaDoor.labLists
open Go.RowKit Go.Proofs.YtbadohcphadjfaaDoor

theorem makeP_length (l : List Pr) : (makeP l).1.length ≤ l.length := by
  unfold makeP
  split
  · exact Nat.le_of_eq (sortP_length l)
  · exact Nat.zero_le _
theorem mergeP_length (a b : List Pr) : (mergeP a b).1.length ≤ a.length + b.length := by
  have h := makeP_length (b ++ keepP a b)
  have h2 : (keepP a b).length ≤ a.length := List.length_filter_le _ _
  rw [List.length_append] at h
  unfold mergeP
  omega
theorem onlyP_length (l : List Pr) (ks : List ByteArray) (are : Bool) : (onlyP l ks are).length ≤ l.length := List.length_filter_le _ _

set_option maxRecDepth 100000 in
set_option maxHeartbeats 1000000 in
theorem walk (A : Option Addr) (n c : Nat) (a : List Pr) (A' : Option Addr) (m d : Nat) (b : List Pr) (A'' : Option Addr) (k f : Nat) (ks : List ByteArray) (w : World) (hn : n = a.length) (hm : m = b.length) (hk : k = ks.length) (hnx : n ≤ maxLen) (hmx : m ≤ maxLen) (hkx : k ≤ maxLen)
    (hr : RdP w w.heap.size A a) (hs : RdP w w.heap.size A' b) (ht : RdS w w.heap.size A'' ks) (hoka : OkP a) (hokb : OkP b) :
    Calls Tryd.prog 6 #[.slice A n c, .slice A' m d, .slice A'' k f] w fun e w' => e = .returned (.bool true) ∧ Below w.heap.size w w' := by
  have Ha := Lib.hid awake_any
  have Hn := Lib.hid hn
  have Hm := Lib.hid hm
  have Hk := Lib.hid hk
  have Hr := Lib.hid hr
  have Hs := Lib.hid hs
  have Ht := Lib.hid ht
  have Hoka := Lib.hid hoka
  have Hokb := Lib.hid hokb
  clear hn hm hk hr hs ht hoka hokb
  unfold maxLen at hnx hmx hkx
  by_cases h12 : n ≤ 12 ∧ m ≤ 12 ∧ k ≤ 12
  · obtain ⟨h1, h2, h3⟩ := h12
    have e1 : decide ((12 : Int) < (n : Int)) = false := decide_eq_false (by omega)
    have e2 : decide ((12 : Int) < (m : Int)) = false := decide_eq_false (by omega)
    have e3 : decide ((12 : Int) < (k : Int)) = false := decide_eq_false (by omega)
    go_enter Tryd.func6, Tryd.ntmps6
    go_wp2_with fail
    refine (Ha.out _).mono ?_
    rintro e w1 ⟨rfl, hb1⟩
    go_wp2_with fail
    refine (labCompare_any A n c a A' m d b w1 Hn.out Hm.out (by omega) ((Hr.out.below hb1).more hb1.size) ((Hs.out.below hb1).more hb1.size)).mono ?_
    rintro e w2 ⟨rfl, hb2⟩
    have hb2 := hb1.trans (hb2.mono hb1.size)
    go_wp2_with fail
    refine (merge_any A n c a A' m d b w2 Hn.out Hm.out (by omega) ((Hr.out.below hb2).more hb2.size) ((Hs.out.below hb2).more hb2.size)).mono ?_
    rintro e w3 ⟨v3, rfl, hown3, hb3⟩
    have Hown3 := Lib.hid hown3
    clear hown3
    obtain ⟨A3, c3, rfl⟩ := own_slice Hown3.out
    have hb3 := hb2.trans (hb3.mono hb2.size)
    go_wp2_with fail
    refine (rmerge_any A n c a A' m d b w3 Hn.out Hm.out (by omega) ((Hr.out.below hb3).more hb3.size) ((Hs.out.below hb3).more hb3.size) Hoka.out Hokb.out).mono ?_
    rintro e w4 ⟨v4, rfl, hown4, hb4⟩
    have Hown4 := Lib.hid hown4
    clear hown4
    obtain ⟨A4, c4, rfl⟩ := own_slice Hown4.out
    have Hown3 := Lib.hid (own_below Hown3.out hb4)
    have hb4 := hb3.trans (hb4.mono hb3.size)
    go_wp2_with fail
    refine (rcompare_any A n c a A' m d b w4 Hn.out Hm.out (by omega) ((Hr.out.below hb4).more hb4.size) ((Hs.out.below hb4).more hb4.size)).mono ?_
    rintro e w5 ⟨rfl, hb5⟩
    have Hown3 := Lib.hid (own_below Hown3.out (hb5.mono (by omega)))
    have Hown4 := Lib.hid (own_below Hown4.out hb5)
    have hb5 := hb4.trans (hb5.mono hb4.size)
    generalize cmpL a b = z at *
    have ec : (((mergeP a b).2 : Int) == ((mergeP a b).2 : Int)) = true := beq_self_eq_true _
    have ez1 : (decide (z < 0) == decide (z < 0)) = true := beq_self_eq_true _
    have ez2 : (decide (0 < z) == decide (0 < z)) = true := beq_self_eq_true _
    have es : (decide (a = b) == decide (a = b)) = true := beq_self_eq_true _
    have eh : (hasP a b == hasP a b) = true := beq_self_eq_true _
    go_wp2_with fail
    refine (same_any A n c a A' m d b w5 w5.heap.size Hn.out Hm.out (by unfold maxLen; omega) ((Hr.out.below hb5).more hb5.size) ((Hs.out.below hb5).more hb5.size)).mono ?_
    rintro e w6 ⟨rfl, hq⟩
    have hb6 : Below w5.heap.size w5 w6 := by obtain ⟨q, rfl⟩ := hq; exact below_drewN (Below.refl _ _) q
    clear hq
    have Hown3 := Lib.hid (own_below Hown3.out hb6)
    have Hown4 := Lib.hid (own_below Hown4.out hb6)
    have hb6 := hb5.trans (hb6.mono hb5.size)
    go_wp2_with fail
    refine (rsame_any A n c a A' m d b w6 w6.heap.size Hn.out Hm.out (by unfold maxLen; omega) ((Hr.out.below hb6).more hb6.size) ((Hs.out.below hb6).more hb6.size)).mono ?_
    rintro e w7 ⟨rfl, hq⟩
    have hb7 : Below w6.heap.size w6 w7 := by obtain ⟨q, rfl⟩ := hq; exact below_drewN (Below.refl _ _) q
    clear hq
    have Hown3 := Lib.hid (own_below Hown3.out hb7)
    have Hown4 := Lib.hid (own_below Hown4.out hb7)
    have hb7 := hb6.trans (hb7.mono hb6.size)
    have es : (decide (a = b) == decide (a = b)) = true := beq_self_eq_true _
    go_wp2_with fail
    refine (rsame_any A3 _ c3 _ A4 _ c4 _ w7 w7.heap.size rfl rfl (by have := mergeP_length a b; have := Hn.out; have := Hm.out; unfold maxLen; omega) (RdP.of_own Hown3.out) (RdP.of_own Hown4.out)).mono ?_
    rintro e w8 ⟨rfl, hq⟩
    have hb8 : Below w7.heap.size w7 w8 := by obtain ⟨q, rfl⟩ := hq; exact below_drewN (Below.refl _ _) q
    clear hq Hown3 Hown4
    have hb8 := hb7.trans (hb8.mono hb7.size)
    go_wp2_with fail
    refine (only_any A n c a A'' k f ks w8 Hn.out Hk.out (by omega) (by unfold maxLen; omega) ((Hr.out.below hb8).more hb8.size) ((Ht.out.below hb8).more hb8.size)).mono ?_
    rintro e w9 ⟨v9, rfl, hown9, hb9⟩
    have Hown9 := Lib.hid hown9
    clear hown9
    obtain ⟨A9, c9, rfl⟩ := own_slice Hown9.out
    have hb9 := hb8.trans (hb9.mono hb8.size)
    go_wp2_with fail
    refine (ronly_any A n c a A'' k f ks true w9 Hn.out Hk.out (by omega) (by unfold maxLen; omega) ((Hr.out.below hb9).more hb9.size) ((Ht.out.below hb9).more hb9.size)).mono ?_
    rintro e w10 ⟨v10, rfl, hown10, hb10⟩
    have Hown10 := Lib.hid hown10
    clear hown10
    obtain ⟨A10, c10, rfl⟩ := own_slice Hown10.out
    have Hown9 := Lib.hid (own_below Hown9.out hb10)
    have hb10 := hb9.trans (hb10.mono hb9.size)
    go_wp2_with fail
    refine (rsame_any A9 _ c9 _ A10 _ c10 _ w10 w10.heap.size rfl rfl (by have := onlyP_length a ks true; have := Hn.out; unfold maxLen; omega) (RdP.of_own Hown9.out) (RdP.of_own Hown10.out)).mono ?_
    rintro e w11 ⟨rfl, hq⟩
    have hb11 : Below w10.heap.size w10 w11 := by obtain ⟨q, rfl⟩ := hq; exact below_drewN (Below.refl _ _) q
    clear hq Hown9 Hown10
    have hb11 := hb10.trans (hb11.mono hb10.size)
    go_wp2_with fail
    refine (without_any A n c a A'' k f ks w11 Hn.out Hk.out (by omega) (by unfold maxLen; omega) ((Hr.out.below hb11).more hb11.size) ((Ht.out.below hb11).more hb11.size)).mono ?_
    rintro e w12 ⟨v12, rfl, hown12, hb12⟩
    have Hown12 := Lib.hid hown12
    clear hown12
    obtain ⟨A12, c12, rfl⟩ := own_slice Hown12.out
    have hb12 := hb11.trans (hb12.mono hb11.size)
    go_wp2_with fail
    refine (ronly_any A n c a A'' k f ks false w12 Hn.out Hk.out (by omega) (by unfold maxLen; omega) ((Hr.out.below hb12).more hb12.size) ((Ht.out.below hb12).more hb12.size)).mono ?_
    rintro e w13 ⟨v13, rfl, hown13, hb13⟩
    have Hown13 := Lib.hid hown13
    clear hown13
    obtain ⟨A13, c13, rfl⟩ := own_slice Hown13.out
    have Hown12 := Lib.hid (own_below Hown12.out hb13)
    have hb13 := hb12.trans (hb13.mono hb12.size)
    go_wp2_with fail
    refine (rsame_any A12 _ c12 _ A13 _ c13 _ w13 w13.heap.size rfl rfl (by have := onlyP_length a ks false; have := Hn.out; unfold maxLen; omega) (RdP.of_own Hown12.out) (RdP.of_own Hown13.out)).mono ?_
    rintro e w14 ⟨rfl, hq⟩
    have hb14 : Below w13.heap.size w13 w14 := by obtain ⟨q, rfl⟩ := hq; exact below_drewN (Below.refl _ _) q
    clear hq Hown12 Hown13
    have hb14 := hb13.trans (hb14.mono hb13.size)
    go_wp2_with fail
    refine (has_any A n c a A' m d b w14 Hn.out Hm.out (by unfold maxLen; omega) (by unfold maxLen; omega) ((Hr.out.below hb14).more hb14.size) ((Hs.out.below hb14).more hb14.size)).mono ?_
    rintro e w15 ⟨rfl, hb15⟩
    have hb15 := hb14.trans (hb15.mono hb14.size)
    go_wp2_with fail
    refine (rhas_any A n c a A' m d b w15 w15.heap.size Hn.out Hm.out (by unfold maxLen; omega) (by unfold maxLen; omega) ((Hr.out.below hb15).more hb15.size) ((Hs.out.below hb15).more hb15.size)).mono ?_
    rintro e w16 ⟨rfl, rfl⟩
    go_wp2
    go_ret
    exact ⟨rfl, hb15⟩
  · by_cases h1 : 12 < n
    · have e1 : decide ((12 : Int) < (n : Int)) = true := decide_eq_true (by omega)
      go_enter Tryd.func6, Tryd.ntmps6
      go_wp2_with fail
      refine (Ha.out _).mono ?_
      rintro e w1 ⟨rfl, hb1⟩
      go_wp2
      go_ret
      exact ⟨rfl, hb1⟩
    · have e1 : decide ((12 : Int) < (n : Int)) = false := decide_eq_false (by omega)
      by_cases h2 : 12 < m
      · have e2 : decide ((12 : Int) < (m : Int)) = true := decide_eq_true (by omega)
        go_enter Tryd.func6, Tryd.ntmps6
        go_wp2_with fail
        refine (Ha.out _).mono ?_
        rintro e w1 ⟨rfl, hb1⟩
        go_wp2
        go_ret
        exact ⟨rfl, hb1⟩
      · have e2 : decide ((12 : Int) < (m : Int)) = false := decide_eq_false (by omega)
        have e3 : decide ((12 : Int) < (k : Int)) = true := decide_eq_true (by omega)
        clear h12
        go_enter Tryd.func6, Tryd.ntmps6
        go_wp2_with fail
        refine (Ha.out _).mono ?_
        rintro e w1 ⟨rfl, hb1⟩
        go_wp2
        go_ret
        exact ⟨rfl, hb1⟩
end Go.Proofs.YtbadohcphadjfaaDoor.labLists
