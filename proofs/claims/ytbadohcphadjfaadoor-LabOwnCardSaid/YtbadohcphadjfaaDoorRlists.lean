/- Layer 1: the document's own Among, Only, Has, Compare, Merge. -/
import Derived.Test.YtbadohcphadjfaaDoorRmake
import Derived.Test.YtbadohcphadjfaaDoorRef
namespace Go.Proofs.YtbadohcphadjfaaDoor
open Go.RowKit

/-- The slice at A reads as these texts; it lies below block B. -/
def RdS (w : World) (B : Nat) (A : Option Addr) (l : List ByteArray) : Prop :=
  0 < l.length → ∃ b o, A = some ⟨b, o, none⟩ ∧ b < B ∧ ∀ (i : Nat) (s : ByteArray), l[i]? = some s → w.cell? ⟨b, o + i, none⟩ = some (.string s)
theorem RdS.below {w w' : World} {B : Nat} {A : Option Addr} {l : List ByteArray} (h : RdS w B A l) (hb : Below B w w') : RdS w' B A l := fun h0 => by
  obtain ⟨b, o, e, hbb, hc⟩ := h h0
  exact ⟨b, o, e, hbb, fun i s hs => (hb.cell (p := ⟨b, o + i, none⟩) hbb).trans (hc i s hs)⟩
theorem RdS.more {w : World} {B B' : Nat} {A : Option Addr} {l : List ByteArray} (h : RdS w B A l) (hB : B ≤ B') : RdS w B' A l := fun h0 => by
  obtain ⟨b, o, e, hbb, hc⟩ := h h0
  exact ⟨b, o, e, by omega, hc⟩
theorem RdS.at_ {w : World} {B : Nat} {A : Option Addr} {l : List ByteArray} {k : Nat} (h : RdS w B A l) (hk : k < l.length) : ∃ b o s, A = some ⟨b, o, none⟩ ∧ b < B ∧ l[k]? = some s ∧ w.cell? ⟨b, o + k, none⟩ = some (.string s) := by
  obtain ⟨b, o, e, hbb, hc⟩ := h (by omega)
  exact ⟨b, o, _, e, hbb, List.getElem?_eq_getElem hk, hc k _ (List.getElem?_eq_getElem hk)⟩

def amongS (s : ByteArray) (l : List ByteArray) : Bool := l.any fun t => eqS t s
theorem amongS_at {s t : ByteArray} {l : List ByteArray} {k : Nat} (hk : l[k]? = some t) (h : eqS t s = true) : amongS s l = true :=
  List.any_eq_true.2 ⟨t, List.mem_iff_getElem?.2 ⟨k, hk⟩, h⟩
theorem amongS_no {s : ByteArray} {l : List ByteArray} (h : ∀ (j : Nat) (t : ByteArray), l[j]? = some t → eqS t s = false) : amongS s l = false :=
  List.any_eq_false.2 fun t ht => by
    obtain ⟨j, hj⟩ := List.mem_iff_getElem?.1 ht
    simp [h j t hj]

set_option maxRecDepth 100000 in
set_option maxHeartbeats 400000 in
theorem among_any (s : ByteArray) (A : Option Addr) (n c : Nat) (l : List ByteArray) (w : World) (B : Nat) (hn : n = l.length) (hm : n ≤ maxLen) (hr : RdS w B A l) :
    Calls Tryd.prog 57 #[.string s, .slice A n c] w fun e w' => e = .returned (.bool (amongS s l)) ∧ w = w' := by
  have Hn := Lib.hid hn
  clear hn
  unfold maxLen at hm
  go_enter Tryd.func57, Tryd.ntmps57
  go_wp2
  go_loop [5] (fun i => ∃ k : Nat, k ≤ n ∧ i = .int .i64 k ∧ Hid (∀ (j : Nat) (t : ByteArray), j < k → l[j]? = some t → eqS t s = false)) (fun i => n - (intOf i).toNat)
  case atStart => exact ⟨0, Nat.zero_le _, rfl, fun j q hj => by omega⟩
  case round =>
    obtain ⟨k, hk, rfl, Hno⟩ := hrel
    by_cases hlt : k < n
    · obtain ⟨b, o, t, rfl, hb, hp, hc1⟩ := hr.at_ (k := k) (by have := Hn.out; omega)
      have Hp := Lib.hid hp
      clear hp hr
      by_cases he : (t.toList == s.toList) = true
      · have Hres : Hid (amongS s l = true) := amongS_at Hp.out he
        go_wp2
        go_ret
        exact ⟨ret_bool Hres.out.symm, rfl⟩
      · have he : (t.toList == s.toList) = false := by simpa using he
        have He := Lib.hid he
        go_wp2
        go_round
        case rel =>
          refine ⟨k + 1, by omega, by go_num, fun j q hj hq => ?_⟩
          by_cases hjk : j = k
          · subst hjk
            have e := Hp.out.symm.trans hq
            simp at e; subst e
            exact He.out
          · exact Hno.out j q (by omega) hq
        case measure => simp [intOf]; omega
    · have Hres : Hid (amongS s l = false) := amongS_no fun j q hq => Hno.out j q (by have := (List.getElem?_eq_some_iff.1 hq).1; have := Hn.out; omega) hq
      clear hr
      go_wp2
      go_ret
      exact ⟨ret_bool Hres.out.symm, rfl⟩

/-- the pairs whose keys are among some, or aren't -/
def onlyP (l : List Pr) (ks : List ByteArray) (are : Bool) : List Pr := l.filter fun p => amongS p.1 ks == are

theorem only_succ {l : List Pr} {k : Nat} {p : Pr} (hp : l[k]? = some p) (ks : List ByteArray) (are : Bool) : onlyP (l.take (k + 1)) ks are = onlyP (l.take k) ks are ++ if amongS p.1 ks == are then [p] else [] := by
  obtain ⟨h1, rfl⟩ := List.getElem?_eq_some_iff.1 hp
  rw [List.take_succ_eq_append_getElem h1, onlyP, List.filter_append]
  congr 1
  rw [List.filter_cons]
  split <;> simp

set_option maxRecDepth 100000 in
set_option maxHeartbeats 1000000 in
theorem ronly_any (A : Option Addr) (n c : Nat) (l : List Pr) (A' : Option Addr) (m d : Nat) (ks : List ByteArray) (are : Bool) (w : World) (hn : n = l.length) (hm : m = ks.length) (hmx : n * 32 ≤ 140737488351232) (hmy : m ≤ maxLen) (hr : RdP w w.heap.size A l) (hs : RdS w w.heap.size A' ks) :
    Calls Tryd.prog 32 #[.slice A n c, .slice A' m d, .bool are] w fun e w' => ∃ v, e = .returned v ∧ w'.ownsRow w.heap.size 48 2 v (onlyP l ks are).length (cellsP (onlyP l ks are)) ∧ Below w.heap.size w w' := by
  obtain ⟨i0, hi, hz0, hz1, hz2⟩ := info_parts Tryd.infoP
  have hmix : Tryd.prog.follows .mixedOrders = true := by kernel_rfl
  have Hn := Lib.hid hn
  have Hm := Lib.hid hm
  clear hn hm
  go_enter Tryd.func32, Tryd.ntmps32
  have Hr := Lib.hid hr
  have Hs := Lib.hid hs
  clear hr hs
  go_wp2
  go_loopw [7, 8] (fun v i wr => ∃ k : Nat, k ≤ n ∧ i = .int .i64 k ∧ wr.ownsRow w.heap.size 48 2 v (onlyP (l.take k) ks are).length (cellsP (onlyP (l.take k) ks are)) ∧ Below w.heap.size w wr) (fun _ i _ => n - (intOf i).toNat)
  case atStart => exact ⟨0, Nat.zero_le _, rfl, by rw [List.take_zero]; exact World.ownsRow_nil _ _ _ _, Below.refl _ _⟩
  case round =>
    obtain ⟨k, hk, rfl, hown, hbw⟩ := hrel
    obtain ⟨A2, c2, rfl⟩ := own_slice hown
    have hge := hbw.size
    have hle : (onlyP (l.take k) ks are).length ≤ k := Nat.le_trans (List.length_filter_le _ _) (by rw [List.length_take]; omega)
    have Hown := Lib.hid hown
    clear hown
    by_cases hlt : k < n
    · obtain ⟨b, o, p, rfl, hb, hp, hc1, hc2⟩ := Hr.out.at_ (k := k) (by have := Hn.out; omega)
      have Hstep := Lib.hid (only_succ hp ks are)
      have Hs2 := Lib.hid (Hs.out.below hbw)
      have d1 := (hbw.cell (p := ⟨b, o + k * 2, none⟩) hb).trans hc1
      have d2 := (hbw.cell (p := ⟨b, o + k * 2 + 1, none⟩) hb).trans hc2
      clear hc1 hc2 hp
      cases hq : (amongS p.1 ks == are) with
      | true =>
        rw [hq] at Hstep
        have Hown1 := Lib.hid (Hown.out.alloc (.cells #[.string p.1, .string p.2] 48))
        generalize (onlyP (l.take k) ks are) = z at *
        go_wp2_with fail
        refine (among_any p.1 A' m d ks wr w.heap.size Hm.out hmy Hs2.out).mono ?_
        rintro e w' ⟨rfl, rfl⟩
        go_wp2_with (at_builtin; refine wpList_append_src (base := w.heap.size) rfl (.tmp 24) (.tmp 29) rfl Tryd.underlying24 hi hz0 hz1 hz2 rfl (by decide) rfl Hown1.out rfl (src_box (heap_alloc_new _ _)) (cellsP_one [p]) (by unfold maxLen; omega) (by omega) (by simp; omega) ?_; intro v3 w3 hr3 hg3 hb3)
        refine ⟨⟨k + 1, by omega, by go_num, ?_, (hbw.alloc hge _).grown hg3 (by simp; omega) (fun q hq => (Hown1.out.lt q hq).1)⟩, by simp [intOf]; omega⟩
        rw [Hstep.out, if_pos trivial, cellsP_append, List.length_append]
        exact hr3
      | false =>
        rw [hq] at Hstep
        generalize (onlyP (l.take k) ks are) = z at *
        go_wp2_with fail
        refine (among_any p.1 A' m d ks wr w.heap.size Hm.out hmy Hs2.out).mono ?_
        rintro e w' ⟨rfl, rfl⟩
        go_wp2
        refine ⟨⟨k + 1, by omega, by go_num, ?_, hbw⟩, by simp [intOf]; omega⟩
        rw [Hstep.out, if_neg (by simp), List.append_nil]
        exact Hown.out
    · have hkn : k = n := by omega
      subst hkn
      have hall : l.take k = l := List.take_of_length_le (by have := Hn.out; omega)
      rw [hall] at Hown ⊢
      clear hall hle
      go_wp2
      go_ret
      exact ⟨_, rfl, Hown.out, hbw⟩
end Go.Proofs.YtbadohcphadjfaaDoor
