/- Layer 1: lab.pick by whatever closure; lab.Only, lab.Without. -/
import Derived.Test.YtbadohcphadjfaaDoorContains
import Derived.Test.YtbadohcphadjfaaDoorRmerge
import Derived.Test.YtbadohcphadjfaaDoorMake
namespace Go.Proofs.YtbadohcphadjfaaDoor
open Go.RowKit

def pickL (f : Pr → Bool) (l : List Pr) : List Pr := l.filter f
theorem pickL_succ {l : List Pr} {k : Nat} {p : Pr} (hp : l[k]? = some p) (f : Pr → Bool) : pickL f (l.take (k + 1)) = pickL f (l.take k) ++ if f p = true then [p] else [] := by
  obtain ⟨h1, rfl⟩ := List.getElem?_eq_some_iff.1 hp
  rw [List.take_succ_eq_append_getElem h1, pickL, List.filter_append]
  congr 1
  rw [List.filter_cons]
  split <;> simp

set_option maxRecDepth 100000 in
set_option maxHeartbeats 1000000 in
theorem pick_any (g : FuncId) (q : Addr) (f : Pr → Bool) (A : Option Addr) (n c : Nat) (l : List Pr) (w : World) (hn : n = l.length) (hm : n * 32 ≤ 140737488351232) (hr : RdP w w.heap.size A l)
    (eg : ∀ (a b : Value) (w : World), (callFunc g #[a, b]).run Tryd.prog w = .ok (.enter g #[a, b]) w)
    (hg : ∀ (p : Pr) (w' : World), Below w.heap.size w w' → Calls Tryd.prog g #[.agg #[.string p.1, .string p.2], .pointer (some q)] w' fun e w2 => e = .returned (.bool (f p)) ∧ Below w'.heap.size w' w2) :
    Calls Tryd.prog 52 #[.slice A n c, .func (.func g) #[] #[.pointer (some q)]] w fun e w' => ∃ v, e = .returned v ∧ w'.ownsRow w.heap.size 48 2 v (pickL f l).length (cellsP (pickL f l)) ∧ Below w.heap.size w w' := by
  obtain ⟨i0, hi, hz0, hz1, hz2⟩ := info_parts Tryd.infoP
  have Hn := Lib.hid hn
  have Hr := Lib.hid hr
  have Hg := Lib.hid hg
  clear hn hr hg
  go_enter Tryd.func52, Tryd.ntmps52
  go_wp2
  go_loopw [5, 10] (fun v i wr => ∃ k : Nat, k ≤ n ∧ i = .int .i64 k ∧ wr.ownsRow w.heap.size 48 2 v (pickL f (l.take k)).length (cellsP (pickL f (l.take k))) ∧ Below w.heap.size w wr) (fun _ i _ => n - (intOf i).toNat)
  case atStart => exact ⟨0, Nat.zero_le _, rfl, by rw [List.take_zero]; exact World.ownsRow_nil _ _ _ _, Below.refl _ _⟩
  case round =>
    obtain ⟨k, hk, rfl, hown, hbw⟩ := hrel
    obtain ⟨A2, c2, rfl⟩ := own_slice hown
    have hge := hbw.size
    have hle : (pickL f (l.take k)).length ≤ k := Nat.le_trans (List.length_filter_le _ _) (by rw [List.length_take]; omega)
    have Hown := Lib.hid hown
    clear hown
    by_cases hlt : k < n
    · obtain ⟨b, o, p, rfl, hb, hp, hc1, hc2⟩ := Hr.out.at_ (k := k) (by have := Hn.out; omega)
      have Hstep := Lib.hid (pickL_succ hp f)
      have Hgp := Lib.hid (Hg.out p (wr.alloc (.cells #[.string p.1, .string p.2] 48)) (hbw.alloc hge _))
      have d1 := (hbw.cell (p := ⟨b, o + k * 2, none⟩) hb).trans hc1
      have d2 := (hbw.cell (p := ⟨b, o + k * 2 + 1, none⟩) hb).trans hc2
      clear hc1 hc2 hp
      cases hq : f p with
      | true =>
        rw [hq] at Hstep Hgp
        generalize (pickL f (l.take k)) = z at *
        go_wp2_with fail
        refine Hgp.out.mono ?_
        rintro e w2 ⟨rfl, hb2⟩
        obtain ⟨q1, q2, hbw2, hlt2⟩ := boxed hbw hge hb2
        have hge2 := hbw2.size
        have Hown1 := Lib.hid ((own_below (Hown.out.alloc _) hb2).alloc (.cells #[.string p.1, .string p.2] 48))
        go_wp2_with (at_builtin; refine wpList_append_src (base := w.heap.size) rfl (.tmp 17) (.tmp 19) rfl Tryd.underlying24 hi hz0 hz1 hz2 rfl (by decide) rfl Hown1.out rfl (src_box (heap_alloc_new _ _)) (cellsP_one [p]) (by unfold maxLen; omega) (by omega) (by simp; omega) ?_; intro v3 w3 hr3 hg3 hb3)
        refine ⟨⟨k + 1, by omega, by go_num, ?_, (hbw2.alloc hge2 _).grown hg3 (by simp; omega) (fun q hq => (Hown1.out.lt q hq).1)⟩, by simp [intOf]; omega⟩
        rw [Hstep.out, if_pos trivial, cellsP_append, List.length_append]
        exact hr3
      | false =>
        rw [hq] at Hstep Hgp
        generalize (pickL f (l.take k)) = z at *
        go_wp2_with fail
        refine Hgp.out.mono ?_
        rintro e w2 ⟨rfl, hb2⟩
        obtain ⟨q1, q2, hbw2, hlt2⟩ := boxed hbw hge hb2
        go_wp2
        refine ⟨⟨k + 1, by omega, by go_num, ?_, hbw2⟩, by simp [intOf]; omega⟩
        rw [Hstep.out, if_neg (by simp), List.append_nil]
        exact own_below (Hown.out.alloc _) hb2
    · have hkn : k = n := by omega
      subst hkn
      have hall : l.take k = l := List.take_of_length_le (by have := Hn.out; omega)
      rw [hall] at Hown ⊢
      clear hall hle
      go_wp2
      go_ret
      exact ⟨_, rfl, Hown.out, hbw⟩

theorem eOnly1 (a b : Value) (w : World) : (callFunc 55 #[a, b]).run Tryd.prog w = .ok (.enter 55 #[a, b]) w := by
  kernel_rfl
theorem eWithout1 (a b : Value) (w : World) : (callFunc 58 #[a, b]).run Tryd.prog w = .ok (.enter 58 #[a, b]) w := by
  kernel_rfl

set_option maxHeartbeats 400000 in
theorem only1_any (p : Pr) (g : Nat) (A : Option Addr) (n c : Nat) (ks : List ByteArray) (w : World) (hg : g < w.heap.size) (hc : w.cell? ⟨g, 0, none⟩ = some (.slice A n c)) (hn : n = ks.length) (hm : n ≤ maxLen) (hr : RdS w w.heap.size A ks) :
    Calls Tryd.prog 55 #[.agg #[.string p.1, .string p.2], .pointer (some ⟨g, 0, none⟩)] w fun e w' => e = .returned (.bool (amongS p.1 ks)) ∧ Below w.heap.size w w' := by
  have hba : Below w.heap.size w (w.alloc (.cells #[.string p.1, .string p.2] 48)) := (Below.refl _ _).alloc (Nat.le_refl _) _
  have hc1 := (hba.cell (p := ⟨g, 0, none⟩) hg).trans hc
  have Hi := Lib.hid (contains_any p.1 A n c ks _ hn hm ((hr.below hba).more (by simp)))
  clear hn hm hr
  go_enter Tryd.func55, Tryd.ntmps55
  go_wp2_with fail
  refine Hi.out.mono ?_
  rintro e w' ⟨rfl, hb⟩
  go_wp2
  go_ret
  exact ⟨rfl, hba.trans (hb.mono (by simp))⟩

set_option maxHeartbeats 400000 in
theorem without1_any (p : Pr) (g : Nat) (A : Option Addr) (n c : Nat) (ks : List ByteArray) (w : World) (hg : g < w.heap.size) (hc : w.cell? ⟨g, 0, none⟩ = some (.slice A n c)) (hn : n = ks.length) (hm : n ≤ maxLen) (hr : RdS w w.heap.size A ks) :
    Calls Tryd.prog 58 #[.agg #[.string p.1, .string p.2], .pointer (some ⟨g, 0, none⟩)] w fun e w' => e = .returned (.bool (!amongS p.1 ks)) ∧ Below w.heap.size w w' := by
  have hba : Below w.heap.size w (w.alloc (.cells #[.string p.1, .string p.2] 48)) := (Below.refl _ _).alloc (Nat.le_refl _) _
  have hc1 := (hba.cell (p := ⟨g, 0, none⟩) hg).trans hc
  have Hi := Lib.hid (contains_any p.1 A n c ks _ hn hm ((hr.below hba).more (by simp)))
  clear hn hm hr
  go_enter Tryd.func58, Tryd.ntmps58
  go_wp2_with fail
  refine Hi.out.mono ?_
  rintro e w' ⟨rfl, hb⟩
  go_wp2
  go_ret
  exact ⟨rfl, hba.trans (hb.mono (by simp))⟩

theorem pick_is (l : List Pr) (ks : List ByteArray) : pickL (fun p => amongS p.1 ks) l = onlyP l ks true := by
  unfold pickL onlyP
  congr 1
  funext p
  cases amongS p.1 ks <;> rfl
theorem pick_isnt (l : List Pr) (ks : List ByteArray) : pickL (fun p => !amongS p.1 ks) l = onlyP l ks false := by
  unfold pickL onlyP
  congr 1
  funext p
  cases amongS p.1 ks <;> rfl

set_option maxHeartbeats 400000 in
theorem only_any (A : Option Addr) (n c : Nat) (l : List Pr) (A' : Option Addr) (m d : Nat) (ks : List ByteArray) (w : World) (hn : n = l.length) (hm : m = ks.length) (hmx : n * 32 ≤ 140737488351232) (hmy : m ≤ maxLen) (hr : RdP w w.heap.size A l) (hs : RdS w w.heap.size A' ks) :
    Calls Tryd.prog 31 #[.slice A n c, .slice A' m d] w fun e w' => ∃ v, e = .returned v ∧ w'.ownsRow w.heap.size 48 2 v (onlyP l ks true).length (cellsP (onlyP l ks true)) ∧ Below w.heap.size w w' := by
  have hba : Below w.heap.size w (w.alloc (.cells #[.slice A' m d] 40)) := (Below.refl _ _).alloc (Nat.le_refl _) _
  have hc0 : (w.alloc (.cells #[.slice A' m d] 40)).cell? ⟨w.heap.size, 0, none⟩ = some (.slice A' m d) := by rw [World.cell?_alloc_at _ _ _ _ rfl]; rfl
  have hsz : (w.alloc (.cells #[.slice A' m d] 40)).heap.size = w.heap.size + 1 := by simp
  have hmf : ∀ (fn : Fn) (first cap : Array Value) (w : World), (Instr.makeFunc fn first cap).run Tryd.prog w = .ok (.func fn first cap) w := fun _ _ _ _ => rfl
  have hp := pick_any 55 ⟨w.heap.size, 0, none⟩ (fun p => amongS p.1 ks) A n c l (w.alloc (.cells #[.slice A' m d] 40)) hn hmx ((hr.below hba).more (by omega)) eOnly1
    (fun p w' hb => only1_any p w.heap.size A' m d ks w' (by have := hb.size; omega) ((hb.cell (p := ⟨w.heap.size, 0, none⟩) (by show w.heap.size < _; omega)).trans hc0) hm hmy (((hs.below hba).more (by omega)).below hb |>.more hb.size))
  rw [pick_is] at hp
  have Hp := Lib.hid hp
  clear hn hm hr hs hp hsz hc0
  go_enter Tryd.func31, Tryd.ntmps31
  go_wp2_with fail
  refine Hp.out.mono ?_
  rintro e w' ⟨v, rfl, hown, hb⟩
  have Hown := Lib.hid hown
  clear hown
  go_wp2
  go_ret
  exact ⟨_, rfl, own_mono Hown.out (by simp), hba.trans (hb.mono (by simp))⟩

set_option maxHeartbeats 400000 in
theorem without_any (A : Option Addr) (n c : Nat) (l : List Pr) (A' : Option Addr) (m d : Nat) (ks : List ByteArray) (w : World) (hn : n = l.length) (hm : m = ks.length) (hmx : n * 32 ≤ 140737488351232) (hmy : m ≤ maxLen) (hr : RdP w w.heap.size A l) (hs : RdS w w.heap.size A' ks) :
    Calls Tryd.prog 33 #[.slice A n c, .slice A' m d] w fun e w' => ∃ v, e = .returned v ∧ w'.ownsRow w.heap.size 48 2 v (onlyP l ks false).length (cellsP (onlyP l ks false)) ∧ Below w.heap.size w w' := by
  have hba : Below w.heap.size w (w.alloc (.cells #[.slice A' m d] 40)) := (Below.refl _ _).alloc (Nat.le_refl _) _
  have hc0 : (w.alloc (.cells #[.slice A' m d] 40)).cell? ⟨w.heap.size, 0, none⟩ = some (.slice A' m d) := by rw [World.cell?_alloc_at _ _ _ _ rfl]; rfl
  have hsz : (w.alloc (.cells #[.slice A' m d] 40)).heap.size = w.heap.size + 1 := by simp
  have hmf : ∀ (fn : Fn) (first cap : Array Value) (w : World), (Instr.makeFunc fn first cap).run Tryd.prog w = .ok (.func fn first cap) w := fun _ _ _ _ => rfl
  have hp := pick_any 58 ⟨w.heap.size, 0, none⟩ (fun p => !amongS p.1 ks) A n c l (w.alloc (.cells #[.slice A' m d] 40)) hn hmx ((hr.below hba).more (by omega)) eWithout1
    (fun p w' hb => without1_any p w.heap.size A' m d ks w' (by have := hb.size; omega) ((hb.cell (p := ⟨w.heap.size, 0, none⟩) (by show w.heap.size < _; omega)).trans hc0) hm hmy (((hs.below hba).more (by omega)).below hb |>.more hb.size))
  rw [pick_isnt] at hp
  have Hp := Lib.hid hp
  clear hn hm hr hs hp hsz hc0
  go_enter Tryd.func33, Tryd.ntmps33
  go_wp2_with fail
  refine Hp.out.mono ?_
  rintro e w' ⟨v, rfl, hown, hb⟩
  have Hown := Lib.hid hown
  clear hown
  go_wp2
  go_ret
  exact ⟨_, rfl, own_mono Hown.out (by simp), hba.trans (hb.mono (by simp))⟩
end Go.Proofs.YtbadohcphadjfaaDoor
