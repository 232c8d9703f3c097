/- Layer 1: lab.Merge. -/
import Derived.Test.YtbadohcphadjfaaDoorPick
import Derived.Test.YtbadohcphadjfaaDoorParse
namespace Go.Proofs.YtbadohcphadjfaaDoor
open Go.RowKit

theorem eMerge1 (a b : Value) (w : World) : (callFunc 53 #[a, b]).run Tryd.prog w = .ok (.enter 53 #[a, b]) w := by
  kernel_rfl

theorem makeP_perm {a b : List Pr} (h : a.Perm b) : makeP a = makeP b := by
  have e : sortP a = sortP b := sortP_unique ((sortP_perm b).trans h.symm) (sortP_sorted b)
  unfold makeP
  rw [e]

set_option maxHeartbeats 400000 in
theorem merge1_any (p : Pr) (g : Nat) (A : Option Addr) (n c : Nat) (l : List Pr) (w : World) (hg : g < w.heap.size) (hc : w.cell? ⟨g, 0, none⟩ = some (.slice A n c)) (hn : n = l.length) (hm : n ≤ maxLen) (hr : RdP w w.heap.size A l) :
    Calls Tryd.prog 53 #[.agg #[.string p.1, .string p.2], .pointer (some ⟨g, 0, none⟩)] w fun e w' => e = .returned (.bool (!(getP l p.1).isSome)) ∧ Below w.heap.size w w' := by
  have hba : Below w.heap.size w (w.alloc (.cells #[.string p.1, .string p.2] 48)) := (Below.refl _ _).alloc (Nat.le_refl _) _
  have hc1 := (hba.cell (p := ⟨g, 0, none⟩) hg).trans hc
  have Hi := Lib.hid (get_any A n c l p.1 _ hn hm ((hr.below hba).more (by simp)))
  generalize (getP l p.1).isSome = q at *
  clear hn hm hr
  go_enter Tryd.func53, Tryd.ntmps53
  go_wp2_with fail
  refine Hi.out.mono ?_
  rintro e w' ⟨rfl, hb⟩
  go_wp2
  go_ret
  exact ⟨rfl, hba.trans (hb.mono (by simp))⟩

set_option maxRecDepth 100000 in
set_option maxHeartbeats 1000000 in
theorem merge_any (A : Option Addr) (n c : Nat) (a : List Pr) (A' : Option Addr) (m d : Nat) (b : List Pr) (w : World) (hn : n = a.length) (hm : m = b.length) (hmx : (n + m) * 32 ≤ 140737488351232) (hr : RdP w w.heap.size A a) (hs : RdP w w.heap.size A' b) :
    Calls Tryd.prog 28 #[.slice A n c, .slice A' m d] w fun e w' => ∃ v, e = .returned (.tuple #[v, .int .i64 ((mergeP a b).2 : Nat)]) ∧ w'.ownsRow w.heap.size 48 2 v (mergeP a b).1.length (cellsP (mergeP a b).1) ∧ Below w.heap.size w w' := by
  obtain ⟨i0, hi, hz0, hz1, hz2⟩ := info_parts Tryd.infoP
  have hba : Below w.heap.size w (w.alloc (.cells #[.slice A' m d] 24)) := (Below.refl _ _).alloc (Nat.le_refl _) _
  have hc0 : (w.alloc (.cells #[.slice A' m d] 24)).cell? ⟨w.heap.size, 0, none⟩ = some (.slice A' m d) := by rw [World.cell?_alloc_at _ _ _ _ rfl]; rfl
  have hsz : (w.alloc (.cells #[.slice A' m d] 24)).heap.size = w.heap.size + 1 := by simp
  have hmf : ∀ (fn : Fn) (first cap : Array Value) (w : World), (Instr.makeFunc fn first cap).run Tryd.prog w = .ok (.func fn first cap) w := fun _ _ _ _ => rfl
  have hp := pick_any 53 ⟨w.heap.size, 0, none⟩ (fun p => !(getP b p.1).isSome) A n c a (w.alloc (.cells #[.slice A' m d] 24)) hn (by omega) ((hr.below hba).more (by omega)) eMerge1
    (fun p w' hb => merge1_any p w.heap.size A' m d b w' (by have := hb.size; omega) ((hb.cell (p := ⟨w.heap.size, 0, none⟩) (by show w.heap.size < _; omega)).trans hc0) hm (by unfold maxLen; omega) (((hs.below hba).more (by omega)).below hb |>.more hb.size))
  rw [show pickL (fun p => !(getP b p.1).isSome) a = keepP a b from rfl] at hp
  have hle : (keepP a b).length ≤ n := by rw [hn]; exact List.length_filter_le _ _
  have Hp := Lib.hid hp
  have Hm := Lib.hid hm
  have Hs := Lib.hid hs
  have Hba := Lib.hid hba
  have Hc0 := Lib.hid hc0
  have Hres : Hid (mergeP a b = makeP (keepP a b ++ b)) := by show makeP _ = _; exact makeP_perm List.perm_append_comm
  clear hn hm hr hs hp hba hc0
  generalize hk : keepP a b = z at *
  clear hk
  go_enter Tryd.func28, Tryd.ntmps28
  go_wp2_with fail
  refine Hp.out.mono ?_
  rintro e w1 ⟨v, rfl, hown, hb⟩
  obtain ⟨A2, c2, rfl⟩ := own_slice hown
  have hc1 : w1.cell? ⟨w.heap.size, 0, none⟩ = some (.slice A' m d) := (hb.cell (p := ⟨w.heap.size, 0, none⟩) (by show w.heap.size < _; omega)).trans Hc0.out
  have hb1 : Below w.heap.size w w1 := Hba.out.trans (hb.mono (by omega))
  have hge1 := hb1.size
  have Hown1 := Lib.hid (own_mono hown (show w.heap.size ≤ _ by omega))
  have Hsrc : Src w1 A' m 2 (cellsP b) := src_of_rd (Hs.out.below hb1) Hm.out
  have HS := Lib.hid Hsrc
  have Hb1 := Lib.hid hb1
  clear Hsrc hown hb hb1 hsz
  go_wp2_with (at_builtin; refine wpList_append_src (base := w.heap.size) rfl _ _ rfl Tryd.underlying24 hi hz0 hz1 hz2 rfl (by decide) rfl Hown1.out rfl HS.out (cellsP_one _) (by unfold maxLen; omega) (by omega) hge1 ?_; intro v2 w2 hr2 hg2 hb2; obtain ⟨A3, c3, rfl⟩ := own_slice hr2; replace hb2 : Below w.heap.size w w2 := Hb1.out.grown hg2 hge1 (fun q hq => (Hown1.out.lt q hq).1); replace hr2 := Lib.hid hr2; clear hg2)
  have hmk := make_any A3 (z.length + m) c3 (z ++ b) w2 (by rw [List.length_append, Hm.out]) (own_ok hr2.out) (by omega) (RdP.of_own (base := w.heap.size) (by rw [cellsP_append]; exact hr2.out))
  have Hmk := Lib.hid hmk
  clear hmk
  refine Hmk.out.mono ?_
  rintro e w3 ⟨v3, rfl, hown3, hb3⟩
  have Hown3 := Lib.hid hown3
  clear hown3
  go_wp2
  go_ret2
  rw [Hres.out]
  exact ⟨_, rfl, own_mono Hown3.out hb2.size, hb2.trans (hb3.mono hb2.size)⟩
end Go.Proofs.YtbadohcphadjfaaDoor
