/- Layer 1: the document's own Merge. -/
import Derived.Test.YtbadohcphadjfaaDoorRhas
namespace Go.Proofs.YtbadohcphadjfaaDoor
open Go.RowKit

theorem src_of_rd {w : World} {B : Nat} {A : Option Addr} {l : List Pr} {n : Nat} (h : RdP w B A l) (hn : n = l.length) : Src w A n 2 (cellsP l) := by
  subst hn
  refine ⟨cellsP_length l, fun h0 => ?_⟩
  obtain ⟨b, o, e, _, hc⟩ := h h0
  refine ⟨_, e, fun j u hj => ?_⟩
  have hjl : j < l.length * 2 := by
    have := (List.getElem?_eq_some_iff.1 hj).1
    rwa [cellsP_length] at this
  have hp : l[j / 2]? = some (l[j / 2]'(by omega)) := List.getElem?_eq_getElem (by omega)
  obtain ⟨c0, c1⟩ := cellsP_get l (j / 2) _ hp
  obtain ⟨d0, d1⟩ := hc _ _ hp
  rw [Addr.add_lit]
  rcases Nat.mod_two_eq_zero_or_one j with hm2 | hm2
  · rw [show j / 2 * 2 = j from by omega] at c0 d0
    rw [d0, ← c0, hj]
  · rw [show j / 2 * 2 + 1 = j from by omega] at c1
    rw [show o + j / 2 * 2 + 1 = o + j from by omega] at d1
    rw [d1, ← c1, hj]

/-- the merged row, k pairs of the first looked at -/
def mergeL (a b : List Pr) (k : Nat) : List Pr := b ++ keepP (a.take k) b
theorem mergeL_succ {a : List Pr} {k : Nat} {p : Pr} (hp : a[k]? = some p) (b : List Pr) : mergeL a b (k + 1) = mergeL a b k ++ if (getP b p.1).isSome = true then [] else [p] := by
  rw [mergeL, mergeL, keep_succ hp b, List.append_assoc]
theorem okP_mem {l : List Pr} : OkP l ↔ ∀ p ∈ l, p.1.size ≤ maxLen ∧ p.2.size ≤ maxLen :=
  ⟨fun h p hp => by obtain ⟨i, hi⟩ := List.mem_iff_getElem?.1 hp; exact h i p hi, fun h _ p hp => h p (List.mem_iff_getElem?.2 ⟨_, hp⟩)⟩
theorem okP_append {a b : List Pr} (h : OkP a) (k : OkP b) : OkP (a ++ b) := okP_mem.2 fun p hp => by
  rcases List.mem_append.1 hp with hp | hp
  · exact okP_mem.1 h p hp
  · exact okP_mem.1 k p hp
theorem okP_filter {a : List Pr} (h : OkP a) (f : Pr → Bool) : OkP (a.filter f) := okP_mem.2 fun p hp => okP_mem.1 h p (List.mem_filter.1 hp).1

set_option maxRecDepth 100000 in
set_option maxHeartbeats 1000000 in
theorem rmerge_any (A : Option Addr) (n c : Nat) (a : List Pr) (A' : Option Addr) (m d : Nat) (b : List Pr) (w : World) (hn : n = a.length) (hm : m = b.length) (hnx : (n + m) * 32 ≤ 140737488351232) (hr : RdP w w.heap.size A a) (hs : RdP w w.heap.size A' b) (hoka : OkP a) (hokb : OkP b) :
    Calls Tryd.prog 29 #[.slice A n c, .slice A' m d] w fun e w' => ∃ v, e = .returned (.tuple #[v, .int .i64 ((mergeP a b).2 : Nat)]) ∧ w'.ownsRow w.heap.size 48 2 v (mergeP a b).1.length (cellsP (mergeP a b).1) ∧ Below w.heap.size w w' := by
  obtain ⟨i0, hi, hz0, hz1, hz2⟩ := info_parts Tryd.infoP
  have Hn := Lib.hid hn
  have Hm := Lib.hid hm
  have Hr := Lib.hid hr
  have Hs := Lib.hid hs
  have Hoka := Lib.hid hoka
  have Hokb := Lib.hid hokb
  have hs1 : Src (w.alloc (.cells #[] 48)) A' m 2 (cellsP b) := src_of_rd (hs.below ((Below.refl _ w).alloc (Nat.le_refl _) _)) hm
  clear hn hm hr hs hoka hokb
  go_enter Tryd.func29, Tryd.ntmps29
  go_wp2_with (at_builtin; refine wpList_append_src (base := w.heap.size) rfl _ _ rfl Tryd.underlying24 hi hz0 hz1 hz2 rfl (by decide) rfl (World.ownsRow_made _ #[] 0 (Nat.le_refl _) (Nat.zero_le _) rfl) rfl hs1 (cellsP_one _) (by unfold maxLen; omega) (by omega) (by simp) ?_; intro v1 w1 hr1 hg1 hb1; replace hb1 : Below w.heap.size w w1 := ((Below.refl _ w).alloc (Nat.le_refl _) _).grown hg1 (by simp) (fun q hq => by cases hq; exact Nat.le_refl _); replace hr1 := Lib.hid hr1; clear hg1)
  go_loopw [6, 7] (fun v i wr => ∃ k : Nat, k ≤ n ∧ i = .int .i64 k ∧ wr.ownsRow w.heap.size 48 2 v (mergeL a b k).length (cellsP (mergeL a b k)) ∧ Below w.heap.size w wr) (fun _ i _ => n - (intOf i).toNat)
  case atStart =>
    refine ⟨0, Nat.zero_le _, rfl, ?_, hb1⟩
    have h := hr1.out
    rw [Nat.zero_add, List.nil_append] at h
    rw [show mergeL a b 0 = b from by rw [mergeL, List.take_zero, show keepP [] b = [] from rfl, List.append_nil], ← Hm.out]
    exact h
  case round =>
    obtain ⟨k, hk, rfl, hown, hbw⟩ := hrel
    obtain ⟨A2, c2, rfl⟩ := own_slice hown
    have hge := hbw.size
    have hle : (mergeL a b k).length ≤ m + k := by
      have h1 : (keepP (a.take k) b).length ≤ (a.take k).length := List.length_filter_le _ _
      rw [List.length_take] at h1
      rw [mergeL, List.length_append, ← Hm.out]; omega
    have Hown := Lib.hid hown
    clear hown
    by_cases hlt : k < n
    · obtain ⟨g, o, p, rfl, hb, hp, hc1, hc2⟩ := Hr.out.at_ (k := k) (by have := Hn.out; omega)
      have Hstep := Lib.hid (mergeL_succ hp b)
      have Hg := Lib.hid (rget_any A' m d b p.1 wr w.heap.size Hm.out (by unfold maxLen; omega) (Hs.out.below hbw))
      have d1 := (hbw.cell (p := ⟨g, o + k * 2, none⟩) hb).trans hc1
      have d2 := (hbw.cell (p := ⟨g, o + k * 2 + 1, none⟩) hb).trans hc2
      clear hc1 hc2 hp
      cases hq : (getP b p.1).isSome with
      | true =>
        rw [hq] at Hstep Hg
        generalize (getP b p.1).getD ⟨#[]⟩ = gv at Hg
        go_wp2_with fail
        refine Hg.out.mono ?_
        rintro e w' ⟨rfl, rfl⟩
        go_wp2
        refine ⟨⟨k + 1, by omega, by go_num, ?_, hbw⟩, by simp [intOf]; omega⟩
        rw [Hstep.out, if_pos trivial, List.append_nil]
        exact Hown.out
      | false =>
        rw [hq] at Hstep Hg
        generalize (getP b p.1).getD ⟨#[]⟩ = gv at Hg
        have Hown1 := Lib.hid (Hown.out.alloc (.cells #[.string p.1, .string p.2] 48))
        go_wp2_with fail
        refine Hg.out.mono ?_
        rintro e w' ⟨rfl, rfl⟩
        go_wp2_with (at_builtin; refine wpList_append_src (base := w.heap.size) rfl (.tmp 31) (.tmp 36) rfl Tryd.underlying24 hi hz0 hz1 hz2 rfl (by decide) rfl Hown1.out rfl (src_box (heap_alloc_new _ _)) (cellsP_one [p]) (by unfold maxLen; omega) (by omega) (by simp; omega) ?_; intro v3 w3 hr3 hg3 hb3)
        refine ⟨⟨k + 1, by omega, by go_num, ?_, (hbw.alloc hge _).grown hg3 (by simp; omega) (fun q hq => (Hown1.out.lt q hq).1)⟩, by simp [intOf]; omega⟩
        rw [Hstep.out, if_neg (by simp), cellsP_append, List.length_append]
        exact hr3
    · have hkn : k = n := by omega
      subst hkn
      have hall : mergeL a b k = b ++ keepP a b := by rw [mergeL, List.take_of_length_le (by have := Hn.out; omega)]
      have hok : OkP (b ++ keepP a b) := okP_append Hokb.out (okP_filter Hoka.out _)
      rw [← hall] at hok
      have Hmk := Lib.hid (rmake_any A2 _ c2 (mergeL a b k) wr rfl (by omega) (RdP.of_own Hown.out) hok)
      have Hres : Hid (mergeP a b = makeP (mergeL a b k)) := by show mergeP a b = _; rw [hall]; rfl
      clear hall hok
      go_wp2_with fail
      refine Hmk.out.mono ?_
      rintro e w3 ⟨v, rfl, hown3, hb3⟩
      go_wp2
      go_ret2
      rw [Hres.out]
      exact ⟨_, rfl, own_mono hown3 hge, hbw.trans (hb3.mono hge)⟩
end Go.Proofs.YtbadohcphadjfaaDoor
