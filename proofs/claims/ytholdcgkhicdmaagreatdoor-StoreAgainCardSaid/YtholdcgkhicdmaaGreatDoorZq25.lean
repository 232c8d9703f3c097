/- Several texts in one: DkAppend, DkAppErr, DkMore, DkRead. -/
import Derived.Test.YtholdcgkhicdmaaGreatDoorZq24
namespace Go.Proofs.YtholdcgkhicdmaaGreatDoor
open Go.RowKit Go.Maps
section
variable {w w' : World} {S T : Nat → Prop} {g wr sy : Nat} {E : Ents} {s : ByteArray} {mo : Option Nat}
theorem DkM.keep2 (h : DkM w S g mo E wr sy) (ho : Only T w w') (hg : ¬ T g) (hm : ∀ b, mo = some b → ¬ T b) : DkM w' S g mo E wr sy :=
 ⟨h.gS, fun k hk => Nat.lt_of_lt_of_le (h.lt k hk) ho.size, (ho.cell (p := ⟨g, 0, none⟩) (h.lt g h.gS) hg).trans h.c0, (ho.cell (p := ⟨g, 1, none⟩) (h.lt g h.gS) hg).trans h.c1,
  (ho.cell (p := ⟨g, 2, none⟩) (h.lt g h.gS) hg).trans h.c2, fun o => (ho.frozen (p := ⟨g, o, none⟩) (h.lt g h.gS) hg).trans (h.fz o), by
   rcases h.mp with h' | ⟨b, h1, h2, h3, h4⟩
   ·exact .inl h'
   ·exact .inr ⟨b, h1, h2, h3, ho.ownsMap h4 (hm b h1)⟩, h.rise, h.few⟩
theorem FileIs.keep2 {x : Ent} (h : FileIs w S g mo x) (ho : Only T w w') (hn : ∀ k, x.v.ownBlock = some k → ¬ T k) : FileIs w' S g mo x := ⟨ho.own h.own hn, h.syn, h.ok, h.max, h.S⟩
theorem Files.keep2 (h : Files w S g mo E) (ho : Only T w w') (hn : ∀ p ∈ E, ∀ k, p.2.v.ownBlock = some k → ¬ T k) : Files w' S g mo E :=
 ⟨fun p hp => ⟨ho.own (h.each p hp).own (hn p hp), (h.each p hp).syn, (h.each p hp).ok, (h.each p hp).max, (h.each p hp).S⟩, h.apart⟩
end
theorem ent0_is {w : World} {S : Nat → Prop} {g : Nat} {mo : Option Nat} : FileIs w S g mo ⟨.slice none 0 0, [], 0⟩ :=
 ⟨World.ownsRow_nil _ _ _ _, Nat.le_refl _, OkB.nil, Nat.zero_le _, fun k hk => by simp [Value.ownBlock] at hk⟩
theorem append_mid {S : Nat → Prop} {g : Nat} {mo : Option Nat} {E : Ents} {wr sy : Nat} {s : ByteArray} {x : Ent} {l : List Nat} {m : Nat} {w1 w2 : World} {o : Obj} {v' : Value} (h : DkM w1 S g mo E wr sy) (h2 : Files w1 S g mo E) (hix : FileIs w1 S g mo x)
  (hfe : ∀ p ∈ delP E s, Far x p.2) (hg2 : (w1.alloc o).grownBy w2 x.v.ownBlock) (hb2 : v'.ownBlock = x.v.ownBlock ∨ v'.ownBlock = some (w1.heap.size + 1)) (hr2 : w2.ownsRow 0 5 1 v' (x.by_.length + m) (cellsB x.by_ ++ cellsB l))
  (hm : m = l.length) (hok : OkB l) (hmax : x.by_.length + m ≤ 1048576) (u : Value) :
  ∃ S1, DkM (w2.setCell ⟨w1.heap.size, 0, none⟩ u) S1 g mo E wr sy ∧ Files (w2.setCell ⟨w1.heap.size, 0, none⟩ u) S1 g mo (delP E s) ∧ FileIs (w2.setCell ⟨w1.heap.size, 0, none⟩ u) S1 g mo ⟨v', x.by_ ++ l, x.syn⟩ ∧
   (∀ p ∈ delP E s, Far ⟨v', x.by_ ++ l, x.syn⟩ p.2) ∧ Step w1 S (w2.setCell ⟨w1.heap.size, 0, none⟩ u) S1 := by
 have hb1 := (Below.refl w1.heap.size w1).alloc (Nat.le_refl _) o
 have hz1 : (w1.alloc o).heap.size = w1.heap.size + 1 := by simp
 have hon : Only (fun k => some k = x.v.ownBlock) w1 (w2.setCell ⟨w1.heap.size, 0, none⟩ u) :=
  ((Only.of_below hb1 _).trans (Only.of_grown (T := fun k => some k = x.v.ownBlock) hg2 (fun k hk => hk.symm)) (fun _ h => .inl h)).trans (Only.setCell (T := fun k => k = w1.heap.size) w2 _ u rfl) (fun i hi => .inr (Nat.le_of_eq hi.symm))
 have hsz : w1.heap.size + 1 ≤ w2.heap.size := by have := hg2.size; omega
 have hsz3 : (w2.setCell ⟨w1.heap.size, 0, none⟩ u).heap.size = w2.heap.size := by simp [World.setCell]
 have hS1 : ∀ k, (S k ∨ (w1.heap.size ≤ k ∧ k < w2.heap.size)) → k < (w2.setCell ⟨w1.heap.size, 0, none⟩ u).heap.size := fun k hk => by
  rw [hsz3]
  rcases hk with hk | hk
  ·have := h.lt k hk; omega
  ·exact hk.2
 have hv' : ∀ k, v'.ownBlock = some k → (S k ∨ (w1.heap.size ≤ k ∧ k < w2.heap.size)) ∧ k ≠ g ∧ some k ≠ mo ∧ k ≠ w1.heap.size := fun k hk => by
  have hgl := h.lt g h.gS
  rcases hb2 with hb2 | hb2
  ·rw [hb2] at hk
   have h' := hix.S k hk
   have := h.lt k h'.1
   exact ⟨.inl h'.1, h'.2.1, h'.2.2, by omega⟩
  ·rw [hb2] at hk
   injection hk with hk
   have hk2 := (hr2.lt k (by rw [hb2, hk])).2
   refine ⟨.inr ⟨by omega, hk2⟩, by omega, fun e => ?_, by omega⟩
   rcases h.mp with ⟨e', _⟩ | ⟨b, e', hb, _⟩
   ·rw [e'] at e; cases e
   ·rw [e'] at e; injection e with e; have := h.lt b hb; omega
 refine ⟨fun k => S k ∨ (w1.heap.size ≤ k ∧ k < w2.heap.size), (h.keep2 hon (fun e => (hix.S g e.symm).2.1 rfl) (fun b hb e => (hix.S b e.symm).2.2 hb.symm)).more (fun _ h => .inl h) hS1,
  ((h2.del s).keep2 hon (fun p hp k hk e => ?_)).more (fun _ h => .inl h), ⟨?_, ?_, ?_, ?_, fun k hk => ⟨(hv' k hk).1, (hv' k hk).2.1, (hv' k hk).2.2.1⟩⟩, fun p hp => ?_, hon.mono (fun k hk => (hix.S k hk.symm).1), fun k hk => ?_⟩
 ·rcases hfe p hp with h' | h'
  ·rw [h'] at e; cases e
  ·exact h' (e.symm.trans hk.symm)
 ·have h3 := (Only.setCell (T := fun k => k = w1.heap.size) w2 ⟨w1.heap.size, 0, none⟩ u rfl).own hr2 (fun k hk => (hv' k hk).2.2.2)
  rw [← cellsB_append] at h3
  show World.ownsRow _ _ _ _ _ (x.by_ ++ l).length _
  rw [List.length_append, ← hm]
  exact h3
 ·show x.syn ≤ (x.by_ ++ l).length
  rw [List.length_append]; have := hix.syn; omega
 ·exact hix.ok.append hok
 ·show (x.by_ ++ l).length ≤ _
  rw [List.length_append, ← hm]; exact hmax
 ·rcases hb2 with hb2 | hb2
  ·have := hfe p hp
   unfold Far at this ⊢
   rw [hb2]
   exact this
  ·refine .inr (fun e => ?_)
   have e2 : p.2.v.ownBlock = some (w1.heap.size + 1) := by rw [← hb2]; exact e.symm
   have := h.lt _ ((h2.each p (mem_delP.1 hp).1).S _ e2).1
   omega
 ·rcases hk with hk | hk
  ·exact .inl hk
  ·exact .inr hk.1
set_option maxRecDepth 100000 in
set_option maxHeartbeats 400000 in
theorem append_core {S : Nat → Prop} {g : Nat} {mo : Option Nat} {E : Ents} {wr sy : Nat} {s : ByteArray} {x : Ent} {B : Option Addr} {m d : Nat} {l : List Nat} (w : World) (h : DkM w S g mo E wr sy) (h2 : Files w S g mo E)
  (hv : valueB s = true) (hs : s.size ≤ maxLen) (hix : FileIs w S g mo x) (hfe : ∀ p ∈ delP E s, Far x p.2) (hl : lookE E s = x.val) (b : Bool) (hb : (findP E s).isSome = b) (hfew : b = false → E.length < 64)
  (hm : m = l.length) (hok : OkB l) (hmax : x.by_.length + m ≤ 1048576) (hr : RdB w w.heap.size B l) (hwr : wr ≤ 1000000) (hfew2 : ∀ y : Ent, (putP E s y).length ≤ 64) :
  Calls Tryz.prog 28 #[.pointer (some ⟨g, 0, none⟩), .string s, .slice B m d] w fun e w' => e = .returned (.int .i64 0) ∧
   ∃ S' mo' v', DkM w' S' g mo' (putP E s ⟨v', x.by_ ++ l, x.syn⟩) (wr + 1) sy ∧ Files w' S' g mo' (putP E s ⟨v', x.by_ ++ l, x.syn⟩) ∧ Step w S w' S' := by
 obtain ⟨i0, hi, hz0, hz1, hz2⟩ := info_parts Tryz.infoB
 obtain ⟨A, c, hxv⟩ := ownB_slice hix.own
 have HA := Lib.hid (⟨h, h2, hix, hr, hv, hs, hfe, hl, hb, hm, hok, hfew2⟩ : DkM w S g mo E wr sy ∧ Files w S g mo E ∧ FileIs w S g mo x ∧ RdB w w.heap.size B l ∧ valueB s = true ∧ s.size ≤ maxLen ∧ (∀ p ∈ delP E s, Far x p.2) ∧ lookE E s = x.val ∧ (findP E s).isSome = b ∧ m = l.length ∧ OkB l ∧ (∀ y : Ent, (putP E s y).length ≤ 64))
 have HXv : Hid (x.v = .slice A x.by_.length c) := hxv
 clear h h2 hix hr hv hs hfe hl hb hm hok hfew2 hxv
 go_enter Tryz.func28, Tryz.ntmps28
 go_wp2_with fail
 refine (value_any s w).mono ?_
 rintro e w1 ⟨rfl, hbv⟩
 obtain ⟨h, h2, hix, hr, hv, hs, hfe, hl, hb, hm, hok, hfew2⟩ := HA.out
 rw [hv]
 have HBv := Lib.hid hbv
 replace h := h.below hbv
 replace h2 := h2.below hbv
 replace hix := hix.below hbv
 replace hr := (hr.below hbv).more hbv.size
 clear hbv
 have c0 := h.c0
 have hgl := h.lt g h.gS
 have hb1 := (Below.refl w1.heap.size w1).alloc (Nat.le_refl _) (.cells #[.slice A x.by_.length c, .int .i64 x.syn] 126)
 have HB1 := Lib.hid hb1
 have HM := Lib.hid h.mp
 have HLen := fun ty => (h.below hb1).mp.len ty
 have HSrc := Lib.hid (src_of_rdB (hr.below hb1) hm)
 have H1 := Lib.hid h
 have H2 := Lib.hid h2
 have HV := Lib.hid hv
 have HS := Lib.hid hs
 have HI := Lib.hid hix
 have HFe := Lib.hid hfe
 have HLk := Lib.hid hl
 have HOk := Lib.hid hok
 have HF2 := Lib.hid hfew2
 have HMl := Lib.hid hm
 have hxo : w1.ownsRow 0 5 1 (.slice A x.by_.length c) x.by_.length (cellsB x.by_) := by have := hix.own; rw [HXv.out] at this; exact this
 have HXo := Lib.hid hxo
 have hxs := hix.S
 rw [HXv.out] at hxs
 have HXs := Lib.hid hxs
 have hxlt := HXo.out.lt
 have HXlt := Lib.hid hxlt
 clear h h2 hv hs hix hfe hl hr hok hm hb1 hxo hfew2 HA hxs hxlt
 cases b with
 | true =>
   have HBb := Lib.hid hb
   clear hb hfew HLen
   go_wp2_with (first
    | (at_lookup; refine wpList_look_ok rfl _ _ rfl rfl rfl HM.out HS.out (v := fileV (.slice A x.by_.length c) x.syn) (b := true) (by rw [HLk.out, Ent.val, HXv.out]) HBb.out ?_; unfold fileV)
    | (at_builtin; refine wpList_append_src (base := 0) rfl _ _ rfl Tryz.underlying77 hi hz0 hz1 hz2 rfl (by decide) rfl (HXo.out.alloc _) rfl HSrc.out (cellsB_one _) (by unfold maxLen; omega) (by omega) (by simp) ?_; intro v2 w2 hr2 hg2 hb2; obtain ⟨A2, c2, rfl⟩ := ownB_slice hr2; have d0 := (hg2.cell_far ⟨w1.heap.size, 0, none⟩ (by simp) (fun e => by have := (HXlt.out _ e.symm).2; simp at this)).trans ((World.cell?_alloc_at _ _ _ _ rfl).trans rfl); have d1 := (hg2.cell_far ⟨w1.heap.size, 1, none⟩ (by simp) (fun e => by have := (HXlt.out _ e.symm).2; simp at this)).trans ((World.cell?_alloc_at _ _ _ _ rfl).trans rfl); have df := (hg2.frozen_far ⟨w1.heap.size, 0, none⟩ (by simp) (fun e => by have := (HXlt.out _ e.symm).2; simp at this)).trans (World.frozen?_alloc_at _ _ _ _ rfl); replace hb2 : Hid ((Value.slice A2 (x.by_.length + m) c2).ownBlock = (Value.slice A x.by_.length c).ownBlock ∨ (Value.slice A2 (x.by_.length + m) c2).ownBlock = some (w1.heap.size + 1)) := hb2.imp id (fun e => e.trans (congrArg some (World.size_alloc _ _))); replace hg2 : Hid ((w1.alloc (.cells #[.slice A x.by_.length c, .int .i64 x.syn] 126)).grownBy w2 (Value.slice A x.by_.length c).ownBlock) := Lib.hid hg2; replace hr2 := Lib.hid hr2))
   have hap := append_mid H1.out H2.out HI.out HFe.out (by rw [HXv.out]; exact hg2.out) (by rw [HXv.out]; exact hb2.out) hr2.out HMl.out HOk.out hmax (.slice A2 (x.by_.length + m) c2)
   obtain ⟨S1, k1, k2, k3, k4, k5⟩ := hap
   have K5 := Lib.hid k5
   refine (dput_any _ (x := ⟨.slice A2 (x.by_.length + m) c2, x.by_ ++ l, x.syn⟩) k1 k2 k3 k4 (HF2.out _) HS.out).mono ?_
   rintro e w3 ⟨rfl, S', mo', h1, h2, h3⟩
   have c1 := h1.c1
   have f1 := h1.fz 1
   have hgl3 := h1.lt g h1.gS
   have L1 := Lib.hid h1
   have L2 := Lib.hid h2
   have L3 := Lib.hid h3
   clear h1 h2 h3 k1 k2 k3 k4 k5 hgl
   go_wp2
   go_ret
   exact ⟨rfl, S', mo', _, L1.out.setWr (wr + 1), L2.out.setG _ _, (((Step.of_below S HBv.out).trans K5.out).trans L3.out).setG L1.out.gS _ _⟩
 | false =>
   have HBb := Lib.hid hb
   have hE : ((E.length : Int) == 64) = false := by have := hfew rfl; rw [beq_eq_false_iff_ne]; omega
   clear hb hfew
   go_wp2_with (first
    | (at_lookup; refine wpList_look_ok rfl _ _ rfl rfl rfl HM.out HS.out (v := fileV (.slice A x.by_.length c) x.syn) (b := false) (by rw [HLk.out, Ent.val, HXv.out]) HBb.out ?_; unfold fileV)
    | (at_builtin; refine wpList_append_src (base := 0) rfl _ _ rfl Tryz.underlying77 hi hz0 hz1 hz2 rfl (by decide) rfl (HXo.out.alloc _) rfl HSrc.out (cellsB_one _) (by unfold maxLen; omega) (by omega) (by simp) ?_; intro v2 w2 hr2 hg2 hb2; obtain ⟨A2, c2, rfl⟩ := ownB_slice hr2; have d0 := (hg2.cell_far ⟨w1.heap.size, 0, none⟩ (by simp) (fun e => by have := (HXlt.out _ e.symm).2; simp at this)).trans ((World.cell?_alloc_at _ _ _ _ rfl).trans rfl); have d1 := (hg2.cell_far ⟨w1.heap.size, 1, none⟩ (by simp) (fun e => by have := (HXlt.out _ e.symm).2; simp at this)).trans ((World.cell?_alloc_at _ _ _ _ rfl).trans rfl); have df := (hg2.frozen_far ⟨w1.heap.size, 0, none⟩ (by simp) (fun e => by have := (HXlt.out _ e.symm).2; simp at this)).trans (World.frozen?_alloc_at _ _ _ _ rfl); clear HLen hE; replace hb2 : Hid ((Value.slice A2 (x.by_.length + m) c2).ownBlock = (Value.slice A x.by_.length c).ownBlock ∨ (Value.slice A2 (x.by_.length + m) c2).ownBlock = some (w1.heap.size + 1)) := hb2.imp id (fun e => e.trans (congrArg some (World.size_alloc _ _))); replace hg2 : Hid ((w1.alloc (.cells #[.slice A x.by_.length c, .int .i64 x.syn] 126)).grownBy w2 (Value.slice A x.by_.length c).ownBlock) := Lib.hid hg2; replace hr2 := Lib.hid hr2))
   have hap := append_mid H1.out H2.out HI.out HFe.out (by rw [HXv.out]; exact hg2.out) (by rw [HXv.out]; exact hb2.out) hr2.out HMl.out HOk.out hmax (.slice A2 (x.by_.length + m) c2)
   obtain ⟨S1, k1, k2, k3, k4, k5⟩ := hap
   have K5 := Lib.hid k5
   refine (dput_any _ (x := ⟨.slice A2 (x.by_.length + m) c2, x.by_ ++ l, x.syn⟩) k1 k2 k3 k4 (HF2.out _) HS.out).mono ?_
   rintro e w3 ⟨rfl, S', mo', h1, h2, h3⟩
   have c1 := h1.c1
   have f1 := h1.fz 1
   have hgl3 := h1.lt g h1.gS
   have L1 := Lib.hid h1
   have L2 := Lib.hid h2
   have L3 := Lib.hid h3
   clear h1 h2 h3 k1 k2 k3 k4 k5 hgl
   go_wp2
   go_ret
   exact ⟨rfl, S', mo', _, L1.out.setWr (wr + 1), L2.out.setG _ _, (((Step.of_below S HBv.out).trans K5.out).trans L3.out).setG L1.out.gS _ _⟩
def had (L : List (ByteArray × Fl)) (s : ByteArray) : Fl := (findP L s).getD ⟨[], 0⟩
theorem append_ok {S : Nat → Prop} {g : Nat} {L : List (ByteArray × Fl)} {wr sy : Nat} {s : ByteArray} {B : Option Addr} {m d : Nat} {l : List Nat} (w : World) (h : Disk w S g L wr sy)
  (hv : valueB s = true) (hs : s.size ≤ maxLen) (hfew : findP L s = none → L.length < 64) (hm : m = l.length) (hok : OkB l) (hmax : (had L s).by_.length + m ≤ 1048576) (hr : RdB w w.heap.size B l) (hwr : wr ≤ 1000000) :
  Calls Tryz.prog 28 #[.pointer (some ⟨g, 0, none⟩), .string s, .slice B m d] w fun e w' => e = .returned (.int .i64 0) ∧ Leaves w w' S g (putP L s ⟨(had L s).by_ ++ l, (had L s).syn⟩) (wr + 1) sy := by
 obtain ⟨E, mo, rfl, h1, h2⟩ := h
 rw [mapS_length] at hfew
 cases e : findP E s with
 | none =>
   have e' : findP (mapS Ent.fl E) s = none := by rw [mapS_find, e]; rfl
   have hh : had (mapS Ent.fl E) s = ⟨[], 0⟩ := by unfold had; rw [e']; rfl
   rw [hh] at hmax ⊢
   refine (append_core (x := ⟨.slice none 0 0, [], 0⟩) w h1 h2 hv hs ent0_is (fun p _ => .inl rfl) (lookE_none e) false (by rw [e]; rfl) (fun _ => hfew e') hm hok hmax hr hwr (fun y => ?_)).mono ?_
   ·rw [putP_length_none e]; exact hfew e'
   ·rintro e1 w' ⟨h3, S', mo', v', k1, k2, k3⟩
    exact ⟨h3, S', ⟨_, mo', by rw [mapS_put]; rfl, k1, k2⟩, k3⟩
 | some x =>
   have e' : findP (mapS Ent.fl E) s = some x.fl := by rw [mapS_find, e]; rfl
   have hh : had (mapS Ent.fl E) s = x.fl := by unfold had; rw [e']; rfl
   rw [hh] at hmax ⊢
   refine (append_core (x := x) w h1 h2 hv hs (h2.each _ (findP_some e)) (h2.apart_del e) (lookE_some e) true (by rw [e]; rfl) (fun h => nomatch h) hm hok hmax hr hwr (fun y => ?_)).mono ?_
   ·exact Nat.le_trans (putP_length_some e _) h1.few
   ·rintro e1 w' ⟨h3, S', mo', v', k1, k2, k3⟩
    exact ⟨h3, S', ⟨_, mo', by rw [mapS_put]; rfl, k1, k2⟩, k3⟩
theorem del_end {S : Nat → Prop} {g b n : Nat} {E : Ents} {wr sy : Nat} {s : ByteArray} {w1 w2 : World} (h : DkM w1 S g (some b) E wr sy) (h2 : Files w1 S g (some b) E)
  (ho : w2.ownsMap Tryz.prog 9 rawR b n ((datum E).del (.string s.data.toList))) (hg : w1.grownBy w2 (some b)) :
  DkM w2 S g (some b) (delP E s) wr sy ∧ Files w2 S g (some b) (delP E s) ∧ Step w1 S w2 S := by
 have hmp := h.mp
 rcases hmp with ⟨hmp, _⟩ | ⟨b', hmp, hb, hbg, hown⟩
 ·cases hmp
 ·injection hmp with hmp
  subst hmp
  have hon : Only (fun k => k = b) w1 w2 := Only.of_grown hg (fun k hk => by injection hk with hk; exact hk.symm)
  have hgb : ¬ g = b := fun e => hbg e.symm
  refine ⟨⟨h.gS, fun k hk => Nat.lt_of_lt_of_le (h.lt k hk) hon.size, (hon.cell (p := ⟨g, 0, none⟩) (h.lt g h.gS) hgb).trans h.c0, (hon.cell (p := ⟨g, 1, none⟩) (h.lt g h.gS) hgb).trans h.c1,
   (hon.cell (p := ⟨g, 2, none⟩) (h.lt g h.gS) hgb).trans h.c2, fun o => (hon.frozen (p := ⟨g, o, none⟩) (h.lt g h.gS) hgb).trans (h.fz o), .inr ⟨b, rfl, hb, hbg, ?_⟩, rising_del h.rise s, Nat.le_trans (delP_length_le _ _) h.few⟩,
   ((h2.del s).keep2 hon (fun p hp k hk e => ((h2.each p (mem_delP.1 hp).1).S k hk).2.2 (by rw [e]))), hon.mono (fun i hi => by rw [hi]; exact hb), fun _ hk => .inl hk⟩
  have := ownsMap_tight ho
  rw [datum_del, datum_size] at this
  exact this
theorem DkM.has_map {S : Nat → Prop} {g : Nat} {mo : Option Nat} {E : Ents} {wr sy : Nat} {s : ByteArray} {x : Ent} {w : World} (h : DkM w S g mo E wr sy) (hx : findP E s = some x) :
  ∃ b, mo = some b ∧ w.ownsMap Tryz.prog 9 rawR b E.length (datum E) := by
 rcases h.mp with ⟨_, rfl⟩ | ⟨b, hb, _, _, ho⟩
 ·cases hx
 ·exact ⟨b, hb, ho⟩
set_option maxRecDepth 100000 in
set_option maxHeartbeats 400000 in
theorem remove_some {S : Nat → Prop} {g : Nat} {L : List (ByteArray × Fl)} {wr sy : Nat} {s : ByteArray} {f : Fl} (w : World) (h : Disk w S g L wr sy) (hs : s.size ≤ maxLen) (hf : findP L s = some f) :
  Calls Tryz.prog 86 #[.pointer (some ⟨g, 0, none⟩), .string s] w fun e w' => e = .returned (.int .i64 0) ∧ Leaves w w' S g (delP L s) wr sy := by
 obtain ⟨E, mo, rfl, h1, h2⟩ := h
 obtain ⟨x, hx, rfl⟩ := fl_some rfl hf
 obtain ⟨b, rfl, ho⟩ := h1.has_map hx
 have hix := h2.each _ (findP_some hx)
 obtain ⟨A, c, hv⟩ := ownB_slice hix.own
 have HS := Lib.hid hs
 have H1 := Lib.hid h1
 have H2 := Lib.hid h2
 have HX := Lib.hid hx
 have HV : Hid (x.v = .slice A x.by_.length c) := hv
 clear hs h1 h2 hx hf hix hv ho
 go_enter Tryz.func86, Tryz.ntmps86
 go_wp2_with fail
 refine (find_some w H1.out H2.out HS.out HX.out).mono ?_
 rintro e w1 ⟨rfl, hb⟩
 rw [HV.out]
 unfold fileV
 have hb2 := hb.trans (((Below.refl w.heap.size w1).alloc hb.size (.cells #[.slice A x.by_.length c, .int .i64 x.syn] 126)))
 have HB2 := Lib.hid hb2
 have h1 := H1.out.below hb2
 have c0 := (H1.out.below hb).c0
 have hgl := (H1.out.below hb).lt g H1.out.gS
 obtain ⟨_, e0, ho⟩ := h1.has_map HX.out
 injection e0 with e0
 subst e0
 have HO := Lib.hid ho
 clear hb hb2 ho h1
 go_wp2_with (at_delete; refine wpList_delete_own _ rfl _ _ 86 9 rfl 126 keyS Tryz.underlying86 rawR b E.length (datum E) rfl HO.out (.string s) (.string s.data.toList) rfl (WideMaps.keyOf_string_mk Tryz.underlying9 HS.out) ?_; intro w2 hown2 hturn2; replace hown2 := Lib.hid hown2; replace hturn2 := Lib.hid hturn2)
 go_ret
 obtain ⟨k1, k2, k3⟩ := del_end (H1.out.below HB2.out) (H2.out.below HB2.out) hown2.out hturn2.out.grown
 exact ⟨rfl, S, ⟨_, _, mapS_del _ _ _, k1, k2⟩, (Step.of_below S HB2.out).trans k3⟩
set_option maxRecDepth 100000 in
set_option maxHeartbeats 400000 in
theorem rename_some {S : Nat → Prop} {g : Nat} {L : List (ByteArray × Fl)} {wr sy : Nat} {s t : ByteArray} {f : Fl} (w : World) (h : Disk w S g L wr sy) (hs : s.size ≤ maxLen) (hts : t.size ≤ maxLen) (hf : findP L s = some f) (ht : valueB t = true) :
  Calls Tryz.prog 88 #[.pointer (some ⟨g, 0, none⟩), .string s, .string t] w fun e w' => e = .returned (.int .i64 0) ∧ Leaves w w' S g (putP (delP L s) t f) wr sy := by
 obtain ⟨E, mo, rfl, h1, h2⟩ := h
 obtain ⟨x, hx, rfl⟩ := fl_some rfl hf
 obtain ⟨b, rfl, hob⟩ := h1.has_map hx
 have hbl := hob.lt
 clear hob
 obtain ⟨A, c, hv⟩ := ownB_slice (h2.each _ (findP_some hx)).own
 have HC := Lib.hid (find_some w h1 h2 hs hx)
 have HV : Hid (x.v = .slice A x.by_.length c) := hv
 have HA := Lib.hid (⟨h1, h2, hs, hts, hx, ht⟩ : DkM w S g (some b) E wr sy ∧ Files w S g (some b) E ∧ s.size ≤ maxLen ∧ t.size ≤ maxLen ∧ findP E s = some x ∧ valueB t = true)
 clear hs hts h1 h2 hx hf hv ht
 go_enter Tryz.func88, Tryz.ntmps88
 go_wp2_with fail
 refine HC.out.mono ?_
 rintro e w1 ⟨rfl, hb⟩
 rw [HV.out]
 unfold fileV
 have hb2 := (hb.trans (((Below.refl w.heap.size w1).alloc hb.size (.cells #[.slice A x.by_.length c, .int .i64 x.syn] 126))))
 have HB2 := Lib.hid hb2
 have HZ := Lib.hid hb.size
 clear hb hb2
 go_wp2_with fail
 refine (value_any t _).mono ?_
 rintro e w2 ⟨rfl, hb⟩
 have d0 := (hb.cell (p := ⟨w1.heap.size, 0, none⟩) (by simp)).trans ((World.cell?_alloc_at _ _ _ _ rfl).trans rfl)
 have d1 := (hb.cell (p := ⟨w1.heap.size, 1, none⟩) (by simp)).trans ((World.cell?_alloc_at _ _ _ _ rfl).trans rfl)
 have hb3 := HB2.out.trans (hb.mono HB2.out.size)
 have HB3 := Lib.hid hb3
 obtain ⟨h1, h2, hs, hts, hx, ht⟩ := HA.out
 rw [ht]
 replace h1 := h1.below hb3
 replace h2 := h2.below hb3
 have c0 := h1.c0
 have hgl := h1.lt g h1.gS
 obtain ⟨_, e0, ho⟩ := h1.has_map hx
 injection e0 with e0
 subst e0
 have HO := Lib.hid ho
 have H1 := Lib.hid h1
 have H2 := Lib.hid h2
 have HS := Lib.hid hs
 clear hb hb3 ho h1 h2 hs hts hx ht
 go_wp2_with (at_delete; refine wpList_delete_own _ rfl _ _ 86 9 rfl 126 keyS Tryz.underlying86 rawR b E.length (datum E) rfl HO.out (.string s) (.string s.data.toList) rfl (WideMaps.keyOf_string_mk Tryz.underlying9 HS.out) ?_; intro w3 hown3 hturn3; have d0' := hturn3.grown.cell (v := .slice A x.by_.length c) d0 (fun e => by injection e with e; have := HZ.out; simp at e; omega); have d1' := hturn3.grown.cell (v := .int .i64 x.syn) d1 (fun e => by injection e with e; have := HZ.out; simp at e; omega); replace hown3 := Lib.hid hown3; replace hturn3 := Lib.hid hturn3; clear d0 d1)
 obtain ⟨h1, h2, hs, hts, hx, ht⟩ := HA.out
 obtain ⟨k1, k2, k3⟩ := del_end H1.out H2.out hown3.out hturn3.out.grown
 have hxd : (s, x) ∈ E := findP_some hx
 have hix := (H2.out.each _ hxd).keep2 (T := fun k => k = b) (Only.of_grown hturn3.out.grown (fun k hk => by injection hk with hk; exact hk.symm)) (fun k hk e => ((H2.out.each _ hxd).S k hk).2.2 (by rw [e]))
 have K3 := Lib.hid ((Step.of_below S HB3.out).trans k3)
 refine (dput_any _ (x := ⟨.slice A x.by_.length c, x.by_, x.syn⟩) k1 (k2.del t) ?_ ?_ ?_ hts).mono ?_
 ·exact ⟨HV.out ▸ hix.own, hix.syn, hix.ok, hix.max, HV.out ▸ hix.S⟩
 ·intro p hp
  have hp1 := mem_delP.1 (mem_delP.1 hp).1
  have := H2.out.apart _ hxd p hp1.1 (fun e => hp1.2 e.symm)
  unfold Far at this ⊢
  rw [HV.out] at this
  exact this
 ·have := putP_length_le (delP E s) t (⟨.slice A x.by_.length c, x.by_, x.syn⟩ : Ent)
  have h4 := delP_length_lt hx
  have := h1.few
  omega
 rintro e w4 ⟨rfl, S', mo', l1, l2, l3⟩
 have L1 := Lib.hid l1
 have L2 := Lib.hid l2
 have L3 := Lib.hid l3
 clear l1 l2 l3 k1 k2 k3 hix h1 h2 hs hts hx ht
 go_wp2
 go_ret
 exact ⟨rfl, S', ⟨_, mo', by rw [mapS_put, mapS_del]; rfl, L1.out, L2.out⟩, K3.out.trans L3.out⟩
theorem ownsRow_take {w : World} {base : Nat} {e : TypeId} {n k c : Nat} {A : Option Addr} {xs : List Value} (h : w.ownsRow base e 1 (.slice A n c) n xs) (hk : k ≤ n) : w.ownsRow base e 1 (.slice A k c) k (xs.take k) := by
 have hl := h.1
 refine ⟨by rw [List.length_take]; omega, ?_⟩
 rcases h.2 with ⟨e1, e2⟩ | ⟨g, cap, cur, e1, h1, h2, h3, h4, h5, h6⟩
 ·injection e1 with e1 e2 e3
  subst e1 e2 e3
  obtain rfl : k = 0 := by omega
  exact .inl ⟨rfl, rfl⟩
 ·injection e1 with e1 e2 e3
  subst e1 e3
  refine .inr ⟨g, _, cur, rfl, h1, h2, by omega, h4, h5, ?_⟩
  rw [← h6, List.take_take]
  congr 1
  omega
def cutF (f : Fl) (k : Nat) : Fl := ⟨f.by_.take k, min f.syn k⟩
set_option maxRecDepth 100000 in
set_option maxHeartbeats 400000 in
theorem cut_some {S : Nat → Prop} {g : Nat} {L : List (ByteArray × Fl)} {wr sy : Nat} {s : ByteArray} {f : Fl} (k : Nat) (w : World) (h : Disk w S g L wr sy) (hs : s.size ≤ maxLen) (hf : findP L s = some f) (hk : k ≤ f.by_.length) :
  Calls Tryz.prog 100 #[.pointer (some ⟨g, 0, none⟩), .string s, .int .i64 k] w fun e w' => e = .returned (.int .i64 0) ∧ Leaves w w' S g (putP L s (cutF f k)) wr sy := by
 obtain ⟨E, mo, rfl, h1, h2⟩ := h
 obtain ⟨x, hx, rfl⟩ := fl_some rfl hf
 have hix := h2.each _ (findP_some hx)
 obtain ⟨A, c, hv⟩ := ownB_slice hix.own
 have HC := Lib.hid (find_some w h1 h2 hs hx)
 have HV : Hid (x.v = .slice A x.by_.length c) := hv
 have HA := Lib.hid (⟨h1, h2, hs, hx, hix⟩ : DkM w S g mo E wr sy ∧ Files w S g mo E ∧ s.size ≤ maxLen ∧ findP E s = some x ∧ FileIs w S g mo x)
 have hkx : k ≤ x.by_.length := hk
 have hxm := hix.max
 have hxs := hix.syn
 clear hs h1 h2 hx hf hv hix hk
 go_enter Tryz.func100, Tryz.ntmps100
 go_wp2_with fail
 refine HC.out.mono ?_
 rintro e w1 ⟨rfl, hb⟩
 rw [HV.out]
 unfold fileV
 have hb2 := (hb.trans (((Below.refl w.heap.size w1).alloc hb.size (.cells #[.slice A x.by_.length c, .int .i64 x.syn] 126))))
 have HB2 := Lib.hid hb2
 have hkc : (k : Int) ≤ c := by
  have ho := HA.out.2.2.2.2.own
  rw [HV.out] at ho
  rcases ho.2 with ⟨e1, e2⟩ | ⟨g', cap, cur, e1, _, _, h3, _⟩
  ·omega
  ·injection e1 with _ _ e3; omega
 have hd1 : decide ((k : Int) < 0) = false := decide_eq_false (by omega)
 have hd2 : decide (x.by_.length < k) = false := decide_eq_false (by omega)
 clear hb hb2
 obtain ⟨y, hy⟩ : ∃ y : Nat, y = min x.syn k := ⟨_, rfl⟩
 have hmin : ∀ (ts : Array TypeId) (t : TypeId) (w : World), (Builtin.min_ ts t #[.int .i64 x.syn, .int .i64 k]).run Tryz.prog w = .ok (.int .i64 y) w := fun ts t w => by
  rw [run_min_int2, hy]
  split <;> rename_i h' <;> congr 2 <;> omega
 have HY := Lib.hid hy
 have HK := Lib.hid hkx
 clear hy hkx
 go_wp2
 have hb2 := HB2.out
 have d0 : (w1.alloc (.cells #[.slice A x.by_.length c, .int .i64 x.syn] 126)).cell? ⟨w1.heap.size, 0, none⟩ = some (.slice A x.by_.length c) := by rw [World.cell?_alloc_at _ _ _ _ rfl]; rfl
 have d1 : (w1.alloc (.cells #[.slice A x.by_.length c, .int .i64 x.syn] 126)).cell? ⟨w1.heap.size, 1, none⟩ = some (.int .i64 x.syn) := by rw [World.cell?_alloc_at _ _ _ _ rfl]; rfl
 have HB3 := Lib.hid hb2
 clear hb2 HB2
 generalize (w1.alloc (.cells #[.slice A x.by_.length c, .int .i64 x.syn] 126)) = W1 at *
 have hput : ∀ w2, Below w.heap.size w w2 → Calls Tryz.prog 50 #[.pointer (some ⟨g, 0, none⟩), .string s, .agg #[.slice A k c, .int .i64 y]] w2 fun e w' => e = .returned (.tuple #[]) ∧ ∃ S' mo', DkM w' S' g mo' (putP E s ⟨.slice A k c, x.by_.take k, y⟩) wr sy ∧ Files w' S' g mo' (putP E s ⟨.slice A k c, x.by_.take k, y⟩) ∧ Step w2 S w' S' := fun w2 hw2 => by
  obtain ⟨h1, h2, hs, hx, hix⟩ := HA.out
  have hlen : (x.by_.take k).length = k := by rw [List.length_take]; have := HK.out; omega
  refine dput_any (x := ⟨.slice A k c, x.by_.take k, y⟩) w2 (h1.below hw2) ((h2.del s).below hw2) ⟨?_, ?_, ?_, ?_, ?_⟩ ?_ ?_ hs
  ·have := ownsRow_take (HV.out ▸ (hix.below hw2).own) HK.out
   show World.ownsRow _ _ _ _ _ (x.by_.take k).length _
   rw [hlen]
   unfold cellsB at this ⊢
   rw [List.map_take]
   exact this
  ·show y ≤ (x.by_.take k).length
   rw [hlen, HY.out]; omega
  ·exact hix.ok.take k
  ·show (x.by_.take k).length ≤ _
   rw [hlen]; have := HK.out; omega
  ·have := hix.S
   rw [HV.out] at this
   cases A <;> exact this
  ·intro p hp
   have := h2.apart_del hx p hp
   unfold Far at this ⊢
   rw [HV.out] at this
   cases A <;> exact this
  ·exact Nat.le_trans (putP_length_some hx _) h1.few
 have HP := Lib.hid hput
 have hsl : ∀ w : World, (Instr.sliceAt 77 (.slice A x.by_.length c) none (some (.int .i64 k)) none).run Tryz.prog w = .ok (.slice A k c) w := fun w => by
  have hu : Tryz.prog.underlying 77 = some (.slice (Tryz.prog.elem 77)) := by kernel_rfl
  have hz : (sizeOf (Tryz.prog.elem 77)).run Tryz.prog w = .ok 1 w := by kernel_rfl
  rw [run_sliceAt_slice _ _ _ _ _ _ hu, run_slice_h _ _ _ _ _ hu .i64 (k : Int) (by omega) hkc, hz]
  cases A <;> simp [Result.andThen, sliced, Addr.add]
 clear hput HK hkc
 go_region_with ((go_at_call 50; (with_reducible refine (HP.out _ HB3.out.drew).mono ?_); rintro e w2 ⟨rfl, S', mo', l1, l2, l3⟩))
 all_goals
  have L1 := Lib.hid l1
  have L2 := Lib.hid l2
  have L3 := Lib.hid l3
  clear l1 l2 l3
  go_wp2
  go_ret
  refine ⟨rfl, S', ⟨_, mo', ?_, L1.out, L2.out⟩, (Step.of_below S HB3.out.drew).trans L3.out⟩
  rw [mapS_put, HY.out]
  rfl
set_option maxRecDepth 100000 in
set_option maxHeartbeats 400000 in
theorem sclone_any (A : Option Addr) (n c : Nat) (l : List Nat) (w : World) (B : Nat) (hn : n = l.length) (hA : A = none → n = 0) (hm : n ≤ 140737488351232) (hr : RdB w B A l) (hB : B ≤ w.heap.size) :
  Calls Tryz.prog 65 #[.slice A n c] w fun e w' => ∃ v, e = .returned v ∧ w'.ownsRow w.heap.size 5 1 v n (cellsB l) ∧ Below w.heap.size w w' ∧ (A = none → v = .slice none 0 0) := by
 obtain ⟨i0, hi, hz0, hz1, hz2⟩ := info_parts Tryz.infoB
 have q22 : ∀ (w : World) (a : Option Addr) (n c n' c' : Nat), (binOp .eql 77 (.slice a n c) (.slice none n' c')).run Tryz.prog w = .ok (.bool a.isNone) w := fun w a n c n' c' => Lib.run_eql_slice_nil w _ _ a n c n' c' Tryz.underlying77
 cases A with
 | none =>
   obtain rfl := hA rfl
   obtain rfl : l = [] := List.eq_nil_of_length_eq_zero hn.symm
   clear hm hn hA hr
   go_enter Tryz.func65, Tryz.ntmps65
   go_wp2
   go_ret
   exact ⟨_, rfl, World.ownsRow_nil _ _ _ _, Below.refl _ _, fun _ => rfl⟩
 | some a =>
   have hs1 : Src (w.alloc (.cells #[] 5)) (some a) n 1 (cellsB l) := src_of_rdB (hr.below (((Below.refl _ w).alloc (Nat.le_refl _) _).mono hB)) hn
   have HS := Lib.hid hs1
   have Hm := Lib.hid hm
   clear hs1 hr hA hn hm
   go_enter Tryz.func65, Tryz.ntmps65
   go_wp2_with (at_builtin; refine wpList_append_src (base := w.heap.size) rfl _ _ rfl Tryz.underlying77 hi hz0 hz1 hz2 rfl (by decide) rfl (World.ownsRow_made _ #[] 0 (Nat.le_refl _) (Nat.zero_le _) rfl) rfl HS.out (cellsB_one _) (by have := Hm.out; unfold maxLen; omega) (by have := Hm.out; omega) (by simp) ?_; intro v1 w1 hr1 hg1 hb1; replace hb1 : Below w.heap.size w w1 := ((Below.refl _ w).alloc (Nat.le_refl _) _).grown hg1 (by simp) (fun q hq => by cases hq; exact Nat.le_refl _); replace hr1 := Lib.hid hr1; clear hg1)
   go_ret
   have h := hr1.out
   rw [Nat.zero_add, List.nil_append] at h
   exact ⟨_, rfl, h, hb1, fun h => nomatch h⟩
theorem rdB_of_own {w : World} {base : Nat} {e : TypeId} {A : Option Addr} {n c : Nat} {l : List Nat} (h : w.ownsRow base e 1 (.slice A n c) n (cellsB l)) : RdB w w.heap.size A l ∧ n = l.length ∧ (A = none → n = 0) := by
 refine ⟨RdB.of_own h, ?_, ?_⟩
 ·have := h.1; rw [cellsB_length] at this; omega
 ·intro hA
  rcases h.2 with ⟨_, e2⟩ | ⟨g, cap, cur, e1, _⟩
  ·exact e2
  ·injection e1 with e1; rw [hA] at e1; cases e1
set_option maxRecDepth 100000 in
set_option maxHeartbeats 400000 in
theorem read_some {S : Nat → Prop} {g : Nat} {L : List (ByteArray × Fl)} {wr sy : Nat} {s : ByteArray} {f : Fl} (w : World) (h : Disk w S g L wr sy) (hs : s.size ≤ maxLen) (hf : findP L s = some f) :
  Calls Tryz.prog 83 #[.pointer (some ⟨g, 0, none⟩), .string s] w fun e w' => ∃ v, e = .returned (.tuple #[v, .int .i64 0]) ∧ w'.ownsRow w.heap.size 5 1 v f.by_.length (cellsB f.by_) ∧ Below w.heap.size w w' := by
 obtain ⟨E, mo, rfl, h1, h2⟩ := h
 obtain ⟨x, hx, rfl⟩ := fl_some rfl hf
 have hix := h2.each _ (findP_some hx)
 obtain ⟨A, c, hv⟩ := ownB_slice hix.own
 have hxm := hix.max
 have HC := Lib.hid (find_some w h1 h2 hs hx)
 have HV : Hid (x.v = .slice A x.by_.length c) := hv
 have hxo := hix.own
 rw [hv] at hxo
 have HO := Lib.hid hxo
 clear hs h1 h2 hx hf hv hix hxo
 go_enter Tryz.func83, Tryz.ntmps83
 go_wp2_with fail
 refine HC.out.mono ?_
 rintro e w1 ⟨rfl, hb⟩
 rw [HV.out]
 unfold fileV
 have hb2 := (hb.trans (((Below.refl w.heap.size w1).alloc hb.size (.cells #[.slice A x.by_.length c, .int .i64 x.syn] 126))))
 have HB2 := Lib.hid hb2
 clear hb hb2
 go_wp2_with fail
 obtain ⟨r1, r2, r3⟩ := rdB_of_own (ownB_below HO.out HB2.out)
 refine (sclone_any A x.by_.length c x.by_ _ _ r2 r3 (by omega) r1 (Nat.le_refl _)).mono ?_
 rintro e w2 ⟨v, rfl, o1, o2, _⟩
 have O1 := Lib.hid o1
 have O2 := Lib.hid o2
 clear o1 o2 r1 r2 r3
 go_wp2
 go_ret2
 exact ⟨v, rfl, ownB_mono O1.out (by have := HB2.out.size; simpa using this), HB2.out.trans (O2.out.mono HB2.out.size)⟩
set_option maxRecDepth 100000 in
set_option maxHeartbeats 400000 in
theorem read_of {P0 : Value} {k : Int} (s : ByteArray) (w : World) (hc : Calls Tryz.prog 121 #[P0, .string s] w fun e w' => e = .returned (.tuple #[fileV (.slice none 0 0) 0, .int .i64 k]) ∧ Below w.heap.size w w') :
  Calls Tryz.prog 83 #[P0, .string s] w fun e w' => e = .returned (.tuple #[.slice none 0 0, .int .i64 k]) ∧ Below w.heap.size w w' := by
 have HC := Lib.hid hc
 clear hc
 go_enter Tryz.func83, Tryz.ntmps83
 go_wp2_with fail
 refine HC.out.mono ?_
 rintro e w1 ⟨rfl, hb⟩
 unfold fileV
 have hb2 := (hb.trans (((Below.refl w.heap.size w1).alloc hb.size (.cells #[.slice none 0 0, .int .i64 0] 126))))
 have HB2 := Lib.hid hb2
 clear hb hb2
 go_wp2_with fail
 refine (sclone_any none 0 0 [] _ 0 rfl (fun _ => rfl) (by omega) RdB.empty (Nat.zero_le _)).mono ?_
 rintro e w2 ⟨v, rfl, _, o2, o3⟩
 obtain rfl := o3 rfl
 have O2 := Lib.hid o2
 clear o2 o3
 go_wp2
 go_ret2
 exact ⟨rfl, HB2.out.trans (O2.out.mono HB2.out.size)⟩
theorem read_none {S : Nat → Prop} {g : Nat} {L : List (ByteArray × Fl)} {wr sy : Nat} {s : ByteArray} (w : World) (h : Disk w S g L wr sy) (hs : s.size ≤ maxLen) (hf : findP L s = none) :
  Calls Tryz.prog 83 #[.pointer (some ⟨g, 0, none⟩), .string s] w fun e w' => e = .returned (.tuple #[.slice none 0 0, .int .i64 14]) ∧ Below w.heap.size w w' := by
 obtain ⟨E, mo, hE, h1, _⟩ := h
 exact read_of s w (find_none w h1 hs (fl_none hE hf))
set_option maxRecDepth 100000 in
set_option maxHeartbeats 400000 in
theorem loose_some {S : Nat → Prop} {g : Nat} {L : List (ByteArray × Fl)} {wr sy : Nat} {s : ByteArray} {f : Fl} (w : World) (h : Disk w S g L wr sy) (hs : s.size ≤ maxLen) (hf : findP L s = some f) :
  Calls Tryz.prog 89 #[.pointer (some ⟨g, 0, none⟩), .string s] w fun e w' => e = .returned (.int .i64 ((f.by_.length - f.syn : Nat) : Int)) ∧ Below w.heap.size w w' := by
 obtain ⟨E, mo, rfl, h1, h2⟩ := h
 obtain ⟨x, hx, rfl⟩ := fl_some rfl hf
 have hix := h2.each _ (findP_some hx)
 obtain ⟨A, c, hv⟩ := ownB_slice hix.own
 have hxm := hix.max
 have hxs := hix.syn
 have HC := Lib.hid (find_some w h1 h2 hs hx)
 have HV : Hid (x.v = .slice A x.by_.length c) := hv
 clear hs h1 h2 hx hf hv hix
 go_enter Tryz.func89, Tryz.ntmps89
 go_wp2_with fail
 refine HC.out.mono ?_
 rintro e w1 ⟨rfl, hb⟩
 rw [HV.out]
 unfold fileV
 have hb2 := (hb.trans (((Below.refl w.heap.size w1).alloc hb.size (.cells #[.slice A x.by_.length c, .int .i64 x.syn] 126))))
 have HB2 := Lib.hid hb2
 clear hb hb2
 go_wp2
 go_ret
 refine ⟨?_, HB2.out⟩
 show Ending.returned (.int .i64 _) = .returned (.int .i64 ((x.by_.length - x.syn : Nat) : Int))
 congr 2
 omega
end Go.Proofs.YtholdcgkhicdmaaGreatDoor