/- Layer 6: Append of a disk. -/
import Derived.Test.YtgcfofnlgdfmoaaDkSync
import Derived.Test.YtgcfofnlgdfmoaaWords
namespace Go.Proofs.Ytgcfofnlgdfmoaa
open Go.RowKit Go.Maps

section
variable {w w' : World} {S T : Nat → Prop} {g wr sy : Nat} {E : Ents} {s : ByteArray} {mo : Option Nat}
theorem DkM.keep2 (h : DkM w S g mo E wr sy) (ho : Only T w w') (hg : ¬ T g) (hm : ∀ b, mo = some b → ¬ T b) : DkM w' S g mo E wr sy :=
  ⟨h.gS, fun k hk => Nat.lt_of_lt_of_le (h.lt k hk) ho.size, (ho.cell (p := ⟨g, 0, none⟩) (h.lt g h.gS) hg).trans h.c0, (ho.cell (p := ⟨g, 1, none⟩) (h.lt g h.gS) hg).trans h.c1,
    (ho.cell (p := ⟨g, 2, none⟩) (h.lt g h.gS) hg).trans h.c2, fun o => (ho.frozen (p := ⟨g, o, none⟩) (h.lt g h.gS) hg).trans (h.fz o), by
      rcases h.mp with h' | ⟨b, h1, h2, h3, h4⟩
      · exact .inl h'
      · exact .inr ⟨b, h1, h2, h3, ho.ownsMap h4 (hm b h1)⟩, h.rise, h.few⟩
theorem FileIs.keep2 {x : Ent} (h : FileIs w S g mo x) (ho : Only T w w') (hn : ∀ k, x.v.ownBlock = some k → ¬ T k) : FileIs w' S g mo x := ⟨ho.own h.own hn, h.syn, h.ok, h.max, h.S⟩
theorem Files.keep2 (h : Files w S g mo E) (ho : Only T w w') (hn : ∀ p ∈ E, ∀ k, p.2.v.ownBlock = some k → ¬ T k) : Files w' S g mo E :=
  ⟨fun p hp => ⟨ho.own (h.each p hp).own (hn p hp), (h.each p hp).syn, (h.each p hp).ok, (h.each p hp).max, (h.each p hp).S⟩, h.apart⟩
end
theorem ent0_is {w : World} {S : Nat → Prop} {g : Nat} {mo : Option Nat} : FileIs w S g mo ⟨.slice none 0 0, [], 0⟩ :=
  ⟨World.ownsRow_nil _ _ _ _, Nat.le_refl _, OkB.nil, Nat.zero_le _, fun k hk => by simp [Value.ownBlock] at hk⟩

/-- behind the append, and the store into the box -/
theorem append_mid {S : Nat → Prop} {g : Nat} {mo : Option Nat} {E : Ents} {wr sy : Nat} {s : ByteArray} {x : Ent} {l : List Nat} {m : Nat} {w1 w2 : World} {o : Obj} {v' : Value} (h : DkM w1 S g mo E wr sy) (h2 : Files w1 S g mo E) (hix : FileIs w1 S g mo x)
    (hfe : ∀ p ∈ delP E s, Far x p.2) (hg2 : (w1.alloc o).grownBy w2 x.v.ownBlock) (hb2 : v'.ownBlock = x.v.ownBlock ∨ v'.ownBlock = some (w1.heap.size + 1)) (hr2 : w2.ownsRow 0 5 1 v' (x.by_.length + m) (cellsB x.by_ ++ cellsB l))
    (hm : m = l.length) (hok : OkB l) (hmax : x.by_.length + m ≤ 1048576) (u : Value) :
    ∃ S1, DkM (w2.setCell ⟨w1.heap.size, 0, none⟩ u) S1 g mo E wr sy ∧ Files (w2.setCell ⟨w1.heap.size, 0, none⟩ u) S1 g mo (delP E s) ∧ FileIs (w2.setCell ⟨w1.heap.size, 0, none⟩ u) S1 g mo ⟨v', x.by_ ++ l, x.syn⟩ ∧
      (∀ p ∈ delP E s, Far ⟨v', x.by_ ++ l, x.syn⟩ p.2) ∧ Step w1 S (w2.setCell ⟨w1.heap.size, 0, none⟩ u) S1 := by
  have hb1 := (Below.refl w1.heap.size w1).alloc (Nat.le_refl _) o
  have hz1 : (w1.alloc o).heap.size = w1.heap.size + 1 := by simp
  have hon : Only (fun k => some k = x.v.ownBlock) w1 (w2.setCell ⟨w1.heap.size, 0, none⟩ u) :=
    ((Only.of_below hb1 _).trans (Only.of_grown (T := fun k => some k = x.v.ownBlock) hg2 (fun k hk => hk.symm)) (fun _ h => .inl h)).trans (Only.setCell (T := fun k => k = w1.heap.size) w2 _ u rfl) (fun i hi => .inr (Nat.le_of_eq hi.symm))
  have hsz : w1.heap.size + 1 ≤ w2.heap.size := by have := hg2.size; omega
  have hsz3 : (w2.setCell ⟨w1.heap.size, 0, none⟩ u).heap.size = w2.heap.size := by simp [World.setCell]
  have hS1 : ∀ k, (S k ∨ (w1.heap.size ≤ k ∧ k < w2.heap.size)) → k < (w2.setCell ⟨w1.heap.size, 0, none⟩ u).heap.size := fun k hk => by
    rw [hsz3]
    rcases hk with hk | hk
    · have := h.lt k hk; omega
    · exact hk.2
  have hv' : ∀ k, v'.ownBlock = some k → (S k ∨ (w1.heap.size ≤ k ∧ k < w2.heap.size)) ∧ k ≠ g ∧ some k ≠ mo ∧ k ≠ w1.heap.size := fun k hk => by
    have hgl := h.lt g h.gS
    rcases hb2 with hb2 | hb2
    · rw [hb2] at hk
      have h' := hix.S k hk
      have := h.lt k h'.1
      exact ⟨.inl h'.1, h'.2.1, h'.2.2, by omega⟩
    · rw [hb2] at hk
      injection hk with hk
      have hk2 := (hr2.lt k (by rw [hb2, hk])).2
      refine ⟨.inr ⟨by omega, hk2⟩, by omega, fun e => ?_, by omega⟩
      rcases h.mp with ⟨e', _⟩ | ⟨b, e', hb, _⟩
      · rw [e'] at e; cases e
      · rw [e'] at e; injection e with e; have := h.lt b hb; omega
  refine ⟨fun k => S k ∨ (w1.heap.size ≤ k ∧ k < w2.heap.size), (h.keep2 hon (fun e => (hix.S g e.symm).2.1 rfl) (fun b hb e => (hix.S b e.symm).2.2 hb.symm)).more (fun _ h => .inl h) hS1,
    ((h2.del s).keep2 hon (fun p hp k hk e => ?_)).more (fun _ h => .inl h), ⟨?_, ?_, ?_, ?_, fun k hk => ⟨(hv' k hk).1, (hv' k hk).2.1, (hv' k hk).2.2.1⟩⟩, fun p hp => ?_, hon.mono (fun k hk => (hix.S k hk.symm).1), fun k hk => ?_⟩
  · rcases hfe p hp with h' | h'
    · rw [h'] at e; cases e
    · exact h' (e.symm.trans hk.symm)
  · have h3 := (Only.setCell (T := fun k => k = w1.heap.size) w2 ⟨w1.heap.size, 0, none⟩ u rfl).own hr2 (fun k hk => (hv' k hk).2.2.2)
    rw [← cellsB_append] at h3
    show World.ownsRow _ _ _ _ _ (x.by_ ++ l).length _
    rw [List.length_append, ← hm]
    exact h3
  · show x.syn ≤ (x.by_ ++ l).length
    rw [List.length_append]; have := hix.syn; omega
  · exact hix.ok.append hok
  · show (x.by_ ++ l).length ≤ _
    rw [List.length_append, ← hm]; exact hmax
  · rcases hb2 with hb2 | hb2
    · have := hfe p hp
      unfold Far at this ⊢
      rw [hb2]
      exact this
    · refine .inr (fun e => ?_)
      have e2 : p.2.v.ownBlock = some (w1.heap.size + 1) := by rw [← hb2]; exact e.symm
      have := h.lt _ ((h2.each p (mem_delP.1 hp).1).S _ e2).1
      omega
  · rcases hk with hk | hk
    · exact .inl hk
    · exact .inr hk.1

set_option maxRecDepth 100000 in
set_option maxHeartbeats 400000 in
theorem append_core {S : Nat → Prop} {g : Nat} {mo : Option Nat} {E : Ents} {wr sy : Nat} {s : ByteArray} {x : Ent} {B : Option Addr} {m d : Nat} {l : List Nat} (w : World) (h : DkM w S g mo E wr sy) (h2 : Files w S g mo E)
    (hv : valueB s = true) (hs : s.size ≤ maxLen) (hix : FileIs w S g mo x) (hfe : ∀ p ∈ delP E s, Far x p.2) (hl : lookE E s = x.val) (b : Bool) (hb : (findP E s).isSome = b) (hfew : b = false → E.length < 64)
    (hm : m = l.length) (hok : OkB l) (hmax : x.by_.length + m ≤ 1048576) (hr : RdB w w.heap.size B l) (hwr : wr ≤ 1000000) (hfew2 : ∀ y : Ent, (putP E s y).length ≤ 64) :
    Calls Try.prog 42 #[.pointer (some ⟨g, 0, none⟩), .string s, .slice B m d] w fun e w' => e = .returned (.int .i64 0) ∧
      ∃ S' mo' v', DkM w' S' g mo' (putP E s ⟨v', x.by_ ++ l, x.syn⟩) (wr + 1) sy ∧ Files w' S' g mo' (putP E s ⟨v', x.by_ ++ l, x.syn⟩) ∧ Step w S w' S' := by
  obtain ⟨i0, hi, hz0, hz1, hz2⟩ := info_parts Try.infoB
  obtain ⟨A, c, hxv⟩ := ownB_slice hix.own
  have HA := Lib.hid (⟨h, h2, hix, hr, hv, hs, hfe, hl, hb, hm, hok, hfew2⟩ : DkM w S g mo E wr sy ∧ Files w S g mo E ∧ FileIs w S g mo x ∧ RdB w w.heap.size B l ∧ valueB s = true ∧ s.size ≤ maxLen ∧ (∀ p ∈ delP E s, Far x p.2) ∧ lookE E s = x.val ∧ (findP E s).isSome = b ∧ m = l.length ∧ OkB l ∧ (∀ y : Ent, (putP E s y).length ≤ 64))
  have HXv : Hid (x.v = .slice A x.by_.length c) := hxv
  clear h h2 hix hr hv hs hfe hl hb hm hok hfew2 hxv
  go_enter Try.func42, Try.ntmps42
  go_wp2_with fail
  refine (value_any s w).mono ?_
  rintro e w1 ⟨rfl, hbv⟩
  obtain ⟨h, h2, hix, hr, hv, hs, hfe, hl, hb, hm, hok, hfew2⟩ := HA.out
  rw [hv]
  have HBv := Lib.hid hbv
  replace h := h.below hbv
  replace h2 := h2.below hbv
  replace hix := hix.below hbv
  replace hr := (hr.below hbv).more hbv.size
  clear hbv
  have c0 := h.c0
  have hgl := h.lt g h.gS
  have hb1 := (Below.refl w1.heap.size w1).alloc (Nat.le_refl _) (.cells #[.slice A x.by_.length c, .int .i64 x.syn] 126)
  have HB1 := Lib.hid hb1
  have HM := Lib.hid h.mp
  have HLen := fun ty => (h.below hb1).mp.len ty
  have HSrc := Lib.hid (src_of_rdB (hr.below hb1) hm)
  have H1 := Lib.hid h
  have H2 := Lib.hid h2
  have HV := Lib.hid hv
  have HS := Lib.hid hs
  have HI := Lib.hid hix
  have HFe := Lib.hid hfe
  have HLk := Lib.hid hl
  have HOk := Lib.hid hok
  have HF2 := Lib.hid hfew2
  have HMl := Lib.hid hm
  have hxo : w1.ownsRow 0 5 1 (.slice A x.by_.length c) x.by_.length (cellsB x.by_) := by have := hix.own; rw [HXv.out] at this; exact this
  have HXo := Lib.hid hxo
  have hxs := hix.S
  rw [HXv.out] at hxs
  have HXs := Lib.hid hxs
  have hxlt := HXo.out.lt
  have HXlt := Lib.hid hxlt
  clear h h2 hv hs hix hfe hl hr hok hm hb1 hxo hfew2 HA hxs hxlt
  cases b with
  | true =>
    have HBb := Lib.hid hb
    clear hb hfew HLen
    go_wp2_with (first
      | (at_lookup; refine wpList_look_ok rfl _ _ rfl rfl rfl HM.out HS.out (v := fileV (.slice A x.by_.length c) x.syn) (b := true) (by rw [HLk.out, Ent.val, HXv.out]) HBb.out ?_; unfold fileV)
      | (at_builtin; refine wpList_append_src (base := 0) rfl _ _ rfl Try.underlying37 hi hz0 hz1 hz2 rfl (by decide) rfl (HXo.out.alloc _) rfl HSrc.out (cellsB_one _) (by unfold maxLen; omega) (by omega) (by simp) ?_; intro v2 w2 hr2 hg2 hb2; obtain ⟨A2, c2, rfl⟩ := ownB_slice hr2; have d0 := (hg2.cell_far ⟨w1.heap.size, 0, none⟩ (by simp) (fun e => by have := (HXlt.out _ e.symm).2; simp at this)).trans ((World.cell?_alloc_at _ _ _ _ rfl).trans rfl); have d1 := (hg2.cell_far ⟨w1.heap.size, 1, none⟩ (by simp) (fun e => by have := (HXlt.out _ e.symm).2; simp at this)).trans ((World.cell?_alloc_at _ _ _ _ rfl).trans rfl); have df := (hg2.frozen_far ⟨w1.heap.size, 0, none⟩ (by simp) (fun e => by have := (HXlt.out _ e.symm).2; simp at this)).trans (World.frozen?_alloc_at _ _ _ _ rfl); replace hb2 : Hid ((Value.slice A2 (x.by_.length + m) c2).ownBlock = (Value.slice A x.by_.length c).ownBlock ∨ (Value.slice A2 (x.by_.length + m) c2).ownBlock = some (w1.heap.size + 1)) := hb2.imp id (fun e => e.trans (congrArg some (World.size_alloc _ _))); replace hg2 : Hid ((w1.alloc (.cells #[.slice A x.by_.length c, .int .i64 x.syn] 126)).grownBy w2 (Value.slice A x.by_.length c).ownBlock) := Lib.hid hg2; replace hr2 := Lib.hid hr2))
    have hap := append_mid H1.out H2.out HI.out HFe.out (by rw [HXv.out]; exact hg2.out) (by rw [HXv.out]; exact hb2.out) hr2.out HMl.out HOk.out hmax (.slice A2 (x.by_.length + m) c2)
    obtain ⟨S1, k1, k2, k3, k4, k5⟩ := hap
    have K5 := Lib.hid k5
    refine (put_any _ (x := ⟨.slice A2 (x.by_.length + m) c2, x.by_ ++ l, x.syn⟩) k1 k2 k3 k4 (HF2.out _) HS.out).mono ?_
    rintro e w3 ⟨rfl, S', mo', h1, h2, h3⟩
    have c1 := h1.c1
    have f1 := h1.fz 1
    have hgl3 := h1.lt g h1.gS
    have L1 := Lib.hid h1
    have L2 := Lib.hid h2
    have L3 := Lib.hid h3
    clear h1 h2 h3 k1 k2 k3 k4 k5 hgl
    go_wp2
    go_ret
    exact ⟨rfl, S', mo', _, L1.out.setWr (wr + 1), L2.out.setG _ _, (((Step.of_below S HBv.out).trans K5.out).trans L3.out).setG L1.out.gS _ _⟩
  | false =>
    have HBb := Lib.hid hb
    have hE : ((E.length : Int) == 64) = false := by have := hfew rfl; rw [beq_eq_false_iff_ne]; omega
    clear hb hfew
    go_wp2_with (first
      | (at_lookup; refine wpList_look_ok rfl _ _ rfl rfl rfl HM.out HS.out (v := fileV (.slice A x.by_.length c) x.syn) (b := false) (by rw [HLk.out, Ent.val, HXv.out]) HBb.out ?_; unfold fileV)
      | (at_builtin; refine wpList_append_src (base := 0) rfl _ _ rfl Try.underlying37 hi hz0 hz1 hz2 rfl (by decide) rfl (HXo.out.alloc _) rfl HSrc.out (cellsB_one _) (by unfold maxLen; omega) (by omega) (by simp) ?_; intro v2 w2 hr2 hg2 hb2; obtain ⟨A2, c2, rfl⟩ := ownB_slice hr2; have d0 := (hg2.cell_far ⟨w1.heap.size, 0, none⟩ (by simp) (fun e => by have := (HXlt.out _ e.symm).2; simp at this)).trans ((World.cell?_alloc_at _ _ _ _ rfl).trans rfl); have d1 := (hg2.cell_far ⟨w1.heap.size, 1, none⟩ (by simp) (fun e => by have := (HXlt.out _ e.symm).2; simp at this)).trans ((World.cell?_alloc_at _ _ _ _ rfl).trans rfl); have df := (hg2.frozen_far ⟨w1.heap.size, 0, none⟩ (by simp) (fun e => by have := (HXlt.out _ e.symm).2; simp at this)).trans (World.frozen?_alloc_at _ _ _ _ rfl); clear HLen hE; replace hb2 : Hid ((Value.slice A2 (x.by_.length + m) c2).ownBlock = (Value.slice A x.by_.length c).ownBlock ∨ (Value.slice A2 (x.by_.length + m) c2).ownBlock = some (w1.heap.size + 1)) := hb2.imp id (fun e => e.trans (congrArg some (World.size_alloc _ _))); replace hg2 : Hid ((w1.alloc (.cells #[.slice A x.by_.length c, .int .i64 x.syn] 126)).grownBy w2 (Value.slice A x.by_.length c).ownBlock) := Lib.hid hg2; replace hr2 := Lib.hid hr2))
    have hap := append_mid H1.out H2.out HI.out HFe.out (by rw [HXv.out]; exact hg2.out) (by rw [HXv.out]; exact hb2.out) hr2.out HMl.out HOk.out hmax (.slice A2 (x.by_.length + m) c2)
    obtain ⟨S1, k1, k2, k3, k4, k5⟩ := hap
    have K5 := Lib.hid k5
    refine (put_any _ (x := ⟨.slice A2 (x.by_.length + m) c2, x.by_ ++ l, x.syn⟩) k1 k2 k3 k4 (HF2.out _) HS.out).mono ?_
    rintro e w3 ⟨rfl, S', mo', h1, h2, h3⟩
    have c1 := h1.c1
    have f1 := h1.fz 1
    have hgl3 := h1.lt g h1.gS
    have L1 := Lib.hid h1
    have L2 := Lib.hid h2
    have L3 := Lib.hid h3
    clear h1 h2 h3 k1 k2 k3 k4 k5 hgl
    go_wp2
    go_ret
    exact ⟨rfl, S', mo', _, L1.out.setWr (wr + 1), L2.out.setG _ _, (((Step.of_below S HBv.out).trans K5.out).trans L3.out).setG L1.out.gS _ _⟩
end Go.Proofs.Ytgcfofnlgdfmoaa
