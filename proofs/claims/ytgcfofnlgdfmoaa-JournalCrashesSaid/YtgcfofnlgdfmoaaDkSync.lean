/- Layer 6: Sync, Remove, Read, Loose, Counts of a disk. -/
import Derived.Test.YtgcfofnlgdfmoaaDkOps
import Derived.Test.YtgcfofnlgdfmoaaBcl
namespace Go.Proofs.Ytgcfofnlgdfmoaa
open Go.RowKit Go.Maps

/-- a disk with these files, of these counts -/
def Disk (w : World) (S : Nat → Prop) (g : Nat) (L : List (ByteArray × Fl)) (wr sy : Nat) : Prop := ∃ E mo, mapS Ent.fl E = L ∧ DkM w S g mo E wr sy ∧ Files w S g mo E
section
variable {w w' : World} {S T : Nat → Prop} {g wr sy : Nat} {L : List (ByteArray × Fl)} {E : Ents} {s : ByteArray} {mo : Option Nat}
theorem Disk.keep (h : Disk w S g L wr sy) (ho : Only T w w') (hT : ∀ k, S k → ¬ T k) : Disk w' S g L wr sy :=
  let ⟨E, mo, h0, h1, h2⟩ := h; ⟨E, mo, h0, h1.keep ho hT, h2.keep ho hT⟩
theorem Disk.below (h : Disk w S g L wr sy) (hb : Below w.heap.size w w') : Disk w' S g L wr sy :=
  let ⟨E, mo, h0, h1, h2⟩ := h; ⟨E, mo, h0, h1.below hb, h2.below hb⟩
theorem Disk.new (w : World) : Disk (w.alloc (.cells #[.map none, .int .i64 0, .int .i64 0] 94)) (fun k => k = w.heap.size) w.heap.size [] 0 0 :=
  let ⟨mo, h1, h2⟩ := HasDk.new w; ⟨[], mo, rfl, h1, h2⟩
theorem fl_some {f : Fl} (hE : mapS Ent.fl E = L) (h : findP L s = some f) : ∃ x, findP E s = some x ∧ x.fl = f := by
  rw [← hE, mapS_find] at h
  cases e : findP E s with
  | none => rw [e] at h; cases h
  | some x => rw [e] at h; injection h with h; exact ⟨x, rfl, h⟩
theorem fl_none (hE : mapS Ent.fl E = L) (h : findP L s = none) : findP E s = none := by
  rw [← hE, mapS_find] at h
  cases e : findP E s with
  | none => rfl
  | some x => rw [e] at h; cases h
theorem Files.apart_del {x : Ent} (h : Files w S g mo E) (hf : findP E s = some x) : ∀ p ∈ delP E s, Far x p.2 := fun p hp =>
  have hp' := mem_delP.1 hp
  h.apart _ (findP_some hf) p hp'.1 (fun e => hp'.2 e.symm)
theorem Files.del (h : Files w S g mo E) (s : ByteArray) : Files w S g mo (delP E s) := h.sub fun _ hp => (mem_delP.1 hp).1
theorem DkM.setWr (h : DkM w S g mo E wr sy) (k : Nat) : DkM (w.setCell ⟨g, 1, none⟩ (.int .i64 k)) S g mo E k sy :=
  ⟨h.gS, fun k hk => by simpa using h.lt k hk, (World.cell?_setCell_other _ _ _ _ (by simp)).trans h.c0, World.cell?_setCell_same _ _ _ h.c1, (World.cell?_setCell_other _ _ _ _ (by simp)).trans h.c2,
    fun o => by rw [World.frozen?_setCell]; exact h.fz o, by
      rcases h.mp with h' | ⟨b, h1, h2, h3, h4⟩
      · exact .inl h'
      · exact .inr ⟨b, h1, h2, h3, h4.setCell (a := ⟨g, 1, none⟩) h3 _⟩, h.rise, h.few⟩
theorem DkM.setSy (h : DkM w S g mo E wr sy) (k : Nat) : DkM (w.setCell ⟨g, 2, none⟩ (.int .i64 k)) S g mo E wr k :=
  ⟨h.gS, fun k hk => by simpa using h.lt k hk, (World.cell?_setCell_other _ _ _ _ (by simp)).trans h.c0, (World.cell?_setCell_other _ _ _ _ (by simp)).trans h.c1, World.cell?_setCell_same _ _ _ h.c2,
    fun o => by rw [World.frozen?_setCell]; exact h.fz o, by
      rcases h.mp with h' | ⟨b, h1, h2, h3, h4⟩
      · exact .inl h'
      · exact .inr ⟨b, h1, h2, h3, h4.setCell (a := ⟨g, 2, none⟩) h3 _⟩, h.rise, h.few⟩
theorem Files.setG (h : Files w S g mo E) (o : Nat) (u : Value) : Files (w.setCell ⟨g, o, none⟩ u) S g mo E :=
  ⟨fun p hp => ⟨(Only.setCell (T := fun k => k = g) w ⟨g, o, none⟩ u rfl).own (h.each p hp).own (fun k hk => ((h.each p hp).S k hk).2.1), (h.each p hp).syn, (h.each p hp).ok, (h.each p hp).max, (h.each p hp).S⟩, h.apart⟩
theorem Step.setG {w0 : World} {S0 : Nat → Prop} (h : Step w0 S0 w S) (hg : S g) (o : Nat) (u : Value) : Step w0 S0 (w.setCell ⟨g, o, none⟩ u) S :=
  h.trans ⟨Only.setCell _ _ _ hg, fun _ hk => .inl hk⟩
end
/-- what an operation that writes leaves -/
def Leaves (w w' : World) (S : Nat → Prop) (g : Nat) (L : List (ByteArray × Fl)) (wr sy : Nat) : Prop := ∃ S', Disk w' S' g L wr sy ∧ Step w S w' S'

set_option maxRecDepth 100000 in
set_option maxHeartbeats 400000 in
theorem sync_some {S : Nat → Prop} {g : Nat} {L : List (ByteArray × Fl)} {wr sy : Nat} {s : ByteArray} {f : Fl} (w : World) (h : Disk w S g L wr sy) (hs : s.size ≤ maxLen) (hf : findP L s = some f) (hsy : sy ≤ 1000000) :
    Calls Try.prog 40 #[.pointer (some ⟨g, 0, none⟩), .string s] w fun e w' => e = .returned (.int .i64 0) ∧ Leaves w w' S g (putP L s ⟨f.by_, f.by_.length⟩) wr (sy + 1) := by
  obtain ⟨E, mo, rfl, h1, h2⟩ := h
  obtain ⟨x, hx, rfl⟩ := fl_some rfl hf
  have hix := h2.each _ (findP_some hx)
  obtain ⟨A, c, hv⟩ := ownB_slice hix.own
  have hxl := hix.max
  have HS := Lib.hid hs
  have H1 := Lib.hid h1
  have H2 := Lib.hid h2
  have HX := Lib.hid hx
  have HV : Hid (x.v = .slice A x.by_.length c) := hv
  have HI := Lib.hid hix
  clear hs h1 h2 hx hf hix hv
  go_enter Try.func40, Try.ntmps40
  go_wp2_with fail
  refine (find_some w H1.out H2.out HS.out HX.out).mono ?_
  rintro e w1 ⟨rfl, hb⟩
  rw [HV.out]
  unfold fileV
  have HB := Lib.hid hb
  clear hb
  go_wp2_with fail
  have hb2 := HB.out.trans (((Below.refl w.heap.size w1).alloc HB.out.size (.cells #[.slice A x.by_.length c, .int .i64 x.by_.length] 126)))
  have hfe := Files.apart_del H2.out HX.out
  refine (put_any _ (x := ⟨.slice A x.by_.length c, x.by_, x.by_.length⟩) (H1.out.below hb2) ((H2.out.del s).below hb2) ?_ ?_ ?_ HS.out).mono ?_
  · have := HI.out.below hb2
    exact ⟨HV.out ▸ this.own, Nat.le_refl _, this.ok, this.max, HV.out ▸ this.S⟩
  · intro p hp
    have := hfe p hp
    unfold Far at this ⊢
    rw [HV.out] at this
    exact this
  · exact Nat.le_trans (putP_length_some HX.out _) H1.out.few
  rintro e w2 ⟨rfl, S', mo', h1, h2, h3⟩
  have c2 := h1.c2
  have f2 := h1.fz 2
  have hgl := h1.lt g h1.gS
  have K1 := Lib.hid h1
  have K2 := Lib.hid h2
  have K3 := Lib.hid h3
  have HB2 := Lib.hid hb2
  clear h1 h2 h3 hfe hb2
  go_wp2
  go_ret
  refine ⟨rfl, S', ⟨_, mo', ?_, K1.out.setSy (sy + 1), K2.out.setG _ _⟩, ((Step.of_below S HB2.out).trans K3.out).setG K1.out.gS _ _⟩
  rw [mapS_put]
  rfl
/-! errors -/
set_option maxRecDepth 100000 in
set_option maxHeartbeats 400000 in
theorem sync_none {S : Nat → Prop} {g : Nat} {L : List (ByteArray × Fl)} {wr sy : Nat} (s : ByteArray) (w : World) (h : Disk w S g L wr sy) (hs : s.size ≤ maxLen) (hf : findP L s = none) :
    Calls Try.prog 40 #[.pointer (some ⟨g, 0, none⟩), .string s] w fun e w' => e = .returned (.int .i64 14) ∧ Below w.heap.size w w' := by
  obtain ⟨E, mo, hE, h1, _⟩ := h
  have HC := Lib.hid (find_none w h1 hs (fl_none hE hf))
  clear h1 hs hf
  go_enter Try.func40, Try.ntmps40
  go_wp2_with fail
  refine HC.out.mono ?_
  rintro e w1 ⟨rfl, hb⟩
  have HB := Lib.hid hb
  clear hb
  unfold fileV
  go_wp2
  go_ret
  exact ⟨rfl, (HB.out.trans ((Below.refl _ _).alloc HB.out.size _))⟩
set_option maxRecDepth 100000 in
set_option maxHeartbeats 400000 in
theorem loose_none {S : Nat → Prop} {g : Nat} {L : List (ByteArray × Fl)} {wr sy : Nat} (s : ByteArray) (w : World) (h : Disk w S g L wr sy) (hs : s.size ≤ maxLen) (hf : findP L s = none) :
    Calls Try.prog 43 #[.pointer (some ⟨g, 0, none⟩), .string s] w fun e w' => e = .returned (.int .i64 0) ∧ Below w.heap.size w w' := by
  obtain ⟨E, mo, hE, h1, _⟩ := h
  have HC := Lib.hid (find_none w h1 hs (fl_none hE hf))
  clear h1 hs hf
  go_enter Try.func43, Try.ntmps43
  go_wp2_with fail
  refine HC.out.mono ?_
  rintro e w1 ⟨rfl, hb⟩
  have HB := Lib.hid hb
  clear hb
  unfold fileV
  go_wp2
  go_ret
  exact ⟨rfl, (HB.out.trans ((Below.refl _ _).alloc HB.out.size _))⟩
set_option maxRecDepth 100000 in
set_option maxHeartbeats 400000 in
theorem cut_none {S : Nat → Prop} {g : Nat} {L : List (ByteArray × Fl)} {wr sy : Nat} (z : Int) (s : ByteArray) (w : World) (h : Disk w S g L wr sy) (hs : s.size ≤ maxLen) (hf : findP L s = none) :
    Calls Try.prog 39 #[.pointer (some ⟨g, 0, none⟩), .string s, .int .i64 z] w fun e w' => e = .returned (.int .i64 14) ∧ Below w.heap.size w w' := by
  obtain ⟨E, mo, hE, h1, _⟩ := h
  have HC := Lib.hid (find_none w h1 hs (fl_none hE hf))
  clear h1 hs hf
  go_enter Try.func39, Try.ntmps39
  go_wp2_with fail
  refine HC.out.mono ?_
  rintro e w1 ⟨rfl, hb⟩
  have HB := Lib.hid hb
  clear hb
  unfold fileV
  go_wp2
  go_ret
  exact ⟨rfl, (HB.out.trans ((Below.refl _ _).alloc HB.out.size _))⟩
set_option maxRecDepth 100000 in
set_option maxHeartbeats 400000 in
theorem sync_nil (s : ByteArray) (w : World) :
    Calls Try.prog 40 #[.pointer none, .string s] w fun e w' => e = .returned (.int .i64 1) ∧ Below w.heap.size w w' := by
  have HC := Lib.hid (find_nil s w)
  go_enter Try.func40, Try.ntmps40
  go_wp2_with fail
  refine HC.out.mono ?_
  rintro e w1 ⟨rfl, hb⟩
  have HB := Lib.hid hb
  clear hb
  unfold fileV
  go_wp2
  go_ret
  exact ⟨rfl, (HB.out.trans ((Below.refl _ _).alloc HB.out.size _))⟩
set_option maxRecDepth 100000 in
set_option maxHeartbeats 400000 in
theorem loose_nil (s : ByteArray) (w : World) :
    Calls Try.prog 43 #[.pointer none, .string s] w fun e w' => e = .returned (.int .i64 0) ∧ Below w.heap.size w w' := by
  have HC := Lib.hid (find_nil s w)
  go_enter Try.func43, Try.ntmps43
  go_wp2_with fail
  refine HC.out.mono ?_
  rintro e w1 ⟨rfl, hb⟩
  have HB := Lib.hid hb
  clear hb
  unfold fileV
  go_wp2
  go_ret
  exact ⟨rfl, (HB.out.trans ((Below.refl _ _).alloc HB.out.size _))⟩
set_option maxRecDepth 100000 in
set_option maxHeartbeats 400000 in
theorem cut_nil (z : Int) (s : ByteArray) (w : World) :
    Calls Try.prog 39 #[.pointer none, .string s, .int .i64 z] w fun e w' => e = .returned (.int .i64 1) ∧ Below w.heap.size w w' := by
  have HC := Lib.hid (find_nil s w)
  go_enter Try.func39, Try.ntmps39
  go_wp2_with fail
  refine HC.out.mono ?_
  rintro e w1 ⟨rfl, hb⟩
  have HB := Lib.hid hb
  clear hb
  unfold fileV
  go_wp2
  go_ret
  exact ⟨rfl, (HB.out.trans ((Below.refl _ _).alloc HB.out.size _))⟩
end Go.Proofs.Ytgcfofnlgdfmoaa
