/- Layer 6: the document's own disk: Rename. -/
import Derived.Test.YtheojokfgndheaaDkRfSet
namespace Go.Proofs.Ytheojokfgndheaa
open Go.RowKit Go.Maps

theorem idx_has {R : List RE} {s : ByteArray} (h : idxR R s = none) : ∀ x ∈ R, x.s ≠ s := fun x hx e =>
  findP_none (idx_none h) x.fl (List.mem_map_of_mem hx) e
theorem del_del {α : Type} (l : List (ByteArray × α)) (s : ByteArray) : delP (delP l s) s = delP l s := by
  unfold delP; rw [List.filter_filter]; simp
theorem add_put {R : List RE} {f : RE} {a : Nat} (ha : a ≤ R.length) (hno : ∀ x ∈ R, x.s ≠ f.s) (hlo : ∀ j x, j < a → R[j]? = some x → ltS x.s f.s = true) (hhi : ∀ x, R[a]? = some x → ltS f.s x.s = true) :
    flsR (R.take a ++ [f] ++ R.drop a) = putP (flsR R) f.s ⟨f.by_, f.syn⟩ := by
  have hd : delP (flsR R) f.s = flsR R := List.filter_eq_self.2 fun p hp => by
    obtain ⟨x, hx, rfl⟩ := List.mem_map.1 hp
    rw [eqS_no (show x.fl.1 ≠ f.s from hno x hx)]; rfl
  unfold putP
  rw [hd, insP_at (x := (f.s, (⟨f.by_, f.syn⟩ : Fl))) (a := a) (by simpa [flsR] using ha) (fun j p hj hp => by
    rw [flsR, List.getElem?_map] at hp
    cases e : R[j]? with
    | none => rw [e] at hp; cases hp
    | some x => rw [e] at hp; injection hp with hp; subst hp; exact hlo j x hj e) (fun p hp => by
    rw [flsR, List.getElem?_map] at hp
    cases e : R[a]? with
    | none => rw [e] at hp; cases hp
    | some x => rw [e] at hp; injection hp with hp; subst hp; exact hhi x e)]
  simp [flsR, RE.fl]

set_option maxRecDepth 100000 in
set_option maxHeartbeats 1000000 in
theorem rrename_name {T : Nat → Prop} {m : Nat} {L : List (ByteArray × Fl)} {wr sy : Nat} {f : Fl} (t s : ByteArray) (w : World) (h : RfL w T m L wr sy) (hs : s.size ≤ maxLen) (ht : t.size ≤ maxLen) (hf : findP L s = some f) (hv : valueB t = false) :
    Calls Try.prog 17 #[.pointer (some ⟨m, 0, none⟩), .string s, .string t] w fun e w' => e = .returned (.int .i64 8) ∧ w = w' := by
  obtain ⟨v, R, rfl, h⟩ := h
  obtain ⟨i, x, hi, hx, rfl, rfl⟩ := idx_of hf
  have HC := Lib.hid (rfind_any x.s w h hs)
  have HV := Lib.hid (rvalue_any t ht w)
  rw [hi] at HC
  rw [hv] at HV
  have hi63 : decide ((i : Int) < 0) = false := decide_eq_false (by omega)
  clear h hs hf hi hx hv ht
  go_enter Try.func17, Try.ntmps17
  go_wp2_with fail
  refine HC.out.mono ?_
  rintro e w1 ⟨rfl, rfl⟩
  unfold idxI
  go_wp2_with fail
  refine HV.out.mono ?_
  rintro e w1 ⟨rfl, rfl⟩
  go_wp2
  go_ret
  exact ⟨rfl, rfl⟩

set_option maxRecDepth 100000 in
set_option maxHeartbeats 1000000 in
theorem rrename_some {T : Nat → Prop} {m : Nat} {L : List (ByteArray × Fl)} {wr sy : Nat} {f : Fl} (t s : ByteArray) (w : World) (h : RfL w T m L wr sy) (hr : Rising L) (hs : s.size ≤ maxLen) (ht : t.size ≤ maxLen) (hf : findP L s = some f) (hv : valueB t = true) :
    Calls Try.prog 17 #[.pointer (some ⟨m, 0, none⟩), .string s, .string t] w fun e w' => e = .returned (.int .i64 0) ∧ RLeaves w w' T m (putP (delP L s) t f) wr sy := by
  obtain ⟨v, R, rfl, h⟩ := h
  obtain ⟨i, x, hi, hx, rfl, rfl⟩ := idx_of hf
  have HC := Lib.hid (rfind_any x.s w h hs)
  have HV := Lib.hid (rvalue_any t ht w)
  rw [hi] at HC
  rw [hv] at HV
  have hil := (List.getElem?_eq_some_iff.1 hx).1
  have hi63 : decide ((i : Int) < 0) = false := decide_eq_false (by omega)
  obtain ⟨g, cap, rfl, hgl, x0, x1, x2, hfz⟩ := h.at_ hx
  have HX := Lib.hid (h.each x (List.mem_of_getElem? hx))
  have c0 := h.c0
  have H := Lib.hid h
  have Ht := Lib.hid ht
  have Hd := Lib.hid (drop_del hr hx)
  have Hr := Lib.hid hr
  clear h hs hf hi hx hfz hv ht hr
  go_enter Try.func17, Try.ntmps17
  go_wp2_with fail
  refine HC.out.mono ?_
  rintro e w1 ⟨rfl, rfl⟩
  unfold idxI
  go_wp2_with fail
  refine HV.out.mono ?_
  rintro e w1 ⟨rfl, rfl⟩
  go_wp2_with fail
  have hb0 : Below w.heap.size w (w.alloc (.cells #[.string x.s, .slice x.A x.n x.c, .int .i64 x.syn] 89)) := (Below.refl _ _).alloc (Nat.le_refl _) _
  have HB0 := Lib.hid hb0
  clear hb0 x0 x1 x2 c0
  refine (rdrop_any i _ (H.out.below HB0.out) hil).mono ?_
  rintro e w1 ⟨rfl, T1, v1, h1, s1, k1⟩
  have hml := H.out.lt m H.out.mT
  have hz1 : w.heap.size + 1 ≤ w1.heap.size := by have := k1.only.size; simpa using this
  have b0 := (k1.only.cell (p := ⟨w.heap.size, 0, none⟩) (by simp) (Nat.ne_of_gt hml)).trans ((World.cell?_alloc_at _ _ _ _ rfl).trans rfl)
  have b1 := (k1.only.cell (p := ⟨w.heap.size, 1, none⟩) (by simp) (Nat.ne_of_gt hml)).trans ((World.cell?_alloc_at _ _ _ _ rfl).trans rfl)
  have b2 := (k1.only.cell (p := ⟨w.heap.size, 2, none⟩) (by simp) (Nat.ne_of_gt hml)).trans ((World.cell?_alloc_at _ _ _ _ rfl).trans rfl)
  have bf := fun o => (k1.only.frozen (p := ⟨w.heap.size, o, none⟩) (by simp) (Nat.ne_of_gt hml)).trans (World.frozen?_alloc_at _ _ _ _ rfl)
  change w1.cell? ⟨w.heap.size, 0, none⟩ = some (.string x.s) at b0
  change w1.cell? ⟨w.heap.size, 1, none⟩ = some (.slice x.A x.n x.c) at b1
  change w1.cell? ⟨w.heap.size, 2, none⟩ = some (.int .i64 x.syn) at b2
  have hx1 := ((HX.out.keep (Only.of_below HB0.out fun _ => False) (fun _ _ h => h)).kept (H.out.below HB0.out).lt k1)
  have hT1 : ∀ k, T1 k → k ≠ w.heap.size := fun k hk e => by
    rcases s1.new k hk with h | h
    · have := H.out.lt k h; omega
    · rw [World.size_alloc] at h; omega
  have HF := Lib.hid (rfind_any t w1 h1 Ht.out)
  have Hbox : Hid (w1.cell? ⟨w.heap.size, 0, none⟩ = some (.string x.s) ∧ w1.cell? ⟨w.heap.size, 1, none⟩ = some (.slice x.A x.n x.c) ∧ w1.cell? ⟨w.heap.size, 2, none⟩ = some (.int .i64 x.syn) ∧ ∀ o, w1.frozen? ⟨w.heap.size, o, none⟩ = false) := ⟨b0, b1, b2, bf⟩
  have Hr1 : Hid (Rising (flsR (R.take i ++ R.drop (i + 1)))) := by
    show Rising _
    rw [Hd.out]
    exact rising_del Hr.out _
  have Hl1 : Hid ((R.take i ++ R.drop (i + 1)).length < 64) := by
    show _ < _
    have := H.out.few
    rw [List.length_append, List.length_take, List.length_drop]; omega
  obtain ⟨R1, hR1⟩ : ∃ R1, R1 = R.take i ++ R.drop (i + 1) := ⟨_, rfl⟩
  rw [← hR1] at h1 HF Hd Hr1 Hl1
  clear hR1 b0 b1 b2 bf
  have H1 := Lib.hid h1
  have S1 := Lib.hid s1
  have HX1 := Lib.hid hx1
  have HT1 := Lib.hid hT1
  have Hz1 := Lib.hid hz1
  have K1 := Lib.hid k1
  clear h1 s1 hx1 hT1 hz1 k1
  go_wp2_with fail
  refine HF.out.mono ?_
  rintro e w2 ⟨rfl, rfl⟩
  cases hk : idxR R1 t with
  | none =>
    unfold idxI
    have Hno := Lib.hid (idx_has hk)
    clear hk
    have key : Hid (∃ T2 v2 R2, Rf w1 T2 m v2 R2 wr sy ∧ putP (flsR R2) t ⟨x.by_, x.syn⟩ = putP (delP (flsR R) x.s) t ⟨x.by_, x.syn⟩ ∧ R2.length < 64 ∧ Step (w.alloc (.cells #[.string x.s, .slice x.A x.n x.c, .int .i64 x.syn] 89)) T w1 T2 ∧ REok w1 T2 m v2.ownBlock x ∧ (∀ k, T2 k → k ≠ w.heap.size) ∧ (∀ z ∈ R2, z.s ≠ t)) :=
      ⟨T1, v1, R1, H1.out, by rw [Hd.out], Hl1.out, S1.out, HX1.out, HT1.out, Hno.out⟩
    obtain ⟨b0, b1, b2, bf⟩ := Hbox.out
    have fb := bf 0
    clear bf
    have hbl : w.heap.size < w1.heap.size := Hz1.out
    go_wp2_with fail
    obtain ⟨T2, v2, R2, q1, q2, q3, q4, q5, q6, q7⟩ := key.out
    have ho : Only (fun k => k = w.heap.size) w1 (w1.setCell ⟨w.heap.size, 0, none⟩ (.string t)) := Only.setCell _ _ _ rfl
    have p1 := q1.keep ho q6
    have p5 := q5.keep ho q6
    have st1 : Step w T w1 T2 := (Step.of_below T HB0.out).trans q4
    have st2 : Step w T (w1.setCell ⟨w.heap.size, 0, none⟩ (.string t)) T2 := ⟨st1.only.trans ho (fun i hi => .inr (Nat.le_of_eq hi.symm)), st1.new⟩
    refine (radd_any { x with s := t } _ p1 q3 ⟨p5.n, p5.nil, p5.rd, p5.ok, p5.syn, p5.max, Ht.out, p5.cap, p5.far⟩ q7).mono ?_
    rintro e w3 ⟨rfl, T3, v3, a, ha, hlo, hhi, h3, s3, _⟩
    have Hend : Hid (RLeaves w w3 T m (putP (delP (flsR R) x.s) t ⟨x.by_, x.syn⟩) wr sy) := ⟨T3, ⟨v3, _, (add_put (f := { x with s := t }) ha q7 hlo hhi).trans q2, h3⟩, st2.trans s3⟩
    clear key ho p1 p5 st1 st2 q1 q2 q3 q4 q5 q6 q7 ha hlo hhi h3 s3
    go_wp2
    go_ret
    exact ⟨rfl, Hend.out⟩
  | some k =>
    unfold idxI
    obtain ⟨y, hy, hys, _⟩ := idx_some hk
    have hkl := (List.getElem?_eq_some_iff.1 hy).1
    have HD2 := Lib.hid (rdrop_any k w1 H1.out hkl)
    have Hd2 : Hid (flsR (R1.take k ++ R1.drop (k + 1)) = delP (flsR R1) t) := by
      show _ = _
      rw [drop_del Hr1.out hy, hys]
    have Hl2 : Hid ((R1.take k ++ R1.drop (k + 1)).length < 64) := by
      show _ < _
      have := Hl1.out
      rw [List.length_append, List.length_take, List.length_drop]; omega
    have hk0 : decide ((k : Int) ≥ 0) = true := decide_eq_true (by omega)
    have hk1 : decide ((0 : Int) ≤ k) = true := decide_eq_true (by omega)
    obtain ⟨b0, b1, b2, bf⟩ := Hbox.out
    clear hk hy hys
    go_wp2_with fail
    refine HD2.out.mono ?_
    rintro e w2 ⟨rfl, T2, v2, h2, s2, k2⟩
    have hml := H.out.lt m H.out.mT
    have hz1 := Hz1.out
    have d0 := (k2.only.cell (p := ⟨w.heap.size, 0, none⟩) hz1 (Nat.ne_of_gt hml)).trans b0
    have d1 := (k2.only.cell (p := ⟨w.heap.size, 1, none⟩) hz1 (Nat.ne_of_gt hml)).trans b1
    have d2 := (k2.only.cell (p := ⟨w.heap.size, 2, none⟩) hz1 (Nat.ne_of_gt hml)).trans b2
    have fb := (k2.only.frozen (p := ⟨w.heap.size, 0, none⟩) hz1 (Nat.ne_of_gt hml)).trans (bf 0)
    have hbl : w.heap.size < w2.heap.size := Nat.lt_of_lt_of_le hz1 k2.only.size
    have key : Hid (∃ T2 v2 R2, Rf w2 T2 m v2 R2 wr sy ∧ putP (flsR R2) t ⟨x.by_, x.syn⟩ = putP (delP (flsR R) x.s) t ⟨x.by_, x.syn⟩ ∧ R2.length < 64 ∧ Step (w.alloc (.cells #[.string x.s, .slice x.A x.n x.c, .int .i64 x.syn] 89)) T w2 T2 ∧ REok w2 T2 m v2.ownBlock x ∧ (∀ k, T2 k → k ≠ w.heap.size) ∧ (∀ z ∈ R2, z.s ≠ t)) :=
      ⟨T2, v2, _, h2, by unfold putP; rw [Hd2.out, Hd.out, del_del], Hl2.out, S1.out.trans s2, HX1.out.kept H1.out.lt k2, fun k hk e => by
        rcases s2.new k hk with h | h
        · exact HT1.out k h e
        · omega, fun z hz => by
        have h : z.fl ∈ flsR (R1.take k ++ R1.drop (k + 1)) := List.mem_map_of_mem hz
        rw [Hd2.out] at h
        exact (mem_delP.1 h).2⟩
    clear h2 s2 k2 b0 b1 b2 bf hz1 hml
    go_wp2_with fail
    obtain ⟨T2, v2, R2, q1, q2, q3, q4, q5, q6, q7⟩ := key.out
    have ho : Only (fun k => k = w.heap.size) w2 (w2.setCell ⟨w.heap.size, 0, none⟩ (.string t)) := Only.setCell _ _ _ rfl
    have p1 := q1.keep ho q6
    have p5 := q5.keep ho q6
    have st1 : Step w T w2 T2 := (Step.of_below T HB0.out).trans q4
    have st2 : Step w T (w2.setCell ⟨w.heap.size, 0, none⟩ (.string t)) T2 := ⟨st1.only.trans ho (fun i hi => .inr (Nat.le_of_eq hi.symm)), st1.new⟩
    refine (radd_any { x with s := t } _ p1 q3 ⟨p5.n, p5.nil, p5.rd, p5.ok, p5.syn, p5.max, Ht.out, p5.cap, p5.far⟩ q7).mono ?_
    rintro e w3 ⟨rfl, T3, v3, a, ha, hlo, hhi, h3, s3, _⟩
    have Hend : Hid (RLeaves w w3 T m (putP (delP (flsR R) x.s) t ⟨x.by_, x.syn⟩) wr sy) := ⟨T3, ⟨v3, _, (add_put (f := { x with s := t }) ha q7 hlo hhi).trans q2, h3⟩, st2.trans s3⟩
    clear key ho p1 p5 st1 st2 q1 q2 q3 q4 q5 q6 q7 ha hlo hhi h3 s3
    go_wp2
    go_ret
    exact ⟨rfl, Hend.out⟩
end Go.Proofs.Ytheojokfgndheaa
