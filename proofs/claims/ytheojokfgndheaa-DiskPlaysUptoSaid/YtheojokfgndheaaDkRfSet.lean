/- Layer 6: the document's own disk: a file's bytes, or how many are synced, written over in its place; the counts. -/
import Derived.Test.YtheojokfgndheaaDkRfL
import Derived.Deep.RegionLaw
namespace Go.Proofs.Ytheojokfgndheaa
open Go.RowKit Go.Maps

theorem ownF_set {w : World} {base : Nat} {e : TypeId} {size n c r : Nat} {xs : List Value} (h : w.ownsRow base e size (.slice (some ⟨r, 0, none⟩) n c) n xs) (i : Nat) (u : Value) :
    (w.setCell ⟨r, i, none⟩ u).ownsRow base e size (.slice (some ⟨r, 0, none⟩) n c) n (xs.set i u) := by
  refine ⟨by rw [List.length_set]; exact h.1, ?_⟩
  rcases h.2 with ⟨e1, _⟩ | ⟨g, cap, cur, e1, h1, h2, h3, h4, h5, h6⟩
  · injection e1 with e1; cases e1
  · injection e1 with e1 e2 e3
    injection e1 with e1
    have e1 := congrArg Addr.block e1
    subst e3
    have e1 : r = g := e1
    subst e1
    refine .inr ⟨r, _, cur.setIfInBounds i u, rfl, h1, ?_, h3, h4, by simpa using h5, ?_⟩
    · show (w.heap.modify r _)[r]? = _
      rw [Array.getElem?_modify, if_pos rfl, h2]
      rfl
    · rw [Array.toList_setIfInBounds, ← h6, List.take_set]
theorem own_cap {w : World} {base : Nat} {e : TypeId} {size n c : Nat} {A : Option Addr} {xs : List Value} (h : w.ownsRow base e size (.slice A n c) n xs) : n ≤ c := by
  rcases h.2 with ⟨e1, rfl⟩ | ⟨g, cap, cur, e1, _, _, hnc, _⟩
  · exact Nat.zero_le _
  · injection e1 with _ _ e3
    omega
/-- y is x but for what lies in cell j, and u is that -/
def Turn (x y : RE) (j : Nat) (u : Value) : Prop := y.s = x.s ∧ ((j = 1 ∧ u = .slice y.A y.n y.c ∧ y.syn = x.syn) ∨ (j = 2 ∧ u = .int .i64 y.syn ∧ y.A = x.A ∧ y.n = x.n ∧ y.c = x.c))
theorem cellsF_set : ∀ {R : List RE} {i : Nat} {x y : RE} {j : Nat} {u : Value}, R[i]? = some x → Turn x y j u → (cellsF R).set (i * 3 + j) u = cellsF (R.set i y)
  | [], i, x, _, _, _, h, _ => by simp at h
  | z :: r, 0, x, y, j, u, h, ht => by
    simp at h; subst h
    obtain ⟨hs, ⟨rfl, rfl, h2⟩ | ⟨rfl, rfl, h2, h3, h4⟩⟩ := ht
    · simp [cellsF, reC, hs, h2]
    · simp [cellsF, reC, hs, h2, h3, h4]
  | z :: r, i + 1, x, y, j, u, h, ht => by
    have ih := cellsF_set (R := r) (i := i) (x := x) (by simpa using h) ht
    have e : cellsF (z :: r) = reC z ++ cellsF r := rfl
    have hl : (reC z).length = 3 := rfl
    rw [e, List.set_append_right _ _ (by omega), hl, show (i + 1) * 3 + j - 3 = i * 3 + j from by omega, ih]
    rfl
section
variable {w w2 : World} {T T' : Nat → Prop} {m wr sy : Nat} {v : Value} {R : List RE}
theorem Rf.widen (h : Rf w T m v R wr sy) (hT : ∀ k, T k → T' k) (hl : ∀ k, T' k → k < w.heap.size) : Rf w T' m v R wr sy :=
  ⟨hT _ h.mT, hl, h.c0, h.c1, h.c2, h.fz, h.own, fun k hk => ⟨hT _ (h.row k hk).1, (h.row k hk).2⟩, fun x hx => let g := h.each x hx; ⟨g.n, g.nil, g.rd, g.ok, g.syn, g.max, g.s, g.cap, fun a ha => ⟨hT _ (g.far a ha).1, (g.far a ha).2⟩⟩, h.few⟩
theorem Rf.setF {g cap i j : Nat} {x y : RE} {u : Value} (h : Rf w T m (.slice (some ⟨g, 0, none⟩) R.length cap) R wr sy) (hx : R[i]? = some x) (ht : Turn x y j u) (hy : REok w T m (some g) y) :
    Rf (w.setCell ⟨g, i * 3 + j, none⟩ u) T m (.slice (some ⟨g, 0, none⟩) R.length cap) (R.set i y) wr sy := by
  have ho := Only.setCell (T := fun k => k = g) w ⟨g, i * 3 + j, none⟩ u rfl
  obtain ⟨hgT, hgm⟩ := h.row g rfl
  have hml := h.lt m h.mT
  have hn : ¬ (m = g) := fun e => hgm e.symm
  have hz : (w.setCell ⟨g, i * 3 + j, none⟩ u).heap.size = w.heap.size := by simp [World.setCell]
  refine ⟨h.mT, fun k hk => by rw [hz]; exact h.lt k hk, (ho.cell (p := ⟨m, 0, none⟩) hml hn).trans h.c0, (ho.cell (p := ⟨m, 1, none⟩) hml hn).trans h.c1, (ho.cell (p := ⟨m, 2, none⟩) hml hn).trans h.c2,
    fun o => (ho.frozen (p := ⟨m, o, none⟩) hml hn).trans (h.fz o), ?_, h.row, fun x' hx' => ?_, by rw [List.length_set]; exact h.few⟩
  · have h1 := ownF_set h.own (i * 3 + j) u
    rw [cellsF_set hx ht] at h1
    rw [List.length_set]
    exact h1
  · have hok : REok w T m (some g) x' := by
      rcases List.mem_or_eq_of_mem_set hx' with h1 | h1
      · exact h.each x' h1
      · rw [h1]; exact hy
    exact ⟨hok.n, hok.nil, (ho.rdB hok.rd (Nat.le_refl _) (fun a ha _ e => (hok.far a ha).2.2 (congrArg some e))).more (Nat.le_of_eq hz.symm), hok.ok, hok.syn, hok.max, hok.s, hok.cap, hok.far⟩
/-- how many bytes are synced -/
theorem Rf.setSyn {g cap i : Nat} {x : RE} {n : Nat} (h : Rf w T m (.slice (some ⟨g, 0, none⟩) R.length cap) R wr sy) (hx : R[i]? = some x) (hn : n ≤ x.by_.length) :
    Rf (w.setCell ⟨g, i * 3 + 2, none⟩ (.int .i64 n)) T m (.slice (some ⟨g, 0, none⟩) R.length cap) (R.set i { x with syn := n }) wr sy :=
  have k := h.each x (List.mem_of_getElem? hx)
  h.setF hx ⟨rfl, .inr ⟨rfl, rfl, rfl, rfl, rfl⟩⟩ ⟨k.n, k.nil, k.rd, k.ok, hn, k.max, k.s, k.cap, k.far⟩
/-- other bytes, in a row that is new -/
theorem Rf.setBytes {g cap i : Nat} {x : RE} {A : Option Addr} {n c : Nat} {l : List Nat} {e : TypeId} (h : Rf w T m (.slice (some ⟨g, 0, none⟩) R.length cap) R wr sy) (hx : R[i]? = some x) (hb : Below w.heap.size w w2)
    (ho : w2.ownsRow w.heap.size e 1 (.slice A n c) n (cellsB l)) (hok : OkB l) (hs : x.syn ≤ l.length) (hm : l.length ≤ 1048576) :
    ∃ T', Rf (w2.setCell ⟨g, i * 3 + 1, none⟩ (.slice A n c)) T' m (.slice (some ⟨g, 0, none⟩) R.length cap) (R.set i { x with A := A, n := n, c := c, by_ := l }) wr sy ∧ Step w T (w2.setCell ⟨g, i * 3 + 1, none⟩ (.slice A n c)) T' := by
  obtain ⟨h1, h2, h3⟩ := rdB_of_own ho
  have hv := ho.lt
  have hsz := hb.size
  obtain ⟨hgT, hgm⟩ := h.row g rfl
  have hgl := h.lt g hgT
  have hml := h.lt m h.mT
  have k := h.each x (List.mem_of_getElem? hx)
  refine ⟨fun k => T k ∨ (w.heap.size ≤ k ∧ k < w2.heap.size), ((h.below hb).widen (T' := fun k => T k ∨ (w.heap.size ≤ k ∧ k < w2.heap.size)) (fun k hk => .inl hk) (fun k hk => hk.elim (fun hk => Nat.lt_of_lt_of_le (h.lt k hk) hsz) (fun hk => hk.2))).setF hx ⟨rfl, .inl ⟨rfl, rfl, rfl⟩⟩ ⟨h2, h3, h1, hok, hs, hm, k.s, own_cap ho, fun a ha => ?_⟩,
    ⟨(Only.of_below hb T).trans (Only.setCell (T := T) w2 _ _ hgT) (fun _ h => .inl h), fun k hk => hk.imp id (fun h => h.1)⟩⟩
  subst ha
  have := hv a.block rfl
  exact ⟨.inr this, by omega, fun e => by injection e with e; omega⟩
theorem Rf.setWr (h : Rf w T m v R wr sy) (k : Nat) : Rf (w.setCell ⟨m, 1, none⟩ (.int .i64 k)) T m v R k sy :=
  have ho := Only.setCell (T := fun k => k = m) w ⟨m, 1, none⟩ (.int .i64 k) rfl
  ⟨h.mT, fun k hk => by simpa using h.lt k hk, (World.cell?_setCell_other _ _ _ _ (by simp)).trans h.c0, World.cell?_setCell_same _ _ _ h.c1, (World.cell?_setCell_other _ _ _ _ (by simp)).trans h.c2, fun o => by rw [World.frozen?_setCell]; exact h.fz o,
    ho.own h.own (fun k hk => (h.row k hk).2), h.row, fun x hx => let q := h.each x hx; ⟨q.n, q.nil, (ho.rdB q.rd (Nat.le_refl _) (fun a ha _ => (q.far a ha).2.1)).more (by simp), q.ok, q.syn, q.max, q.s, q.cap, q.far⟩, h.few⟩
theorem Rf.setSy (h : Rf w T m v R wr sy) (k : Nat) : Rf (w.setCell ⟨m, 2, none⟩ (.int .i64 k)) T m v R wr k :=
  have ho := Only.setCell (T := fun k => k = m) w ⟨m, 2, none⟩ (.int .i64 k) rfl
  ⟨h.mT, fun k hk => by simpa using h.lt k hk, (World.cell?_setCell_other _ _ _ _ (by simp)).trans h.c0, (World.cell?_setCell_other _ _ _ _ (by simp)).trans h.c1, World.cell?_setCell_same _ _ _ h.c2, fun o => by rw [World.frozen?_setCell]; exact h.fz o,
    ho.own h.own (fun k hk => (h.row k hk).2), h.row, fun x hx => let q := h.each x hx; ⟨q.n, q.nil, (ho.rdB q.rd (Nat.le_refl _) (fun a ha _ => (q.far a ha).2.1)).more (by simp), q.ok, q.syn, q.max, q.s, q.cap, q.far⟩, h.few⟩
end
theorem set_put {R : List RE} {i : Nat} {x y : RE} (hr : Rising (flsR R)) (hx : R[i]? = some x) (hs : y.s = x.s) : flsR (R.set i y) = putP (flsR R) x.s ⟨y.by_, y.syn⟩ := by
  have h := put_at (v := (⟨y.by_, y.syn⟩ : Fl)) hr (flsR_get hx)
  show _ = putP (flsR R) x.fl.1 _
  rw [← h]
  unfold flsR
  rw [List.map_set]
  show List.set _ _ (y.s, _) = List.set _ _ (x.s, _)
  rw [hs]

set_option maxRecDepth 100000 in
set_option maxHeartbeats 1000000 in
theorem rsync_some {T : Nat → Prop} {m : Nat} {L : List (ByteArray × Fl)} {wr sy : Nat} {f : Fl} (s : ByteArray) (w : World) (h : RfL w T m L wr sy) (hr : Rising L) (hs : s.size ≤ maxLen) (hf : findP L s = some f) (hsy : sy ≤ 1000000) :
    Calls Try.prog 13 #[.pointer (some ⟨m, 0, none⟩), .string s] w fun e w' => e = .returned (.int .i64 0) ∧ RLeaves w w' T m (putP L s ⟨f.by_, f.by_.length⟩) wr (sy + 1) := by
  obtain ⟨v, R, rfl, h⟩ := h
  obtain ⟨i, x, hi, hx, rfl, rfl⟩ := idx_of hf
  have HC := Lib.hid (rfind_any x.s w h hs)
  rw [hi] at HC
  have Hd := Lib.hid (set_put (y := { x with syn := x.by_.length }) hr hx rfl)
  have hil := (List.getElem?_eq_some_iff.1 hx).1
  have hi63 : decide ((i : Int) < 0) = false := decide_eq_false (by omega)
  obtain ⟨g, cap, rfl, hgl, x0, x1, x2, hfz⟩ := h.at_ hx
  have hxn := (h.each x (List.mem_of_getElem? hx)).n
  rw [hxn] at x1
  have K := Lib.hid (h.setSyn (n := x.by_.length) hx (Nat.le_refl _))
  have c0 := h.c0
  have c2 := h.c2
  have fz2 := h.fz 2
  have fg := hfz (i * 3 + 2)
  have hgm := (h.row g rfl).2
  have hml := h.lt m h.mT
  have HgT := Lib.hid (h.row g rfl).1
  have HmT := Lib.hid h.mT
  clear h hs hf hi hx hr hfz hxn
  go_enter Try.func13, Try.ntmps13
  go_wp2_with fail
  refine HC.out.mono ?_
  rintro e w1 ⟨rfl, rfl⟩
  unfold idxI
  go_wp2
  go_region
  all_goals
    go_wp2
    go_ret
    refine ⟨rfl, T, ⟨_, _, Hd.out, (K.out.setSy (sy + 1)).below (Below.refl _ _).drew⟩, (((Step.refl w T).setG HgT.out _ _).setG HmT.out _ _).trans (Step.of_below T (Below.refl _ _).drew)⟩
set_option maxRecDepth 100000 in
set_option maxHeartbeats 400000 in
theorem rsync_none {T : Nat → Prop} {m : Nat} {L : List (ByteArray × Fl)} {wr sy : Nat} (s : ByteArray) (w : World) (h : RfL w T m L wr sy) (hs : s.size ≤ maxLen) (hf : findP L s = none) :
    Calls Try.prog 13 #[.pointer (some ⟨m, 0, none⟩), .string s] w fun e w' => e = .returned (.int .i64 14) ∧ w = w' := by
  obtain ⟨v, R, rfl, h⟩ := h
  have HC := Lib.hid (rfind_any s w h hs)
  have hi : idxR R s = none := by
    cases e : idxR R s with
    | none => rfl
    | some i => obtain ⟨x, _, _, h3⟩ := idx_some e; rw [hf] at h3; cases h3
  rw [hi] at HC
  clear h hs hf hi
  go_enter Try.func13, Try.ntmps13
  go_wp2_with fail
  refine HC.out.mono ?_
  rintro e w1 ⟨rfl, rfl⟩
  unfold idxI
  go_wp2
  go_ret
  exact ⟨rfl, rfl⟩
set_option maxRecDepth 100000 in
set_option maxHeartbeats 400000 in
theorem rcut_none {T : Nat → Prop} {m : Nat} {L : List (ByteArray × Fl)} {wr sy : Nat} (z : Int) (s : ByteArray) (w : World) (h : RfL w T m L wr sy) (hs : s.size ≤ maxLen) (hf : findP L s = none) :
    Calls Try.prog 15 #[.pointer (some ⟨m, 0, none⟩), .string s, .int .i64 z] w fun e w' => e = .returned (.int .i64 14) ∧ w = w' := by
  obtain ⟨v, R, rfl, h⟩ := h
  have HC := Lib.hid (rfind_any s w h hs)
  have hi : idxR R s = none := by
    cases e : idxR R s with
    | none => rfl
    | some i => obtain ⟨x, _, _, h3⟩ := idx_some e; rw [hf] at h3; cases h3
  rw [hi] at HC
  clear h hs hf hi
  go_enter Try.func15, Try.ntmps15
  go_wp2_with fail
  refine HC.out.mono ?_
  rintro e w1 ⟨rfl, rfl⟩
  unfold idxI
  go_wp2
  go_ret
  exact ⟨rfl, rfl⟩
set_option maxRecDepth 100000 in
set_option maxHeartbeats 400000 in
theorem rrename_none {T : Nat → Prop} {m : Nat} {L : List (ByteArray × Fl)} {wr sy : Nat} (t : ByteArray) (s : ByteArray) (w : World) (h : RfL w T m L wr sy) (hs : s.size ≤ maxLen) (hf : findP L s = none) :
    Calls Try.prog 17 #[.pointer (some ⟨m, 0, none⟩), .string s, .string t] w fun e w' => e = .returned (.int .i64 14) ∧ w = w' := by
  obtain ⟨v, R, rfl, h⟩ := h
  have HC := Lib.hid (rfind_any s w h hs)
  have hi : idxR R s = none := by
    cases e : idxR R s with
    | none => rfl
    | some i => obtain ⟨x, _, _, h3⟩ := idx_some e; rw [hf] at h3; cases h3
  rw [hi] at HC
  clear h hs hf hi
  go_enter Try.func17, Try.ntmps17
  go_wp2_with fail
  refine HC.out.mono ?_
  rintro e w1 ⟨rfl, rfl⟩
  unfold idxI
  go_wp2
  go_ret
  exact ⟨rfl, rfl⟩
end Go.Proofs.Ytheojokfgndheaa
