/- Layer 6: the document's own disk: a file is gone; a file more. -/
import Derived.Test.YtheojokfgndheaaDkRf
import Derived.RegionTactic
import Derived.BigRegion
import Derived.Deep.RegionLaw
import Derived.IntWalk
namespace Go.Proofs.Ytheojokfgndheaa
open Go.RowKit Go.Maps

theorem Try.infoF : (Try.prog.info? 89).map (fun i => (i.zero, i.size, i.bytes)) = some (some (.agg #[.string ⟨#[]⟩, .slice none 0 0, .int .i64 0]), 3, 48) := by kernel_rfl
theorem SrcF.none_ {w : World} {A : Option Addr} {size : Nat} : Src w A 0 size [] := ⟨by simp, fun h => absurd h (by omega)⟩
theorem SrcF.below {w w' : World} {A : Option Addr} {m size : Nat} {news : List Value} (h : Src w A m size news) (hA : ∀ a, A = some a → a.block < w.heap.size) (hb : Below w.heap.size w w') : Src w' A m size news :=
  ⟨h.1, fun hm => by
    obtain ⟨ad, e, hc⟩ := h.2 hm
    refine ⟨ad, e, fun j u hj => ?_⟩
    have hl := hA ad e
    rw [hb.cell (p := ad.add j) (by rw [show (ad.add j).block = ad.block from by unfold Addr.add; split <;> rfl]; exact hl)]
    exact hc j u hj⟩
theorem lt_block {w : World} {g : Nat} {o : Obj} (h : w.heap[g]? = some o) : g < w.heap.size := (Array.getElem?_eq_some_iff.1 h).1
theorem srcF_take {w : World} {base n c g : Nat} {l : List RE} {k : Nat} (h : w.ownsRow base 89 3 (.slice (some ⟨g, 0, none⟩) n c) n (cellsF l)) (hk : k ≤ n) : Src w (some ⟨g, 0, none⟩) k 3 (cellsF (l.take k)) := by
  have hl : l.length = n := by have := h.1; rw [cellsF_length] at this; omega
  refine ⟨by rw [cellsF_length, List.length_take, Nat.min_eq_left (by omega)], fun _ => ⟨_, rfl, fun j u hj => ?_⟩⟩
  refine h.cells (g := g) rfl j u ?_
  have e : cellsF l = cellsF (l.take k) ++ cellsF (l.drop k) := by rw [← cellsF_append, List.take_append_drop]
  rw [e, List.getElem?_append_left (List.getElem?_eq_some_iff.1 hj).1]
  exact hj
theorem srcF_drop {w : World} {base n c g : Nat} {l : List RE} {k : Nat} (h : w.ownsRow base 89 3 (.slice (some ⟨g, 0, none⟩) n c) n (cellsF l)) (hk : k ≤ n) : Src w (some ⟨g, k * 3, none⟩) (n - k) 3 (cellsF (l.drop k)) := by
  have hl : l.length = n := by have := h.1; rw [cellsF_length] at this; omega
  refine ⟨by rw [cellsF_length, List.length_drop, hl], fun _ => ⟨_, rfl, fun j u hj => ?_⟩⟩
  have e : cellsF l = cellsF (l.take k) ++ cellsF (l.drop k) := by rw [← cellsF_append, List.take_append_drop]
  have h1 := h.cells (g := g) rfl (k * 3 + j) u (by
    have hk2 : (cellsF (l.take k)).length = k * 3 := by rw [cellsF_length, List.length_take, Nat.min_eq_left (by omega)]
    rw [e, List.getElem?_append_right (by omega), hk2, show k * 3 + j - k * 3 = j from by omega]; exact hj)
  rw [Addr.add_lit] at h1 ⊢
  rw [show (0 + (k * 3 + j)) = k * 3 + j from by omega] at h1
  exact h1

set_option maxRecDepth 100000 in
/-- a cut of the list from its head, as a source -/
theorem cutF_lo {w : World} {base n c : Nat} {A : Option Addr} {l : List RE} {a : Nat} {z : Int} (hz_ : z = a) (h : w.ownsRow base 89 3 (.slice A n c) n (cellsF l)) (ha : a ≤ n) :
    ∃ A1, (∀ W, (Instr.sliceAt 27 (.slice A n c) none (some (.int .i64 z)) none).run Try.prog W = .ok (.slice A1 a c) W) ∧ Src w A1 a 3 (cellsF (l.take a)) ∧ (∀ x, A1 = some x → x.block < w.heap.size) := by
  subst hz_
  have hl : l.length = n := by have := h.1; rw [cellsF_length] at this; omega
  have hu : Try.prog.underlying 27 = some (.slice (Try.prog.elem 27)) := by kernel_rfl
  have hz : ∀ W, (sizeOf (Try.prog.elem 27)).run Try.prog W = .ok 3 W := Try.sizeOf89
  rcases h.2 with ⟨e, rfl⟩ | ⟨g, cap, cur, e, _, hg, hnc, _⟩
  · injection e with e1 _ e3
    subst e1; subst e3
    obtain rfl : a = 0 := by omega
    refine ⟨none, fun W => ?_, by rw [List.take_zero]; exact SrcF.none_, fun x hx => (by cases hx)⟩
    rw [run_sliceAt_slice _ _ _ _ _ _ hu, run_slice_h _ _ _ _ _ hu .i64 ((0 : Nat) : Int) (by omega) (by omega), hz]
    rfl
  · injection e with e1 _ e3
    subst e1; subst e3
    refine ⟨some ⟨g, 0, none⟩, fun W => ?_, srcF_take h ha, fun x hx => by cases hx; exact lt_block hg⟩
    rw [run_sliceAt_slice _ _ _ _ _ _ hu, run_slice_h W _ _ n c hu .i64 (a : Nat) (by omega) (by omega), hz]
    simp [sliced, Result.andThen, Addr.add_lit]
set_option maxRecDepth 100000 in
/-- a cut of the list to its end, as a source -/
theorem cutF_hi {w : World} {base n c : Nat} {A : Option Addr} {l : List RE} {a : Nat} {z : Int} (hz_ : z = a) (h : w.ownsRow base 89 3 (.slice A n c) n (cellsF l)) (ha : a ≤ n) :
    ∃ A3 c3, (∀ W, (Instr.sliceAt 27 (.slice A n c) (some (.int .i64 z)) none none).run Try.prog W = .ok (.slice A3 (n - a) c3) W) ∧ Src w A3 (n - a) 3 (cellsF (l.drop a)) ∧ (∀ x, A3 = some x → x.block < w.heap.size) := by
  subst hz_
  have hl : l.length = n := by have := h.1; rw [cellsF_length] at this; omega
  have hu : Try.prog.underlying 27 = some (.slice (Try.prog.elem 27)) := by kernel_rfl
  have hz : ∀ W, (sizeOf (Try.prog.elem 27)).run Try.prog W = .ok 3 W := Try.sizeOf89
  rcases h.2 with ⟨e, rfl⟩ | ⟨g, cap, cur, e, _, hg, hnc, _⟩
  · injection e with e1 _ e3
    subst e1; subst e3
    obtain rfl : a = 0 := by omega
    have hl0 : l = [] := List.eq_nil_of_length_eq_zero hl
    subst hl0
    refine ⟨none, 0, fun W => ?_, SrcF.none_, fun x hx => (by cases hx)⟩
    rw [run_sliceAt_slice _ _ _ _ _ _ hu, run_slice_l _ _ _ _ _ hu .i64 ((0 : Nat) : Int) (by omega) (by omega), hz]
    rfl
  · injection e with e1 _ e3
    subst e1; subst e3
    have hlt : g < w.heap.size := lt_block hg
    refine ⟨if c = a then some ⟨g, 0, none⟩ else some ⟨g, a * 3, none⟩, c - a, fun W => ?_, ?_, fun x hx => ?_⟩
    · rw [run_sliceAt_slice _ _ _ _ _ _ hu, run_slice_l W _ _ n c hu .i64 (a : Nat) (by omega) (by omega), hz]
      simp only [sliced, Result.andThen, Int.toNat_natCast]
      by_cases hca : c = a
      · rw [if_pos hca, if_pos hca]
      · rw [if_neg hca, if_neg hca]
        simp [Addr.add_lit]
    · by_cases hca : c = a
      · have h0 : n - a = 0 := by omega
        rw [if_pos hca, h0, List.drop_of_length_le (by omega)]
        exact SrcF.none_
      · rw [if_neg hca]
        exact srcF_drop h ha
    · by_cases hca : c = a
      · rw [if_pos hca] at hx; cases hx; exact hlt
      · rw [if_neg hca] at hx; cases hx; exact hlt

/-- the step of an append onto a row that the call itself has made since wi -/
theorem stepF_append {P : Program} {w : World} {ops : Array Oper} {o : Oper} {a : Go.Act} {K : Go.Act → World → Prop} {Q : Exit → Go.Act → World → Prop} {E : Prop} (hgd : o.guard = none) (s x : Operand) {t : TypeId}
    (ho : o.op = .call { callee := .builtin .append, args := #[s, x], argTypes := #[t, t] })
    {e : TypeId} {i : TypeInfo} {z : Value} {size bytes : Nat} (ht : P.underlying t = some (.slice e)) (hi : P.info? e = some i) (hz : i.zero = some z)
    (hsize : i.size = size) (hby : i.bytes = bytes) (hzs : z.cells.size = size) (hsz : 0 < size) {wi : World} (hbel : RowKit.Below wi.heap.size wi w)
    {v : Value} {n : Nat} {xs : List Value} (hv : a.eval s = v) (hown : w.ownsRow wi.heap.size e size v n xs) {A : Option Addr} {m c : Nat} {news : List Value} (hx : a.eval x = .slice A m c) (hs : Src w A m size news) (h1 : ∀ u ∈ news, u.oneCell' = true)
    (h63 : n + m ≤ maxLen) (hbytes : (n + m) * bytes ≤ 140737488355328)
    (h : ∀ A' c' w', w'.ownsRow wi.heap.size e size (.slice A' (n + m) c') (n + m) (xs ++ news) → RowKit.Below wi.heap.size wi w' → (∀ g ob, w.heap[g]? = some ob → (∀ q, v.ownBlock = some q → g ≠ q) → w'.heap[g]? = some ob) → K (a.put o.dst (.slice A' (n + m) c')) w') :
    if Region.wanted o (yielded ops a.tmps) = true then Oper.wp P o a w K Q else E := by
  refine step_append_src hgd s x ho ht hi hz hsize hby hzs hsz hv hown hx hs h1 h63 hbytes hbel.size fun v' w' hr hg hb => ?_
  obtain ⟨A', c', rfl⟩ := ownB_slice hr
  refine h A' c' w' hr (hbel.grown hg hbel.size fun k hk => (hown.lt k hk).1) fun g ob hgo hne => ?_
  exact (hg.block g (lt_block hgo) fun h => hne g h.symm rfl).trans hgo

theorem finF {W : World} {B : Nat} {e : TypeId} {size N n : Nat} {A : Option Addr} {c : Nat} {xs : List Value} (h : W.ownsRow B e size (.slice A N c) N xs) (hN : N = n) : W.ownsRow B e size (.slice A n c) n xs := by subst hN; exact h
/-- what a call leaves that lays the list into a new row: all but the disk's own cells -/
structure Kept (w w' : World) (T T' : Nat → Prop) (m : Nat) (v' : Value) : Prop where
  only : Only (fun k => k = m) w w'
  sub : ∀ k, T k → T' k
  new : ∀ k, v'.ownBlock = some k → w.heap.size ≤ k
theorem REok.kept {w w' : World} {T T' : Nat → Prop} {m : Nat} {v' : Value} {r : Option Nat} {x : RE} (h : REok w T m r x) (hT : ∀ k, T k → k < w.heap.size) (hk : Kept w w' T T' m v') : REok w' T' m v'.ownBlock x :=
  ⟨h.n, h.nil, (hk.only.rdB h.rd (Nat.le_refl _) (fun a ha _ => (h.far a ha).2.1)).more hk.only.size, h.ok, h.syn, h.max, h.s, h.cap, fun a ha => ⟨hk.sub _ (h.far a ha).1, (h.far a ha).2.1, fun e => by
    have h1 := hk.new _ e.symm
    have h2 := hT _ (h.far a ha).1
    omega⟩⟩
/-- the list lies in a new row -/
theorem Rf.row_new {w w2 : World} {T : Nat → Prop} {m wr sy : Nat} {v v' : Value} {R R' : List RE} (h : Rf w T m v R wr sy) (hb : Below w.heap.size w w2) (ho : w2.ownsRow w.heap.size 89 3 v' R'.length (cellsF R'))
    (he : ∀ x ∈ R', REok w T m v.ownBlock x) (hf : R'.length ≤ 64) :
    ∃ T', Rf (w2.setCell ⟨m, 0, none⟩ v') T' m v' R' wr sy ∧ Step w T (w2.setCell ⟨m, 0, none⟩ v') T' ∧ Kept w (w2.setCell ⟨m, 0, none⟩ v') T T' m v' := by
  have hml := h.lt m h.mT
  have hv := ho.lt
  have hon : Only T w (w2.setCell ⟨m, 0, none⟩ v') := (Only.of_below hb T).trans (Only.setCell (T := T) w2 _ _ h.mT) (fun _ h => .inl h)
  have hz : (w2.setCell ⟨m, 0, none⟩ v').heap.size = w2.heap.size := by simp [World.setCell]
  have hset := Only.setCell (T := fun k => k = m) w2 ⟨m, 0, none⟩ v' rfl
  have hsz := hb.size
  refine ⟨fun k => T k ∨ (w.heap.size ≤ k ∧ k < w2.heap.size), ⟨.inl h.mT, fun k hk => ?_, World.cell?_setCell_same _ _ _ ((hb.cell (p := ⟨m, 0, none⟩) hml).trans h.c0), (World.cell?_setCell_other _ _ _ _ (by simp)).trans ((hb.cell (p := ⟨m, 1, none⟩) hml).trans h.c1),
    (World.cell?_setCell_other _ _ _ _ (by simp)).trans ((hb.cell (p := ⟨m, 2, none⟩) hml).trans h.c2), fun o => by rw [World.frozen?_setCell]; exact (hb.frozen (p := ⟨m, o, none⟩) hml).trans (h.fz o), ?_, fun k hk => ?_, fun x hx => ?_, hf⟩, ⟨hon, fun k hk => hk.imp id (fun h => h.1)⟩, (Only.of_below hb (fun k => k = m)).trans hset (fun _ h => .inl h), fun k hk => .inl hk, fun k hk => (hv k hk).1⟩
  · rw [hz]
    rcases hk with hk | hk
    · have := h.lt k hk; omega
    · exact hk.2
  · exact ownB_mono (hset.own ho (fun k hk => by have := (hv k hk).1; omega)) (Nat.zero_le _)
  · have := hv k hk
    exact ⟨.inr ⟨this.1, this.2⟩, by omega⟩
  · have hx' := he x hx
    have hfar : ∀ a, x.A = some a → a.block < w.heap.size := fun a ha => h.lt _ (hx'.far a ha).1
    refine ⟨hx'.n, hx'.nil, ?_, hx'.ok, hx'.syn, hx'.max, hx'.s, hx'.cap, fun a ha => ⟨.inl (hx'.far a ha).1, (hx'.far a ha).2.1, fun e => ?_⟩⟩
    · refine RdB.more (B := w.heap.size) ?_ (by rw [hz]; exact hsz)
      exact hset.rdB (hx'.rd.below hb) hsz (fun a ha _ => (hx'.far a ha).2.1)
    · have := (hv _ e.symm).1
      have := hfar a ha
      omega

theorem drop_end {w w3 : World} {T : Nat → Prop} {m wr sy i : Nat} {v : Value} {A6 : Option Addr} {c6 : Nat} {R : List RE} (h : Rf w T m v R wr sy) (hb : Below w.heap.size w w3)
    (ho : w3.ownsRow w.heap.size 89 3 (.slice A6 (i + (R.length - (i + 1))) c6) (i + (R.length - (i + 1))) (([] ++ cellsF (R.take i)) ++ cellsF (R.drop (i + 1)))) (hi : i < R.length) :
    ∃ T' v', Rf (w3.setCell ⟨m, 0, none⟩ (.slice A6 (i + (R.length - (i + 1))) c6)) T' m v' (R.take i ++ R.drop (i + 1)) wr sy ∧ Step w T (w3.setCell ⟨m, 0, none⟩ (.slice A6 (i + (R.length - (i + 1))) c6)) T' ∧ Kept w (w3.setCell ⟨m, 0, none⟩ (.slice A6 (i + (R.length - (i + 1))) c6)) T T' m v' := by
  have hl : (R.take i ++ R.drop (i + 1)).length = i + (R.length - (i + 1)) := by rw [List.length_append, List.length_take, List.length_drop]; omega
  rw [List.nil_append, ← cellsF_append] at ho
  obtain ⟨T', h1, h2⟩ := h.row_new (v' := .slice A6 (i + (R.length - (i + 1))) c6) (R' := R.take i ++ R.drop (i + 1)) hb (by rw [hl]; exact ho) (fun x hx => by
    rcases List.mem_append.1 hx with hx | hx
    · exact h.each x (List.mem_of_mem_take hx)
    · exact h.each x (List.mem_of_mem_drop hx)) (by rw [hl]; have := h.few; omega)
  exact ⟨T', _, h1, h2⟩

set_option maxRecDepth 100000 in
set_option maxHeartbeats 1000000 in
theorem rdrop_any {T : Nat → Prop} {m : Nat} {v : Value} {R : List RE} {wr sy : Nat} (i : Nat) (w : World) (h : Rf w T m v R wr sy) (hi : i < R.length) :
    Calls Try.prog 46 #[.pointer (some ⟨m, 0, none⟩), .int .i64 i] w fun e w' => e = .returned (.tuple #[]) ∧ ∃ T' v', Rf w' T' m v' (R.take i ++ R.drop (i + 1)) wr sy ∧ Step w T w' T' ∧ Kept w w' T T' m v' := by
  obtain ⟨i0, hi0, hz0, hz1, hz2⟩ := info_parts Try.infoF
  obtain ⟨A, c, rfl⟩ := h.slice
  have c0 := h.c0
  have hml := h.lt m h.mT
  have hfew := h.few
  have hi1 : (((i + 1 : Nat) : Int)) = (i : Int) + 1 := by omega
  obtain ⟨A1, hs1, s1, q1⟩ := cutF_lo (z := (i : Int)) (a := i) rfl h.own (by omega)
  obtain ⟨A3, c3, hs3, s3, q3⟩ := cutF_hi (z := (i : Int) + 1) (a := i + 1) (by omega) h.own (by omega)
  have HS1 : Hid (∀ W, Below w.heap.size w W → Src W A1 i 3 (cellsF (R.take i))) := fun W hW => SrcF.below s1 q1 hW
  have HS3 : Hid (∀ W, Below w.heap.size w W → Src W A3 (R.length - (i + 1)) 3 (cellsF (R.drop (i + 1)))) := fun W hW => SrcF.below s3 q3 hW
  have HC : Hid (∀ W, Below w.heap.size w W → W.cell? ⟨m, 0, none⟩ = some (.slice A R.length c)) := fun W hW => (hW.cell (p := ⟨m, 0, none⟩) hml).trans c0
  have HF : Hid (∀ W, Below w.heap.size w W → W.frozen? ⟨m, 0, none⟩ = false) := fun W hW => (hW.frozen (p := ⟨m, 0, none⟩) hml).trans (h.fz 0)
  have H := Lib.hid h
  have Hi1 := Lib.hid hi1
  clear s1 q1 s3 q3 h hi1
  have hwr : IntKind.i64.wrap ((i : Int) + 1) = (i : Int) + 1 := IntWalk.i64_in _ (by omega)
  go_enter Try.func46, Try.ntmps46
  go_region_law (first
    | (refine stepF_append rfl (.tmp 5) (.tmp 11) rfl Try.underlying27 hi0 hz0 hz1 hz2 rfl (by decide) (wi := w) ((RowKit.Below.refl _ _).alloc (by simp) _).drew rfl (World.ownsRow_made _ #[] 0 (by simp) (Nat.zero_le _) rfl).drew rfl (HS1.out _ ((RowKit.Below.refl _ _).alloc (by simp) _).drew) (cellsF_one _) (by unfold maxLen; omega) (by omega) ?_
       intro A4 c4 w1 HO1 HB1 HK1
       replace HO1 : Hid (w1.ownsRow w.heap.size 89 3 (.slice A4 i c4) i ([] ++ cellsF (R.take i))) := finF HO1 (Nat.zero_add _)
       clear HK1
       have f1 := HC.out w1 HB1)
    | (refine stepF_append rfl (.tmp 12) (.tmp 19) rfl Try.underlying27 hi0 hz0 hz1 hz2 rfl (by decide) (wi := w) HB1 rfl HO1.out rfl (HS3.out _ HB1) (cellsF_one _) (by unfold maxLen; omega) (by omega) ?_
       intro A6 c6 w3 HO3 HB3 _
       have f3 := HC.out w3 HB3
       have g3 := HF.out w3 HB3
       replace HO3 := Lib.hid HO3)
    | fail)
  all_goals
    go_end0
    exact ⟨rfl, drop_end H.out HB3 HO3.out hi⟩
end Go.Proofs.Ytheojokfgndheaa
