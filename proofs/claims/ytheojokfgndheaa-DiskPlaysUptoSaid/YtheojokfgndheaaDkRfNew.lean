/- Layer 6: the document's own disk: Append, of a file that is new. -/
import Derived.Test.YtheojokfgndheaaDkRfApp
namespace Go.Proofs.Ytheojokfgndheaa
open Go.RowKit Go.Maps

theorem del_none {α : Type} {l : List (ByteArray × α)} {s : ByteArray} (h : ∀ p ∈ l, p.1 ≠ s) : delP l s = l := List.filter_eq_self.2 fun p hp => by rw [eqS_no (h p hp)]; rfl
theorem del_ins {α : Type} {x : ByteArray × α} : ∀ {l : List (ByteArray × α)}, (∀ p ∈ l, p.1 ≠ x.1) → delP (insP x l) x.1 = l
  | [], _ => by simp [insP, delP, eqS_refl]
  | y :: r, h => by
    unfold insP
    by_cases hl : ltS x.1 y.1 = true
    · rw [if_pos hl]
      show List.filter _ _ = _
      rw [List.filter_cons_of_neg (by simp [eqS_refl])]
      exact del_none h
    · rw [if_neg hl]
      show List.filter _ _ = _
      rw [List.filter_cons_of_pos (by rw [eqS_no (h y (by simp))]; rfl)]
      exact congrArg (y :: ·) (del_ins (l := r) fun p hp => h p (by simp [hp]))
theorem find_ins {α : Type} {x : ByteArray × α} : ∀ {l : List (ByteArray × α)}, (∀ p ∈ l, p.1 ≠ x.1) → findP (insP x l) x.1 = some x.2
  | [], _ => by simp [insP, findP, eqS_refl]
  | y :: r, h => by
    unfold insP
    by_cases hl : ltS x.1 y.1 = true
    · rw [if_pos hl]
      unfold findP
      rw [List.find?_cons_of_pos (by simp [eqS_refl])]
      rfl
    · rw [if_neg hl]
      have ih := find_ins (l := r) fun p hp => h p (by simp [hp])
      unfold findP at ih ⊢
      rw [List.find?_cons_of_neg (by rw [eqS_no (h y (by simp))]; decide)]
      exact ih
theorem findP_put {α : Type} (l : List (ByteArray × α)) (s : ByteArray) (f : α) : findP (putP l s f) s = some f := find_ins (x := (s, f)) fun _ hp => (mem_delP.1 hp).2
theorem put_put {α : Type} (l : List (ByteArray × α)) (s : ByteArray) (a b : α) : putP (putP l s a) s b = putP l s b := by
  have h := del_ins (x := (s, a)) (l := delP l s) fun _ hp => (mem_delP.1 hp).2
  show insP _ (delP (insP (s, a) (delP l s)) s) = insP _ (delP l s)
  rw [h]
theorem idx_put {R : List RE} {s : ByteArray} {L : List (ByteArray × Fl)} {f : Fl} (h : flsR R = putP L s f) : ∃ i x, idxR R s = some i ∧ R[i]? = some x ∧ x.s = s ∧ f = ⟨x.by_, x.syn⟩ := by
  refine idx_of (f := f) ?_
  rw [h, findP_put]

set_option maxRecDepth 100000 in
set_option maxHeartbeats 2000000 in
theorem rappend_new {T : Nat → Prop} {m : Nat} {L : List (ByteArray × Fl)} {wr sy : Nat} {B : Option Addr} {mm d : Nat} {l : List Nat} (s : ByteArray) (w0 : World) (h : RfL w0 T m L wr sy) (hr : Rising L) (hs : s.size ≤ maxLen) (hf : findP L s = none) (hfew : L.length < 64) (hv : valueB s = true)
    (hm : mm = l.length) (hok : OkB l) (hmax : mm ≤ 1048576) (hrd : RdB w0 w0.heap.size B l) (hB : ∀ a, B = some a → 0 < l.length → ¬ T a.block) (hwr : wr ≤ 1000000) :
    Calls Try.prog 25 #[.pointer (some ⟨m, 0, none⟩), .string s, .slice B mm d] w0 fun e w' => e = .returned (.int .i64 0) ∧ RLeaves w0 w' T m (putP L s ⟨l, 0⟩) (wr + 1) sy := by
  obtain ⟨i0, hi0, hz0, hz1, hz2⟩ := info_parts Try.infoB
  obtain ⟨v, R, rfl, h⟩ := h
  have hi : idxR R s = none := by
    cases e : idxR R s with
    | none => rfl
    | some i => obtain ⟨x, _, _, h3⟩ := idx_some e; rw [hf] at h3; cases h3
  have HC := Lib.hid (rfind_any s w0 h hs)
  have HV := Lib.hid (rvalue_any s hs w0)
  rw [hi] at HC
  rw [hv] at HV
  have hfew' : R.length < 64 := by simpa [flsR] using hfew
  have hl64 : decide ((R.length : Int) = 64) = false := decide_eq_false (by omega)
  obtain ⟨A0, c0', hv0⟩ := h.slice
  have c00 := h.c0
  rw [hv0] at c00
  have hw1 : IntKind.i64.wrap ((0 : Int) + mm) = (mm : Int) := by rw [Int.zero_add]; exact IntWalk.i64_in _ (by omega)
  have hw2 : decide ((mm : Int) > 1048576) = false := decide_eq_false (by omega)
  have hw3 : decide ((1048576 : Int) < (mm : Int)) = false := decide_eq_false (by omega)
  have hw4 : IntKind.i64.wrap (mm : Int) = (mm : Int) := IntWalk.i64_in _ (by omega)
  have hml0 := h.lt m h.mT
  have H0 := Lib.hid h
  have HA := Lib.hid (radd_any ⟨s, none, 0, 0, [], 0⟩ w0 h hfew' ⟨rfl, fun _ => rfl, RdB.empty, (fun x hx => nomatch hx), Nat.le_refl _, Nat.zero_le _, hs, Nat.le_refl _, fun a ha => nomatch ha⟩ (idx_has hi))
  have Hno := Lib.hid (idx_has hi)
  have Hmm := Lib.hid hm
  have Hok := Lib.hid hok
  have Hrd0 := Lib.hid hrd
  have HB := Lib.hid hB
  have Hr := Lib.hid hr
  have Hs := Lib.hid hs
  clear h hs hf hi hr hm hok hrd hB hv hfew hv0
  go_enter Try.func25, Try.ntmps25
  go_wp2_with fail
  refine HV.out.mono ?_
  rintro e w1 ⟨rfl, rfl⟩
  go_wp2_with fail
  refine HC.out.mono ?_
  rintro e w1 ⟨rfl, rfl⟩
  unfold idxI
  go_wp2_with fail
  refine HA.out.mono ?_
  rintro e w ⟨rfl, T1, v1, a, ha, hlo, hhi, h1, s1, k1⟩
  have hfl := add_put (f := ⟨s, none, 0, 0, [], 0⟩) ha Hno.out hlo hhi
  obtain ⟨i, x, hi, hx, rfl, hxf⟩ := idx_put hfl
  injection hxf with hxb hxs
  have Hr1 : Hid (Rising (flsR (R.take a ++ [⟨x.s, none, 0, 0, [], 0⟩] ++ R.drop a))) := by
    show Rising _
    rw [hfl]
    exact rising_put Hr.out _ _
  have Hfl := Lib.hid hfl
  obtain ⟨R1, hR1⟩ : ∃ R1, R1 = R.take a ++ [⟨x.s, none, 0, 0, [], 0⟩] ++ R.drop a := ⟨_, rfl⟩
  rw [← hR1] at h1 hi hx Hfl Hr1
  clear hR1 hfl hlo hhi ha
  have HC2 := Lib.hid (rfind_any x.s w h1 Hs.out)
  rw [hi] at HC2
  have hil := (List.getElem?_eq_some_iff.1 hx).1
  obtain ⟨g, cap, rfl, hgl, x0, x1, x2, hfz⟩ := h1.at_ hx
  have hxx := h1.each x (List.mem_of_getElem? hx)
  have hxn : x.n = 0 := by rw [hxx.n, ← hxb]; rfl
  have hnm : x.n + mm ≤ 1048576 := by omega
  have c0 := h1.c0
  have c1 := h1.c1
  have fz1 := h1.fz 1
  have fg := hfz (i * 3 + 1)
  have hml := h1.lt m h1.mT
  have Hd := fun A c => Lib.hid (set_put (y := { x with A := A, n := x.n + mm, c := c, by_ := x.by_ ++ l }) Hr1.out hx rfl)
  have HX := Lib.hid hxx
  have Hx := Lib.hid hx
  have H := Lib.hid h1
  have Hrd : Hid (RdB w w.heap.size B l) := (k1.only.rdB Hrd0.out (Nat.le_refl _) (fun a ha h0 e => HB.out a ha h0 (e ▸ H0.out.mT))).more k1.only.size
  have S1 := Lib.hid s1
  have Hxb := Lib.hid hxb
  have Hxs := Lib.hid hxs
  clear h1 s1 k1 hi hx hfz hxx hxn hxb hxs c00
  go_wp2_with fail
  refine HC2.out.mono ?_
  rintro e w1 ⟨rfl, rfl⟩
  unfold idxI
  go_wp2
  have hgl2 : g < w.heap.size := hgl
  have HC0 : Hid (∀ W, Below w.heap.size w W → W.cell? ⟨m, 0, none⟩ = some (.slice (some ⟨g, 0, none⟩) R1.length cap)) := fun W hW => (hW.cell (p := ⟨m, 0, none⟩) hml).trans c0
  have HC1 : Hid (∀ W, Below w.heap.size w W → W.cell? ⟨g, i * 3 + 1, none⟩ = some (.slice x.A x.n x.c)) := fun W hW => (hW.cell (p := ⟨g, i * 3 + 1, none⟩) hgl).trans x1
  have HFg : Hid (∀ W, Below w.heap.size w W → W.frozen? ⟨g, i * 3 + 1, none⟩ = false) := fun W hW => (hW.frozen (p := ⟨g, i * 3 + 1, none⟩) hgl).trans fg
  have HS1 : Hid (∀ W, Below w.heap.size w W → Src W x.A x.n 1 (cellsB x.by_)) := fun W hW => src_of_rdB (HX.out.rd.below hW) HX.out.n
  have HS2 : Hid (∀ W, Below w.heap.size w W → Src W B mm 1 (cellsB l)) := fun W hW => src_of_rdB (Hrd.out.below hW) Hmm.out
  have Hc1 : Hid (∀ W, Below w.heap.size w W → W.cell? ⟨m, 1, none⟩ = some (.int .i64 wr)) := fun W hW => (hW.cell (p := ⟨m, 1, none⟩) hml).trans c1
  have Hf1 : Hid (∀ W, Below w.heap.size w W → W.frozen? ⟨m, 1, none⟩ = false) := fun W hW => (hW.frozen (p := ⟨m, 1, none⟩) hml).trans fz1
  clear c0 c1 x0 x1 x2 fg fz1
  refine wp_region_noPanic ?_
  refine keepBegin (S := fun W => Below w.heap.size w W) 19 (by kernel_rfl) ?_ (fun hHeld => ?_)
  · exact (RowKit.Below.refl _ _).drew
  refine keepTake (i := 0) (v := ?_) [0] rfl (by kernel_rfl) (by kernel_rfl) (by kernel_rfl) (by kernel_rfl) (by kernel_rfl) (by kernel_rfl) (fun _ _ _ h => h) (Or.inl ⟨by rfl, ?_⟩) (by assumption) ?_
  rotate_left
  · (intro W hSw; (try dsimp only at hSw); have f0 := HC0.out W hSw; have f1 := HC1.out W hSw; go_simp; try with_reducible rfl)
  try simp only [keepPut, List.set, Nat.zero_add]
  refine keepTake (i := 1) (v := ?_) [1] rfl (by kernel_rfl) (by kernel_rfl) (by kernel_rfl) (by kernel_rfl) (by kernel_rfl) (by kernel_rfl) (fun _ _ _ h => h) (Or.inl ⟨by rfl, ?_⟩) (by assumption) ?_
  rotate_left
  · (intro W hSw; (try dsimp only at hSw); have f0 := HC0.out W hSw; have f1 := HC1.out W hSw; go_simp; try with_reducible rfl)
  try simp only [keepPut, List.set, Nat.zero_add]
  refine keepTake (i := 2) (v := ?_) [2] rfl (by kernel_rfl) (by kernel_rfl) (by kernel_rfl) (by kernel_rfl) (by kernel_rfl) (by kernel_rfl) (fun _ _ _ h => h) (Or.inl ⟨by rfl, ?_⟩) (by assumption) ?_
  rotate_left
  · (intro W hSw; (try dsimp only at hSw); have f0 := HC0.out W hSw; have f1 := HC1.out W hSw; go_simp; try with_reducible rfl)
  try simp only [keepPut, List.set, Nat.zero_add]
  refine keepTake (i := 3) (v := ?_) [3] rfl (by kernel_rfl) (by kernel_rfl) (by kernel_rfl) (by kernel_rfl) (by kernel_rfl) (by kernel_rfl) (fun _ _ _ h => h) (Or.inl ⟨by rfl, ?_⟩) (by assumption) ?_
  rotate_left
  · (intro W hSw; (try dsimp only at hSw); have f0 := HC0.out W hSw; have f1 := HC1.out W hSw; go_simp; try with_reducible rfl)
  try simp only [keepPut, List.set, Nat.zero_add]
  refine keepTake (i := 4) (v := ?_) [4] rfl (by kernel_rfl) (by kernel_rfl) (by kernel_rfl) (by kernel_rfl) (by kernel_rfl) (by kernel_rfl) (fun _ _ _ h => h) (Or.inl ⟨by rfl, ?_⟩) (by assumption) ?_
  rotate_left
  · (intro W hSw; (try dsimp only at hSw); have f0 := HC0.out W hSw; have f1 := HC1.out W hSw; go_simp; try with_reducible rfl)
  try simp only [keepPut, List.set, Nat.zero_add]
  refine keepTake (i := 6) (v := ?_) [6] rfl (by kernel_rfl) (by kernel_rfl) (by kernel_rfl) (by kernel_rfl) (by kernel_rfl) (by kernel_rfl) (fun _ _ _ h => h) (Or.inl ⟨by rfl, ?_⟩) (by assumption) ?_
  rotate_left
  · (intro W hSw; (try dsimp only at hSw); have f0 := HC0.out W hSw; have f1 := HC1.out W hSw; go_simp; try with_reducible rfl)
  try simp only [keepPut, List.set, Nat.zero_add]
  refine keepTake (i := 7) (v := ?_) [7] rfl (by kernel_rfl) (by kernel_rfl) (by kernel_rfl) (by kernel_rfl) (by kernel_rfl) (by kernel_rfl) (fun _ _ _ h => h) (Or.inl ⟨by rfl, ?_⟩) (by assumption) ?_
  rotate_left
  · (intro W hSw; (try dsimp only at hSw); have f0 := HC0.out W hSw; have f1 := HC1.out W hSw; go_simp; try with_reducible rfl)
  try simp only [keepPut, List.set, Nat.zero_add]
  refine keepTake (i := 8) (v := ?_) [8] rfl (by kernel_rfl) (by kernel_rfl) (by kernel_rfl) (by kernel_rfl) (by kernel_rfl) (by kernel_rfl) (fun _ _ _ h => h) (Or.inl ⟨by rfl, ?_⟩) (by assumption) ?_
  rotate_left
  · (intro W hSw; (try dsimp only at hSw); have f0 := HC0.out W hSw; have f1 := HC1.out W hSw; go_simp; try with_reducible rfl)
  try simp only [keepPut, List.set, Nat.zero_add]
  refine keepTake (i := 9) (v := ?_) [9] rfl (by kernel_rfl) (by kernel_rfl) (by kernel_rfl) (by kernel_rfl) (by kernel_rfl) (by kernel_rfl) (fun _ _ _ h => h) (Or.inl ⟨by rfl, ?_⟩) (by assumption) ?_
  rotate_left
  · (intro W hSw; (try dsimp only at hSw); have f0 := HC0.out W hSw; have f1 := HC1.out W hSw; go_simp; try with_reducible rfl)
  try simp only [keepPut, List.set, Nat.zero_add]
  refine keepTake (i := 10) (v := ?_) [10] rfl (by kernel_rfl) (by kernel_rfl) (by kernel_rfl) (by kernel_rfl) (by kernel_rfl) (by kernel_rfl) (fun _ _ _ h => h) (Or.inl ⟨by rfl, ?_⟩) (by assumption) ?_
  rotate_left
  · (intro W hSw; (try dsimp only at hSw); have f0 := HC0.out W hSw; have f1 := HC1.out W hSw; go_simp; try with_reducible rfl)
  try simp only [keepPut, List.set, Nat.zero_add]
  refine keepTake (i := 11) (v := ?_) [11] rfl (by kernel_rfl) (by kernel_rfl) (by kernel_rfl) (by kernel_rfl) (by kernel_rfl) (by kernel_rfl) (fun _ _ _ h => h) (Or.inl ⟨by rfl, ?_⟩) (by assumption) ?_
  rotate_left
  · (intro W hSw; (try dsimp only at hSw); have f0 := HC0.out W hSw; have f1 := HC1.out W hSw; go_simp; try with_reducible rfl)
  try simp only [keepPut, List.set, Nat.zero_add]
  refine keepTake (i := 12) (v := ?_) [12] rfl (by kernel_rfl) (by kernel_rfl) (by kernel_rfl) (by kernel_rfl) (by kernel_rfl) (by kernel_rfl) (fun _ _ _ h => h) (Or.inl ⟨by rfl, ?_⟩) (by assumption) ?_
  rotate_left
  · (intro W hSw; (try dsimp only at hSw); have f0 := HC0.out W hSw; have f1 := HC1.out W hSw; go_simp; try with_reducible rfl)
  try simp only [keepPut, List.set, Nat.zero_add]
  refine keepTake (i := 13) (v := ?_) [13] rfl (by kernel_rfl) (by kernel_rfl) (by kernel_rfl) (by kernel_rfl) (by kernel_rfl) (by kernel_rfl) (fun _ _ _ h => h) (Or.inl ⟨by rfl, ?_⟩) (by assumption) ?_
  rotate_left
  · (intro W hSw; (try dsimp only at hSw); have f0 := HC0.out W hSw; have f1 := HC1.out W hSw; go_simp; try with_reducible rfl)
  try simp only [keepPut, List.set, Nat.zero_add]
  refine keepTake (i := 15) (v := ?_) [15] rfl (by kernel_rfl) (by kernel_rfl) (by kernel_rfl) (by kernel_rfl) (by kernel_rfl) (by kernel_rfl) (fun _ _ _ h => h) (Or.inl ⟨by rfl, ?_⟩) (by assumption) ?_
  rotate_left
  · (intro W hSw; (try dsimp only at hSw); have f0 := HC0.out W hSw; have f1 := HC1.out W hSw; go_simp; try with_reducible rfl)
  try simp only [keepPut, List.set, Nat.zero_add]
  refine keepAll (rs := [5]) (by kernel_rfl) (by simp) (AllReadyK.cons rfl (fun K hK => ?_) AllReadyK.nil)
  go_simp
  refine hK.out _ _ (hHeld.alloc hHeld.size _) (fun hHeld1 => ?_)
  clear hK K
  try simp only [keepPut, List.set, Nat.zero_add]
  refine keepAll (rs := [14]) (by kernel_rfl) (by simp) (AllReadyK.cons rfl (fun K hK => ?_) AllReadyK.nil)
  refine stepF_append rfl (.tmp 55) (.tmp 63) rfl Try.underlying30 hi0 hz0 hz1 hz2 rfl (by decide) (wi := w) hHeld1 rfl (n := 0) (xs := []) (World.ownsRow_made _ #[] 0 (by simp) (Nat.zero_le _) rfl) rfl (HS1.out _ hHeld1) (cellsB_one _) (by unfold maxLen; omega) (by omega) ?_
  intro A4 c4 w1 HO1 HB1 _
  replace HO1 : Hid (w1.ownsRow w.heap.size 5 1 (.slice A4 x.n c4) x.n ([] ++ cellsB x.by_)) := finF HO1 (Nat.zero_add _)
  refine hK.out _ _ HB1 (fun hHeld2 => ?_)
  clear hK K
  try simp only [keepPut, List.set, Nat.zero_add]
  refine keepAll (rs := [16]) (by kernel_rfl) (by simp) (AllReadyK.cons rfl (fun K hK => ?_) AllReadyK.nil)
  refine stepF_append rfl (.tmp 64) (.tmp 65) rfl Try.underlying30 hi0 hz0 hz1 hz2 rfl (by decide) (wi := w) HB1 rfl HO1.out rfl (HS2.out _ HB1) (cellsB_one _) (by unfold maxLen; omega) (by omega) ?_
  intro A5 c5 w2 HO2 HB2 _
  replace HO2 := Lib.hid HO2
  refine hK.out _ _ HB2 (fun hHeld3 => ?_)
  clear hK K
  try simp only [keepPut, List.set, Nat.zero_add]
  refine keepTake (i := 17) (v := ?_) [18, 17] rfl (by kernel_rfl) (by kernel_rfl) (by kernel_rfl) (by kernel_rfl) (by kernel_rfl) (by kernel_rfl) (fun _ _ _ h => h) (Or.inl ⟨by rfl, ?_⟩) (by assumption) ?_
  rotate_left
  · (intro W hSw; (try dsimp only at hSw); have f0 := HC0.out W hSw; have f1 := HC1.out W hSw; go_simp; try with_reducible rfl)
  try simp only [keepPut, List.set, Nat.zero_add]
  refine keepTake (i := 18) (v := ?_) [18] rfl (by kernel_rfl) (by kernel_rfl) (by kernel_rfl) (by kernel_rfl) (by kernel_rfl) (by kernel_rfl) (fun _ _ _ h => h) (Or.inl ⟨by rfl, ?_⟩) (by assumption) ?_
  rotate_left
  · (intro W hSw; (try dsimp only at hSw); have f0 := HC0.out W hSw; have f1 := HC1.out W hSw; go_simp; try with_reducible rfl)
  try simp only [keepPut, List.set, Nat.zero_add]
  refine keepLast rfl (by kernel_rfl) (fun K hK => ?_)
  have f1 := HC1.out w2 HB2
  have f4 := HFg.out w2 HB2
  have f5 := Nat.lt_of_lt_of_le hgl HB2.size
  go_simp
  refine hK.out _ _ ?_
  clear hK K
  try simp only [keepPut, List.set, Nat.zero_add]
  refine keepDone (by kernel_rfl) ?_ _
  refine NoPanic.normal ?_
  have ho : w2.ownsRow w.heap.size 5 1 (.slice A5 (x.n + mm) c5) (x.n + mm) (cellsB (x.by_ ++ l)) := by
    have := HO2.out
    rwa [List.nil_append, ← cellsB_append] at this
  obtain ⟨T', h1, h2⟩ := H.out.setBytes Hx.out HB2 ho (HX.out.ok.append Hok.out) (by have := HX.out.syn; rw [List.length_append]; omega) (by have := HX.out.n; have := Hmm.out; rw [List.length_append]; omega)
  have d1 := h1.c1
  have df := h1.fz 1
  have dl := h1.lt m h1.mT
  have K1 := Lib.hid h1
  have K2 := Lib.hid h2
  clear h1 h2 f1 f4 f5 ho HC0 HC1 HFg HS1 HS2 Hc1 Hf1
  go_wp2
  go_ret
  have hend : putP (flsR R1) x.s ⟨x.by_ ++ l, x.syn⟩ = putP (flsR R) x.s ⟨l, 0⟩ := by
    rw [Hfl.out, ← Hxb.out, ← Hxs.out, List.nil_append, put_put]
  exact ⟨rfl, T', ⟨_, _, (Hd _ _).out.trans hend, K1.out.setWr (wr + 1)⟩, (S1.out.trans K2.out).setG K1.out.mT _ _⟩

set_option maxRecDepth 100000 in
set_option maxHeartbeats 400000 in
theorem rappend_name {T : Nat → Prop} {m : Nat} {L : List (ByteArray × Fl)} {wr sy : Nat} {b : Value} (s : ByteArray) (w : World) (h : RfL w T m L wr sy) (hs : s.size ≤ maxLen) (hv : valueB s = false) :
    Calls Try.prog 25 #[.pointer (some ⟨m, 0, none⟩), .string s, b] w fun e w' => e = .returned (.int .i64 8) ∧ w = w' := by
  have HV := Lib.hid (rvalue_any s hs w)
  rw [hv] at HV
  clear h hs hv
  go_enter Try.func25, Try.ntmps25
  go_wp2_with fail
  refine HV.out.mono ?_
  rintro e w1 ⟨rfl, rfl⟩
  go_wp2
  go_ret
  exact ⟨rfl, rfl⟩
end Go.Proofs.Ytheojokfgndheaa
