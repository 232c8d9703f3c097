/- Layer 6: the document's own disk: a file more, at its place. -/
import Derived.Test.YtheojokfgndheaaDkDrop
import Derived.Test.YtheojokfgndheaaHeldK
import Derived.Deep.QuietTactic
import Derived.BigQuiet
namespace Go.Proofs.Ytheojokfgndheaa
open Go.RowKit Go.Maps

theorem insP_at {α : Type} {x : ByteArray × α} : ∀ {L : List (ByteArray × α)} {a : Nat}, a ≤ L.length → (∀ j p, j < a → L[j]? = some p → ltS p.1 x.1 = true) → (∀ p, L[a]? = some p → ltS x.1 p.1 = true) → insP x L = L.take a ++ [x] ++ L.drop a
  | [], a, ha, _, _ => by
    obtain rfl : a = 0 := by simpa using ha
    rfl
  | y :: r, 0, _, _, h => by
    unfold insP
    rw [if_pos (h y rfl)]
    rfl
  | y :: r, a + 1, ha, hlo, hhi => by
    have h0 := hlo 0 y (by omega) rfl
    unfold insP
    rw [if_neg (by rw [ltS_asymm h0]; decide), insP_at (L := r) (a := a) (by simpa using ha) (fun j p hj hp => hlo (j + 1) p (by omega) (by simpa using hp)) (fun p hp => hhi p (by simpa using hp))]
    rfl
theorem src_box3 {w : World} {g : Nat} {a b c : Value} {t : TypeId} (h : w.heap[g]? = some (.cells #[a, b, c] t (0, 0))) : Src w (some ⟨g, 0, none⟩) 1 3 [a, b, c] :=
  ⟨rfl, fun _ => ⟨_, rfl, fun j u hj => by
    rw [Addr.add_lit]
    show w.cell? ⟨g, 0 + j, none⟩ = some u
    simp only [World.cell?, h]
    match j, hj with
    | 0, hj => simpa using hj
    | 1, hj => simpa using hj
    | 2, hj => simpa using hj⟩⟩
theorem own_madeF (w : World) (o : Obj) (e : TypeId) (size : Nat) : ((w.alloc o).alloc (.cells #[] e)).ownsRow w.heap.size e size (.slice (some ⟨w.heap.size + 1, 0, none⟩) 0 0) 0 [] := by
  have h := World.ownsRow_made (base := w.heap.size) (e := e) (size := size) (w.alloc o) #[] 0 (by simp) (Nat.zero_le _) (by simp)
  rwa [World.size_alloc] at h
theorem Kept.of_below {w wi w' : World} {T T' : Nat → Prop} {m : Nat} {v' : Value} (hb : Below w.heap.size w wi) (h : Kept wi w' T T' m v') : Kept w w' T T' m v' :=
  ⟨(Only.of_below hb fun k => k = m).trans h.only (fun _ h => .inl h), h.sub, fun k hk => Nat.le_trans hb.size (h.new k hk)⟩
theorem add_end {w w3 : World} {T : Nat → Prop} {m wr sy a : Nat} {v : Value} {A6 : Option Addr} {c6 N : Nat} {R : List RE} {f : RE} (h : Rf w T m v R wr sy) (hb : Below w.heap.size w w3)
    (ho : w3.ownsRow w.heap.size 89 3 (.slice A6 N c6) N ((([] ++ cellsF (R.take a)) ++ cellsF [f]) ++ cellsF (R.drop a))) (hN : N = R.length + 1) (ha : a ≤ R.length) (hf : REok w T m v.ownBlock f) (hfew : R.length < 64) :
    ∃ T' v', Rf (w3.setCell ⟨m, 0, none⟩ (.slice A6 N c6)) T' m v' (R.take a ++ [f] ++ R.drop a) wr sy ∧ Step w T (w3.setCell ⟨m, 0, none⟩ (.slice A6 N c6)) T' ∧ Kept w (w3.setCell ⟨m, 0, none⟩ (.slice A6 N c6)) T T' m v' := by
  subst hN
  have hl : (R.take a ++ [f] ++ R.drop a).length = R.length + 1 := by rw [List.length_append, List.length_append, List.length_take, List.length_drop, List.length_singleton]; omega
  rw [List.nil_append, ← cellsF_append, ← cellsF_append] at ho
  obtain ⟨T', h1, h2⟩ := h.row_new (v' := .slice A6 (R.length + 1) c6) (R' := R.take a ++ [f] ++ R.drop a) hb (by rw [hl]; exact ho) (fun x hx => by
    rcases List.mem_append.1 hx with hx | hx
    · rcases List.mem_append.1 hx with hx | hx
      · exact h.each x (List.mem_of_mem_take hx)
      · rw [List.mem_singleton] at hx; subst hx; exact hf
    · exact h.each x (List.mem_of_mem_drop hx)) (by rw [hl]; omega)
  exact ⟨T', _, h1, h2⟩

set_option maxRecDepth 100000 in
set_option maxHeartbeats 4000000 in
theorem radd_any {T : Nat → Prop} {m : Nat} {v : Value} {R : List RE} {wr0 sy : Nat} (f : RE) (w : World) (h : Rf w T m v R wr0 sy) (hfew : R.length < 64) (hf : REok w T m v.ownBlock f) (hno : ∀ x ∈ R, x.s ≠ f.s) :
    Calls Try.prog 47 #[.pointer (some ⟨m, 0, none⟩), .agg #[.string f.s, .slice f.A f.n f.c, .int .i64 f.syn]] w fun e w' => e = .returned (.tuple #[]) ∧ ∃ T' v' a, a ≤ R.length ∧ (∀ j x, j < a → R[j]? = some x → ltS x.s f.s = true) ∧ (∀ x, R[a]? = some x → ltS f.s x.s = true) ∧
      Rf w' T' m v' (R.take a ++ [f] ++ R.drop a) wr0 sy ∧ Step w T w' T' ∧ Kept w w' T T' m v' := by
  obtain ⟨i0, hi0, hz0, hz1, hz2⟩ := info_parts Try.infoF
  obtain ⟨A, c, rfl⟩ := h.slice
  have hml := h.lt m h.mT
  have H := Lib.hid h
  have Hf := Lib.hid hf
  have Hno := Lib.hid hno
  have c0 := h.c0
  clear h hf hno
  go_enter Try.func47, Try.ntmps47
  go_wp2
  go_loopw [4] (fun iv wr => ∃ a : Nat, a ≤ R.length ∧ iv = .int .i64 a ∧ Hid (∀ j x, j < a → R[j]? = some x → ltS x.s f.s = true) ∧ Hid (Below (w.alloc (.cells #[.string f.s, .slice f.A f.n f.c, .int .i64 f.syn] 89)).heap.size (w.alloc (.cells #[.string f.s, .slice f.A f.n f.c, .int .i64 f.syn] 89)) wr)) (fun iv _ => R.length - (intOf iv).toNat)
  case atStart => exact ⟨0, Nat.zero_le _, rfl, fun j x hj => by omega, Below.refl _ _⟩
  case round =>
    obtain ⟨a, ha, rfl, Hlo, Hb⟩ := hrel
    have hb0 : Below w.heap.size w (w.alloc (.cells #[.string f.s, .slice f.A f.n f.c, .int .i64 f.syn] 89)) := (Below.refl _ _).alloc (Nat.le_refl _) _
    have hbw : Below w.heap.size w wr := hb0.trans (Hb.out.mono hb0.size)
    have hwz : w.heap.size < wr.heap.size := by have := Hb.out.size; simp at this; omega
    have b0 := (Hb.out.cell (p := ⟨w.heap.size, 0, none⟩) (by simp)).trans ((World.cell?_alloc_at _ _ _ _ rfl).trans rfl)
    have b1 := (Hb.out.cell (p := ⟨w.heap.size, 1, none⟩) (by simp)).trans ((World.cell?_alloc_at _ _ _ _ rfl).trans rfl)
    have b2 := (Hb.out.cell (p := ⟨w.heap.size, 2, none⟩) (by simp)).trans ((World.cell?_alloc_at _ _ _ _ rfl).trans rfl)
    change wr.cell? ⟨w.heap.size, 0, none⟩ = some (.string f.s) at b0
    change wr.cell? ⟨w.heap.size, 1, none⟩ = some (.slice f.A f.n f.c) at b1
    change wr.cell? ⟨w.heap.size, 2, none⟩ = some (.int .i64 f.syn) at b2
    have k0 := (hbw.cell (p := ⟨m, 0, none⟩) hml).trans c0
    have HR := Lib.hid (H.out.below hbw)
    have Hbw := Lib.hid hbw
    clear hb0 hbw c0
    by_cases hgo : ∃ x, R[a]? = some x ∧ ltS x.s f.s = true
    · obtain ⟨x, hx, hlx⟩ := hgo
      have hlt : a < R.length := (List.getElem?_eq_some_iff.1 hx).1
      obtain ⟨g, cap, hv, hgl, x0, x1, x2, _⟩ := HR.out.at_ hx
      injection hv with hv1 hv2 hv3
      subst hv1
      subst hv3
      clear hv2 x1 x2
      have hg1 : decide (a < R.length) = true := decide_eq_true hlt
      have Hlo2 : Hid (∀ j y, j < a + 1 → R[j]? = some y → ltS y.s f.s = true) := fun j y hj hy => by
        rcases Nat.lt_or_ge j a with h' | h'
        · exact Hlo.out j y h' hy
        · obtain rfl : j = a := by omega
          rw [hx] at hy; injection hy with hy; rw [← hy]; exact hlx
      clear hx
      unfold ltS at hlx
      go_wp2
      go_quiet (fail)
      go_wp2
      exact ⟨⟨a + 1, by omega, by go_num, Hlo2, cbelow_drewN Hb.out _⟩, by simp [intOf]; omega⟩
    · have Hhi : Hid (∀ x, R[a]? = some x → ltS f.s x.s = true) := fun x hx => by
        have h1 : ltS x.s f.s = false := by
          cases e : ltS x.s f.s with
          | false => rfl
          | true => exact absurd ⟨x, hx, e⟩ hgo
        exact ltS_of h1 (Hno.out x (List.mem_iff_getElem?.2 ⟨a, hx⟩))
      rcases Nat.lt_or_ge a R.length with hlt | hge
      · have hx : R[a]? = some R[a] := List.getElem?_eq_getElem hlt
        obtain ⟨g, cap, hv, hgl, x0, x1, x2, _⟩ := HR.out.at_ hx
        injection hv with hv1 hv2 hv3
        subst hv1
        subst hv3
        clear hv2 x1 x2
        have hg1 : decide (a < R.length) = true := decide_eq_true hlt
        have hlx : ltS R[a].s f.s = false := by
          cases e : ltS R[a].s f.s with
          | false => rfl
          | true => exact absurd ⟨_, hx, e⟩ hgo
        obtain ⟨y, hy⟩ : ∃ y, y = R[a] := ⟨_, rfl⟩
        rw [← hy] at x0 hlx
        clear hx hy hgo
        unfold ltS at hlx
        go_wp2
        go_quiet (fail)
        go_wp2
        obtain ⟨wi, hwi, hbi⟩ : ∃ wi, wi = wr.drewN nq ∧ Below wr.heap.size wr wi := ⟨_, rfl, cbelow_drewN (Below.refl _ _) _⟩
        rw [← hwi]
        have hzi : wi.heap.size = wr.heap.size := by rw [hwi]; rfl
        have Hzi := Lib.hid hzi
        clear hwi hzi
        have hbwi := Hbw.out.trans (hbi.mono Hbw.out.size)
        obtain ⟨A1, hs1, s1, q1⟩ := cutF_lo (z := (a : Int)) (a := a) rfl (H.out.below hbwi).own ha
        obtain ⟨A3, c3, hs3, s3, q3⟩ := cutF_hi (z := (a : Int)) (a := a) rfl (H.out.below hbwi).own ha
        have hmi : m < wi.heap.size := Nat.lt_of_lt_of_le hml hbwi.size
        have hwi2 : w.heap.size < wi.heap.size := by have := Hzi.out; omega
        have HS1 : Hid (∀ W, Below wi.heap.size wi W → Src W A1 a 3 (cellsF (R.take a))) := fun W hW => SrcF.below s1 q1 hW
        have HS3 : Hid (∀ W, Below wi.heap.size wi W → Src W A3 (R.length - a) 3 (cellsF (R.drop a))) := fun W hW => SrcF.below s3 q3 hW
        have e0 := (hbi.cell (p := ⟨m, 0, none⟩) (by show m < _; omega)).trans k0
        have p0 := (hbi.cell (p := ⟨w.heap.size, 0, none⟩) hwz).trans b0
        have p1 := (hbi.cell (p := ⟨w.heap.size, 1, none⟩) hwz).trans b1
        have p2 := (hbi.cell (p := ⟨w.heap.size, 2, none⟩) hwz).trans b2
        have HC : Hid (∀ W, Below wi.heap.size wi W → W.cell? ⟨m, 0, none⟩ = some (.slice (some ⟨g, 0, none⟩) R.length c)) := fun W hW => (hW.cell (p := ⟨m, 0, none⟩) hmi).trans e0
        have HF : Hid (∀ W, Below wi.heap.size wi W → W.frozen? ⟨m, 0, none⟩ = false) := fun W hW => (hW.frozen (p := ⟨m, 0, none⟩) hmi).trans ((H.out.below hbwi).fz 0)
        have HX0 : Hid (∀ W, Below wi.heap.size wi W → W.cell? ⟨w.heap.size, 0, none⟩ = some (.string f.s)) := fun W hW => (hW.cell (p := ⟨w.heap.size, 0, none⟩) hwi2).trans p0
        have HX1 : Hid (∀ W, Below wi.heap.size wi W → W.cell? ⟨w.heap.size, 1, none⟩ = some (.slice f.A f.n f.c)) := fun W hW => (hW.cell (p := ⟨w.heap.size, 1, none⟩) hwi2).trans p1
        have HX2 : Hid (∀ W, Below wi.heap.size wi W → W.cell? ⟨w.heap.size, 2, none⟩ = some (.int .i64 f.syn)) := fun W hW => (hW.cell (p := ⟨w.heap.size, 2, none⟩) hwi2).trans p2
        have Hbwi := Lib.hid hbwi
        have HRi := Lib.hid (H.out.below hbwi)
        have Hfi := Lib.hid (Hf.out.keep (Only.of_below hbwi fun _ => False) (fun _ _ h => h))
        clear s1 q1 s3 q3 k0 b0 b1 b2 e0 p0 p1 p2 hbi hbwi hwz
        refine wp_region_noPanic ?_
        refine keepBegin (S := fun W => Below wi.heap.size wi W) 21 (by kernel_rfl) ?_ (fun hHeld => ?_)
        · exact (RowKit.Below.refl _ _).drew
        refine keepTake (i := 0) (v := ?_) [0] rfl (by kernel_rfl) (by kernel_rfl) (by kernel_rfl) (by kernel_rfl) (by kernel_rfl) (by kernel_rfl) (fun _ _ _ h => h) (Or.inl ⟨by rfl, ?_⟩) (by assumption) ?_
        rotate_left
        · (intro W hSw; (try dsimp only at hSw); have f0 := HC.out W hSw; have f1 := HX0.out W hSw; have f2 := HX1.out W hSw; have f3 := HX2.out W hSw; have f4 := HF.out W hSw; have g1 := hSw.size; have g2 := Nat.lt_of_lt_of_le hmi g1; have g3 := Nat.lt_of_lt_of_le hwi2 g1; go_simp; try with_reducible rfl)
        try simp only [keepPut, List.set, Nat.zero_add]
        refine keepTake (i := 2) (v := ?_) [2] rfl (by kernel_rfl) (by kernel_rfl) (by kernel_rfl) (by kernel_rfl) (by kernel_rfl) (by kernel_rfl) (fun _ _ _ h => h) (Or.inl ⟨by rfl, ?_⟩) (by assumption) ?_
        rotate_left
        · (intro W hSw; (try dsimp only at hSw); have f0 := HC.out W hSw; have f1 := HX0.out W hSw; have f2 := HX1.out W hSw; have f3 := HX2.out W hSw; have f4 := HF.out W hSw; have g1 := hSw.size; have g2 := Nat.lt_of_lt_of_le hmi g1; have g3 := Nat.lt_of_lt_of_le hwi2 g1; go_simp; try with_reducible rfl)
        try simp only [keepPut, List.set, Nat.zero_add]
        refine keepTake (i := 3) (v := ?_) [3] rfl (by kernel_rfl) (by kernel_rfl) (by kernel_rfl) (by kernel_rfl) (by kernel_rfl) (by kernel_rfl) (fun _ _ _ h => h) (Or.inl ⟨by rfl, ?_⟩) (by assumption) ?_
        rotate_left
        · (intro W hSw; (try dsimp only at hSw); have f0 := HC.out W hSw; have f1 := HX0.out W hSw; have f2 := HX1.out W hSw; have f3 := HX2.out W hSw; have f4 := HF.out W hSw; have g1 := hSw.size; have g2 := Nat.lt_of_lt_of_le hmi g1; have g3 := Nat.lt_of_lt_of_le hwi2 g1; go_simp; try with_reducible rfl)
        try simp only [keepPut, List.set, Nat.zero_add]
        refine keepTake (i := 4) (v := ?_) [4] rfl (by kernel_rfl) (by kernel_rfl) (by kernel_rfl) (by kernel_rfl) (by kernel_rfl) (by kernel_rfl) (fun _ _ _ h => h) (Or.inl ⟨by rfl, ?_⟩) (by assumption) ?_
        rotate_left
        · (intro W hSw; (try dsimp only at hSw); have f0 := HC.out W hSw; have f1 := HX0.out W hSw; have f2 := HX1.out W hSw; have f3 := HX2.out W hSw; have f4 := HF.out W hSw; have g1 := hSw.size; have g2 := Nat.lt_of_lt_of_le hmi g1; have g3 := Nat.lt_of_lt_of_le hwi2 g1; go_simp; try with_reducible rfl)
        try simp only [keepPut, List.set, Nat.zero_add]
        refine keepTake (i := 5) (v := ?_) [5] rfl (by kernel_rfl) (by kernel_rfl) (by kernel_rfl) (by kernel_rfl) (by kernel_rfl) (by kernel_rfl) (fun _ _ _ h => h) (Or.inl ⟨by rfl, ?_⟩) (by assumption) ?_
        rotate_left
        · (intro W hSw; (try dsimp only at hSw); have f0 := HC.out W hSw; have f1 := HX0.out W hSw; have f2 := HX1.out W hSw; have f3 := HX2.out W hSw; have f4 := HF.out W hSw; have g1 := hSw.size; have g2 := Nat.lt_of_lt_of_le hmi g1; have g3 := Nat.lt_of_lt_of_le hwi2 g1; go_simp; try with_reducible rfl)
        try simp only [keepPut, List.set, Nat.zero_add]
        refine keepTake (i := 6) (v := ?_) [6] rfl (by kernel_rfl) (by kernel_rfl) (by kernel_rfl) (by kernel_rfl) (by kernel_rfl) (by kernel_rfl) (fun _ _ _ h => h) (Or.inl ⟨by rfl, ?_⟩) (by assumption) ?_
        rotate_left
        · (intro W hSw; (try dsimp only at hSw); have f0 := HC.out W hSw; have f1 := HX0.out W hSw; have f2 := HX1.out W hSw; have f3 := HX2.out W hSw; have f4 := HF.out W hSw; have g1 := hSw.size; have g2 := Nat.lt_of_lt_of_le hmi g1; have g3 := Nat.lt_of_lt_of_le hwi2 g1; go_simp; try with_reducible rfl)
        try simp only [keepPut, List.set, Nat.zero_add]
        refine keepTake (i := 7) (v := ?_) [7] rfl (by kernel_rfl) (by kernel_rfl) (by kernel_rfl) (by kernel_rfl) (by kernel_rfl) (by kernel_rfl) (fun _ _ _ h => h) (Or.inl ⟨by rfl, ?_⟩) (by assumption) ?_
        rotate_left
        · (intro W hSw; (try dsimp only at hSw); have f0 := HC.out W hSw; have f1 := HX0.out W hSw; have f2 := HX1.out W hSw; have f3 := HX2.out W hSw; have f4 := HF.out W hSw; have g1 := hSw.size; have g2 := Nat.lt_of_lt_of_le hmi g1; have g3 := Nat.lt_of_lt_of_le hwi2 g1; go_simp; try with_reducible rfl)
        try simp only [keepPut, List.set, Nat.zero_add]
        refine keepTake (i := 9) (v := ?_) [9] rfl (by kernel_rfl) (by kernel_rfl) (by kernel_rfl) (by kernel_rfl) (by kernel_rfl) (by kernel_rfl) (fun _ _ _ h => h) (Or.inl ⟨by rfl, ?_⟩) (by assumption) ?_
        rotate_left
        · (intro W hSw; (try dsimp only at hSw); have f0 := HC.out W hSw; have f1 := HX0.out W hSw; have f2 := HX1.out W hSw; have f3 := HX2.out W hSw; have f4 := HF.out W hSw; have g1 := hSw.size; have g2 := Nat.lt_of_lt_of_le hmi g1; have g3 := Nat.lt_of_lt_of_le hwi2 g1; go_simp; try with_reducible rfl)
        try simp only [keepPut, List.set, Nat.zero_add]
        refine keepTake (i := 12) (v := ?_) [12] rfl (by kernel_rfl) (by kernel_rfl) (by kernel_rfl) (by kernel_rfl) (by kernel_rfl) (by kernel_rfl) (fun _ _ _ h => h) (Or.inl ⟨by rfl, ?_⟩) (by assumption) ?_
        rotate_left
        · (intro W hSw; (try dsimp only at hSw); have f0 := HC.out W hSw; have f1 := HX0.out W hSw; have f2 := HX1.out W hSw; have f3 := HX2.out W hSw; have f4 := HF.out W hSw; have g1 := hSw.size; have g2 := Nat.lt_of_lt_of_le hmi g1; have g3 := Nat.lt_of_lt_of_le hwi2 g1; go_simp; try with_reducible rfl)
        try simp only [keepPut, List.set, Nat.zero_add]
        refine keepTake (i := 13) (v := ?_) [13] rfl (by kernel_rfl) (by kernel_rfl) (by kernel_rfl) (by kernel_rfl) (by kernel_rfl) (by kernel_rfl) (fun _ _ _ h => h) (Or.inl ⟨by rfl, ?_⟩) (by assumption) ?_
        rotate_left
        · (intro W hSw; (try dsimp only at hSw); have f0 := HC.out W hSw; have f1 := HX0.out W hSw; have f2 := HX1.out W hSw; have f3 := HX2.out W hSw; have f4 := HF.out W hSw; have g1 := hSw.size; have g2 := Nat.lt_of_lt_of_le hmi g1; have g3 := Nat.lt_of_lt_of_le hwi2 g1; go_simp; try with_reducible rfl)
        try simp only [keepPut, List.set, Nat.zero_add]
        refine keepTake (i := 14) (v := ?_) [14] rfl (by kernel_rfl) (by kernel_rfl) (by kernel_rfl) (by kernel_rfl) (by kernel_rfl) (by kernel_rfl) (fun _ _ _ h => h) (Or.inl ⟨by rfl, ?_⟩) (by assumption) ?_
        rotate_left
        · (intro W hSw; (try dsimp only at hSw); have f0 := HC.out W hSw; have f1 := HX0.out W hSw; have f2 := HX1.out W hSw; have f3 := HX2.out W hSw; have f4 := HF.out W hSw; have g1 := hSw.size; have g2 := Nat.lt_of_lt_of_le hmi g1; have g3 := Nat.lt_of_lt_of_le hwi2 g1; go_simp; try with_reducible rfl)
        try simp only [keepPut, List.set, Nat.zero_add]
        refine keepTake (i := 15) (v := ?_) [15] rfl (by kernel_rfl) (by kernel_rfl) (by kernel_rfl) (by kernel_rfl) (by kernel_rfl) (by kernel_rfl) (fun _ _ _ h => h) (Or.inl ⟨by rfl, ?_⟩) (by assumption) ?_
        rotate_left
        · (intro W hSw; (try dsimp only at hSw); have f0 := HC.out W hSw; have f1 := HX0.out W hSw; have f2 := HX1.out W hSw; have f3 := HX2.out W hSw; have f4 := HF.out W hSw; have g1 := hSw.size; have g2 := Nat.lt_of_lt_of_le hmi g1; have g3 := Nat.lt_of_lt_of_le hwi2 g1; go_simp; try with_reducible rfl)
        try simp only [keepPut, List.set, Nat.zero_add]
        refine keepTake (i := 16) (v := ?_) [16] rfl (by kernel_rfl) (by kernel_rfl) (by kernel_rfl) (by kernel_rfl) (by kernel_rfl) (by kernel_rfl) (fun _ _ _ h => h) (Or.inl ⟨by rfl, ?_⟩) (by assumption) ?_
        rotate_left
        · (intro W hSw; (try dsimp only at hSw); have f0 := HC.out W hSw; have f1 := HX0.out W hSw; have f2 := HX1.out W hSw; have f3 := HX2.out W hSw; have f4 := HF.out W hSw; have g1 := hSw.size; have g2 := Nat.lt_of_lt_of_le hmi g1; have g3 := Nat.lt_of_lt_of_le hwi2 g1; go_simp; try with_reducible rfl)
        try simp only [keepPut, List.set, Nat.zero_add]
        refine keepTake (i := 17) (v := ?_) [17] rfl (by kernel_rfl) (by kernel_rfl) (by kernel_rfl) (by kernel_rfl) (by kernel_rfl) (by kernel_rfl) (fun _ _ _ h => h) (Or.inl ⟨by rfl, ?_⟩) (by assumption) ?_
        rotate_left
        · (intro W hSw; (try dsimp only at hSw); have f0 := HC.out W hSw; have f1 := HX0.out W hSw; have f2 := HX1.out W hSw; have f3 := HX2.out W hSw; have f4 := HF.out W hSw; have g1 := hSw.size; have g2 := Nat.lt_of_lt_of_le hmi g1; have g3 := Nat.lt_of_lt_of_le hwi2 g1; go_simp; try with_reducible rfl)
        try simp only [keepPut, List.set, Nat.zero_add]
        have hq1 : ((wi.drew.alloc (.cells #[] 89)).alloc (.cells #[.string f.s, .slice f.A f.n f.c, .int .i64 f.syn] 89)).heap[wi.heap.size + 1]? = some (.cells #[.string f.s, .slice f.A f.n f.c, .int .i64 f.syn] 89) := by
          have h := heap_alloc_new (wi.drew.alloc (.cells #[] 89)) (.cells #[.string f.s, .slice f.A f.n f.c, .int .i64 f.syn] 89)
          rwa [World.size_alloc] at h
        have hq2 : ((wi.drew.alloc (.cells #[.string f.s, .slice f.A f.n f.c, .int .i64 f.syn] 89)).alloc (.cells #[] 89)).heap[wi.heap.size]? = some (.cells #[.string f.s, .slice f.A f.n f.c, .int .i64 f.syn] 89) :=
          (RowKit.Below.heap_alloc _ _ _ (by simp)).trans (heap_alloc_new _ _)
        replace hq1 := Lib.hid hq1
        replace hq2 := Lib.hid hq2
        refine keepAll (rs := [1, 10]) (by kernel_rfl) (by simp) (AllReadyK.cons rfl (fun K hK => ?x1) (AllReadyK.cons rfl (fun K hK => ?y1) AllReadyK.nil))
        case' x1 =>
          go_simp
          refine hK.out _ _ (hHeld.alloc hHeld.size _) (fun hHeld1 => ?_)
          clear hK K
          try simp only [keepPut, List.set, Nat.zero_add]
          refine keepAll (rs := [8, 10]) (by kernel_rfl) (by simp) (AllReadyK.cons rfl (fun K hK => ?x8) (AllReadyK.cons rfl (fun K hK => ?y8) AllReadyK.nil))
          case' x8 =>
            refine stepF_append rfl (.tmp 28) (.tmp 34) rfl Try.underlying27 hi0 hz0 hz1 hz2 rfl (by decide) (wi := wi) hHeld1 rfl (n := 0) (xs := []) (World.ownsRow_made _ #[] 0 (by simp) (Nat.zero_le _) rfl) rfl (HS1.out _ hHeld1) (cellsF_one _) (by unfold maxLen; omega) (by omega) ?_
            intro A4 c4 w1 HO1 HB1 _
            replace HO1 : Hid (w1.ownsRow wi.heap.size 89 3 (.slice A4 a c4) a ([] ++ cellsF (R.take a))) := finF HO1 (Nat.zero_add _)
            refine hK.out _ _ HB1 (fun hHeld2 => ?_)
            clear hK K
            try simp only [keepPut, List.set, Nat.zero_add]
            refine keepAll (rs := [10]) (by kernel_rfl) (by simp) (AllReadyK.cons rfl (fun K hK => ?_) AllReadyK.nil)
            have f1 := HX0.out w1 HB1; have f2 := HX1.out w1 HB1; have f3 := HX2.out w1 HB1
            go_simp
            refine hK.out _ _ (HB1.alloc HB1.size _) (fun hHeld3 => ?_)
            clear hK K
            try simp only [keepPut, List.set, Nat.zero_add]
            refine keepAll (rs := [11]) (by kernel_rfl) (by simp) (AllReadyK.cons rfl (fun K hK => ?_) AllReadyK.nil)
            refine stepF_append rfl (.tmp 35) (.tmp 37) rfl Try.underlying27 hi0 hz0 hz1 hz2 rfl (by decide) (wi := wi) hHeld3 rfl (HO1.out.alloc _) rfl (src_box3 (heap_alloc_new _ _)) (cellsF_one [f]) (by unfold maxLen; omega) (by omega) ?_
            intro A5 c5 w2 HO2 HB2 _
            replace HO2 := Lib.hid HO2
            refine hK.out _ _ HB2 (fun hHeld4 => ?_)
            clear hK K
            try simp only [keepPut, List.set, Nat.zero_add]
            refine keepAll (rs := [18]) (by kernel_rfl) (by simp) (AllReadyK.cons rfl (fun K hK => ?_) AllReadyK.nil)
            refine stepF_append rfl (.tmp 38) (.tmp 44) rfl Try.underlying27 hi0 hz0 hz1 hz2 rfl (by decide) (wi := wi) HB2 rfl HO2.out rfl (HS3.out _ HB2) (cellsF_one _) (by unfold maxLen; omega) (by omega) ?_
            intro A6 c6 w3 HO3 HB3 _
            replace HO3 := Lib.hid HO3
            refine hK.out _ _ HB3 (fun hHeld9 => ?_)
            clear hK K
            try simp only [keepPut, List.set, Nat.zero_add]
            refine keepTake (i := 19) (v := ?_) [20, 19] rfl (by kernel_rfl) (by kernel_rfl) (by kernel_rfl) (by kernel_rfl) (by kernel_rfl) (by kernel_rfl) (fun _ _ _ h => h) (Or.inl ⟨by rfl, ?_⟩) (by assumption) ?_
            rotate_left
            · (intro W hSw; (try dsimp only at hSw); have f0 := HC.out W hSw; have f1 := HX0.out W hSw; have f2 := HX1.out W hSw; have f3 := HX2.out W hSw; have f4 := HF.out W hSw; have g1 := hSw.size; have g2 := Nat.lt_of_lt_of_le hmi g1; have g3 := Nat.lt_of_lt_of_le hwi2 g1; go_simp; try with_reducible rfl)
            try simp only [keepPut, List.set, Nat.zero_add]
            refine keepTake (i := 20) (v := ?_) [20] rfl (by kernel_rfl) (by kernel_rfl) (by kernel_rfl) (by kernel_rfl) (by kernel_rfl) (by kernel_rfl) (fun _ _ _ h => h) (Or.inl ⟨by rfl, ?_⟩) (by assumption) ?_
            rotate_left
            · (intro W hSw; (try dsimp only at hSw); have f0 := HC.out W hSw; have f1 := HX0.out W hSw; have f2 := HX1.out W hSw; have f3 := HX2.out W hSw; have f4 := HF.out W hSw; have g1 := hSw.size; have g2 := Nat.lt_of_lt_of_le hmi g1; have g3 := Nat.lt_of_lt_of_le hwi2 g1; go_simp; try with_reducible rfl)
            try simp only [keepPut, List.set, Nat.zero_add]
            refine keepLast rfl (by kernel_rfl) (fun K hK => ?_)
            have f0 := HC.out w3 HB3
            have f4 := HF.out w3 HB3
            have g2 := Nat.lt_of_lt_of_le hmi HB3.size
            go_simp
            refine hK.out _ _ ?_
            clear hK K
            try simp only [keepPut, List.set, Nat.zero_add]
            refine keepDone (by kernel_rfl) ?_ _
            refine NoPanic.normal ?_
          case' y8 =>
            go_simp
            refine hK.out _ _ (hHeld1.alloc hHeld1.size _) (fun hHeld2 => ?_)
            clear hK K
            try simp only [keepPut, List.set, Nat.zero_add]
            refine keepAll (rs := [8]) (by kernel_rfl) (by simp) (AllReadyK.cons rfl (fun K hK => ?_) AllReadyK.nil)
            refine stepF_append rfl (.tmp 28) (.tmp 34) rfl Try.underlying27 hi0 hz0 hz1 hz2 rfl (by decide) (wi := wi) hHeld2 rfl (n := 0) (xs := []) ((World.ownsRow_made _ #[] 0 (by simp) (Nat.zero_le _) rfl).alloc _) rfl (HS1.out _ hHeld2) (cellsF_one _) (by unfold maxLen; omega) (by omega) ?_
            intro A4 c4 w1 HO1 HB1 HK1
            replace HO1 : Hid (w1.ownsRow wi.heap.size 89 3 (.slice A4 a c4) a ([] ++ cellsF (R.take a))) := finF HO1 (Nat.zero_add _)
            refine hK.out _ _ HB1 (fun hHeld3 => ?_)
            clear hK K
            have hbx := Lib.hid (HK1 _ _ hq1.out (fun q hq hn => by have h2 := (Option.some.inj hq : wi.heap.size = q); omega))
            clear HK1
            try simp only [keepPut, List.set, Nat.zero_add]
            refine keepAll (rs := [11]) (by kernel_rfl) (by simp) (AllReadyK.cons rfl (fun K hK => ?_) AllReadyK.nil)
            refine stepF_append rfl (.tmp 35) (.tmp 37) rfl Try.underlying27 hi0 hz0 hz1 hz2 rfl (by decide) (wi := wi) HB1 rfl HO1.out rfl (src_box3 hbx.out) (cellsF_one [f]) (by unfold maxLen; omega) (by omega) ?_
            intro A5 c5 w2 HO2 HB2 _
            replace HO2 := Lib.hid HO2
            refine hK.out _ _ HB2 (fun hHeld4 => ?_)
            clear hK K
            try simp only [keepPut, List.set, Nat.zero_add]
            refine keepAll (rs := [18]) (by kernel_rfl) (by simp) (AllReadyK.cons rfl (fun K hK => ?_) AllReadyK.nil)
            refine stepF_append rfl (.tmp 38) (.tmp 44) rfl Try.underlying27 hi0 hz0 hz1 hz2 rfl (by decide) (wi := wi) HB2 rfl HO2.out rfl (HS3.out _ HB2) (cellsF_one _) (by unfold maxLen; omega) (by omega) ?_
            intro A6 c6 w3 HO3 HB3 _
            replace HO3 := Lib.hid HO3
            refine hK.out _ _ HB3 (fun hHeld9 => ?_)
            clear hK K
            try simp only [keepPut, List.set, Nat.zero_add]
            refine keepTake (i := 19) (v := ?_) [20, 19] rfl (by kernel_rfl) (by kernel_rfl) (by kernel_rfl) (by kernel_rfl) (by kernel_rfl) (by kernel_rfl) (fun _ _ _ h => h) (Or.inl ⟨by rfl, ?_⟩) (by assumption) ?_
            rotate_left
            · (intro W hSw; (try dsimp only at hSw); have f0 := HC.out W hSw; have f1 := HX0.out W hSw; have f2 := HX1.out W hSw; have f3 := HX2.out W hSw; have f4 := HF.out W hSw; have g1 := hSw.size; have g2 := Nat.lt_of_lt_of_le hmi g1; have g3 := Nat.lt_of_lt_of_le hwi2 g1; go_simp; try with_reducible rfl)
            try simp only [keepPut, List.set, Nat.zero_add]
            refine keepTake (i := 20) (v := ?_) [20] rfl (by kernel_rfl) (by kernel_rfl) (by kernel_rfl) (by kernel_rfl) (by kernel_rfl) (by kernel_rfl) (fun _ _ _ h => h) (Or.inl ⟨by rfl, ?_⟩) (by assumption) ?_
            rotate_left
            · (intro W hSw; (try dsimp only at hSw); have f0 := HC.out W hSw; have f1 := HX0.out W hSw; have f2 := HX1.out W hSw; have f3 := HX2.out W hSw; have f4 := HF.out W hSw; have g1 := hSw.size; have g2 := Nat.lt_of_lt_of_le hmi g1; have g3 := Nat.lt_of_lt_of_le hwi2 g1; go_simp; try with_reducible rfl)
            try simp only [keepPut, List.set, Nat.zero_add]
            refine keepLast rfl (by kernel_rfl) (fun K hK => ?_)
            have f0 := HC.out w3 HB3
            have f4 := HF.out w3 HB3
            have g2 := Nat.lt_of_lt_of_le hmi HB3.size
            go_simp
            refine hK.out _ _ ?_
            clear hK K
            try simp only [keepPut, List.set, Nat.zero_add]
            refine keepDone (by kernel_rfl) ?_ _
            refine NoPanic.normal ?_
        case' y1 =>
          go_simp
          refine hK.out _ _ (hHeld.alloc hHeld.size _) (fun hHeld1 => ?_)
          clear hK K
          try simp only [keepPut, List.set, Nat.zero_add]
          refine keepAll (rs := [1]) (by kernel_rfl) (by simp) (AllReadyK.cons rfl (fun K hK => ?_) AllReadyK.nil)
          go_simp
          refine hK.out _ _ (hHeld1.alloc hHeld1.size _) (fun hHeld2 => ?_)
          clear hK K
          try simp only [keepPut, List.set, Nat.zero_add]
          refine keepAll (rs := [8]) (by kernel_rfl) (by simp) (AllReadyK.cons rfl (fun K hK => ?_) AllReadyK.nil)
          refine stepF_append rfl (.tmp 28) (.tmp 34) rfl Try.underlying27 hi0 hz0 hz1 hz2 rfl (by decide) (wi := wi) hHeld2 rfl (n := 0) (xs := []) (own_madeF _ _ _ _) rfl (HS1.out _ hHeld2) (cellsF_one _) (by unfold maxLen; omega) (by omega) ?_
          intro A4 c4 w1 HO1 HB1 HK1
          replace HO1 : Hid (w1.ownsRow wi.heap.size 89 3 (.slice A4 a c4) a ([] ++ cellsF (R.take a))) := finF HO1 (Nat.zero_add _)
          refine hK.out _ _ HB1 (fun hHeld3 => ?_)
          clear hK K
          have hbx := Lib.hid (HK1 _ _ hq2.out (fun q hq hn => by have h2 := (Option.some.inj hq : wi.heap.size + 1 = q); omega))
          clear HK1
          try simp only [keepPut, List.set, Nat.zero_add]
          refine keepAll (rs := [11]) (by kernel_rfl) (by simp) (AllReadyK.cons rfl (fun K hK => ?_) AllReadyK.nil)
          refine stepF_append rfl (.tmp 35) (.tmp 37) rfl Try.underlying27 hi0 hz0 hz1 hz2 rfl (by decide) (wi := wi) HB1 rfl HO1.out rfl (src_box3 hbx.out) (cellsF_one [f]) (by unfold maxLen; omega) (by omega) ?_
          intro A5 c5 w2 HO2 HB2 _
          replace HO2 := Lib.hid HO2
          refine hK.out _ _ HB2 (fun hHeld4 => ?_)
          clear hK K
          try simp only [keepPut, List.set, Nat.zero_add]
          refine keepAll (rs := [18]) (by kernel_rfl) (by simp) (AllReadyK.cons rfl (fun K hK => ?_) AllReadyK.nil)
          refine stepF_append rfl (.tmp 38) (.tmp 44) rfl Try.underlying27 hi0 hz0 hz1 hz2 rfl (by decide) (wi := wi) HB2 rfl HO2.out rfl (HS3.out _ HB2) (cellsF_one _) (by unfold maxLen; omega) (by omega) ?_
          intro A6 c6 w3 HO3 HB3 _
          replace HO3 := Lib.hid HO3
          refine hK.out _ _ HB3 (fun hHeld9 => ?_)
          clear hK K
          try simp only [keepPut, List.set, Nat.zero_add]
          refine keepTake (i := 19) (v := ?_) [20, 19] rfl (by kernel_rfl) (by kernel_rfl) (by kernel_rfl) (by kernel_rfl) (by kernel_rfl) (by kernel_rfl) (fun _ _ _ h => h) (Or.inl ⟨by rfl, ?_⟩) (by assumption) ?_
          rotate_left
          · (intro W hSw; (try dsimp only at hSw); have f0 := HC.out W hSw; have f1 := HX0.out W hSw; have f2 := HX1.out W hSw; have f3 := HX2.out W hSw; have f4 := HF.out W hSw; have g1 := hSw.size; have g2 := Nat.lt_of_lt_of_le hmi g1; have g3 := Nat.lt_of_lt_of_le hwi2 g1; go_simp; try with_reducible rfl)
          try simp only [keepPut, List.set, Nat.zero_add]
          refine keepTake (i := 20) (v := ?_) [20] rfl (by kernel_rfl) (by kernel_rfl) (by kernel_rfl) (by kernel_rfl) (by kernel_rfl) (by kernel_rfl) (fun _ _ _ h => h) (Or.inl ⟨by rfl, ?_⟩) (by assumption) ?_
          rotate_left
          · (intro W hSw; (try dsimp only at hSw); have f0 := HC.out W hSw; have f1 := HX0.out W hSw; have f2 := HX1.out W hSw; have f3 := HX2.out W hSw; have f4 := HF.out W hSw; have g1 := hSw.size; have g2 := Nat.lt_of_lt_of_le hmi g1; have g3 := Nat.lt_of_lt_of_le hwi2 g1; go_simp; try with_reducible rfl)
          try simp only [keepPut, List.set, Nat.zero_add]
          refine keepLast rfl (by kernel_rfl) (fun K hK => ?_)
          have f0 := HC.out w3 HB3
          have f4 := HF.out w3 HB3
          have g2 := Nat.lt_of_lt_of_le hmi HB3.size
          go_simp
          refine hK.out _ _ ?_
          clear hK K
          try simp only [keepPut, List.set, Nat.zero_add]
          refine keepDone (by kernel_rfl) ?_ _
          refine NoPanic.normal ?_
        all_goals (
          clear hq1 hq2 HC HF HS1 HS3 HX0 HX1 HX2
          go_end0
          obtain ⟨T', v', z1, z2, z3⟩ := add_end HRi.out HB3 HO3.out (by omega) ha Hfi.out hfew
          exact ⟨rfl, T', v', a, ha, Hlo.out, Hhi.out, z1, (Step.of_below T Hbwi.out).trans z2, z3.of_below Hbwi.out⟩)
      · obtain rfl : a = R.length := by omega
        have hg1 : decide (R.length < R.length) = false := decide_eq_false (Nat.lt_irrefl _)
        clear hgo
        go_wp2
        go_quiet (fail)
        go_wp2
        obtain ⟨wi, hwi, hbi⟩ : ∃ wi, wi = wr.drewN nq ∧ Below wr.heap.size wr wi := ⟨_, rfl, cbelow_drewN (Below.refl _ _) _⟩
        rw [← hwi]
        have hzi : wi.heap.size = wr.heap.size := by rw [hwi]; rfl
        have Hzi := Lib.hid hzi
        clear hwi hzi
        have hbwi := Hbw.out.trans (hbi.mono Hbw.out.size)
        obtain ⟨A1, hs1, s1, q1⟩ := cutF_lo (z := (R.length : Int)) (a := R.length) rfl (H.out.below hbwi).own ha
        obtain ⟨A3, c3, hs3, s3, q3⟩ := cutF_hi (z := (R.length : Int)) (a := R.length) rfl (H.out.below hbwi).own ha
        have hmi : m < wi.heap.size := Nat.lt_of_lt_of_le hml hbwi.size
        have hwi2 : w.heap.size < wi.heap.size := by have := Hzi.out; omega
        have HS1 : Hid (∀ W, Below wi.heap.size wi W → Src W A1 R.length 3 (cellsF (R.take R.length))) := fun W hW => SrcF.below s1 q1 hW
        rw [Nat.sub_self] at hs3 s3
        have HS3 : Hid (∀ W, Below wi.heap.size wi W → Src W A3 0 3 (cellsF (R.drop R.length))) := fun W hW => SrcF.below s3 q3 hW
        have e0 := (hbi.cell (p := ⟨m, 0, none⟩) (by show m < _; omega)).trans k0
        have p0 := (hbi.cell (p := ⟨w.heap.size, 0, none⟩) hwz).trans b0
        have p1 := (hbi.cell (p := ⟨w.heap.size, 1, none⟩) hwz).trans b1
        have p2 := (hbi.cell (p := ⟨w.heap.size, 2, none⟩) hwz).trans b2
        have HC : Hid (∀ W, Below wi.heap.size wi W → W.cell? ⟨m, 0, none⟩ = some (.slice A R.length c)) := fun W hW => (hW.cell (p := ⟨m, 0, none⟩) hmi).trans e0
        have HF : Hid (∀ W, Below wi.heap.size wi W → W.frozen? ⟨m, 0, none⟩ = false) := fun W hW => (hW.frozen (p := ⟨m, 0, none⟩) hmi).trans ((H.out.below hbwi).fz 0)
        have HX0 : Hid (∀ W, Below wi.heap.size wi W → W.cell? ⟨w.heap.size, 0, none⟩ = some (.string f.s)) := fun W hW => (hW.cell (p := ⟨w.heap.size, 0, none⟩) hwi2).trans p0
        have HX1 : Hid (∀ W, Below wi.heap.size wi W → W.cell? ⟨w.heap.size, 1, none⟩ = some (.slice f.A f.n f.c)) := fun W hW => (hW.cell (p := ⟨w.heap.size, 1, none⟩) hwi2).trans p1
        have HX2 : Hid (∀ W, Below wi.heap.size wi W → W.cell? ⟨w.heap.size, 2, none⟩ = some (.int .i64 f.syn)) := fun W hW => (hW.cell (p := ⟨w.heap.size, 2, none⟩) hwi2).trans p2
        have Hbwi := Lib.hid hbwi
        have HRi := Lib.hid (H.out.below hbwi)
        have Hfi := Lib.hid (Hf.out.keep (Only.of_below hbwi fun _ => False) (fun _ _ h => h))
        clear s1 q1 s3 q3 k0 b0 b1 b2 e0 p0 p1 p2 hbi hbwi hwz
        refine wp_region_noPanic ?_
        refine keepBegin (S := fun W => Below wi.heap.size wi W) 21 (by kernel_rfl) ?_ (fun hHeld => ?_)
        · exact (RowKit.Below.refl _ _).drew
        refine keepTake (i := 0) (v := ?_) [0] rfl (by kernel_rfl) (by kernel_rfl) (by kernel_rfl) (by kernel_rfl) (by kernel_rfl) (by kernel_rfl) (fun _ _ _ h => h) (Or.inl ⟨by rfl, ?_⟩) (by assumption) ?_
        rotate_left
        · (intro W hSw; (try dsimp only at hSw); have f0 := HC.out W hSw; have f1 := HX0.out W hSw; have f2 := HX1.out W hSw; have f3 := HX2.out W hSw; have f4 := HF.out W hSw; have g1 := hSw.size; have g2 := Nat.lt_of_lt_of_le hmi g1; have g3 := Nat.lt_of_lt_of_le hwi2 g1; go_simp; try with_reducible rfl)
        try simp only [keepPut, List.set, Nat.zero_add]
        refine keepTake (i := 2) (v := ?_) [2] rfl (by kernel_rfl) (by kernel_rfl) (by kernel_rfl) (by kernel_rfl) (by kernel_rfl) (by kernel_rfl) (fun _ _ _ h => h) (Or.inl ⟨by rfl, ?_⟩) (by assumption) ?_
        rotate_left
        · (intro W hSw; (try dsimp only at hSw); have f0 := HC.out W hSw; have f1 := HX0.out W hSw; have f2 := HX1.out W hSw; have f3 := HX2.out W hSw; have f4 := HF.out W hSw; have g1 := hSw.size; have g2 := Nat.lt_of_lt_of_le hmi g1; have g3 := Nat.lt_of_lt_of_le hwi2 g1; go_simp; try with_reducible rfl)
        try simp only [keepPut, List.set, Nat.zero_add]
        refine keepTake (i := 3) (v := ?_) [3] rfl (by kernel_rfl) (by kernel_rfl) (by kernel_rfl) (by kernel_rfl) (by kernel_rfl) (by kernel_rfl) (fun _ _ _ h => h) (Or.inl ⟨by rfl, ?_⟩) (by assumption) ?_
        rotate_left
        · (intro W hSw; (try dsimp only at hSw); have f0 := HC.out W hSw; have f1 := HX0.out W hSw; have f2 := HX1.out W hSw; have f3 := HX2.out W hSw; have f4 := HF.out W hSw; have g1 := hSw.size; have g2 := Nat.lt_of_lt_of_le hmi g1; have g3 := Nat.lt_of_lt_of_le hwi2 g1; go_simp; try with_reducible rfl)
        try simp only [keepPut, List.set, Nat.zero_add]
        refine keepTake (i := 4) (v := ?_) [4] rfl (by kernel_rfl) (by kernel_rfl) (by kernel_rfl) (by kernel_rfl) (by kernel_rfl) (by kernel_rfl) (fun _ _ _ h => h) (Or.inl ⟨by rfl, ?_⟩) (by assumption) ?_
        rotate_left
        · (intro W hSw; (try dsimp only at hSw); have f0 := HC.out W hSw; have f1 := HX0.out W hSw; have f2 := HX1.out W hSw; have f3 := HX2.out W hSw; have f4 := HF.out W hSw; have g1 := hSw.size; have g2 := Nat.lt_of_lt_of_le hmi g1; have g3 := Nat.lt_of_lt_of_le hwi2 g1; go_simp; try with_reducible rfl)
        try simp only [keepPut, List.set, Nat.zero_add]
        refine keepTake (i := 5) (v := ?_) [5] rfl (by kernel_rfl) (by kernel_rfl) (by kernel_rfl) (by kernel_rfl) (by kernel_rfl) (by kernel_rfl) (fun _ _ _ h => h) (Or.inl ⟨by rfl, ?_⟩) (by assumption) ?_
        rotate_left
        · (intro W hSw; (try dsimp only at hSw); have f0 := HC.out W hSw; have f1 := HX0.out W hSw; have f2 := HX1.out W hSw; have f3 := HX2.out W hSw; have f4 := HF.out W hSw; have g1 := hSw.size; have g2 := Nat.lt_of_lt_of_le hmi g1; have g3 := Nat.lt_of_lt_of_le hwi2 g1; go_simp; try with_reducible rfl)
        try simp only [keepPut, List.set, Nat.zero_add]
        refine keepTake (i := 6) (v := ?_) [6] rfl (by kernel_rfl) (by kernel_rfl) (by kernel_rfl) (by kernel_rfl) (by kernel_rfl) (by kernel_rfl) (fun _ _ _ h => h) (Or.inl ⟨by rfl, ?_⟩) (by assumption) ?_
        rotate_left
        · (intro W hSw; (try dsimp only at hSw); have f0 := HC.out W hSw; have f1 := HX0.out W hSw; have f2 := HX1.out W hSw; have f3 := HX2.out W hSw; have f4 := HF.out W hSw; have g1 := hSw.size; have g2 := Nat.lt_of_lt_of_le hmi g1; have g3 := Nat.lt_of_lt_of_le hwi2 g1; go_simp; try with_reducible rfl)
        try simp only [keepPut, List.set, Nat.zero_add]
        refine keepTake (i := 7) (v := ?_) [7] rfl (by kernel_rfl) (by kernel_rfl) (by kernel_rfl) (by kernel_rfl) (by kernel_rfl) (by kernel_rfl) (fun _ _ _ h => h) (Or.inl ⟨by rfl, ?_⟩) (by assumption) ?_
        rotate_left
        · (intro W hSw; (try dsimp only at hSw); have f0 := HC.out W hSw; have f1 := HX0.out W hSw; have f2 := HX1.out W hSw; have f3 := HX2.out W hSw; have f4 := HF.out W hSw; have g1 := hSw.size; have g2 := Nat.lt_of_lt_of_le hmi g1; have g3 := Nat.lt_of_lt_of_le hwi2 g1; go_simp; try with_reducible rfl)
        try simp only [keepPut, List.set, Nat.zero_add]
        refine keepTake (i := 9) (v := ?_) [9] rfl (by kernel_rfl) (by kernel_rfl) (by kernel_rfl) (by kernel_rfl) (by kernel_rfl) (by kernel_rfl) (fun _ _ _ h => h) (Or.inl ⟨by rfl, ?_⟩) (by assumption) ?_
        rotate_left
        · (intro W hSw; (try dsimp only at hSw); have f0 := HC.out W hSw; have f1 := HX0.out W hSw; have f2 := HX1.out W hSw; have f3 := HX2.out W hSw; have f4 := HF.out W hSw; have g1 := hSw.size; have g2 := Nat.lt_of_lt_of_le hmi g1; have g3 := Nat.lt_of_lt_of_le hwi2 g1; go_simp; try with_reducible rfl)
        try simp only [keepPut, List.set, Nat.zero_add]
        refine keepTake (i := 12) (v := ?_) [12] rfl (by kernel_rfl) (by kernel_rfl) (by kernel_rfl) (by kernel_rfl) (by kernel_rfl) (by kernel_rfl) (fun _ _ _ h => h) (Or.inl ⟨by rfl, ?_⟩) (by assumption) ?_
        rotate_left
        · (intro W hSw; (try dsimp only at hSw); have f0 := HC.out W hSw; have f1 := HX0.out W hSw; have f2 := HX1.out W hSw; have f3 := HX2.out W hSw; have f4 := HF.out W hSw; have g1 := hSw.size; have g2 := Nat.lt_of_lt_of_le hmi g1; have g3 := Nat.lt_of_lt_of_le hwi2 g1; go_simp; try with_reducible rfl)
        try simp only [keepPut, List.set, Nat.zero_add]
        refine keepTake (i := 13) (v := ?_) [13] rfl (by kernel_rfl) (by kernel_rfl) (by kernel_rfl) (by kernel_rfl) (by kernel_rfl) (by kernel_rfl) (fun _ _ _ h => h) (Or.inl ⟨by rfl, ?_⟩) (by assumption) ?_
        rotate_left
        · (intro W hSw; (try dsimp only at hSw); have f0 := HC.out W hSw; have f1 := HX0.out W hSw; have f2 := HX1.out W hSw; have f3 := HX2.out W hSw; have f4 := HF.out W hSw; have g1 := hSw.size; have g2 := Nat.lt_of_lt_of_le hmi g1; have g3 := Nat.lt_of_lt_of_le hwi2 g1; go_simp; try with_reducible rfl)
        try simp only [keepPut, List.set, Nat.zero_add]
        refine keepTake (i := 14) (v := ?_) [14] rfl (by kernel_rfl) (by kernel_rfl) (by kernel_rfl) (by kernel_rfl) (by kernel_rfl) (by kernel_rfl) (fun _ _ _ h => h) (Or.inl ⟨by rfl, ?_⟩) (by assumption) ?_
        rotate_left
        · (intro W hSw; (try dsimp only at hSw); have f0 := HC.out W hSw; have f1 := HX0.out W hSw; have f2 := HX1.out W hSw; have f3 := HX2.out W hSw; have f4 := HF.out W hSw; have g1 := hSw.size; have g2 := Nat.lt_of_lt_of_le hmi g1; have g3 := Nat.lt_of_lt_of_le hwi2 g1; go_simp; try with_reducible rfl)
        try simp only [keepPut, List.set, Nat.zero_add]
        refine keepTake (i := 15) (v := ?_) [15] rfl (by kernel_rfl) (by kernel_rfl) (by kernel_rfl) (by kernel_rfl) (by kernel_rfl) (by kernel_rfl) (fun _ _ _ h => h) (Or.inl ⟨by rfl, ?_⟩) (by assumption) ?_
        rotate_left
        · (intro W hSw; (try dsimp only at hSw); have f0 := HC.out W hSw; have f1 := HX0.out W hSw; have f2 := HX1.out W hSw; have f3 := HX2.out W hSw; have f4 := HF.out W hSw; have g1 := hSw.size; have g2 := Nat.lt_of_lt_of_le hmi g1; have g3 := Nat.lt_of_lt_of_le hwi2 g1; go_simp; try with_reducible rfl)
        try simp only [keepPut, List.set, Nat.zero_add]
        refine keepTake (i := 16) (v := ?_) [16] rfl (by kernel_rfl) (by kernel_rfl) (by kernel_rfl) (by kernel_rfl) (by kernel_rfl) (by kernel_rfl) (fun _ _ _ h => h) (Or.inl ⟨by rfl, ?_⟩) (by assumption) ?_
        rotate_left
        · (intro W hSw; (try dsimp only at hSw); have f0 := HC.out W hSw; have f1 := HX0.out W hSw; have f2 := HX1.out W hSw; have f3 := HX2.out W hSw; have f4 := HF.out W hSw; have g1 := hSw.size; have g2 := Nat.lt_of_lt_of_le hmi g1; have g3 := Nat.lt_of_lt_of_le hwi2 g1; go_simp; try with_reducible rfl)
        try simp only [keepPut, List.set, Nat.zero_add]
        refine keepTake (i := 17) (v := ?_) [17] rfl (by kernel_rfl) (by kernel_rfl) (by kernel_rfl) (by kernel_rfl) (by kernel_rfl) (by kernel_rfl) (fun _ _ _ h => h) (Or.inl ⟨by rfl, ?_⟩) (by assumption) ?_
        rotate_left
        · (intro W hSw; (try dsimp only at hSw); have f0 := HC.out W hSw; have f1 := HX0.out W hSw; have f2 := HX1.out W hSw; have f3 := HX2.out W hSw; have f4 := HF.out W hSw; have g1 := hSw.size; have g2 := Nat.lt_of_lt_of_le hmi g1; have g3 := Nat.lt_of_lt_of_le hwi2 g1; go_simp; try with_reducible rfl)
        try simp only [keepPut, List.set, Nat.zero_add]
        have hq1 : ((wi.drew.alloc (.cells #[] 89)).alloc (.cells #[.string f.s, .slice f.A f.n f.c, .int .i64 f.syn] 89)).heap[wi.heap.size + 1]? = some (.cells #[.string f.s, .slice f.A f.n f.c, .int .i64 f.syn] 89) := by
          have h := heap_alloc_new (wi.drew.alloc (.cells #[] 89)) (.cells #[.string f.s, .slice f.A f.n f.c, .int .i64 f.syn] 89)
          rwa [World.size_alloc] at h
        have hq2 : ((wi.drew.alloc (.cells #[.string f.s, .slice f.A f.n f.c, .int .i64 f.syn] 89)).alloc (.cells #[] 89)).heap[wi.heap.size]? = some (.cells #[.string f.s, .slice f.A f.n f.c, .int .i64 f.syn] 89) :=
          (RowKit.Below.heap_alloc _ _ _ (by simp)).trans (heap_alloc_new _ _)
        replace hq1 := Lib.hid hq1
        replace hq2 := Lib.hid hq2
        refine keepAll (rs := [1, 10]) (by kernel_rfl) (by simp) (AllReadyK.cons rfl (fun K hK => ?x1b) (AllReadyK.cons rfl (fun K hK => ?y1b) AllReadyK.nil))
        case' x1b =>
          go_simp
          refine hK.out _ _ (hHeld.alloc hHeld.size _) (fun hHeld1 => ?_)
          clear hK K
          try simp only [keepPut, List.set, Nat.zero_add]
          refine keepAll (rs := [8, 10]) (by kernel_rfl) (by simp) (AllReadyK.cons rfl (fun K hK => ?x8b) (AllReadyK.cons rfl (fun K hK => ?y8b) AllReadyK.nil))
          case' x8b =>
            refine stepF_append rfl (.tmp 28) (.tmp 34) rfl Try.underlying27 hi0 hz0 hz1 hz2 rfl (by decide) (wi := wi) hHeld1 rfl (n := 0) (xs := []) (World.ownsRow_made _ #[] 0 (by simp) (Nat.zero_le _) rfl) rfl (HS1.out _ hHeld1) (cellsF_one _) (by unfold maxLen; omega) (by omega) ?_
            intro A4 c4 w1 HO1 HB1 _
            replace HO1 : Hid (w1.ownsRow wi.heap.size 89 3 (.slice A4 R.length c4) R.length ([] ++ cellsF (R.take R.length))) := finF HO1 (Nat.zero_add _)
            refine hK.out _ _ HB1 (fun hHeld2 => ?_)
            clear hK K
            try simp only [keepPut, List.set, Nat.zero_add]
            refine keepAll (rs := [10]) (by kernel_rfl) (by simp) (AllReadyK.cons rfl (fun K hK => ?_) AllReadyK.nil)
            have f1 := HX0.out w1 HB1; have f2 := HX1.out w1 HB1; have f3 := HX2.out w1 HB1
            go_simp
            refine hK.out _ _ (HB1.alloc HB1.size _) (fun hHeld3 => ?_)
            clear hK K
            try simp only [keepPut, List.set, Nat.zero_add]
            refine keepAll (rs := [11]) (by kernel_rfl) (by simp) (AllReadyK.cons rfl (fun K hK => ?_) AllReadyK.nil)
            refine stepF_append rfl (.tmp 35) (.tmp 37) rfl Try.underlying27 hi0 hz0 hz1 hz2 rfl (by decide) (wi := wi) hHeld3 rfl (HO1.out.alloc _) rfl (src_box3 (heap_alloc_new _ _)) (cellsF_one [f]) (by unfold maxLen; omega) (by omega) ?_
            intro A5 c5 w2 HO2 HB2 _
            replace HO2 := Lib.hid HO2
            refine hK.out _ _ HB2 (fun hHeld4 => ?_)
            clear hK K
            try simp only [keepPut, List.set, Nat.zero_add]
            refine keepAll (rs := [18]) (by kernel_rfl) (by simp) (AllReadyK.cons rfl (fun K hK => ?_) AllReadyK.nil)
            refine stepF_append rfl (.tmp 38) (.tmp 44) rfl Try.underlying27 hi0 hz0 hz1 hz2 rfl (by decide) (wi := wi) HB2 rfl HO2.out rfl (HS3.out _ HB2) (cellsF_one _) (by unfold maxLen; omega) (by omega) ?_
            intro A6 c6 w3 HO3 HB3 _
            replace HO3 := Lib.hid HO3
            refine hK.out _ _ HB3 (fun hHeld9 => ?_)
            clear hK K
            try simp only [keepPut, List.set, Nat.zero_add]
            refine keepTake (i := 19) (v := ?_) [20, 19] rfl (by kernel_rfl) (by kernel_rfl) (by kernel_rfl) (by kernel_rfl) (by kernel_rfl) (by kernel_rfl) (fun _ _ _ h => h) (Or.inl ⟨by rfl, ?_⟩) (by assumption) ?_
            rotate_left
            · (intro W hSw; (try dsimp only at hSw); have f0 := HC.out W hSw; have f1 := HX0.out W hSw; have f2 := HX1.out W hSw; have f3 := HX2.out W hSw; have f4 := HF.out W hSw; have g1 := hSw.size; have g2 := Nat.lt_of_lt_of_le hmi g1; have g3 := Nat.lt_of_lt_of_le hwi2 g1; go_simp; try with_reducible rfl)
            try simp only [keepPut, List.set, Nat.zero_add]
            refine keepTake (i := 20) (v := ?_) [20] rfl (by kernel_rfl) (by kernel_rfl) (by kernel_rfl) (by kernel_rfl) (by kernel_rfl) (by kernel_rfl) (fun _ _ _ h => h) (Or.inl ⟨by rfl, ?_⟩) (by assumption) ?_
            rotate_left
            · (intro W hSw; (try dsimp only at hSw); have f0 := HC.out W hSw; have f1 := HX0.out W hSw; have f2 := HX1.out W hSw; have f3 := HX2.out W hSw; have f4 := HF.out W hSw; have g1 := hSw.size; have g2 := Nat.lt_of_lt_of_le hmi g1; have g3 := Nat.lt_of_lt_of_le hwi2 g1; go_simp; try with_reducible rfl)
            try simp only [keepPut, List.set, Nat.zero_add]
            refine keepLast rfl (by kernel_rfl) (fun K hK => ?_)
            have f0 := HC.out w3 HB3
            have f4 := HF.out w3 HB3
            have g2 := Nat.lt_of_lt_of_le hmi HB3.size
            go_simp
            refine hK.out _ _ ?_
            clear hK K
            try simp only [keepPut, List.set, Nat.zero_add]
            refine keepDone (by kernel_rfl) ?_ _
            refine NoPanic.normal ?_
          case' y8b =>
            go_simp
            refine hK.out _ _ (hHeld1.alloc hHeld1.size _) (fun hHeld2 => ?_)
            clear hK K
            try simp only [keepPut, List.set, Nat.zero_add]
            refine keepAll (rs := [8]) (by kernel_rfl) (by simp) (AllReadyK.cons rfl (fun K hK => ?_) AllReadyK.nil)
            refine stepF_append rfl (.tmp 28) (.tmp 34) rfl Try.underlying27 hi0 hz0 hz1 hz2 rfl (by decide) (wi := wi) hHeld2 rfl (n := 0) (xs := []) ((World.ownsRow_made _ #[] 0 (by simp) (Nat.zero_le _) rfl).alloc _) rfl (HS1.out _ hHeld2) (cellsF_one _) (by unfold maxLen; omega) (by omega) ?_
            intro A4 c4 w1 HO1 HB1 HK1
            replace HO1 : Hid (w1.ownsRow wi.heap.size 89 3 (.slice A4 R.length c4) R.length ([] ++ cellsF (R.take R.length))) := finF HO1 (Nat.zero_add _)
            refine hK.out _ _ HB1 (fun hHeld3 => ?_)
            clear hK K
            have hbx := Lib.hid (HK1 _ _ hq1.out (fun q hq hn => by have h2 := (Option.some.inj hq : wi.heap.size = q); omega))
            clear HK1
            try simp only [keepPut, List.set, Nat.zero_add]
            refine keepAll (rs := [11]) (by kernel_rfl) (by simp) (AllReadyK.cons rfl (fun K hK => ?_) AllReadyK.nil)
            refine stepF_append rfl (.tmp 35) (.tmp 37) rfl Try.underlying27 hi0 hz0 hz1 hz2 rfl (by decide) (wi := wi) HB1 rfl HO1.out rfl (src_box3 hbx.out) (cellsF_one [f]) (by unfold maxLen; omega) (by omega) ?_
            intro A5 c5 w2 HO2 HB2 _
            replace HO2 := Lib.hid HO2
            refine hK.out _ _ HB2 (fun hHeld4 => ?_)
            clear hK K
            try simp only [keepPut, List.set, Nat.zero_add]
            refine keepAll (rs := [18]) (by kernel_rfl) (by simp) (AllReadyK.cons rfl (fun K hK => ?_) AllReadyK.nil)
            refine stepF_append rfl (.tmp 38) (.tmp 44) rfl Try.underlying27 hi0 hz0 hz1 hz2 rfl (by decide) (wi := wi) HB2 rfl HO2.out rfl (HS3.out _ HB2) (cellsF_one _) (by unfold maxLen; omega) (by omega) ?_
            intro A6 c6 w3 HO3 HB3 _
            replace HO3 := Lib.hid HO3
            refine hK.out _ _ HB3 (fun hHeld9 => ?_)
            clear hK K
            try simp only [keepPut, List.set, Nat.zero_add]
            refine keepTake (i := 19) (v := ?_) [20, 19] rfl (by kernel_rfl) (by kernel_rfl) (by kernel_rfl) (by kernel_rfl) (by kernel_rfl) (by kernel_rfl) (fun _ _ _ h => h) (Or.inl ⟨by rfl, ?_⟩) (by assumption) ?_
            rotate_left
            · (intro W hSw; (try dsimp only at hSw); have f0 := HC.out W hSw; have f1 := HX0.out W hSw; have f2 := HX1.out W hSw; have f3 := HX2.out W hSw; have f4 := HF.out W hSw; have g1 := hSw.size; have g2 := Nat.lt_of_lt_of_le hmi g1; have g3 := Nat.lt_of_lt_of_le hwi2 g1; go_simp; try with_reducible rfl)
            try simp only [keepPut, List.set, Nat.zero_add]
            refine keepTake (i := 20) (v := ?_) [20] rfl (by kernel_rfl) (by kernel_rfl) (by kernel_rfl) (by kernel_rfl) (by kernel_rfl) (by kernel_rfl) (fun _ _ _ h => h) (Or.inl ⟨by rfl, ?_⟩) (by assumption) ?_
            rotate_left
            · (intro W hSw; (try dsimp only at hSw); have f0 := HC.out W hSw; have f1 := HX0.out W hSw; have f2 := HX1.out W hSw; have f3 := HX2.out W hSw; have f4 := HF.out W hSw; have g1 := hSw.size; have g2 := Nat.lt_of_lt_of_le hmi g1; have g3 := Nat.lt_of_lt_of_le hwi2 g1; go_simp; try with_reducible rfl)
            try simp only [keepPut, List.set, Nat.zero_add]
            refine keepLast rfl (by kernel_rfl) (fun K hK => ?_)
            have f0 := HC.out w3 HB3
            have f4 := HF.out w3 HB3
            have g2 := Nat.lt_of_lt_of_le hmi HB3.size
            go_simp
            refine hK.out _ _ ?_
            clear hK K
            try simp only [keepPut, List.set, Nat.zero_add]
            refine keepDone (by kernel_rfl) ?_ _
            refine NoPanic.normal ?_
        case' y1b =>
          go_simp
          refine hK.out _ _ (hHeld.alloc hHeld.size _) (fun hHeld1 => ?_)
          clear hK K
          try simp only [keepPut, List.set, Nat.zero_add]
          refine keepAll (rs := [1]) (by kernel_rfl) (by simp) (AllReadyK.cons rfl (fun K hK => ?_) AllReadyK.nil)
          go_simp
          refine hK.out _ _ (hHeld1.alloc hHeld1.size _) (fun hHeld2 => ?_)
          clear hK K
          try simp only [keepPut, List.set, Nat.zero_add]
          refine keepAll (rs := [8]) (by kernel_rfl) (by simp) (AllReadyK.cons rfl (fun K hK => ?_) AllReadyK.nil)
          refine stepF_append rfl (.tmp 28) (.tmp 34) rfl Try.underlying27 hi0 hz0 hz1 hz2 rfl (by decide) (wi := wi) hHeld2 rfl (n := 0) (xs := []) (own_madeF _ _ _ _) rfl (HS1.out _ hHeld2) (cellsF_one _) (by unfold maxLen; omega) (by omega) ?_
          intro A4 c4 w1 HO1 HB1 HK1
          replace HO1 : Hid (w1.ownsRow wi.heap.size 89 3 (.slice A4 R.length c4) R.length ([] ++ cellsF (R.take R.length))) := finF HO1 (Nat.zero_add _)
          refine hK.out _ _ HB1 (fun hHeld3 => ?_)
          clear hK K
          have hbx := Lib.hid (HK1 _ _ hq2.out (fun q hq hn => by have h2 := (Option.some.inj hq : wi.heap.size + 1 = q); omega))
          clear HK1
          try simp only [keepPut, List.set, Nat.zero_add]
          refine keepAll (rs := [11]) (by kernel_rfl) (by simp) (AllReadyK.cons rfl (fun K hK => ?_) AllReadyK.nil)
          refine stepF_append rfl (.tmp 35) (.tmp 37) rfl Try.underlying27 hi0 hz0 hz1 hz2 rfl (by decide) (wi := wi) HB1 rfl HO1.out rfl (src_box3 hbx.out) (cellsF_one [f]) (by unfold maxLen; omega) (by omega) ?_
          intro A5 c5 w2 HO2 HB2 _
          replace HO2 := Lib.hid HO2
          refine hK.out _ _ HB2 (fun hHeld4 => ?_)
          clear hK K
          try simp only [keepPut, List.set, Nat.zero_add]
          refine keepAll (rs := [18]) (by kernel_rfl) (by simp) (AllReadyK.cons rfl (fun K hK => ?_) AllReadyK.nil)
          refine stepF_append rfl (.tmp 38) (.tmp 44) rfl Try.underlying27 hi0 hz0 hz1 hz2 rfl (by decide) (wi := wi) HB2 rfl HO2.out rfl (HS3.out _ HB2) (cellsF_one _) (by unfold maxLen; omega) (by omega) ?_
          intro A6 c6 w3 HO3 HB3 _
          replace HO3 := Lib.hid HO3
          refine hK.out _ _ HB3 (fun hHeld9 => ?_)
          clear hK K
          try simp only [keepPut, List.set, Nat.zero_add]
          refine keepTake (i := 19) (v := ?_) [20, 19] rfl (by kernel_rfl) (by kernel_rfl) (by kernel_rfl) (by kernel_rfl) (by kernel_rfl) (by kernel_rfl) (fun _ _ _ h => h) (Or.inl ⟨by rfl, ?_⟩) (by assumption) ?_
          rotate_left
          · (intro W hSw; (try dsimp only at hSw); have f0 := HC.out W hSw; have f1 := HX0.out W hSw; have f2 := HX1.out W hSw; have f3 := HX2.out W hSw; have f4 := HF.out W hSw; have g1 := hSw.size; have g2 := Nat.lt_of_lt_of_le hmi g1; have g3 := Nat.lt_of_lt_of_le hwi2 g1; go_simp; try with_reducible rfl)
          try simp only [keepPut, List.set, Nat.zero_add]
          refine keepTake (i := 20) (v := ?_) [20] rfl (by kernel_rfl) (by kernel_rfl) (by kernel_rfl) (by kernel_rfl) (by kernel_rfl) (by kernel_rfl) (fun _ _ _ h => h) (Or.inl ⟨by rfl, ?_⟩) (by assumption) ?_
          rotate_left
          · (intro W hSw; (try dsimp only at hSw); have f0 := HC.out W hSw; have f1 := HX0.out W hSw; have f2 := HX1.out W hSw; have f3 := HX2.out W hSw; have f4 := HF.out W hSw; have g1 := hSw.size; have g2 := Nat.lt_of_lt_of_le hmi g1; have g3 := Nat.lt_of_lt_of_le hwi2 g1; go_simp; try with_reducible rfl)
          try simp only [keepPut, List.set, Nat.zero_add]
          refine keepLast rfl (by kernel_rfl) (fun K hK => ?_)
          have f0 := HC.out w3 HB3
          have f4 := HF.out w3 HB3
          have g2 := Nat.lt_of_lt_of_le hmi HB3.size
          go_simp
          refine hK.out _ _ ?_
          clear hK K
          try simp only [keepPut, List.set, Nat.zero_add]
          refine keepDone (by kernel_rfl) ?_ _
          refine NoPanic.normal ?_
        all_goals (
          clear hq1 hq2 HC HF HS1 HS3 HX0 HX1 HX2
          go_end0
          obtain ⟨T', v', z1, z2, z3⟩ := add_end HRi.out HB3 HO3.out (by omega) ha Hfi.out hfew
          exact ⟨rfl, T', v', R.length, ha, Hlo.out, Hhi.out, z1, (Step.of_below T Hbwi.out).trans z2, z3.of_below Hbwi.out⟩)
end Go.Proofs.Ytheojokfgndheaa
