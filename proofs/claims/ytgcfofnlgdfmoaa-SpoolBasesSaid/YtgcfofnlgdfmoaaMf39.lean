/- Several texts in one: SpFind, SpFinK. -/
import Derived.Test.YtgcfofnlgdfmoaaMf34
import Derived.Test.YtgcfofnlgdfmoaaMf35
import Derived.Test.YtgcfofnlgdfmoaaMf36
/- Layer 8: Find. -/
namespace Go.Proofs.Ytgcfofnlgdfmoaa
open Go.RowKit

structure FoundE (w : World) (L : List Ett) (m : Nat) (y : Ett) : Prop where
  ok : 0 < m → EntOk w (fun _ => False) y
  eq : 0 < m → ∃ e, L[m - 1]? = some e ∧ y.i = e.i ∧ y.x = e.x
theorem entD_cells : (entC entD).toArray = zeroE.cells := by kernel_rfl
theorem boxF (W : World) (Z cs : Array Value) : ∃ V, V = (W.alloc (.cells Z 68)).setRow W.heap.size cs ∧ V.heap[W.heap.size]? = some (.cells cs 68 (0, 0)) ∧ Below W.heap.size W V := ⟨_, rfl, setRow_heap _ _ _ _ _ _ (heap_alloc_new _ _), below_setRow ((Below.refl _ _).alloc (Nat.le_refl _) _) (Nat.le_refl _) _⟩

def isStr : Option Value → Bool
  | some (.string _) => true
  | _ => false
theorem noTwo : ∀ o, o < 14 → ¬ (isStr zeroE.cells[o]? = true ∧ isStr zeroE.cells[o + 1]? = true) := by decide
/-- labels lie in no entry's block: two texts side by side are in none -/
theorem lab_not_box {w : World} {g : Nat} {A : Option Addr} {l : List Pr} {t : TypeId} {Z : Array Value} (h : RdP w w.heap.size A l) (hg : w.heap[g]? = some (.cells Z t (0, 0))) (hZ : Z = zeroE.cells) : ∀ a, A = some a → 0 < l.length → a.block ≠ g := fun a ha h0 e => by
  subst hZ
  obtain ⟨b, o, e1, _, hc⟩ := h h0
  rw [ha] at e1
  injection e1 with e1
  subst e1
  subst e
  obtain ⟨c0, c1⟩ := hc 0 _ (List.getElem?_eq_getElem h0)
  rw [Nat.zero_mul, Nat.add_zero] at c0 c1
  simp only [World.cell?, hg] at c0 c1
  have h14 : o < 14 := by
    have := (Array.getElem?_eq_some_iff.1 c0).1
    exact this
  have d0 : zeroE.cells[o]? = some (.string (l[0]).1) := c0
  have d1 : zeroE.cells[o + 1]? = some (.string (l[0]).2) := c1
  exact noTwo o h14 ⟨by rw [d0]; rfl, by rw [d1]; rfl⟩
theorem entC_one (e : Ett) : (entC e).toArray.all (·.oneCell') = true := by simp [entC, itC, Value.oneCell']
set_option maxRecDepth 100000 in
set_option maxHeartbeats 2000000 in
theorem find_any {S : Nat → Prop} {s N : Nat} {X : Sp} {L : List Ett} (w : World) (h : SpAt w S s X L) (hrise : RiseE L) :
    Calls Try.prog 28 #[.pointer (some ⟨s, 0, none⟩), .int .u64 N] w fun e w' => ∃ (m : Nat) (y : Ett), e = .returned (.tuple #[.agg (entC y).toArray, .bool (decide (0 < m))]) ∧ m ≤ L.length ∧ (∀ k, k < m → idxE L k ≤ N) ∧ (∀ k, m ≤ k → k < L.length → N < idxE L k) ∧ FoundE w' L m y ∧ Below w.heap.size w w' := by
  obtain ⟨Z, hZ⟩ : ∃ Z, Z = zeroE.cells := ⟨_, rfl⟩
  obtain ⟨W, hW⟩ : ∃ W, W = w.alloc (.cells Z 68) := ⟨_, rfl⟩
  have hb : Below w.heap.size w W := by rw [hW]; exact (Below.refl _ _).alloc (Nat.le_refl _) _
  have hbox : W.heap[w.heap.size]? = some (.cells Z 68 (0, 0)) := by rw [hW]; exact heap_alloc_new _ _
  have hl := (Array.getElem?_eq_some_iff.1 hbox).1
  have hU := upTo_any (N := N) W (h.below hb) hrise
  obtain ⟨v, k1, r1⟩ := h.sp
  obtain ⟨A, c, rfl⟩ := own_slice r1.own
  have HC37 : Hid (∀ V, Below w.heap.size w V → V.cell? ⟨s, 37, none⟩ = some (.slice A L.length c)) := fun V hV => (hV.cell (p := ⟨s, 37, none⟩) k1.slt).trans k1.c37
  have HOWN := Lib.hid r1.own
  have HH := Lib.hid h
  have HU := Lib.hid hU
  have HW := Lib.hid hW
  have HB := Lib.hid hb
  have HX := Lib.hid hbox
  have hfew := h.few
  obtain ⟨n, hn⟩ : ∃ n, n = L.length := ⟨_, rfl⟩
  rw [← hn] at HC37 HOWN HU hfew ⊢
  have HN := Lib.hid hn
  have HZ := Lib.hid hZ
  have HZS : Hid (Z.size = 14) := by rw [hZ]; rfl
  clear k1 r1 h hrise hU hW hb hbox hn hZ
  go_enter Try.func28, Try.ntmps28
  go_upto_region 3 with fail
  have hw := HW.out
  rw [HZ.out] at hw
  unfold zeroE Value.cells at hw
  simp only at hw
  rw [← hw]
  clear hw
  go_wp2_with fail
  refine HU.out.mono ?_
  rintro _ w1 ⟨m, rfl, hm, hlo, hhi, hb1⟩
  have hz1 := hb1.size
  have HB1 : Hid (Below w.heap.size w w1) := HB.out.trans (hb1.mono HB.out.size)
  have HX1 := Lib.hid ((hb1.block _ hl).trans HX.out)
  have HLO := Lib.hid hlo
  have HHI := Lib.hid hhi
  clear hb1 hlo hhi HU
  by_cases h0 : m = 0
  · subst h0
    go_wp2_with (refine wpList_store_row rfl _ _ _ rfl w.heap.size _ rfl rfl _ _ HX1.out Try.infoEn HZS.out (by simp [Value.oneCell']) ?_)
    refine bodyPost_ret (v := .tuple #[.agg zeroE.cells, .bool false]) ?_ rfl ⟨0, entD, ?_, Nat.zero_le _, HLO.out, HHI.out, ⟨fun h => absurd h (by omega), fun h => absurd h (by omega)⟩, below_setRow HB1.out (Nat.le_refl _) _⟩
    · exact results_cell_two rfl _ _ w.heap.size _ _ _ _ rfl rfl (setRow_heap _ _ _ _ _ _ HX1.out) Try.underlying68 rfl Try.infoEn
    · rw [entD_cells]; rfl
  · obtain ⟨p, hp⟩ : ∃ p, m = p + 1 := ⟨m - 1, by omega⟩
    have hpn : p < L.length := by have := HN.out; omega
    obtain ⟨e, he⟩ : ∃ e, L[p]? = some e := ⟨_, List.getElem?_eq_getElem hpn⟩
    obtain ⟨b, c', hv, _, hlt⟩ := HOWN.out.form (by have := HN.out; omega)
    injection hv with hv1 _ hv3
    subst hv1
    subst hv3
    have hcap := (own_capE HOWN.out).1
    have hm1 : (m : Int) - 1 = (p : Int) := by omega
    obtain ⟨n1, hn1⟩ : ∃ n1 : Nat, n1 = 1 := ⟨1, rfl⟩
    have f4 : ∀ W, (Instr.sliceAt 63 (.slice (some ⟨b, 0, none⟩) n c) (some (.int .i64 p)) (some (.int .i64 m)) none).run Try.prog W = .ok (.slice (some (subE b c p)) n1 (c - p)) W := fun W => by
      have := slE_lh b n c p m (by omega) (by omega) W
      rwa [show m - p = n1 by omega] at this
    have hlist : listE L p 1 = [e] := by
      unfold listE
      rw [List.drop_eq_getElem_cons hpn, (List.getElem?_eq_some_iff.1 he).2]
      rfl
    have HSRC : Hid (∀ W, Below w1.heap.size w1 W → Src W (some (subE b c p)) n1 14 (cellsE [e])) := fun W hW => by
      rw [hn1]
      have := srcE_cut (m := p) (k := 1) HN.out (ownB_below (ownB_below HOWN.out HB1.out) hW) (by omega) (by omega)
      rwa [hlist] at this
    have HOK : Hid (OkE w1 [e]) := fun x hx => by
      rw [List.mem_singleton] at hx
      subst hx
      exact ((HH.out.ent x (List.mem_of_getElem? he)).free).below HB1.out
    have HP := Lib.hid hp
    have HE := Lib.hid he
    have f2 := HC37.out w1 HB1.out
    have HN1 : Hid (n1 = [e].length) := hn1
    have h01 : 0 < n1 := by omega
    clear hlist hp he hn1
    go_wp2_with fail
    refine (clones_any (some (subE b c p)) n1 (c - p) [e] w1 HN1.out (by rw [HN1.out]; exact (by decide : 1 ≤ 100000)) (fun h => by cases h) HSRC.out HOK.out).mono ?_
    rintro _ w2 ⟨A2, c2, M, rfl, hsm, hrow, hb2⟩
    obtain ⟨y, rfl⟩ : ∃ y, M = [y] := by
      have := hsm.len
      match M, this with
      | [y], _ => exact ⟨y, rfl⟩
    obtain ⟨g, c3, hv, _, hlt2⟩ := hrow.own.form (by simp)
    injection hv with hv1 _ hv3
    subst hv1
    subst hv3
    have hrg : w2.rangeAt g 0 (entC y) := fun j u hj => by
      have := hrow.own.cells (g := g) rfl j u (by rw [cellsE_cons, List.getElem?_append_left (List.getElem?_eq_some_iff.1 hj).1]; exact hj)
      rw [Addr.add_lit, Nat.zero_add] at this
      rw [Nat.zero_add]
      exact this
    have hsame : y.i = e.i ∧ y.x = e.x := by
      have := hsm.get 0
      simp at this
      exact ⟨this.1.symm, this.2.symm⟩
    have HRG := Lib.hid hrg
    have HSAME := Lib.hid hsame
    have HOKY := Lib.hid ((hrow.ok y List.mem_cons_self).free)
    have HB2 := Lib.hid (HB1.out.trans (hb2.mono HB1.out.size))
    have HX2 := Lib.hid ((hb2.block _ (Nat.lt_of_lt_of_le hl hz1)).trans HX1.out)
    clear hsm hrow hb2 hrg hsame f2 f4 hm1
    go_wp2_with (first | (refine wpList_load_mid rfl _ _ rfl g 0 rfl _ _ HRG.out Try.underlying68 rfl Try.infoEn ?_) | (refine wpList_store_row rfl _ _ _ rfl w.heap.size (entC y).toArray rfl rfl _ _ HX2.out Try.infoEn HZS.out (entC_one y) ?_) | fail)
    have hne := lab_not_box HOKY.out.rd HX2.out HZ.out
    refine bodyPost_ret (v := .tuple #[.agg (entC y).toArray, .bool true]) (results_cell_two rfl _ _ w.heap.size _ _ _ _ rfl rfl (setRow_heap _ _ _ _ _ _ HX2.out) Try.underlying68 rfl Try.infoEn) rfl
      ⟨m, y, by rw [decide_eq_true (by omega : 0 < m)], hm, HLO.out, HHI.out, ⟨fun _ => HOKY.out.only (onlyRow _ _ _) (fun a ha h0 e => hne a ha h0 e) (fun _ h => .inl h), fun _ => ⟨e, by have := HP.out; rw [show m - 1 = p by omega]; exact HE.out, HSAME.out⟩⟩, below_setRow HB2.out (Nat.le_refl _) _⟩
end Go.Proofs.Ytgcfofnlgdfmoaa
/- Layer 8: SpoolFinds, the plain part: where a rising list is cut by an index, and the statement's own list of those behind it. -/
namespace Go.Proofs.Ytgcfofnlgdfmoaa
open Go.RowKit

/-- the first m have an index up to P, the others a higher one -/
structure CutAt (L : List Ett) (P m : Nat) : Prop where
  le : m ≤ L.length
  lo : ∀ k, k < m → idxE L k ≤ P
  hi : ∀ k, m ≤ k → k < L.length → P < idxE L k
theorem idxE_at {L : List Ett} {k : Nat} {e : Ett} (h : L[k]? = some e) : idxE L k = e.i := by unfold idxE; rw [h]; rfl
theorem CutAt.eq {L : List Ett} {P m m' : Nat} (h : CutAt L P m) (h' : CutAt L P m') : m = m' := by
  rcases Nat.lt_trichotomy m m' with c | c | c
  · have h1 := h'.lo m c
    have h2 := h.hi m (Nat.le_refl _) (Nat.lt_of_lt_of_le c h'.le)
    omega
  · exact c
  · have h1 := h.lo m' c
    have h2 := h'.hi m' (Nat.le_refl _) (Nat.lt_of_lt_of_le c h.le)
    omega
theorem cut_ex {L : List Ett} (hr : RiseE L) (P : Nat) : ∀ k, k ≤ L.length → (∀ j, j < k → idxE L j ≤ P) ∨ ∃ m, CutAt L P m
  | 0, _ => .inl fun j hj => by omega
  | k + 1, hk => by
    rcases cut_ex hr P k (by omega) with h | h
    · by_cases hp : idxE L k ≤ P
      · refine .inl fun j hj => ?_
        by_cases he : j = k
        · rw [he]; exact hp
        · exact h j (by omega)
      · refine .inr ⟨k, by omega, h, fun j hj hl => ?_⟩
        by_cases he : j = k
        · rw [he]; omega
        · have e1 := List.getElem?_eq_getElem (show k < L.length by omega)
          have e2 := List.getElem?_eq_getElem hl
          have := hr k j _ _ (by omega) e1 e2
          rw [idxE_at e1] at hp
          rw [idxE_at e2]
          omega
    · exact .inr h
theorem CutAt.ex {L : List Ett} (hr : RiseE L) (P : Nat) : ∃ m, CutAt L P m := by
  rcases cut_ex hr P L.length (Nat.le_refl _) with h | h
  · exact ⟨L.length, Nat.le_refl _, h, fun k h1 h2 => by omega⟩
  · exact h
theorem SameE.idx {L M : List Ett} (h : SameE L M) (k : Nat) : idxE L k = idxE M k := by
  have := h.get k
  unfold idxE
  cases h1 : L[k]? <;> cases h2 : M[k]? <;> rw [h1, h2] at this <;> simp at this
  exact this.1
theorem SameE.symm {L M : List Ett} (h : SameE L M) : SameE M L := Eq.symm h
theorem SameE.trans {L M K : List Ett} (h : SameE L M) (h' : SameE M K) : SameE L K := Eq.trans h h'
theorem SameE.cut {L M : List Ett} {P m : Nat} (h : SameE L M) (hc : CutAt L P m) : CutAt M P m :=
  ⟨by rw [← h.len]; exact hc.le, fun k hk => by rw [← h.idx]; exact hc.lo k hk, fun k h1 h2 => by rw [← h.idx]; exact hc.hi k h1 (by rw [h.len]; exact h2)⟩
theorem SameE.list {L M : List Ett} (h : SameE L M) (m k : Nat) : SameE (listE L m k) (listE M m k) := by
  unfold SameE listE at *
  rw [List.map_take, List.map_drop, List.map_take, List.map_drop, h]
theorem SameE.at_ {L M : List Ett} {k : Nat} {e : Ett} (h : SameE L M) (he : L[k]? = some e) : ∃ y, M[k]? = some y ∧ y.i = e.i ∧ y.x = e.x := by
  have := h.get k
  rw [he] at this
  cases h2 : M[k]? with
  | none => rw [h2] at this; simp at this
  | some y => rw [h2] at this; simp at this; exact ⟨y, rfl, this.1.symm, this.2.symm⟩
/-- of the first k those behind the first m, t at most -/
def wantL (M : List Ett) (m t k : Nat) : List Ett := listE (M.take k) m t
theorem wantL_len (M : List Ett) (m t k : Nat) (hk : k ≤ M.length) : (wantL M m t k).length = min t (k - m) := by
  unfold wantL listE
  rw [List.length_take, List.length_drop, List.length_take]
  omega
theorem wantL_zero (M : List Ett) (m t : Nat) : wantL M m t 0 = [] := by simp [wantL, listE]
theorem wantL_all (M : List Ett) (m t : Nat) : wantL M m t M.length = listE M m t := by unfold wantL; rw [List.take_length]
theorem wantL_lo {M : List Ett} {m t k : Nat} (h : k < m) : wantL M m t (k + 1) = wantL M m t k := by
  have e : ∀ j, j ≤ m → wantL M m t j = [] := fun j hj => by
    unfold wantL listE
    rw [List.drop_of_length_le (by rw [List.length_take]; omega), List.take_nil]
  rw [e _ (by omega), e _ (by omega)]
theorem wantL_hi {M : List Ett} {m t k : Nat} {e : Ett} (h : m ≤ k) (he : M[k]? = some e) : wantL M m t (k + 1) = if (wantL M m t k).length < t then wantL M m t k ++ [e] else wantL M m t k := by
  have hk := (List.getElem?_eq_some_iff.1 he).1
  have h1 : M.take (k + 1) = M.take k ++ [e] := by rw [List.take_add_one, he]; rfl
  have h2 : (M.take (k + 1)).drop m = (M.take k).drop m ++ [e] := by rw [h1, List.drop_append_of_le_length (by rw [List.length_take]; omega)]
  have hl : ((M.take k).drop m).length = k - m := by rw [List.length_drop, List.length_take]; omega
  rw [wantL_len M m t k (by omega)]
  unfold wantL listE
  rw [h2]
  by_cases hc : min t (k - m) < t
  · rw [if_pos hc, List.take_append, List.take_of_length_le (by omega), hl]
    congr 1
    rw [List.take_of_length_le (by simp; omega)]
  · rw [if_neg hc, List.take_append_of_le_length (by omega)]
theorem wantL_mem {M : List Ett} {m t k : Nat} {e : Ett} (h : e ∈ wantL M m t k) : e ∈ M := by
  unfold wantL listE at h
  exact List.mem_of_mem_take (List.mem_of_mem_drop (List.mem_of_mem_take h))
/-- the world of the statement's outer loop -/
structure FAt (w0 w : World) (S : Nat → Prop) (s q : Nat) (X : Sp) (L : List Ett) (A : Option Addr) (M : List Ett) (g N N2 : Nat) : Prop where
  sp : SpW w0 w S s q 40 X L
  m : RdM8 w A M
  two : ∀ k, k < 2 → w.cell? ⟨g, k, none⟩ = some (.int .u64 ((if k = 0 then N else N2 : Nat) : Int))
theorem FAt.below {w0 w w' : World} {S : Nat → Prop} {s q g N N2 : Nat} {X : Sp} {L M : List Ett} {A : Option Addr} (h : FAt w0 w S s q X L A M g N N2) (hb : Below w.heap.size w w') : FAt w0 w' S s q X L A M g N N2 :=
  ⟨h.sp.below hb, h.m.below hb, fun k hk => (hb.cell (p := ⟨g, k, none⟩) (World.block_lt_of_cell? w _ (h.two k hk))).trans (h.two k hk)⟩
/-- the row of those that are wanted -/
structure WAt (w : World) (base : Nat) (v : Value) (K : List Ett) : Prop where
  own : w.ownsRow base 68 14 v K.length (cellsE K)
  ok : OkE w K
theorem SpW.forty {w0 w : World} {S : Nat → Prop} {s q k : Nat} {X : Sp} {L : List Ett} (h : SpW w0 w S s q k X L) (hk : k ≤ 40) : SpW w0 w S s q 40 X L := ⟨h.at_, h.ok.more hk, h.q, h.new, h.bl⟩
theorem list_want {L M K : List Ett} {m t n : Nat} (h : SameE L M) (hK : SameE (listE L m (min t (L.length - m))) K) (hn : n = M.length) : SameE (wantL M m t n) K := by
  subst hn
  rw [wantL_all]
  refine (h.list m t).symm.trans ?_
  have e : listE L m (min t (L.length - m)) = listE L m t := by
    unfold listE
    by_cases hc : t ≤ L.length - m
    · rw [Nat.min_eq_left hc]
    · rw [Nat.min_eq_right (by omega), List.take_of_length_le (by rw [List.length_drop]; omega), List.take_of_length_le (by rw [List.length_drop]; omega)]
  rwa [e] at hK
theorem own_rdE {w : World} {base : Nat} {A : Option Addr} {c : Nat} {M : List Ett} (h : w.ownsRow base 68 14 (.slice A M.length c) M.length (cellsE M)) (hok : OkE w M) : RdM8 w A M := by
  refine ⟨fun h0 => ?_, hok⟩
  obtain ⟨b, c', hv, _, hlt⟩ := h.form h0
  injection hv with hv1 _ hv3
  subst hv1
  refine ⟨b, 0, rfl, hlt, fun k e he => ?_⟩
  have hc : ∀ (j : Nat) u, (entC e)[j]? = some u → w.cell? ⟨b, k * 14 + j, none⟩ = some u := fun j u hj => by
    have := h.cells (g := b) rfl _ _ (cellsE_get he hj)
    rw [Addr.add_lit, Nat.zero_add] at this
    exact this
  refine ⟨fun j u hj => ?_, fun j u hj => ?_⟩
  · rw [Nat.zero_add]; exact hc j u hj
  · have := hc (j + 1) u hj
    rw [show 0 + k * 14 + 1 + j = k * 14 + (j + 1) by omega]
    exact this
end Go.Proofs.Ytgcfofnlgdfmoaa
