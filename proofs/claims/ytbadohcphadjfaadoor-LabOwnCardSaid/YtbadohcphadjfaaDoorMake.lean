/- Layer 1: lab.Make by the contracts of slices.Clone and slices.SortFunc and of Check. -/
import Derived.Test.YtbadohcphadjfaaDoorOrder
namespace Go.Proofs.YtbadohcphadjfaaDoor
open Go.RowKit Go.Sort Go.Shelf

theorem own_put {w : World} {base : Nat} {e : TypeId} {g n cap q : Nat} {xs ys : List Value} {os : Array Obj} (h : w.ownsRow base e 2 (.slice (some ⟨g, 0, none⟩) n cap) n xs) (hy : ys.length = n * 2) :
    (grow (putRow id (Sort.ahead w q) g 0 ys.toArray) os).ownsRow base e 2 (.slice (some ⟨g, 0, none⟩) n cap) n ys := by
  rcases h.2 with ⟨e0, _⟩ | ⟨g', cap', cur, e0, hb, hg, hn, hm, hs, ht⟩
  · cases e0
  · injection e0 with e1 _ e3
    injection e1 with e1
    injection e1 with e1
    subst e1; subst e3
    have hlt : g < w.heap.size := by
      rcases Nat.lt_or_ge g w.heap.size with h' | h'
      · exact h'
      · rw [Array.getElem?_eq_none h'] at hg; cases hg
    refine ⟨hy, .inr ⟨g, cap, putCells id 0 ys.toArray cur, rfl, hb, ?_, hn, hm, by simpa [putCells] using hs, ?_⟩⟩
    · have h1 : (putRow id (Sort.ahead w q) g 0 ys.toArray).heap[g]? = some (.cells (putCells id 0 ys.toArray cur) e (0, 0)) := by
        simp [putRow, mapBlock, Sort.ahead, Array.getElem?_modify, hg, onCells]
      have h2 : g < (putRow id (Sort.ahead w q) g 0 ys.toArray).heap.size := by
        rcases Nat.lt_or_ge g (putRow id (Sort.ahead w q) g 0 ys.toArray).heap.size with h' | h'
        · exact h'
        · rw [Array.getElem?_eq_none h'] at h1; cases h1
      show ((putRow id (Sort.ahead w q) g 0 ys.toArray).heap ++ os)[g]? = _
      rw [Array.getElem?_append_left h2]
      exact h1
    · apply List.ext_getElem?
      intro j
      rw [List.getElem?_take, Array.getElem?_toList]
      by_cases hj : j < n * 2
      · have hjc : j < cur.size := by have : n * 2 ≤ cap * 2 := Nat.mul_le_mul_right 2 hn; omega
        simp only [if_pos hj, putCells, Array.getElem?_mapIdx, Array.getElem?_eq_getElem hjc, Option.map_some]
        rw [if_pos (by simp; omega), List.getElem?_eq_getElem (by omega)]
        simp [getElem!_pos, show j < ys.length by omega]
      · rw [if_neg hj, List.getElem?_eq_none (by omega)]

theorem flat_eq (l : List Pr) : flatK encP 2 l.toArray = (cellsP l).toArray := by
  apply Array.ext
  · simp [cellsP_length]
  · intro t h1 h2
    simp at h1
    have hi : t / 2 < l.length := by omega
    have hp : l[t / 2]? = some l[t / 2] := List.getElem?_eq_getElem hi
    obtain ⟨c0, c1⟩ := cellsP_get l (t / 2) _ hp
    have hl : t < (cellsP l).length := by rw [cellsP_length]; omega
    have h3 : (flatK encP 2 l.toArray)[t]! = (encP l[t / 2])[t % 2]! := by
      rw [get_flatK _ _ _ _ (by simpa using h1)]
      simp [getElem!_pos, hi]
    rw [getElem!_pos _ _ (by simpa using h1)] at h3
    rw [h3]
    show _ = (cellsP l)[t]
    apply Option.some.inj
    rw [← List.getElem?_eq_getElem hl]
    rcases Nat.mod_two_eq_zero_or_one t with hm | hm
    · rw [show t / 2 * 2 = t from by omega] at c0
      rw [c0, hm]; rfl
    · rw [show t / 2 * 2 + 1 = t from by omega] at c1
      rw [c1, hm]; rfl

theorem holds_own {w : World} {base : Nat} {e : TypeId} {g n cap : Nat} {l : List Pr} (h : w.ownsRow base e 2 (.slice (some ⟨g, 0, none⟩) n cap) n (cellsP l)) : HoldsK encP 2 w g 0 l.toArray := by
  intro j hj
  rw [flat_eq] at hj ⊢
  have hl : j < (cellsP l).length := by simpa using hj
  have h1 := h.cells (g := g) rfl j ((cellsP l)[j]) (List.getElem?_eq_getElem hl)
  rw [Addr.add_lit] at h1
  refine ⟨?_, ?_⟩
  · rw [h1]; simp [getElem!_pos, hl]
  · have h2 := h.frozenAt (0 + j)
    exact h2

theorem own_below {w w' : World} {base : Nat} {e : TypeId} {size n : Nat} {v : Value} {xs : List Value} (h : w.ownsRow base e size v n xs) (hb : Below w.heap.size w w') : w'.ownsRow base e size v n xs :=
  h.kept (row := none) ⟨hb.os, hb.tape, hb.output, hb.size, fun k hk _ => hb.block k hk⟩ (by
    rcases h.2 with ⟨rfl, _⟩ | ⟨g, cap, cur, rfl, _⟩
    · exact Or.inl rfl
    · exact Or.inr (by simp [Value.ownBlock]))

theorem own_slice {W : World} {base : Nat} {e : TypeId} {size n : Nat} {v : Value} {xs : List Value} (h : W.ownsRow base e size v n xs) : ∃ A c, v = .slice A n c := by
  rcases h.2 with ⟨rfl, rfl⟩ | ⟨g, cap, cur, rfl, _⟩
  · exact ⟨none, 0, rfl⟩
  · exact ⟨_, _, rfl⟩

def makeP (l : List Pr) : List Pr × Nat := if check (sortP l) = 0 then (sortP l, 0) else ([], check (sortP l))

theorem Tryd.infoP : (Tryd.prog.info? 48).map (fun i => (i.zero, i.size, i.bytes)) = some (some (.agg #[.string ⟨#[]⟩, .string ⟨#[]⟩]), 2, 32) := by kernel_rfl

set_option maxRecDepth 100000 in
/-- a copy, nil or not -/
theorem clone_any (A : Option Addr) (n c : Nat) (l : List Pr) (w : World) (hn : n = l.length) (hA : A = none → n = 0) (ho : ∀ a, A = some a → ∃ b o, a = ⟨b, o, none⟩) (hm : n * 32 ≤ 140737488351232) (hr : RdP w w.heap.size A l) :
    Calls Tryd.prog 40 #[.slice A n c] w fun e w' => ∃ v, e = .returned v ∧ w'.ownsRow w.heap.size 48 2 v n (cellsP l) ∧ Below w.heap.size w w' := by
  obtain ⟨i0, hi, hz0, hz1, hz2⟩ := info_parts Tryd.infoP
  rcases A with _ | a
  · have h0 := hA rfl
    subst h0
    have hl : l = [] := List.eq_nil_of_length_eq_zero hn.symm
    subst hl
    have h := AnyE.slices_Clone_nil Tryd.cloneP 0 c w
    exact h.mono fun e w' ⟨he, hw⟩ => ⟨_, he, by subst hw; exact World.ownsRow_nil _ _ _ _, by subst hw; exact Below.refl _ _⟩
  · obtain ⟨b, o, rfl⟩ := ho a rfl
    have h := AnyE.slices_Clone Tryd.cloneP i0 (.agg #[.string ⟨#[]⟩, .string ⟨#[]⟩]) 2 32 hi hz0 hz1 hz2 rfl (by decide) Tryd.sizeOf48 b o n c (cellsP l) w (by rw [cellsP_length, hn]) (by unfold maxLen; omega) (by omega)
      (fun j u hj => ?_) (cellsP_one l)
    · exact h.mono fun e w' ⟨v, he, hown, _, hb⟩ => ⟨v, he, hown, hb⟩
    · have hjl : j < l.length * 2 := by
        have := (List.getElem?_eq_some_iff.1 hj).1
        rwa [cellsP_length] at this
      obtain ⟨b', o', e, hb, hc⟩ := hr (by omega)
      injection e with e
      injection e with e1 e2
      subst e1; subst e2
      have hi' : j / 2 < l.length := by omega
      have hp : l[j / 2]? = some l[j / 2] := List.getElem?_eq_getElem hi'
      obtain ⟨c0, c1⟩ := cellsP_get l (j / 2) _ hp
      obtain ⟨d0, d1⟩ := hc _ _ hp
      rcases Nat.mod_two_eq_zero_or_one j with hm2 | hm2
      · rw [show j / 2 * 2 = j from by omega] at c0 d0
        rw [d0, ← c0, hj]
      · rw [show j / 2 * 2 + 1 = j from by omega] at c1
        rw [show o + j / 2 * 2 + 1 = o + j from by omega] at d1
        rw [d1, ← c1, hj]

theorem below_grow {B : Nat} {a w : World} (h : Below B a w) (hB : B ≤ w.heap.size) (os : Array Obj) : Below B a (grow w os) :=
  h.trans ⟨rfl, rfl, rfl, by show w.heap.size ≤ (w.heap ++ os).size; simp, fun k hk => by
    show (w.heap ++ os)[k]? = _
    rw [Array.getElem?_append_left (by omega)]⟩
theorem below_putRow {B : Nat} {a w : World} (h : Below B a w) {g : Nat} (hg : B ≤ g) (q : Nat) (d : Array Value) : Below B a (putRow id (Sort.ahead w q) g 0 d) :=
  h.trans ⟨rfl, rfl, rfl, by simp [putRow, mapBlock, Sort.ahead], fun k hk => by
    simp only [putRow, mapBlock, Sort.ahead, Array.getElem?_modify]
    rw [if_neg (by omega)]⟩

/-- slices.SortFunc at a slice that the call itself has made -/
theorem sort_any (base n : Nat) (v : Value) (l : List Pr) (w : World) (hn : n * 32 ≤ 140737488351232) (hown : w.ownsRow base 48 2 v n (cellsP l)) :
    Calls Tryd.prog 41 #[v, .func (.func 42) #[] #[]] w fun e w' => e = .returned (.tuple #[]) ∧ w'.ownsRow base 48 2 v n (cellsP (sortP l)) ∧ (∀ a, base ≤ w.heap.size → Below base a w → Below base a w') := by
  have hln : l.length = n := by have := hown.1; rw [cellsP_length] at this; omega
  rcases Nat.eq_zero_or_pos n with h0 | h0
  · subst h0
    have hl : l = [] := List.eq_nil_of_length_eq_zero hln
    subst hl
    obtain ⟨A, c, rfl⟩ : ∃ A c, v = .slice A 0 c := by
      rcases hown.2 with ⟨e, _⟩ | ⟨g, cap, cur, e, _⟩
      · exact ⟨none, 0, e⟩
      · exact ⟨_, _, e⟩
    have h := AnyF.slices_SortFunc_none (P := Tryd.prog) (ρ := Tryd.sortP_ren) { Tryd.sortP with } A c (.func (.func 42) #[] #[]) w
    exact h.mono fun e w' ⟨he, hw⟩ => ⟨he, by subst hw; rw [show sortP [] = [] from by simp [sortP]]; exact hown, fun a hB hb => by subst hw; exact hb⟩
  · obtain ⟨g, cap, rfl, hbg, hlt⟩ := hown.form h0
    have hH := holds_own hown
    have h := AnyQ.slices_SortFunc_total Tryd.sortP 2 Tryd.isAgg48 Tryd.sizeOf48 encP (fun _ => rfl) (fun x u hu => by simp [encP] at hu; rcases hu with rfl | rfl <;> rfl) cmpP swoP 42 #[] g 0 cap l.toArray w eCmp
      (fun m os dk _ x y => comparePairs_any x y _) hH hlt (by simp; omega) totP
    have h' : Calls Tryd.prog 41 #[.slice (some ⟨g, 0, none⟩) l.toArray.size cap, .func (.func 42) #[] #[]] w _ := h
    rw [show l.toArray.size = n from by simpa using hln] at h'
    refine h'.mono fun e w' ⟨he, q, os, hw⟩ => ⟨he, ?_, fun a hB hb => ?_⟩
    · rw [hw]
      show (grow (putRow id (Sort.ahead w q) g 0 (flatK encP 2 (sortP l).toArray)) os).ownsRow _ _ _ _ _ _
      rw [flat_eq]
      exact own_put hown (by rw [cellsP_length, sortP_length, hln])
    · rw [hw]
      exact below_grow (below_putRow hb hbg _ _) (by simp [putRow, mapBlock, Sort.ahead]; exact hB) _
def OkA (A : Option Addr) (n : Nat) : Prop := (A = none → n = 0) ∧ ∀ a, A = some a → ∃ b o, a = ⟨b, o, none⟩

set_option maxRecDepth 100000 in
set_option maxHeartbeats 400000 in
theorem make_any (A : Option Addr) (n c : Nat) (l : List Pr) (w : World) (hn : n = l.length) (hA : OkA A n) (hm : n * 32 ≤ 140737488351232) (hr : RdP w w.heap.size A l) :
    Calls Tryd.prog 15 #[.slice A n c] w fun e w' => ∃ v, e = .returned (.tuple #[v, .int .i64 ((makeP l).2 : Nat)]) ∧ w'.ownsRow w.heap.size 48 2 v (makeP l).1.length (cellsP (makeP l).1) ∧ Below w.heap.size w w' := by
  have Hc := Lib.hid (clone_any A n c l w hn hA.1 hA.2 hm hr)
  have Hn := Lib.hid hn
  have hs := sortP_length l
  have Hs := Lib.hid hs
  clear hn hA hr hs
  go_enter Tryd.func15, Tryd.ntmps15
  go_wp2_with fail
  refine Hc.out.mono ?_
  rintro e w1 ⟨v, rfl, hown, hb1⟩
  go_wp2_with fail
  refine (sort_any w.heap.size n v l w1 hm hown).mono ?_
  rintro e w2 ⟨rfl, hown2, hb2⟩
  have hb2 := hb2 w hb1.size hb1
  clear hown
  obtain ⟨A2, c2, rfl⟩ : ∃ A c, v = .slice A n c := by
    rcases hown2.2 with ⟨e, h0⟩ | ⟨g, cap, cur, e, _⟩
    · exact ⟨none, 0, by rw [e, h0]⟩
    · exact ⟨_, _, e⟩
  have Hr2 := Lib.hid (RdP.of_own hown2)
  have Hown2 := Lib.hid hown2
  clear hown2
  by_cases hc : check (sortP l) = 0
  · have hb0 : ((check (sortP l) : Int) != 0) = false := by rw [hc]; rfl
    have Hk : Hid (makeP l = (sortP l, 0)) := if_pos hc
    have Hch := Lib.hid hc
    clear hc
    go_wp2_with fail
    refine (check_any A2 n c2 (sortP l) w2 (by rw [Hs.out, Hn.out]) (by unfold maxLen; omega) Hr2.out).mono ?_
    rintro e w3 ⟨rfl, hb3⟩
    go_wp2
    go_ret2
    refine ⟨.slice A2 n c2, by rw [Hk.out]; rfl, ?_, hb2.trans (hb3.mono hb2.size)⟩
    rw [Hk.out]
    show w3.ownsRow _ _ _ _ (sortP l).length (cellsP (sortP l))
    rw [Hs.out, ← Hn.out]
    exact own_below Hown2.out hb3
  · have hb0 : ((check (sortP l) : Int) != 0) = true := by rw [bne_iff_ne]; omega
    have Hk : Hid (makeP l = ([], check (sortP l))) := if_neg hc
    have Hch := Lib.hid hc
    clear hc
    go_wp2_with fail
    refine (check_any A2 n c2 (sortP l) w2 (by rw [Hs.out, Hn.out]) (by unfold maxLen; omega) Hr2.out).mono ?_
    rintro e w3 ⟨rfl, hb3⟩
    go_wp2
    go_ret2
    refine ⟨.slice none 0 0, by rw [Hk.out]; rfl, ?_, hb2.trans (hb3.mono hb2.size)⟩
    rw [Hk.out]
    exact World.ownsRow_nil _ _ _ _
end Go.Proofs.YtbadohcphadjfaaDoor
