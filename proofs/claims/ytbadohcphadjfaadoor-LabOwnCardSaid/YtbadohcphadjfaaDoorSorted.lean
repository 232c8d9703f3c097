/- Layer 1: the document's own Sorted and Make. -/
import Derived.Test.YtbadohcphadjfaaDoorRef
import Derived.Test.YtbadohcphadjfaaDoorMake
import Derived.Test.YtbadohcphadjfaaDoorApp
import Derived.Shelf.SlSortCmp.QuietGrown
import Derived.Deep.QuietTactic
import Derived.BigQuiet
import Derived.Handy
namespace Go.Proofs.YtbadohcphadjfaaDoor
open Go.RowKit

theorem asym_ {a b : Pr} (h : ltP a b = true) : ltP b a = false := by
  cases e : ltP b a with
  | false => rfl
  | true => have := ltP_trans h e; rw [ltP_irrefl] at this; cases this
/-- one pair more, put where it belongs -/
theorem sortP_insert {m : List Pr} {x : Pr} {k : Nat} (hk : k ≤ (sortP m).length) (hlo : ∀ (j : Nat) (y : Pr), j < k → (sortP m)[j]? = some y → ltP x y = false) (hhi : ∀ (j : Nat) (y : Pr), k ≤ j → (sortP m)[j]? = some y → ltP x y = true) :
    sortP (m ++ [x]) = (sortP m).take k ++ [x] ++ (sortP m).drop k := by
  refine sortP_unique ?_ ?_
  · have h1 : ((sortP m).take k ++ [x] ++ (sortP m).drop k).Perm ((sortP m).take k ++ (sortP m).drop k ++ [x]) := by
      rw [List.append_assoc, List.append_assoc]
      exact List.Perm.append_left _ List.perm_append_comm
    rw [List.take_append_drop] at h1
    exact h1.trans ((sortP_perm m).append_right [x])
  · have hs := sortP_sorted m
    rw [List.append_assoc, List.pairwise_append]
    refine ⟨hs.sublist (List.take_sublist _ _), ?_, ?_⟩
    · rw [List.singleton_append, List.pairwise_cons]
      refine ⟨fun y hy => ?_, hs.sublist (List.drop_sublist _ _)⟩
      obtain ⟨j, hj⟩ := List.mem_iff_getElem?.1 hy
      rw [List.getElem?_drop] at hj
      exact asym_ (hhi _ y (by omega) hj)
    · intro a ha b hb
      obtain ⟨i, hi⟩ := List.mem_iff_getElem?.1 ha
      have hik : i < k := by
        have := (List.getElem?_eq_some_iff.1 hi).1
        rw [List.length_take] at this; omega
      rw [List.getElem?_take, if_pos hik] at hi
      rw [List.singleton_append, List.mem_cons] at hb
      rcases hb with rfl | hb
      · exact hlo i a hik hi
      · obtain ⟨j, hj⟩ := List.mem_iff_getElem?.1 hb
        rw [List.getElem?_drop] at hj
        have h1 := hhi _ b (by omega) hj
        have h2 := hlo i a hik hi
        cases e : ltP b a with
        | false => rfl
        | true => have := ltP_trans h1 e; rw [h2] at this; cases this
/-- in an ordered list: what isn't above the last one of some isn't above any ahead -/
theorem lo_of_last {m : List Pr} {x y : Pr} {k : Nat} (hy : (sortP m)[k]? = some y) (h : ltP x y = false) : ∀ (j : Nat) (z : Pr), j < k + 1 → (sortP m)[j]? = some z → ltP x z = false := by
  intro j z hj hz
  by_cases hjk : j = k
  · subst hjk
    rw [hy] at hz
    cases hz
    exact h
  · have hs := sortP_sorted m
    rw [List.pairwise_iff_getElem] at hs
    obtain ⟨hj1, hj2⟩ := List.getElem?_eq_some_iff.1 hz
    obtain ⟨hk1, hk2⟩ := List.getElem?_eq_some_iff.1 hy
    have h1 := hs j k hj1 hk1 (by omega)
    rw [hj2, hk2] at h1
    cases e : ltP x z with
    | false => rfl
    | true =>
      -- x < z and not y < z: so x < y, or they are one
      exfalso
      cases e2 : ltP z y with
      | true => have := ltP_trans e e2; rw [h] at this; cases this
      | false =>
        have e3 := ltP_total e2 h1
        subst e3
        rw [h] at e; cases e

/-- the memory of a list of pairs, as cells of a source -/
theorem src_take {w : World} {base n c g : Nat} {l : List Pr} {k : Nat} (h : w.ownsRow base 48 2 (.slice (some ⟨g, 0, none⟩) n c) n (cellsP l)) (hk : k ≤ n) : Src w (some ⟨g, 0, none⟩) k 2 (cellsP (l.take k)) := by
  have hl : l.length = n := by have := h.1; rw [cellsP_length] at this; omega
  refine ⟨by rw [cellsP_length, List.length_take, Nat.min_eq_left (by omega)], fun _ => ⟨_, rfl, fun j u hj => ?_⟩⟩
  refine h.cells (g := g) rfl j u ?_
  have e : cellsP l = cellsP (l.take k) ++ cellsP (l.drop k) := by rw [← cellsP_append, List.take_append_drop]
  rw [e, List.getElem?_append_left (List.getElem?_eq_some_iff.1 hj).1]
  exact hj
theorem src_drop {w : World} {base n c g : Nat} {l : List Pr} {k : Nat} (h : w.ownsRow base 48 2 (.slice (some ⟨g, 0, none⟩) n c) n (cellsP l)) (hk : k ≤ n) : Src w (some ⟨g, k * 2, none⟩) (n - k) 2 (cellsP (l.drop k)) := by
  have hl : l.length = n := by have := h.1; rw [cellsP_length] at this; omega
  refine ⟨by rw [cellsP_length, List.length_drop, hl], fun _ => ⟨_, rfl, fun j u hj => ?_⟩⟩
  have e : cellsP l = cellsP (l.take k) ++ cellsP (l.drop k) := by rw [← cellsP_append, List.take_append_drop]
  have h1 := h.cells (g := g) rfl (k * 2 + j) u (by
    have hk2 : (cellsP (l.take k)).length = k * 2 := by rw [cellsP_length, List.length_take, Nat.min_eq_left (by omega)]
    rw [e, List.getElem?_append_right (by omega), hk2, show k * 2 + j - k * 2 = j from by omega]; exact hj)
  rw [Addr.add_lit] at h1 ⊢
  rw [show (0 + (k * 2 + j)) = k * 2 + j from by omega] at h1
  exact h1
theorem Src.none_ {w : World} {A : Option Addr} {size : Nat} : Src w A 0 size [] := ⟨by simp, fun h => absurd h (by omega)⟩
theorem Src.below {w w' : World} {A : Option Addr} {m size : Nat} {news : List Value} (h : Src w A m size news) (hA : ∀ a, A = some a → a.block < w.heap.size) (hb : Below w.heap.size w w') : Src w' A m size news :=
  ⟨h.1, fun hm => by
    obtain ⟨ad, e, hc⟩ := h.2 hm
    refine ⟨ad, e, fun j u hj => ?_⟩
    have hl := hA ad e
    rw [hb.cell (p := ad.add j) (by rw [show (ad.add j).block = ad.block from by unfold Addr.add; split <;> rfl]; exact hl)]
    exact hc j u hj⟩
theorem src_box {w : World} {g : Nat} {a b : Value} {t : TypeId} (h : w.heap[g]? = some (.cells #[a, b] t (0, 0))) : Src w (some ⟨g, 0, none⟩) 1 2 [a, b] :=
  ⟨rfl, fun _ => ⟨_, rfl, fun j u hj => by
    rw [Addr.add_lit]
    show w.cell? ⟨g, 0 + j, none⟩ = some u
    simp only [World.cell?, h]
    match j, hj with
    | 0, hj => simpa using hj
    | 1, hj => simpa using hj⟩⟩
theorem src_kept {w w' : World} {row : Option Nat} {g : Nat} {a b : Value} {t : TypeId} (hg : w.grownBy w' row) (h : w.heap[g]? = some (.cells #[a, b] t (0, 0))) (hne : some g ≠ row) : Src w' (some ⟨g, 0, none⟩) 1 2 [a, b] :=
  src_box ((hg.block g (lt_of_block h) hne).trans h)
theorem below_own {B : Nat} {a w w' : World} {base : Nat} {e : TypeId} {size n : Nat} {v : Value} {xs : List Value} (h : Below B a w) (hB : B ≤ w.heap.size) (hown : ∀ k, v.ownBlock = some k → B ≤ k) (hg : w.grownBy w' v.ownBlock) (_ : w.ownsRow base e size v n xs) : Below B a w' := h.grown hg hB hown

set_option maxRecDepth 100000 in
/-- the two cuts of a row of the call's own, as sources -/
theorem cuts {w : World} {base n c : Nat} {A : Option Addr} {l : List Pr} {a : Nat} {z : Int} (hz_ : z = a) (h : w.ownsRow base 48 2 (.slice A n c) n (cellsP l)) (ha : a ≤ n) :
    ∃ A1 A3 c3, (∀ W, (Instr.slice 24 (.slice A n c) none (some (.int .i64 z)) none).run Tryd.prog W = .ok (.slice A1 a c) W) ∧ (∀ W, (Instr.slice 24 (.slice A n c) (some (.int .i64 z)) none none).run Tryd.prog W = .ok (.slice A3 (n - a) c3) W) ∧
      Src w A1 a 2 (cellsP (l.take a)) ∧ (∀ x, A1 = some x → x.block < w.heap.size) ∧ Src w A3 (n - a) 2 (cellsP (l.drop a)) ∧ (∀ x, A3 = some x → x.block < w.heap.size) := by
  subst hz_
  have hl : l.length = n := by have := h.1; rw [cellsP_length] at this; omega
  rcases h.2 with ⟨e, rfl⟩ | ⟨g, cap, cur, e, _, hg, hnc, _⟩
  · injection e with e1 _ e3
    subst e1; subst e3
    obtain rfl : a = 0 := by omega
    have hl0 : l = [] := List.eq_nil_of_length_eq_zero hl
    subst hl0
    refine ⟨none, none, 0, fun W => ?_, fun W => ?_, Src.none_, fun x hx => (by cases hx), Src.none_, fun x hx => (by cases hx)⟩
    · kernel_rfl
    · kernel_rfl
  · injection e with e1 _ e3
    subst e1; subst e3
    have hlt : g < w.heap.size := lt_of_block hg
    have hu : Tryd.prog.underlying 24 = some (.slice (Tryd.prog.elem 24)) := by kernel_rfl
    have hz : ∀ W, (sizeOf (Tryd.prog.elem 24)).run Tryd.prog W = .ok 2 W := Tryd.sizeOf48
    refine ⟨some ⟨g, 0, none⟩, if c = a then some ⟨g, 0, none⟩ else some ⟨g, a * 2, none⟩, c - a, fun W => ?_, fun W => ?_, src_take h ha, fun x hx => ?_, ?_, fun x hx => ?_⟩
    · rw [run_slice_h W 24 _ n c hu .i64 (a : Nat) (by omega) (by omega), hz]
      simp [sliced, Result.andThen, Addr.add_lit]
    · rw [run_slice_l W 24 _ n c hu .i64 (a : Nat) (by omega) (by omega), hz]
      simp only [sliced, Result.andThen, Int.toNat_natCast]
      by_cases hca : c = a
      · rw [if_pos hca, if_pos hca]
      · rw [if_neg hca, if_neg hca]
        simp [Addr.add_lit]
    · cases hx; exact hlt
    · by_cases hca : c = a
      · have h0 : n - a = 0 := by omega
        rw [if_pos hca, h0, List.drop_of_length_le (by omega)]
        exact Src.none_
      · rw [if_neg hca]
        exact src_drop h ha
    · by_cases hca : c = a
      · rw [if_pos hca] at hx; cases hx; exact hlt
      · rw [if_neg hca] at hx; cases hx; exact hlt

/-- the step of an append onto a row that the call itself has made since wi -/
theorem step_append_b {P : Program} {w : World} {ops : Array Oper} {o : Oper} {a : Act} {K : Act → World → Prop} {Q : Exit → Act → World → Prop} {E : Prop} (hgd : o.guard = none) (s x : Operand) {t : TypeId}
    (ho : o.op = .call { callee := .builtin .append, args := #[s, x], argTypes := #[t, t] })
    {e : TypeId} {i : TypeInfo} {z : Value} {size bytes : Nat} (ht : P.underlying t = some (.slice e)) (hi : P.info? e = some i) (hz : i.zero = some z)
    (hsize : i.size = size) (hby : i.bytes = bytes) (hzs : z.cells.size = size) (hsz : 0 < size) {wi : World} (hbel : RowKit.Below wi.heap.size wi w)
    {v : Value} {n : Nat} {xs : List Value} (hv : a.eval s = v) (hown : w.ownsRow wi.heap.size e size v n xs) {A : Option Addr} {m c : Nat} {news : List Value} (hx : a.eval x = .slice A m c) (hs : Src w A m size news) (h1 : ∀ u ∈ news, u.oneCell' = true)
    (h63 : n + m ≤ maxLen) (hbytes : (n + m) * bytes ≤ 140737488355328)
    (h : ∀ A' c' w', w'.ownsRow wi.heap.size e size (.slice A' (n + m) c') (n + m) (xs ++ news) → RowKit.Below wi.heap.size wi w' → (∀ g ob, w.heap[g]? = some ob → (∀ q, v.ownBlock = some q → g ≠ q) → w'.heap[g]? = some ob) → K (a.put o.dst (.slice A' (n + m) c')) w') :
    if Region.wanted o (yielded ops a.tmps) = true then Oper.wp P o a w K Q else E := by
  refine step_append_src hgd s x ho ht hi hz hsize hby hzs hsz hv hown hx hs h1 h63 hbytes hbel.size fun v' w' hr hg hb => ?_
  obtain ⟨A', c', rfl⟩ := own_slice hr
  refine h A' c' w' hr (hbel.grown hg hbel.size fun k hk => (hown.lt k hk).1) fun g ob hgo hne => ?_
  exact (hg.block g (lt_of_block hgo) fun h => hne g h.symm rfl).trans hgo
theorem heap_drew {w : World} {g : Nat} {o : Option Obj} (h : w.heap[g]? = o) : w.drew.heap[g]? = o := h
theorem own_mono {W : World} {base base' : Nat} {e : TypeId} {size n : Nat} {v : Value} {xs : List Value} (h : W.ownsRow base e size v n xs) (hb : base' ≤ base) : W.ownsRow base' e size v n xs := by
  refine ⟨h.1, ?_⟩
  rcases h.2 with h2 | ⟨g, cap, cur, h1, h2, h3⟩
  · exact .inl h2
  · exact .inr ⟨g, cap, cur, h1, Nat.le_trans hb h2, h3⟩
theorem own_made2 (w : World) (o : Obj) (e : TypeId) (size : Nat) : ((w.alloc o).alloc (.cells #[] e)).ownsRow w.heap.size e size (.slice (some ⟨w.heap.size + 1, 0, none⟩) 0 0) 0 [] := by
  have h := World.ownsRow_made (base := w.heap.size) (e := e) (size := size) (w.alloc o) #[] 0 (by simp) (Nat.zero_le _) (by simp)
  rwa [World.size_alloc] at h
theorem fin_own {W : World} {B B' : Nat} {e : TypeId} {size N N' n : Nat} {A : Option Addr} {c : Nat} {xs ys : List Value} (h : W.ownsRow B e size (.slice A N c) N xs) (hB : B' ≤ B) (hN : N = n) (hN' : N' = n) (hx : ys = xs) : W.ownsRow B' e size (.slice A N' c) n ys := by
  subst hN; subst hN'; subst hx; exact own_mono h hB
/-- one more pair, put in at a -/
theorem sorted_more {l : List Pr} {k a : Nat} {x : Pr} (hx : l[k]? = some x) (ha : a ≤ (sortP (l.take k)).length) (hlo : ∀ (j : Nat) (y : Pr), j < a → (sortP (l.take k))[j]? = some y → ltP x y = false) (hhi : ∀ (j : Nat) (y : Pr), a ≤ j → (sortP (l.take k))[j]? = some y → ltP x y = true) :
    cellsP (sortP (l.take (k + 1))) = [] ++ cellsP ((sortP (l.take k)).take a) ++ cellsP [x] ++ cellsP ((sortP (l.take k)).drop a) := by
  rw [List.take_add_one, hx, Option.toList_some, sortP_insert ha hlo hhi, cellsP_append, cellsP_append, List.nil_append]

theorem less_grown (x y : Pr) (w : World) (n : Nat) (os : Array Obj) :
    Calls Tryd.prog 54 #[.agg #[.string x.1, .string x.2], .agg #[.string y.1, .string y.2]] (Sort.grow (w.drewN n) os) fun e w'' => e = .returned (.bool (ltP x y)) ∧ ∃ p : GrownBy, w'' = Sort.grow (w.drewN p.n) p.os :=
  Calls.grown_of ((less_any x y _).mono fun e w' ⟨h1, h2⟩ => ⟨h1, 0, #[.cells #[.string x.1, .string x.2] 48, .cells #[.string y.1, .string y.2] 48], h2.trans (by rw [Sort.alloc_eq_grow, Sort.alloc_eq_grow, Sort.grow_grow]; rfl)⟩)

set_option maxRecDepth 100000 in
set_option maxHeartbeats 4000000 in
theorem rsorted_any (A : Option Addr) (n c : Nat) (l : List Pr) (w : World) (hn : n = l.length) (hm : n * 32 ≤ 140737488351232) (hr : RdP w w.heap.size A l) :
    Calls Tryd.prog 43 #[.slice A n c] w fun e w' => ∃ v, e = .returned v ∧ w'.ownsRow w.heap.size 48 2 v n (cellsP (sortP l)) ∧ Below w.heap.size w w' := by
  obtain ⟨i0, hi, hz0, hz1, hz2⟩ := info_parts Tryd.infoP
  have hmix : Tryd.prog.follows .mixedOrders = true := by kernel_rfl
  have Hn := Lib.hid hn
  clear hn
  go_enter Tryd.func43, Tryd.ntmps43
  go_wp2
  go_loopw [3, 4] (fun v i wr => ∃ k : Nat, k ≤ n ∧ i = .int .i64 k ∧ wr.ownsRow w.heap.size 48 2 v k (cellsP (sortP (l.take k))) ∧ Below w.heap.size w wr) (fun _ i _ => n - (intOf i).toNat)
  case atStart => exact ⟨0, Nat.zero_le _, rfl, by rw [List.take_zero, show sortP [] = [] from by simp [sortP]]; exact World.ownsRow_nil _ _ _ _, Below.refl _ _⟩
  case round =>
    obtain ⟨k, hk, rfl, hown, hbw⟩ := hrel
    obtain ⟨wo, rfl⟩ : ∃ wo : World, wo = wr := ⟨_, rfl⟩
    obtain ⟨A2, c2, rfl⟩ := own_slice hown
    by_cases hlt : k < n
    · obtain ⟨b, o, x, rfl, hb, hx, hc1, hc2⟩ := hr.at_ (k := k) (by have := Hn.out; omega)
      have Hx := Lib.hid hx
      have hsl : (sortP (l.take k)).length = k := by rw [sortP_length, List.length_take, Nat.min_eq_left (by have := Hn.out; omega)]
      have Hsl := Lib.hid hsl
      have Hown := Lib.hid hown
      have Hr2 := Lib.hid (RdP.of_own hown)
      clear hx hr hsl hown
      go_wp2
      go_loopw [5] (fun at_ wi => ∃ a : Nat, a ≤ k ∧ at_ = .int .i64 a ∧ Hid (∀ (j : Nat) (y : Pr), a ≤ j → (sortP (l.take k))[j]? = some y → ltP x y = true) ∧ Below wo.heap.size wo wi) (fun at_ _ => (intOf at_).toNat)
      case atStart => exact ⟨k, Nat.le_refl _, rfl, fun j y hj hy => by have := (List.getElem?_eq_some_iff.1 hy).1; have := Hsl.out; omega, Below.refl _ _⟩
      case round =>
        obtain ⟨a, ha, rfl, Hhi, hbi⟩ := hrel
        rcases Nat.eq_zero_or_pos a with h0 | h0
        · subst h0
          have Hlo : Hid (∀ (j : Nat) (y : Pr), j < 0 → (sortP (l.take k))[j]? = some y → ltP x y = false) := fun j y hj => by omega
          go_wp2
          go_quiet (fail)
          go_wp2
          obtain ⟨wi, hwi, hbi⟩ : ∃ wi, wi = wr.drewN nq ∧ Below wo.heap.size wo wi := ⟨_, rfl, below_drewN hbi _⟩
          rw [← hwi]
          clear hwi
          obtain ⟨A1, A3, c3, hs1, hs3, s1, q1, s3, q3⟩ := cuts (z := (0 : Int)) (a := 0) rfl (own_below Hown.out hbi) ha
          have hbw2 := hbw.trans (hbi.mono hbw.size)
          have HS1 : Hid (∀ W, Below wi.heap.size wi W → Src W A1 0 2 (cellsP ((sortP (l.take k)).take 0))) := fun W hW => s1.below q1 hW
          have HS3 : Hid (∀ W, Below wi.heap.size wi W → Src W A3 (k - 0) 2 (cellsP ((sortP (l.take k)).drop 0))) := fun W hW => s3.below q3 hW
          have e1 := (hbw2.cell (p := ⟨b, o + k * 2, none⟩) hb).trans hc1
          have e2 := (hbw2.cell (p := ⟨b, o + k * 2 + 1, none⟩) hb).trans hc2
          have hge := hbw2.size
          have hbi' : b < wi.heap.size := by omega
          have HC1 : Hid (∀ W, Below wi.heap.size wi W → W.cell? ⟨b, o + k * 2, none⟩ = some (.string x.1)) := fun W hW => (hW.cell (p := ⟨b, o + k * 2, none⟩) hbi').trans e1
          have HC2 : Hid (∀ W, Below wi.heap.size wi W → W.cell? ⟨b, o + k * 2 + 1, none⟩ = some (.string x.2)) := fun W hW => (hW.cell (p := ⟨b, o + k * 2 + 1, none⟩) hbi').trans e2
          clear s1 q1 s3 q3
          have hq1 : ((wi.alloc (.cells #[] 48)).alloc (.cells #[.string x.1, .string x.2] 48)).heap[wi.heap.size + 1]? = some (.cells #[.string x.1, .string x.2] 48) := by
            have h := heap_alloc_new (wi.alloc (.cells #[] 48)) (.cells #[.string x.1, .string x.2] 48)
            rwa [World.size_alloc] at h
          have hq2 : ((wi.alloc (.cells #[.string x.1, .string x.2] 48)).alloc (.cells #[] 48)).heap[wi.heap.size]? = some (.cells #[.string x.1, .string x.2] 48) :=
            (RowKit.Below.heap_alloc _ _ _ (by simp)).trans (heap_alloc_new _ _)
          replace hq1 := Lib.hid hq1; replace hq2 := Lib.hid hq2
          have Hfin := Lib.hid (sorted_more Hx.out (by have := Hsl.out; omega) Hlo.out Hhi.out)
          go_region_law (first
            | (refine step_append_b rfl (.tmp 30) (.tmp 33) rfl Tryd.underlying24 hi hz0 hz1 hz2 rfl (by decide) (wi := wi) ((RowKit.Below.refl _ _).alloc (by simp) _).drew rfl (World.ownsRow_made _ #[] 0 (by simp) (Nat.zero_le _) rfl).drew rfl (HS1.out _ ((RowKit.Below.refl _ _).alloc (by simp) _).drew) (cellsP_one _) (by unfold maxLen; omega) (by omega) ?_
               intro A4 c4 w1 HO1 HB1 HK1
               replace HO1 := Lib.hid HO1
               clear HK1
               have f1 := HC1.out w1 HB1; have f2 := HC2.out w1 HB1; have g1 := HB1.size)
            | (refine step_append_b rfl (.tmp 30) (.tmp 33) rfl Tryd.underlying24 hi hz0 hz1 hz2 rfl (by decide) (wi := wi) (((RowKit.Below.refl _ _).alloc (by simp) _).alloc (by simp) _).drew rfl ((World.ownsRow_made _ #[] 0 (by simp) (Nat.zero_le _) rfl).alloc _).drew rfl (HS1.out _ (((RowKit.Below.refl _ _).alloc (by simp) _).alloc (by simp) _).drew) (cellsP_one _) (by unfold maxLen; omega) (by omega) ?_
               intro A4 c4 w1 HO1 HB1 HK1
               replace HO1 := Lib.hid HO1; have hbx := Lib.hid (HK1 _ _ hq1.out (fun q hq hn => by have h2 := (Option.some.inj hq : wi.heap.size = q); omega))
               clear HK1
               have f1 := HC1.out w1 HB1; have f2 := HC2.out w1 HB1; have g1 := HB1.size)
            | (refine step_append_b rfl (.tmp 40) (.tmp 43) rfl Tryd.underlying24 hi hz0 hz1 hz2 rfl (by decide) (wi := wi) HB2 rfl HO2.out rfl (HS3.out _ HB2) (cellsP_one _) (by unfold maxLen; omega) (by omega) ?_
               intro A6 c6 w3 HO3 HB3 _
               replace HO3 := Lib.hid HO3)
            | (refine step_append_b rfl (.tmp 34) (.tmp 39) rfl Tryd.underlying24 hi hz0 hz1 hz2 rfl (by decide) (wi := wi) (RowKit.Below.alloc HB1 (by omega) _) rfl (HO1.out.alloc _) rfl (src_box (heap_alloc_new _ _)) (cellsP_one [x]) (by unfold maxLen; omega) (by omega) ?_
               intro A5 c5 w2 HO2 HB2 _
               replace HO2 := Lib.hid HO2)
            | (refine step_append_b rfl (.tmp 34) (.tmp 39) rfl Tryd.underlying24 hi hz0 hz1 hz2 rfl (by decide) (wi := wi) HB1 rfl HO1.out rfl (src_box hbx.out) (cellsP_one [x]) (by unfold maxLen; omega) (by omega) ?_
               intro A5 c5 w2 HO2 HB2 _
               replace HO2 := Lib.hid HO2)
            | (refine step_append_b rfl (.tmp 30) (.tmp 33) rfl Tryd.underlying24 hi hz0 hz1 hz2 rfl (by decide) (wi := wi) (((RowKit.Below.refl _ _).alloc (by simp) _).alloc (by simp) _).drew rfl (own_made2 _ _ _ _).drew rfl (HS1.out _ (((RowKit.Below.refl _ _).alloc (by simp) _).alloc (by simp) _).drew) (cellsP_one _) (by unfold maxLen; omega) (by omega) ?_
               intro A4 c4 w1 HO1 HB1 HK1
               replace HO1 := Lib.hid HO1; have hbx := Lib.hid (HK1 _ _ hq2.out (fun q hq hn => by have h2 := (Option.some.inj hq : wi.heap.size + 1 = q); omega))
               clear HK1
               have f1 := HC1.out w1 HB1; have f2 := HC2.out w1 HB1; have g1 := HB1.size)
            | fail)
          all_goals (
            clear hq1 hq2 HC1 HC2 HS1 HS3
            go_wp2
            refine ⟨⟨k + 1, by omega, by go_num, fin_own HO3.out hge (by omega) (by omega) Hfin.out, hbw2.trans (HB3.mono hge)⟩, by simp [intOf]; omega⟩)
        · obtain ⟨j, rfl⟩ : ∃ j, a = j + 1 := ⟨a - 1, by omega⟩
          obtain ⟨g, og, y, rfl, hg, hy, hd1, hd2⟩ := Hr2.out.at_ (k := j) (by have := Hsl.out; omega)
          have Hy := Lib.hid hy
          have hge := hbw.size
          have hge2 := hbi.size
          have hbw2 := hbw.trans (hbi.mono hge)
          have p1 := Go.cell_grown (a := ⟨b, o + k * 2, none⟩) (by show b < wr.heap.size; omega) ((hbw2.cell (p := ⟨b, o + k * 2, none⟩) hb).trans hc1)
          have p2 := Go.cell_grown (a := ⟨b, o + k * 2 + 1, none⟩) (by show b < wr.heap.size; omega) ((hbw2.cell (p := ⟨b, o + k * 2 + 1, none⟩) hb).trans hc2)
          have p3 := Go.cell_grown (a := ⟨g, og + j * 2, none⟩) (by show g < wr.heap.size; omega) ((hbi.cell (p := ⟨g, og + j * 2, none⟩) hg).trans hd1)
          have p4 := Go.cell_grown (a := ⟨g, og + j * 2 + 1, none⟩) (by show g < wr.heap.size; omega) ((hbi.cell (p := ⟨g, og + j * 2 + 1, none⟩) hg).trans hd2)
          have hls := less_grown x y wr
          clear hy
          have hjk : j < k := by omega
          have hwj : IntKind.i64.wrap (j : Int) = j := by simp (disch := omega) only [IntWalk.i64_in]
          have hpos : decide ((0 : Int) < ((j + 1 : Nat) : Int)) = true := decide_eq_true (by omega)
          cases he : ltP x y with
          | true =>
            rw [he] at hls
            have Hhi2 : Hid (∀ (i : Nat) (z : Pr), j ≤ i → (sortP (l.take k))[i]? = some z → ltP x z = true) := fun i z hi hz => by
              by_cases hij : i = j
              · subst hij; rw [Hy.out] at hz; cases hz; exact he
              · exact Hhi.out i z (by omega) hz
            clear he
            go_wp2
            go_quiet_grown (exact hls _ _)
            go_wp2
            have hbj : Below wo.heap.size wo (Sort.grow (wr.drewN nq) osq) := below_grow (below_drewN hbi _) (by exact hge2) _
            exact ⟨⟨j, by omega, rfl, Hhi2, hbj⟩, by simp [intOf]⟩
          | false =>
            rw [he] at hls
            have Hlo : Hid (∀ (i : Nat) (z : Pr), i < j + 1 → (sortP (l.take k))[i]? = some z → ltP x z = false) := lo_of_last Hy.out he
            clear he
            go_wp2
            go_quiet_grown (exact hls _ _)
            go_wp2
            clear hls p1 p2 p3 p4 hwj hpos
            obtain ⟨wi, hwi, hbi⟩ : ∃ wi, wi = Sort.grow (wr.drewN nq) osq ∧ Below wo.heap.size wo wi := ⟨_, rfl, below_grow (below_drewN hbi _) (by exact hge2) _⟩
            rw [← hwi]
            clear hwi
            obtain ⟨A1, A3, c3, hs1, hs3, s1, q1, s3, q3⟩ := cuts (z := (j : Int) + 1) (a := j + 1) (by omega) (own_below Hown.out hbi) ha
            have hbw2 := hbw.trans (hbi.mono hbw.size)
            have HS1 : Hid (∀ W, Below wi.heap.size wi W → Src W A1 (j + 1) 2 (cellsP ((sortP (l.take k)).take (j + 1)))) := fun W hW => s1.below q1 hW
            have HS3 : Hid (∀ W, Below wi.heap.size wi W → Src W A3 (k - (j + 1)) 2 (cellsP ((sortP (l.take k)).drop (j + 1)))) := fun W hW => s3.below q3 hW
            have e1 := (hbw2.cell (p := ⟨b, o + k * 2, none⟩) hb).trans hc1
            have e2 := (hbw2.cell (p := ⟨b, o + k * 2 + 1, none⟩) hb).trans hc2
            have hge := hbw2.size
            have hbi' : b < wi.heap.size := by omega
            have HC1 : Hid (∀ W, Below wi.heap.size wi W → W.cell? ⟨b, o + k * 2, none⟩ = some (.string x.1)) := fun W hW => (hW.cell (p := ⟨b, o + k * 2, none⟩) hbi').trans e1
            have HC2 : Hid (∀ W, Below wi.heap.size wi W → W.cell? ⟨b, o + k * 2 + 1, none⟩ = some (.string x.2)) := fun W hW => (hW.cell (p := ⟨b, o + k * 2 + 1, none⟩) hbi').trans e2
            clear s1 q1 s3 q3
            have hq1 : ((wi.alloc (.cells #[] 48)).alloc (.cells #[.string x.1, .string x.2] 48)).heap[wi.heap.size + 1]? = some (.cells #[.string x.1, .string x.2] 48) := by
              have h := heap_alloc_new (wi.alloc (.cells #[] 48)) (.cells #[.string x.1, .string x.2] 48)
              rwa [World.size_alloc] at h
            have hq2 : ((wi.alloc (.cells #[.string x.1, .string x.2] 48)).alloc (.cells #[] 48)).heap[wi.heap.size]? = some (.cells #[.string x.1, .string x.2] 48) :=
              (RowKit.Below.heap_alloc _ _ _ (by simp)).trans (heap_alloc_new _ _)
            replace hq1 := Lib.hid hq1; replace hq2 := Lib.hid hq2
            have Hfin := Lib.hid (sorted_more Hx.out (by have := Hsl.out; omega) Hlo.out Hhi.out)
            go_region_law (first
              | (refine step_append_b rfl (.tmp 30) (.tmp 33) rfl Tryd.underlying24 hi hz0 hz1 hz2 rfl (by decide) (wi := wi) ((RowKit.Below.refl _ _).alloc (by simp) _).drew rfl (World.ownsRow_made _ #[] 0 (by simp) (Nat.zero_le _) rfl).drew rfl (HS1.out _ ((RowKit.Below.refl _ _).alloc (by simp) _).drew) (cellsP_one _) (by unfold maxLen; omega) (by omega) ?_
                 intro A4 c4 w1 HO1 HB1 HK1
                 replace HO1 : Hid (w1.ownsRow wi.heap.size 48 2 (.slice A4 (j + 1) c4) (j + 1) ([] ++ cellsP ((sortP (l.take k)).take (j + 1)))) := fin_own HO1 (Nat.le_refl _) (by omega) (by omega) rfl
                 clear HK1
                 have f1 := HC1.out w1 HB1; have f2 := HC2.out w1 HB1; have g1 := HB1.size)
              | (refine step_append_b rfl (.tmp 30) (.tmp 33) rfl Tryd.underlying24 hi hz0 hz1 hz2 rfl (by decide) (wi := wi) (((RowKit.Below.refl _ _).alloc (by simp) _).alloc (by simp) _).drew rfl ((World.ownsRow_made _ #[] 0 (by simp) (Nat.zero_le _) rfl).alloc _).drew rfl (HS1.out _ (((RowKit.Below.refl _ _).alloc (by simp) _).alloc (by simp) _).drew) (cellsP_one _) (by unfold maxLen; omega) (by omega) ?_
                 intro A4 c4 w1 HO1 HB1 HK1
                 replace HO1 : Hid (w1.ownsRow wi.heap.size 48 2 (.slice A4 (j + 1) c4) (j + 1) ([] ++ cellsP ((sortP (l.take k)).take (j + 1)))) := fin_own HO1 (Nat.le_refl _) (by omega) (by omega) rfl; have hbx := Lib.hid (HK1 _ _ hq1.out (fun q hq hn => by have h2 := (Option.some.inj hq : wi.heap.size = q); omega))
                 clear HK1
                 have f1 := HC1.out w1 HB1; have f2 := HC2.out w1 HB1; have g1 := HB1.size)
              | (refine step_append_b rfl (.tmp 40) (.tmp 43) rfl Tryd.underlying24 hi hz0 hz1 hz2 rfl (by decide) (wi := wi) HB2 rfl HO2.out rfl (HS3.out _ HB2) (cellsP_one _) (by unfold maxLen; omega) (by omega) ?_
                 intro A6 c6 w3 HO3 HB3 _
                 replace HO3 := Lib.hid HO3)
              | (refine step_append_b rfl (.tmp 34) (.tmp 39) rfl Tryd.underlying24 hi hz0 hz1 hz2 rfl (by decide) (wi := wi) (RowKit.Below.alloc HB1 (by omega) _) rfl (HO1.out.alloc _) rfl (src_box (heap_alloc_new _ _)) (cellsP_one [x]) (by unfold maxLen; omega) (by omega) ?_
                 intro A5 c5 w2 HO2 HB2 _
                 replace HO2 := Lib.hid HO2)
              | (refine step_append_b rfl (.tmp 34) (.tmp 39) rfl Tryd.underlying24 hi hz0 hz1 hz2 rfl (by decide) (wi := wi) HB1 rfl HO1.out rfl (src_box hbx.out) (cellsP_one [x]) (by unfold maxLen; omega) (by omega) ?_
                 intro A5 c5 w2 HO2 HB2 _
                 replace HO2 := Lib.hid HO2)
              | (refine step_append_b rfl (.tmp 30) (.tmp 33) rfl Tryd.underlying24 hi hz0 hz1 hz2 rfl (by decide) (wi := wi) (((RowKit.Below.refl _ _).alloc (by simp) _).alloc (by simp) _).drew rfl (own_made2 _ _ _ _).drew rfl (HS1.out _ (((RowKit.Below.refl _ _).alloc (by simp) _).alloc (by simp) _).drew) (cellsP_one _) (by unfold maxLen; omega) (by omega) ?_
                 intro A4 c4 w1 HO1 HB1 HK1
                 replace HO1 : Hid (w1.ownsRow wi.heap.size 48 2 (.slice A4 (j + 1) c4) (j + 1) ([] ++ cellsP ((sortP (l.take k)).take (j + 1)))) := fin_own HO1 (Nat.le_refl _) (by omega) (by omega) rfl; have hbx := Lib.hid (HK1 _ _ hq2.out (fun q hq hn => by have h2 := (Option.some.inj hq : wi.heap.size + 1 = q); omega))
                 clear HK1
                 have f1 := HC1.out w1 HB1; have f2 := HC2.out w1 HB1; have g1 := HB1.size)
              | fail)
            all_goals (
              clear hq1 hq2 HC1 HC2 HS1 HS3
              go_wp2
              refine ⟨⟨k + 1, by omega, by go_num, fin_own HO3.out hge (by omega) (by omega) Hfin.out, hbw2.trans (HB3.mono hge)⟩, by simp [intOf]; omega⟩)
    · have hkn : k = n := by omega
      subst hkn
      have hown2 : wo.ownsRow w.heap.size 48 2 (.slice A2 k c2) k (cellsP (sortP l)) := by
        have h := hown
        rw [List.take_of_length_le (by have := Hn.out; omega)] at h
        exact h
      have Hown := Lib.hid hown2
      clear hown hown2 hr
      go_wp2
      go_ret
      exact ⟨_, rfl, Hown.out, hbw⟩
end Go.Proofs.YtbadohcphadjfaaDoor
