/- Several texts in one: SpNil, SpBase, SpCov, SpFind, SpFinK, SpCovA, SpKept, ItTwo, ItSameRef. -/
import Derived.Test.YtholdcgkhicdmaaGreatDoorZt15
namespace Go.Proofs.YtholdcgkhicdmaaGreatDoor
open Go.RowKit
theorem results_tmp5 {fn : Func} {t u v x y : Tmp} (h : fn.results = #[.tmp t, .tmp u, .tmp v, .tmp x, .tmp y]) (tmps : Array Value) (P : Program) (w : World) :
    (results fn tmps).run P w = .ok (.tuple #[tmps.getD t undef, tmps.getD u undef, tmps.getD v undef, tmps.getD x undef, tmps.getD y undef]) w := by
  simp [results, h]
set_option maxRecDepth 100000 in
set_option maxHeartbeats 400000 in
theorem scounts_any {S : Nat → Prop} {s : Nat} {X : Sp} {L : List Ett} (w : World) (h : SpAt w S s X L) : Calls Tryz.prog 18 #[.pointer (some ⟨s, 0, none⟩)] w fun e w' => e = .returned (.tuple #[.int .i64 L.length, .int .i64 (sumE L), .int .u64 X.n, .int .u64 X.a, .int .u64 X.v]) ∧ Below w.heap.size w w' := by
  obtain ⟨v, k1, r1⟩ := h.sp
  obtain ⟨A, c, rfl⟩ := own_slice r1.own
  have c1 := k1.c1
  have c2 := k1.c2
  have c3 := k1.c3
  have c4 := k1.c4
  have c37 := k1.c37
  go_enter Tryz.func18, Tryz.ntmps18
  go_wp2
  go_quiet (fail)
  go_wp2
  refine bodyPost_ret (results_tmp5 rfl _ _ _) rfl ?_
  exact ⟨rfl, cbelow_drewN (Below.refl _ _) _⟩
def zeroBase : Array Value := #[.int .u64 0, .int .u64 0, .int .u64 0, .int .u64 0, .int .u64 0, .int .u64 0, .int .u64 0, .int .u64 0, .int .u64 0, .int .u64 0, .int .u64 0, .int .u64 0, .int .u64 0, .int .u64 0, .int .u64 0, .int .u64 0, .int .u64 0, .int .u64 0, .int .u64 0, .int .u64 0, .int .u64 0, .int .u64 0, .int .u64 0, .int .u64 0, .int .u64 0, .int .u64 0, .int .u64 0, .int .u64 0, .int .u64 0, .int .u64 0, .int .u64 0, .int .u64 0, .int .u64 0, .int .u64 0, .int .u64 0, .slice none 0 0]
theorem Tryz.infoBs : (Tryz.prog.info? 63).map (·.size) = some 36 := by kernel_rfl
structure BsV (cs : List Value) (X : Sp) (v : Value) : Prop where
  len : cs.length = 36
  c0 : cs[0]? = some (.int .u64 X.n)
  c1 : cs[1]? = some (.int .u64 X.a)
  c2 : cs[2]? = some (.int .u64 X.v)
  hi : ∀ i, i < 32 → cs[3 + i]? = some (.int .u64 (X.h i))
  c35 : cs[35]? = some v
theorem BsV.one {cs : List Value} {X : Sp} {A : Option Addr} {n c : Nat} (h : BsV cs X (.slice A n c)) : cs.toArray.all (·.oneCell') = true := by
  refine all_oneCell_toArray fun u hu => ?_
  obtain ⟨j, hj, rfl⟩ := List.getElem_of_mem hu
  have hj36 := h.len
  have e := List.getElem?_eq_getElem hj
  by_cases h3 : j < 3
  · match j, h3 with
    | 0, _ => rw [h.c0] at e; injection e with e; rw [← e]; rfl
    | 1, _ => rw [h.c1] at e; injection e with e; rw [← e]; rfl
    | 2, _ => rw [h.c2] at e; injection e with e; rw [← e]; rfl
  · by_cases h35 : j = 35
    · subst h35
      rw [h.c35] at e; injection e with e; rw [← e]; rfl
    · have := h.hi (j - 3) (by omega)
      rw [show 3 + (j - 3) = j by omega, e] at this
      injection this with this
      rw [this]; rfl
theorem BsV.info {cs : List Value} {X : Sp} {v : Value} (h : BsV cs X v) : (Tryz.prog.info? 63).map (·.size) = some cs.length := by rw [Tryz.infoBs, h.len]
theorem BsV.infoA {cs : List Value} {X : Sp} {v : Value} (h : BsV cs X v) : (Tryz.prog.info? 63).map (·.size) = some cs.toArray.size := by rw [Tryz.infoBs, List.size_toArray, h.len]
theorem BsV.size36 {cs : List Value} {X : Sp} {v : Value} (h : BsV cs X v) : (36 : Nat) = cs.toArray.size := by rw [List.size_toArray, h.len]
theorem BsV.set35 {cs : List Value} {X : Sp} {v u : Value} (h : BsV cs X v) : BsV (cs.set 35 u) X u := by
  have hl := h.len
  refine ⟨by rw [List.length_set]; exact hl, ?_, ?_, ?_, fun i hi => ?_, List.getElem?_set_self (by omega)⟩
  · rw [List.getElem?_set_ne (by omega)]; exact h.c0
  · rw [List.getElem?_set_ne (by omega)]; exact h.c1
  · rw [List.getElem?_set_ne (by omega)]; exact h.c2
  · rw [List.getElem?_set_ne (by omega)]; exact h.hi i hi
structure BsAt (w : World) (g : Nat) (X : Sp) (v : Value) : Prop where
  at_ : ∃ cs : List Value, w.heap[g]? = some (.cells cs.toArray 63 (0, 0)) ∧ BsV cs X v
section
variable {w w' : World} {g : Nat} {X : Sp} {v u : Value}
theorem BsAt.of {cs : List Value} (h : w.heap[g]? = some (.cells cs.toArray 63 (0, 0))) (hv : BsV cs X v) : BsAt w g X v := ⟨cs, h, hv⟩
theorem BsAt.lt (h : BsAt w g X v) : g < w.heap.size := by
  obtain ⟨cs, h, _⟩ := h.at_
  exact (Array.getElem?_eq_some_iff.1 h).1
theorem BsAt.as (h : BsAt w g X v) (he : w'.heap[g]? = w.heap[g]?) : BsAt w' g X v := by
  obtain ⟨cs, h, hv⟩ := h.at_
  exact ⟨cs, he.trans h, hv⟩
theorem BsAt.below (h : BsAt w g X v) (hb : Below w.heap.size w w') : BsAt w' g X v := h.as (hb.block _ h.lt)
theorem BsAt.cell (h : BsAt w g X v) : w.cell? ⟨g, 0, none⟩ = some (.int .u64 X.n) ∧ w.cell? ⟨g, 1, none⟩ = some (.int .u64 X.a) ∧ w.cell? ⟨g, 2, none⟩ = some (.int .u64 X.v) ∧ (∀ i, i < 32 → w.cell? ⟨g, 3 + i, none⟩ = some (.int .u64 (X.h i))) ∧ w.cell? ⟨g, 35, none⟩ = some v := by
  obtain ⟨cs, h, hv⟩ := h.at_
  have e : ∀ (j : Nat) (u : Value), cs[j]? = some u → w.cell? ⟨g, j, none⟩ = some u := fun j u hu => cell_of_row _ _ j _ _ _ h |>.trans (by simpa using hu)
  exact ⟨e _ _ hv.c0, e _ _ hv.c1, e _ _ hv.c2, fun i hi => e _ _ (hv.hi i hi), e _ _ hv.c35⟩
theorem BsAt.fz (h : BsAt w g X v) (k : Nat) : w.frozen? ⟨g, k, none⟩ = false := by
  obtain ⟨cs, h, _⟩ := h.at_
  simp [World.frozen?, h]
end
theorem BsV.setH {cs : List Value} {X : Sp} {v : Value} (h : BsV cs X v) {o : Nat} (ho : o < 32) (k : Nat) : BsV (cs.set (3 + o) (.int .u64 k)) { X with h := fun i => if i = o then k else X.h i } v := by
  have hl := h.len
  refine ⟨by rw [List.length_set]; exact hl, ?_, ?_, ?_, fun i hi => ?_, ?_⟩
  · rw [List.getElem?_set_ne (by omega)]; exact h.c0
  · rw [List.getElem?_set_ne (by omega)]; exact h.c1
  · rw [List.getElem?_set_ne (by omega)]; exact h.c2
  · show _ = some (Value.int .u64 ((if i = o then k else X.h i : Nat) : Int))
    by_cases e : i = o
    · rw [if_pos e, e]; exact List.getElem?_set_self (by omega)
    · rw [if_neg e, List.getElem?_set_ne (by omega)]; exact h.hi i hi
  · rw [List.getElem?_set_ne (by omega)]; exact h.c35
theorem BsAt.set {w : World} {g k : Nat} {X X' : Sp} {v v' u : Value} (h : BsAt w g X v) (hB : ∀ cs, BsV cs X v → BsV (cs.set k u) X' v') : BsAt (w.setCell ⟨g, k, none⟩ u) g X' v' := by
  obtain ⟨cs, h1, h2⟩ := h.at_
  refine ⟨cs.set k u, ?_, hB cs h2⟩
  have := heap_setAt h1 k u
  rwa [List.setIfInBounds_toArray] at this
theorem SpC.base {w : World} {s u : Nat} {X : Sp} {v : Value} (h : SpC w s X u v) : ∃ cs : List Value, w.rangeAt s 2 cs ∧ BsV cs X v := by
  obtain ⟨C, hC, hz⟩ := h.blk
  have e : ∀ (j : Nat) (x : Value), w.cell? ⟨s, j, none⟩ = some x → C[j]? = some x := fun j x hx => by rw [← cell_of_row w s j C _ _ hC]; exact hx
  have e2 : ∀ (j : Nat) (x : Value), w.cell? ⟨s, 2 + j, none⟩ = some x → (C.toList.drop 2)[j]? = some x := fun j x hx => by
    rw [List.getElem?_drop, Array.getElem?_toList]
    exact e _ _ hx
  refine ⟨C.toList.drop 2, rangeAt_row (cs := C.toList) hC 2, ⟨by rw [List.length_drop, Array.length_toList, hz], e2 0 _ h.c2, e2 1 _ h.c3, e2 2 _ h.c4, fun i hi => ?_, e2 35 _ h.c37⟩⟩
  rw [Nat.add_comm 3 i]
  refine e2 (i + 3) _ ?_
  rw [show 2 + (i + 3) = 5 + i by omega]
  exact h.hi i hi
theorem boxB (W : World) (Z : Array Value) (cs : List Value) : ∃ V, V = (W.alloc (.cells Z 63)).setRow W.heap.size cs.toArray ∧ V.heap[W.heap.size]? = some (.cells cs.toArray 63 (0, 0)) ∧ Below W.heap.size W V := ⟨_, rfl, setRow_heap _ _ _ _ _ _ (heap_alloc_new _ _), below_setRow ((Below.refl _ _).alloc (Nat.le_refl _) _) (Nat.le_refl _) _⟩
theorem ownE_src {w : World} {base : Nat} {A : Option Addr} {n c : Nat} {L : List Ett} (hn : n = L.length) (h : w.ownsRow base 74 14 (.slice A n c) n (cellsE L)) : Src w A n 14 (cellsE L) := by
  refine ⟨by rw [cellsE_length, hn], fun h0 => ?_⟩
  obtain ⟨b, c', hv, _, _⟩ := h.form h0
  injection hv with hv1 _ _
  subst hv1
  exact ⟨_, rfl, h.cells (g := b) rfl⟩
theorem ownE_nil {w : World} {base : Nat} {A : Option Addr} {n c : Nat} {L : List Ett} (h : w.ownsRow base 74 14 (.slice A n c) n (cellsE L)) : A = none → n = 0 := fun hA => by
  rcases Nat.eq_zero_or_pos n with h0 | h0
  · exact h0
  · obtain ⟨b, c', hv, _, _⟩ := h.form h0
    injection hv with hv1 _ _
    rw [hA] at hv1; cases hv1
set_option maxRecDepth 100000 in
set_option maxHeartbeats 1000000 in
theorem base_any {S : Nat → Prop} {s : Nat} {X : Sp} {L : List Ett} (w : World) (h : SpAt w S s X L) :
    Calls Tryz.prog 20 #[.pointer (some ⟨s, 0, none⟩)] w fun e w' => ∃ (cs : List Value) (A' : Option Addr) (c' : Nat) (M : List Ett), e = .returned (.agg cs.toArray) ∧ BsV cs X (.slice A' M.length c') ∧ SameE L M ∧ RowE w' w.heap.size (.slice A' M.length c') M ∧ (∀ e ∈ M, LabNew w.heap.size e) ∧ Below w.heap.size w w' := by
  obtain ⟨W, hW⟩ : ∃ W, W = w.alloc (.cells zeroBase 63) := ⟨_, rfl⟩
  have hb : Below w.heap.size w W := by rw [hW]; exact (Below.refl _ _).alloc (Nat.le_refl _) _
  have hbox : W.heap[w.heap.size]? = some (.cells zeroBase 63 (0, 0)) := by rw [hW]; exact heap_alloc_new _ _
  obtain ⟨v, k1, r1⟩ := (h.below hb).sp
  obtain ⟨A, c, rfl⟩ := own_slice r1.own
  obtain ⟨cs, hrg, hbs⟩ := k1.base
  have HW := Lib.hid hW
  have HB := Lib.hid hb
  have HX := Lib.hid hbox
  have HBS := Lib.hid hbs
  have HH := Lib.hid (h.below hb)
  have HOWN := Lib.hid r1.own
  have hfew := h.few
  obtain ⟨n, hn⟩ : ∃ n, n = L.length := ⟨_, rfl⟩
  rw [← hn] at HBS HOWN hfew
  have HN := Lib.hid hn
  clear hW hb hbox k1 r1 hbs h hn
  go_enter Tryz.func20, Tryz.ntmps20
  go_upto_region 1 with fail
  have hw := HW.out
  unfold zeroBase at hw
  rw [← hw]
  clear hw
  go_upto_region 4 with (first
    | (refine wpList_load_mid rfl _ _ rfl s 2 rfl cs _ hrg Tryz.underlying63 rfl HBS.out.info ?_)
    | (refine wpList_store_row rfl _ _ _ rfl W.heap.size cs.toArray rfl rfl _ _ (heap_alloc_new _ _) HBS.out.infoA HBS.out.size36 HBS.out.one ?_)
    | fail)
  obtain ⟨V, hV, hbx3, hbV⟩ := boxB W zeroBase cs
  unfold zeroBase at hV
  rw [← hV, act_put_no]
  obtain ⟨g3, hg3⟩ : ∃ g, g = W.heap.size := ⟨_, rfl⟩
  rw [← hg3] at hbx3 ⊢
  have hba := BsAt.of hbx3 HBS.out
  have HBA := Lib.hid hba
  have c35 := hba.cell.2.2.2.2
  have hbVW : Below w.heap.size w V := HB.out.trans (hbV.mono HB.out.size)
  have HBV := Lib.hid hbVW
  have HXV := Lib.hid ((hbV.block _ (Array.getElem?_eq_some_iff.1 HX.out).1).trans HX.out)
  have hg3w : w.heap.size < g3 := by rw [hg3]; exact (Array.getElem?_eq_some_iff.1 HX.out).1
  have hok : OkE V L := fun e he => ((HH.out.ent e he).free).below hbV
  have hcl := clones_new A n c L V HN.out hfew (ownE_nil HOWN.out) (fun W' hW' => ownE_src HN.out (ownB_below (ownB_below HOWN.out hbV) hW')) hok
  have HCL := Lib.hid hcl
  have HG3 := Lib.hid hg3w
  clear hV hbx3 hbV hg3 hba hbVW hg3w hok hcl hrg HW HB HX HH HOWN
  go_wp2_with fail
  refine HCL.out.mono ?_
  rintro _ w4 ⟨A4, c4, M, rfl, hsm, hrow, hb4, hnw⟩
  have hml : M.length = n := by rw [← hsm.len, HN.out]
  have hba4 := HBA.out.below hb4
  have c35 := hba4.cell.2.2.2.2
  have f35 := hba4.fz 35
  have HBA4 := Lib.hid hba4
  have HSM := Lib.hid hsm
  have HROW := Lib.hid hrow
  have HNW := Lib.hid hnw
  have HML := Lib.hid hml
  have hbl4 := HBV.out.trans (hb4.mono HBV.out.size)
  have HBL4 := Lib.hid hbl4
  have HX4 := Lib.hid ((hb4.block _ (Array.getElem?_eq_some_iff.1 HXV.out).1).trans HXV.out)
  have hg3V : g3 < V.heap.size := HBA.out.lt
  have HG3V := Lib.hid hg3V
  clear hsm hrow hb4 hnw hml hba4 hbl4 hg3V HCL HBA HBV HXV
  go_upto_region 5 with fail
  obtain ⟨w5, hw5⟩ : ∃ V, V = w4.setCell ⟨g3, 35, none⟩ (.slice A4 n c4) := ⟨_, rfl⟩
  rw [← hw5]
  have hba5 : BsAt w5 g3 X (.slice A4 n c4) := by rw [hw5]; exact HBA4.out.set (fun cs h => h.set35)
  have hon : Only (fun k => k = g3) w4 w5 := by rw [hw5]; exact Only.setCell _ _ _ rfl
  have hrow5 : RowE w5 V.heap.size (.slice A4 n c4) M := by
    have h1 := HROW.out
    refine ⟨hon.own h1.own (fun k hk e => ?_), fun e he => ?_⟩
    · have h2 := (h1.own.lt k hk).1
      have h3 := HG3V.out
      have e : k = g3 := e
      omega
    · exact (h1.ok e he).only hon (fun a ha h0 e' => by
        have h2 := HNW.out e he a ha h0
        have h3 := HG3V.out
        have e' : a.block = g3 := e'
        omega) (fun _ h => .inl h)
  have hbl5 : Below w.heap.size w w5 := HBL4.out.trans ⟨hon.os, hon.tape, hon.output, hon.size, fun k hk => hon.block k (Nat.lt_of_lt_of_le hk HBL4.out.size) (fun e => by have e : k = g3 := e; have := HG3.out; omega)⟩
  have hx5 : w5.heap[w.heap.size]? = some (.cells zeroBase 63 (0, 0)) := (hon.block _ (Array.getElem?_eq_some_iff.1 HX4.out).1 (fun e => by have e : w.heap.size = g3 := e; have := HG3.out; omega)).trans HX4.out
  obtain ⟨cs5, hcs5, hbs5⟩ := hba5.at_
  have HBS5 := Lib.hid hbs5
  have HX5 := Lib.hid hx5
  have HC5 := Lib.hid hcs5
  have HROW5 := Lib.hid hrow5
  have HBL5 := Lib.hid hbl5
  clear hw5 hba5 hon hrow5 hbl5 hx5 hcs5 hbs5 c35 f35 HBA4 HROW HX4 HBL4
  go_wp2_with (first
    | (refine wpList_load_row rfl _ _ rfl g3 rfl _ _ _ _ HC5.out Tryz.underlying63 rfl HBS5.out.infoA ?_)
    | (refine wpList_store_row rfl _ _ _ rfl w.heap.size cs5.toArray rfl rfl _ _ HX5.out HBS5.out.infoA HBS5.out.size36 HBS5.out.one ?_)
    | fail)
  have hwl : w.heap.size < w5.heap.size := (Array.getElem?_eq_some_iff.1 HX5.out).1
  have hon6 := onlyRow w.heap.size cs5.toArray w5
  have hnb : ∀ e ∈ M, LabNew w.heap.size e := fun e he a ha h0 => by have h1 := HNW.out e he a ha h0; have h2 := HG3V.out; have h3 := HG3.out; omega
  refine bodyPost_ret (v := .agg cs5.toArray) (results_cell_row rfl _ _ w.heap.size _ _ _ _ rfl (setRow_heap _ _ _ _ _ _ HX5.out) Tryz.underlying63 rfl HBS5.out.infoA) rfl
    ⟨cs5, A4, c4, M, rfl, by rw [HML.out]; exact HBS5.out, HSM.out, ?_, hnb, below_setRow HBL5.out (Nat.le_refl _) _⟩
  rw [HML.out]
  refine ⟨?_, fun e he => ?_⟩
  · have h1 : w5.ownsRow w.heap.size 74 14 (.slice A4 n c4) M.length (cellsE M) := ownB_mono HROW5.out.own (by have h2 := HG3V.out; have h3 := HG3.out; omega)
    exact hon6.own h1 (fun k hk e => by
      have h2 := (HROW5.out.own.lt k hk).1
      have h3 := HG3V.out
      have h4 := HG3.out
      have e : k = w.heap.size := e
      omega)
  · exact (HROW5.out.ok e he).only hon6 (fun a ha h0 e' => by
      have h1 := HNW.out e he a ha h0
      have h2 := HG3V.out
      have h3 := HG3.out
      have e' : a.block = w.heap.size := e'
      omega) (fun _ h => .inl h)
def chainO (o : Nat) : List Ett → Nat → Option Nat
  | [], n => some n
  | e :: L, n => if spO e.x = o then (if spF e.x = n + 1 then chainO o L (spT e.x) else none) else chainO o L n
theorem chain_app (o : Nat) : ∀ (A B : List Ett) (n : Nat), chainO o (A ++ B) n = (chainO o A n).bind (chainO o B)
  | [], B, n => rfl
  | e :: A, B, n => by
    rw [List.cons_append]
    unfold chainO
    split
    · split
      · exact chain_app o A B _
      · rfl
    · exact chain_app o A B _
theorem chain_skip {o : Nat} : ∀ {A : List Ett}, (∀ e ∈ A, spO e.x ≠ o) → ∀ n, chainO o A n = some n
  | [], _, n => rfl
  | e :: A, h, n => by
    unfold chainO
    rw [if_neg (h e List.mem_cons_self)]
    exact chain_skip (fun x hx => h x (List.mem_cons_of_mem _ hx)) n
theorem split1 {L : List Ett} {p : Nat} {e : Ett} (h : L[p]? = some e) : ∃ A R, L = A ++ e :: R ∧ A.length = p := by
  have hp := (List.getElem?_eq_some_iff.1 h).1
  refine ⟨L.take p, L.drop (p + 1), ?_, by rw [List.length_take]; omega⟩
  have : e :: L.drop (p + 1) = L.drop p := by rw [List.drop_eq_getElem_cons hp, (List.getElem?_eq_some_iff.1 h).2]
  rw [this, List.take_append_drop]
theorem set_split {A R : List Ett} {e y : Ett} {p : Nat} (h : A.length = p) : (A ++ e :: R).set p y = A ++ y :: R := by
  subst h
  rw [List.set_append_right _ _ (Nat.le_refl _), Nat.sub_self, List.set_cons_zero]
theorem split2 {L : List Ett} {a b : Nat} {ea eb : Ett} (ha : L[a]? = some ea) (hb : L[b]? = some eb) (hab : a < b) :
    ∃ A M R, L = A ++ ea :: (M ++ eb :: R) ∧ A.length = a ∧ M.length = b - a - 1 := by
  obtain ⟨A, T, rfl, hA⟩ := split1 ha
  rw [List.getElem?_append_right (by omega)] at hb
  obtain ⟨k, hk⟩ : ∃ k, b - A.length = k + 1 := ⟨b - A.length - 1, by omega⟩
  rw [hk, List.getElem?_cons_succ] at hb
  obtain ⟨M, R, rfl, hM⟩ := split1 hb
  exact ⟨A, M, R, rfl, hA, by omega⟩
theorem joinL_split {A M R : List Ett} {ea eb : Ett} {a b : Nat} (hA : A.length = a) (hM : M.length = b - a - 1) (hab : a < b) :
    joinL (A ++ ea :: (M ++ eb :: R)) a b ea eb = A ++ ⟨ea.i, joinI ea.x eb.x, none, 0⟩ :: (M ++ R) := by
  unfold joinL cutE
  rw [set_split hA]
  have h1 : A ++ (⟨ea.i, joinI ea.x eb.x, none, 0⟩ : Ett) :: (M ++ eb :: R) = (A ++ ⟨ea.i, joinI ea.x eb.x, none, 0⟩ :: M) ++ eb :: R := by simp
  have hl : (A ++ (⟨ea.i, joinI ea.x eb.x, none, 0⟩ : Ett) :: M).length = b := by simp; omega
  rw [h1, List.take_left' hl]
  have h2 : (A ++ (⟨ea.i, joinI ea.x eb.x, none, 0⟩ : Ett) :: M) ++ eb :: R = ((A ++ ⟨ea.i, joinI ea.x eb.x, none, 0⟩ :: M) ++ [eb]) ++ R := by simp
  rw [h2, List.drop_left' (by rw [List.length_append, hl]; rfl)]
  simp
def Free (L : List Ett) (o a b : Nat) : Prop := ∀ j e, a < j → j < b → L[j]? = some e → spO e.x ≠ o
theorem nextK_free {L : List Ett} {o : Nat} : ∀ (d k j : Nat), L.length - k ≤ d → nextK L o k = some j → (∀ i e, k ≤ i → i < j → L[i]? = some e → spO e.x ≠ o) ∧ ∃ e, L[j]? = some e ∧ spO e.x = o
  | d, k, j, hd, h => by
    by_cases hk : k < L.length
    · have hg := List.getElem?_eq_getElem hk
      rw [nextK_at hg] at h
      split at h
      · injection h with h
        subst h
        rename_i ho
        exact ⟨fun i e h1 h2 => by omega, _, hg, ho⟩
      · rename_i ho
        cases d with
        | zero => omega
        | succ d =>
          obtain ⟨h1, h2⟩ := nextK_free d (k + 1) j (by omega) h
          refine ⟨fun i e hi hj he => ?_, h2⟩
          by_cases hik : i = k
          · subst hik
            rw [hg] at he
            injection he with he
            rw [← he]; exact ho
          · exact h1 i e (by omega) hj he
    · rw [nextK_end (by omega)] at h; cases h
theorem prevK_free {L : List Ett} {o : Nat} : ∀ {p j : Nat}, prevK L o p = some j → Free L o j p ∧ ∃ e, L[j]? = some e ∧ spO e.x = o
  | 0, j, h => by simp [prevK] at h
  | p + 1, j, h => by
    by_cases hp : p < L.length
    · have hg := List.getElem?_eq_getElem hp
      rw [prevK_at hg] at h
      split at h
      · injection h with h
        subst h
        rename_i ho
        exact ⟨fun i e h1 h2 => by omega, _, hg, ho⟩
      · rename_i ho
        obtain ⟨h1, h2⟩ := prevK_free h
        refine ⟨fun i e hi hj he => ?_, h2⟩
        by_cases hik : i = p
        · subst hik
          rw [hg] at he
          injection he with he
          rw [← he]; exact ho
        · exact h1 i e hi (by omega) he
    · have hg : L[p]? = none := List.getElem?_eq_none (by omega)
      have h' : prevK L o p = some j := by
        conv at h => lhs; unfold prevK
        rw [hg] at h
        simpa using h
      obtain ⟨h1, h2⟩ := prevK_free h'
      refine ⟨fun i e hi hj he => ?_, h2⟩
      by_cases hik : i = p
      · subst hik; rw [hg] at he; cases he
      · exact h1 i e hi (by omega) he
theorem gap_right {x : It} (h : itemN x = 0) (hg : x.g = true) : x.ga ≤ 31 ∧ 0 < x.gf ∧ x.gf ≤ x.gt ∧ x.gt ≤ 1099511627776 := by
  unfold itemN at h
  rw [if_pos hg] at h
  unfold gapN at h
  split at h
  · cases h
  · omega
theorem ev_right {x : It} (h : itemN x = 0) (hg : x.g = false) : x.o ≤ 31 ∧ 0 < x.q ∧ x.q ≤ 1099511627776 ∧ x.p ≤ 7 := by
  unfold itemN at h
  rw [hg, if_neg (by decide)] at h
  unfold evN at h
  split at h
  · cases h
  · omega
theorem gap_made {a f t : Nat} (h1 : a ≤ 31) (h2 : 0 < f) (h3 : f ≤ t) (h4 : t ≤ 1099511627776) : itemN ⟨true, 0, 0, 0, ⟨#[]⟩, [], 0, 0, 0, 0, a, f, t⟩ = 0 := by
  unfold itemN
  rw [if_pos rfl]
  unfold gapN
  rw [if_neg (by simp only; omega)]
theorem right_span {x : It} (h : itemN x = 0) : spO x ≤ 31 ∧ 0 < spF x ∧ spF x ≤ spT x ∧ spT x ≤ 1099511627776 := by
  unfold spO spF spT
  cases hg : x.g with
  | true =>
    have := gap_right h hg
    simp only [if_true]
    omega
  | false =>
    have := ev_right h hg
    simp only [Bool.false_eq_true, if_false]
    omega
theorem joinB_parts {x y : It} (h : joinB x y = true) : x.g = true ∧ y.g = true ∧ x.ga = y.ga ∧ y.gf = x.gt + 1 ∧ y.gf ≤ y.gt ∧ joinI x y = ⟨true, 0, 0, 0, ⟨#[]⟩, [], 0, 0, 0, 0, x.ga, x.gf, y.gt⟩ := by
  have hi : joinI x y = ⟨true, 0, 0, 0, ⟨#[]⟩, [], 0, 0, 0, 0, x.ga, x.gf, y.gt⟩ := by unfold joinI; rw [if_pos h]
  unfold joinB at h
  simp only [Bool.and_eq_true, decide_eq_true_eq] at h
  obtain ⟨⟨h1, h2⟩, h3, h4, h5, h6⟩ := h
  exact ⟨h1, h2, h3, by omega, h6, hi⟩
structure Cov (F H : Nat → Nat) (L : List Ett) : Prop where
  ch : ∀ o, chainO o L (F o) = some (H o)
  ok : ∀ e ∈ L, itemN e.x = 0 ∧ spT e.x ≤ H (spO e.x)
theorem chain_set {A R : List Ett} {e y : Ett} {o n : Nat} (h1 : spO y.x = spO e.x) (h2 : spF y.x = spF e.x) (h3 : spT y.x = spT e.x) : chainO o (A ++ y :: R) n = chainO o (A ++ e :: R) n := by
  rw [chain_app, chain_app]
  congr 1
  funext k
  conv => lhs; unfold chainO
  conv => rhs; unfold chainO
  rw [h1, h2, h3]
section
variable {F H : Nat → Nat} {L : List Ett}
theorem Cov.join {a b : Nat} {ea eb : Ett} (h : Cov F H L) (ha : L[a]? = some ea) (hb : L[b]? = some eb) (hab : a < b) (hf : Free L (spO ea.x) a b) (hj : joinB ea.x eb.x = true) : Cov F H (joinL L a b ea eb) := by
  obtain ⟨A, M, R, rfl, hA, hM⟩ := split2 ha hb hab
  obtain ⟨g1, g2, g3, g4, g5, g6⟩ := joinB_parts hj
  rw [joinL_split hA hM hab]
  have hfree : ∀ e ∈ M, spO e.x ≠ ea.x.ga := fun e he => by
    obtain ⟨j, hjl, hje⟩ := List.getElem_of_mem he
    have := hf (a + 1 + j) e (by omega) (by omega) (by
      rw [List.getElem?_append_right (by omega), show a + 1 + j - A.length = j + 1 by omega, List.getElem?_cons_succ, List.getElem?_append_left hjl, List.getElem?_eq_getElem hjl, hje])
    unfold spO at this ⊢
    rw [g1, if_pos rfl] at this
    exact this
  have oa : spO ea.x = ea.x.ga := by unfold spO; rw [g1, if_pos rfl]
  have ob : spO eb.x = ea.x.ga := by unfold spO; rw [g2, if_pos rfl, g3]
  have fa : spF ea.x = ea.x.gf := by unfold spF; rw [g1, if_pos rfl]
  have fb : spF eb.x = ea.x.gt + 1 := by unfold spF; rw [g2, if_pos rfl, g4]
  have ta : spT ea.x = ea.x.gt := by unfold spT; rw [g1, if_pos rfl]
  have tb : spT eb.x = eb.x.gt := by unfold spT; rw [g2, if_pos rfl]
  have hea := h.ok ea (List.mem_append_right _ List.mem_cons_self)
  have heb := h.ok eb (List.mem_append_right _ (List.mem_cons_of_mem _ (List.mem_append_right _ List.mem_cons_self)))
  have r1 := gap_right hea.1 g1
  have r2 := gap_right heb.1 g2
  have oj : spO (joinI ea.x eb.x) = ea.x.ga := by rw [g6]; rfl
  have fj : spF (joinI ea.x eb.x) = ea.x.gf := by rw [g6]; rfl
  have tj : spT (joinI ea.x eb.x) = eb.x.gt := by rw [g6]; rfl
  refine ⟨fun o => ?_, fun e he => ?_⟩
  · have hc := h.ch o
    rw [chain_app] at hc ⊢
    cases hn : chainO o A (F o) with
    | none => rw [hn] at hc; cases hc
    | some n =>
      rw [hn] at hc
      simp only [Option.bind_some] at hc ⊢
      conv => lhs; unfold chainO
      conv at hc => lhs; unfold chainO
      simp only [oa, oj, fa, fj, ta, tj] at hc ⊢
      by_cases ho : ea.x.ga = o
      · rw [if_pos ho] at hc ⊢
        split at hc
        · rename_i hfn
          rw [if_pos hfn]
          rw [chain_app] at hc ⊢
          have hs := chain_skip (o := o) (A := M) (fun e he => ho ▸ hfree e he)
          rw [hs, Option.bind_some] at hc ⊢
          conv at hc => lhs; unfold chainO
          rw [ob, if_pos ho, fb, if_pos rfl, tb] at hc
          exact hc
        · cases hc
      · rw [if_neg ho] at hc ⊢
        rw [chain_app] at hc ⊢
        cases hm : chainO o M n with
        | none => rw [hm] at hc; cases hc
        | some k =>
          rw [hm] at hc
          simp only [Option.bind_some] at hc ⊢
          conv at hc => lhs; unfold chainO
          rw [ob, if_neg ho] at hc
          exact hc
  · rcases List.mem_append.1 he with he | he
    · exact h.ok e (List.mem_append_left _ he)
    · rcases List.mem_cons.1 he with rfl | he
      · refine ⟨?_, ?_⟩
        · show itemN (joinI ea.x eb.x) = 0
          rw [g6]
          exact gap_made r1.1 r1.2.1 (by omega) r2.2.2.2
        · show spT (joinI ea.x eb.x) ≤ H (spO (joinI ea.x eb.x))
          rw [tj, oj, ← tb, ← ob]
          exact heb.2
      · rcases List.mem_append.1 he with he | he
        · exact h.ok e (List.mem_append_right _ (List.mem_cons_of_mem _ (List.mem_append_left _ he)))
        · exact h.ok e (List.mem_append_right _ (List.mem_cons_of_mem _ (List.mem_append_right _ (List.mem_cons_of_mem _ he))))
theorem Cov.joinK {a b : Option Nat} (h : Cov F H L) (hh : ∀ i j, a = some i → b = some j → i < j ∧ ∃ ei ej, L[i]? = some ei ∧ L[j]? = some ej ∧ Free L (spO ei.x) i j) : Cov F H (joinK L a b).1 := by
  cases a with
  | none => exact h
  | some a =>
    cases b with
    | none => exact h
    | some b =>
      obtain ⟨hab, ea, eb, ha, hb, hf⟩ := hh a b rfl rfl
      unfold Go.Proofs.YtholdcgkhicdmaaGreatDoor.joinK
      simp only
      rw [getD_of ha, getD_of hb]
      split
      · exact h.join ha hb hab hf (by assumption)
      · exact h
theorem Cov.set {p : Nat} {e y : Ett} (h : Cov F H L) (he : L[p]? = some e) (h1 : spO y.x = spO e.x) (h2 : spF y.x = spF e.x) (h3 : spT y.x = spT e.x) (h4 : itemN y.x = 0) : Cov F H (L.set p y) := by
  obtain ⟨A, R, rfl, hA⟩ := split1 he
  rw [set_split hA]
  refine ⟨fun o => by rw [chain_set h1 h2 h3]; exact h.ch o, fun x hx => ?_⟩
  rcases List.mem_append.1 hx with hx | hx
  · exact h.ok x (List.mem_append_left _ hx)
  · rcases List.mem_cons.1 hx with rfl | hx
    · exact ⟨h4, by rw [h3, h1]; exact (h.ok e (List.mem_append_right _ List.mem_cons_self)).2⟩
    · exact h.ok x (List.mem_append_right _ (List.mem_cons_of_mem _ hx))
theorem joinK_get {L : List Ett} {a : Nat} {b : Option Nat} (hb : ∀ j, b = some j → a < j ∧ j < L.length) {e : Ett} (he : L[a]? = some e) : ∃ y, (Go.Proofs.YtholdcgkhicdmaaGreatDoor.joinK L (some a) b).1[a]? = some y ∧ spO y.x = spO e.x := by
  cases b with
  | none => exact ⟨e, he, rfl⟩
  | some b =>
    obtain ⟨h1, h2⟩ := hb b rfl
    unfold Go.Proofs.YtholdcgkhicdmaaGreatDoor.joinK
    simp only
    rw [getD_of he]
    split
    · rename_i hj
      refine ⟨_, joinL_keep h1 h2, ?_⟩
      obtain ⟨g1, _, _, _, _, g6⟩ := joinB_parts hj
      show spO (joinI _ _) = _
      rw [g6]
      unfold spO
      rw [if_pos rfl, g1, if_pos rfl]
    · exact ⟨e, he, rfl⟩
theorem Cov.evL {p : Nat} {e : Ett} (h : Cov F H L) (he : L[p]? = some e) : Cov F H (evL L p e) := by
  have hp := (List.getElem?_eq_some_iff.1 he).1
  have hr := right_span (h.ok e (List.mem_of_getElem? he)).1
  have h1 : Cov F H (L.set p (gapE e)) := h.set he rfl rfl rfl (gap_made hr.1 hr.2.1 hr.2.2.1 hr.2.2.2)
  have hg1 : (L.set p (gapE e))[p]? = some (gapE e) := List.getElem?_set_self hp
  have hn : ∀ j, nextK (L.set p (gapE e)) (spO e.x) (p + 1) = some j → p < j ∧ j < (L.set p (gapE e)).length := fun j hj => by
    have := nextK_some _ _ _ (Nat.le_refl _) hj
    omega
  have h2 : Cov F H (evA L p e) := by
    unfold evA
    refine h1.joinK (fun i j hi hj => ?_)
    injection hi with hi
    subst hi
    obtain ⟨f1, ej, f2, f3⟩ := nextK_free _ _ _ (Nat.le_refl _) hj
    exact ⟨(hn j hj).1, gapE e, ej, hg1, f2, fun k x hk1 hk2 hx => f1 k x (by omega) hk2 hx⟩
  obtain ⟨y, hy, hyo⟩ : ∃ y, (evA L p e)[p]? = some y ∧ spO y.x = spO e.x := by
    unfold evA
    obtain ⟨y, hy, hyo⟩ := joinK_get hn hg1
    exact ⟨y, hy, hyo⟩
  unfold Go.Proofs.YtholdcgkhicdmaaGreatDoor.evL evB2
  refine h2.joinK (fun i j hi hj => ?_)
  injection hj with hj
  subst hj
  obtain ⟨f1, ei, f2, f3⟩ := prevK_free hi
  exact ⟨(prevK_some hi).1, ei, y, f2, hy, by rw [f3]; exact f1⟩
theorem Cov.room {size q : Nat} : ∀ {fuel : Nat} {L : List Ett} {f v : Nat}, Cov F H L → Cov F H (roomK size q fuel L f v).2.1
  | fuel, L, f, v, h => by
    by_cases hf : sumE L + size ≤ q
    · rw [roomK_fit hf]; exact h
    · cases hl : leastK L L.length with
      | none => rw [roomK_none hf hl]; exact h
      | some p =>
        cases fuel with
        | zero =>
          unfold roomK
          rw [if_neg hf]
          exact h
        | succ k =>
          rw [roomK_some hf hl]
          obtain ⟨_, e, he, hle⟩ := leastK_some hl
          rw [getD_of he]
          exact Cov.room (h.evL he)
theorem Cov.app {e : Ett} (h : Cov F H L) (h1 : itemN e.x = 0) (h2 : spF e.x = H (spO e.x) + 1) : Cov F (upH H (spO e.x) (spT e.x)) (L ++ [e]) := by
  have hr := right_span h1
  refine ⟨fun o => ?_, fun x hx => ?_⟩
  · rw [chain_app, h.ch o, Option.bind_some]
    unfold chainO upH
    by_cases ho : spO e.x = o
    · rw [if_pos ho, if_pos (by rw [h2, ho]), if_pos ho.symm]
      rfl
    · rw [if_neg ho, if_neg (fun h => ho h.symm)]
      rfl
  · rcases List.mem_append.1 hx with hx | hx
    · have := h.ok x hx
      refine ⟨this.1, ?_⟩
      unfold upH
      split
      · rename_i ho
        have h3 := this.2
        rw [ho] at h3
        omega
      · exact this.2
    · rw [List.mem_singleton] at hx
      subst hx
      exact ⟨h1, by unfold upH; rw [if_pos rfl]; exact Nat.le_refl _⟩
theorem Cov.addJ {e : Ett} (h : Cov F H L) (h1 : itemN e.x = 0) (h2 : spF e.x = H (spO e.x) + 1) : Cov F (upH H (spO e.x) (spT e.x)) (addJ L e).1 := by
  have h3 := h.app h1 h2
  unfold Go.Proofs.YtholdcgkhicdmaaGreatDoor.addJ
  split
  · refine h3.joinK (fun i j hi hj => ?_)
    injection hj with hj
    subst hj
    obtain ⟨f1, ei, f2, f3⟩ := prevK_free hi
    exact ⟨(prevK_some hi).1, ei, e, f2, by rw [List.getElem?_append_right (Nat.le_refl _), Nat.sub_self]; rfl, by rw [f3]; exact f1⟩
  · exact h3
theorem part_right {x : It} {h : Nat → Nat} (h0 : partE x h = 0) : itemN (partI x h) = 0 ∧ spO (partI x h) = spO x ∧ spF (partI x h) = h (spO x) + 1 ∧ spT (partI x h) = spT x := by
  obtain ⟨i1, i2, i3⟩ := partE_zero h0
  have hr := right_span i1
  have i4 : spF x ≤ h (spO x) + 1 := by
    unfold partE at h0
    rw [if_neg (by omega), if_neg (by omega)] at h0
    split at h0
    · cases h0
    · omega
  rw [i3]
  unfold trimI
  rw [if_neg (by omega)]
  split
  · exact ⟨i1, rfl, by omega, rfl⟩
  · refine ⟨gap_made hr.1 (by omega) (by omega) hr.2.2.2, ?_, ?_, ?_⟩ <;> rfl
theorem Cov.put {X : Sp} (h : Cov F X.h L) (x : It) (A : Option Addr) (c : Nat) : Cov F (putR X L x A c).2.2.2.1.h (putR X L x A c).2.2.2.2 := by
  unfold putR
  by_cases h0 : partE x X.h = 0
  · rw [if_neg (by rw [h0]; exact fun h => h rfl)]
    dsimp only
    split
    · exact h
    · split
      · exact h
      · obtain ⟨p1, p2, p3, p4⟩ := part_right h0
        have hc := (Cov.room (size := (itemB (partI x X.h)).length) (q := X.q) (fuel := cntE L) (f := 0) (v := X.v) h).addJ (e := addE { X with v := (roomK (itemB (partI x X.h)).length X.q (cntE L) L 0 X.v).2.2.2 } (partI x X.h) A c) p1 (by show spF (partI x X.h) = X.h (spO (partI x X.h)) + 1; rw [p3, p2])
        exact hc
  · rw [if_pos h0]
    exact h
end
structure CutAt (L : List Ett) (P m : Nat) : Prop where
  le : m ≤ L.length
  lo : ∀ k, k < m → idxE L k ≤ P
  hi : ∀ k, m ≤ k → k < L.length → P < idxE L k
theorem idxE_at {L : List Ett} {k : Nat} {e : Ett} (h : L[k]? = some e) : idxE L k = e.i := by unfold idxE; rw [h]; rfl
theorem cut_ex {L : List Ett} (hr : RiseE L) (P : Nat) : ∀ k, k ≤ L.length → (∀ j, j < k → idxE L j ≤ P) ∨ ∃ m, CutAt L P m
  | 0, _ => .inl fun j hj => by omega
  | k + 1, hk => by
    rcases cut_ex hr P k (by omega) with h | h
    · by_cases hp : idxE L k ≤ P
      · refine .inl fun j hj => ?_
        by_cases he : j = k
        · rw [he]; exact hp
        · exact h j (by omega)
      · refine .inr ⟨k, by omega, h, fun j hj hl => ?_⟩
        by_cases he : j = k
        · rw [he]; omega
        · have e1 := List.getElem?_eq_getElem (show k < L.length by omega)
          have e2 := List.getElem?_eq_getElem hl
          have := hr k j _ _ (by omega) e1 e2
          rw [idxE_at e1] at hp
          rw [idxE_at e2]
          omega
    · exact .inr h
theorem CutAt.ex {L : List Ett} (hr : RiseE L) (P : Nat) : ∃ m, CutAt L P m := by
  rcases cut_ex hr P L.length (Nat.le_refl _) with h | h
  · exact ⟨L.length, Nat.le_refl _, h, fun k h1 h2 => by omega⟩
  · exact h
def upT (G : Nat → Nat) (x : It) : Nat → Nat := fun i => if i = spO x then spT x else G i
def adv : List Ett → (Nat → Nat) → Nat → Nat
  | [], F => F
  | e :: l, F => adv l (upT F e.x)
theorem chain_adv {o : Nat} : ∀ {l : List Ett} {F : Nat → Nat} {n : Nat}, chainO o l (F o) = some n → adv l F o = n
  | [], _, _, h => by injection h
  | e :: l, F, n, h => by
    show adv l (upT F e.x) o = n
    unfold chainO at h
    apply chain_adv
    unfold upT
    by_cases ho : spO e.x = o
    · rw [if_pos ho] at h
      rw [if_pos ho.symm]
      split at h
      · exact h
      · cases h
    · rw [if_neg ho] at h
      rw [if_neg (fun h => ho h.symm)]
      exact h
theorem same_cons {L M : List Ett} (h : SameE L M) : (L = [] ∧ M = []) ∨ ∃ a b l m, L = a :: l ∧ M = b :: m ∧ a.i = b.i ∧ a.x = b.x ∧ SameE l m := by
  unfold SameE at h
  cases L with
  | nil =>
    cases M with
    | nil => exact .inl ⟨rfl, rfl⟩
    | cons b m => cases h
  | cons a l =>
    cases M with
    | nil => cases h
    | cons b m =>
      rw [List.map_cons, List.map_cons] at h
      injection h with h1 h2
      injection h1 with h1 h3
      exact .inr ⟨a, b, l, m, rfl, rfl, h1, h3, h2⟩
theorem same_its {L M : List Ett} (h : SameE L M) : L.map (·.x) = M.map (·.x) := by
  have h2 := congrArg (List.map (fun p : Nat × It => p.2)) (show L.map (fun e => (e.i, e.x)) = M.map (fun e => (e.i, e.x)) from h)
  rw [List.map_map, List.map_map] at h2
  exact h2
section
variable {F H : Nat → Nat} {L : List Ett}
theorem Cov.drop (h : Cov F H L) (m : Nat) : Cov (adv (L.take m) F) H (L.drop m) := by
  refine ⟨fun o => ?_, fun e he => h.ok e (List.mem_of_mem_drop he)⟩
  have hc := h.ch o
  rw [← List.take_append_drop m L, chain_app] at hc
  cases hn : chainO o (L.take m) (F o) with
  | none => rw [hn] at hc; cases hc
  | some n =>
    rw [hn, Option.bind_some] at hc
    rw [chain_adv hn]
    exact hc
end
theorem cutE_zero (L : List Ett) (m : Nat) : cutE L 0 m = L.drop m := by unfold cutE; rw [List.take_zero, List.nil_append]
theorem SpOk.acked {X : Sp} {L : List Ett} {k m N : Nat} (h : SpOk X L k) (h1 : N < X.n) (h2 : CutAt L N m) : SpOk { X with a := N } (cutE L 0 m) k := by
  have hs : List.Sublist (idxL (cutE L 0 m)) (idxL L) := (cut_sub (Nat.zero_le m)).map _
  refine ⟨h.n1, h.nk, h.rise.sublist hs, fun i hi => ?_, h1, h.hs, ?_, ?_⟩
  · refine ⟨?_, (h.ix i (hs.subset hi)).2⟩
    rw [cutE_zero] at hi
    obtain ⟨e, he, rfl⟩ := List.mem_map.1 hi
    obtain ⟨j, hj, hje⟩ := List.getElem_of_mem he
    rw [List.length_drop] at hj
    rw [List.getElem_drop] at hje
    have h3 := h2.hi (m + j) (by omega) (by omega)
    rw [idxE_at (e := e) (by rw [List.getElem?_eq_getElem (by omega), hje])] at h3
    exact h3
  · have := cntE_cut (L := L) (i := 0) (j := m) (Nat.zero_le m)
    have := h.ev
    show X.v + _ ≤ k
    omega
  · have := h.len
    rw [cutE_zero, List.length_drop]
    omega
end Go.Proofs.YtholdcgkhicdmaaGreatDoor
