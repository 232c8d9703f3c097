/- Several texts in one: SpOf. -/
import Derived.Test.YtgcfofnlgdfmoaaMf20
import Derived.Test.YtgcfofnlgdfmoaaMf44
/- Layer 8: Of: a spool of given contents, or an error. -/
namespace Go.Proofs.Ytgcfofnlgdfmoaa
open Go.RowKit

theorem cellsE_split {L : List Ett} {j : Nat} {u : Value} (h : (cellsE L)[j]? = some u) : ∃ e, L[j / 14]? = some e ∧ (entC e)[j % 14]? = some u := by
  have hj := (List.getElem?_eq_some_iff.1 h).1
  rw [cellsE_length] at hj
  have hk : j / 14 < L.length := by omega
  have he := List.getElem?_eq_getElem hk
  have hi : j % 14 < (entC L[j / 14]).length := by rw [entC_length]; omega
  have h2 := cellsE_get he (List.getElem?_eq_getElem hi)
  rw [show j / 14 * 14 + j % 14 = j by omega, h] at h2
  exact ⟨_, he, by rw [List.getElem?_eq_getElem hi]; exact h2.symm⟩
theorem RdM8.src {w : World} {A : Option Addr} {n : Nat} {L : List Ett} (hn : n = L.length) (h : RdM8 w A L) : Src w A n 14 (cellsE L) := by
  refine ⟨by rw [cellsE_length, hn], fun h0 => ?_⟩
  obtain ⟨b, o, rfl, _, hc⟩ := h.rd (by omega)
  refine ⟨_, rfl, fun j u hu => ?_⟩
  obtain ⟨e, he, hv⟩ := cellsE_split hu
  have := (hc _ e he).1 _ u hv
  rw [Addr.add_mid]
  rwa [show o + j / 14 * 14 + j % 14 = o + j by omega] at this
theorem RdM8.nil {w : World} {A : Option Addr} {L : List Ett} (h : RdM8 w A L) : A = none → L.length = 0 := fun hA => by
  rcases Nat.eq_zero_or_pos L.length with h0 | h0
  · exact h0
  · obtain ⟨b, o, e, _, _⟩ := h.rd h0
    rw [hA] at e; cases e
theorem heap_setCells : ∀ (vs : List Value) (o : Nat) {w : World} {s : Nat} {cs : Array Value} {t : TypeId} {fr : Nat × Nat}, w.heap[s]? = some (.cells cs t fr) → ∃ cs', (w.setCells s o vs).heap[s]? = some (.cells cs' t fr) ∧ cs'.size = cs.size
  | [], _, _, _, cs, _, _, h => ⟨cs, h, rfl⟩
  | v :: vs, o, w, s, cs, t, fr, h => by
    obtain ⟨cs', h1, h2⟩ := heap_setCells vs (o + 1) (heap_setAt h o v)
    exact ⟨cs', h1, by rw [h2, Array.size_setIfInBounds]⟩
theorem SpC.there {w : World} {s u : Nat} {X : Sp} {v : Value} (h : SpC w s X u v) : w.there s 2 36 := fun j hj => by
  refine ⟨?_, h.fz _⟩
  obtain ⟨C, hC, hz⟩ := h.blk
  rw [cell_of_row w s _ C _ _ hC, Array.getElem?_eq_getElem (by omega)]
  rfl
/-- a Base is laid into a spool -/
theorem SpC.setBase {w : World} {s u : Nat} {X0 X : Sp} {v0 v : Value} {cs : List Value} (h : SpC w s X0 u v0) (hb : BsV cs X v) : SpC (w.setCells s 2 cs) s { X with q := X0.q } u v := by
  obtain ⟨C, hC, hz⟩ := h.blk
  obtain ⟨C', hC', hz'⟩ := heap_setCells cs 2 hC
  have hl := hb.len
  have hth := h.there
  have hr := World.rangeAt_setCells_same w s 2 cs (by rw [hl]; exact hth)
  have ho : ∀ j, j < 2 → (w.setCells s 2 cs).cell? ⟨s, j, none⟩ = w.cell? ⟨s, j, none⟩ := fun j hj => World.cell?_setCells_out s cs 2 w ⟨s, j, none⟩ (fun _ _ => .inl hj)
  exact ⟨⟨C', hC', by omega⟩, (ho 0 (by omega)).trans h.c0, (ho 1 (by omega)).trans h.c1, hr 0 _ hb.c0, hr 1 _ hb.c1, hr 2 _ hb.c2,
    fun i hi => by have := hr (3 + i) _ (hb.hi i hi); rwa [show 2 + (3 + i) = 5 + i by omega] at this, hr 35 _ hb.c35⟩
theorem sum_same {L M : List Ett} (h : SameE L M) : sumE L = sumE M := by
  have e : ∀ K : List Ett, sumE K = ((K.map (·.x)).map fun x => (itemB x).length).sum := fun K => by unfold sumE; rw [List.map_map]; rfl
  rw [e, e, same_its h]
theorem SpAt.build {w : World} {s : Nat} {X : Sp} {v : Value} {M : List Ett} (hC : SpC w s X (sumE M) v) (ho : w.ownsRow 0 68 14 v M.length (cellsE M)) (hv : ∀ k, v.ownBlock = some k → k ≠ s) (hf : M.length ≤ 100000)
    (he : ∀ e ∈ M, EntOk w (fun k => k = s ∨ v.ownBlock = some k) e) (hq : X.q ≤ 65536) : SpAt w (fun k => k = s ∨ v.ownBlock = some k) s X M :=
  ⟨⟨v, hC, ho, fun e => hv s e rfl, fun _ h => .inr h⟩, .inl rfl, fun k hk => hk.elim (fun e => by rw [e]; exact hC.slt) (fun e => (ho.lt k e).2), hf, he, hq⟩
def OfOk (q : Nat) (X : Sp) (L : List Ett) : Prop := (X.n ≠ 0 ∧ X.n ≤ 1099511627776 ∧ X.a < X.n ∧ L.length ≤ q) ∧ ChkOk X L ∧ sumE L ≤ q
set_option maxRecDepth 100000 in
set_option maxHeartbeats 4000000 in
theorem sof_any (q : Nat) (h1 : 64 ≤ q) (h2 : q ≤ 65536) (cs : List Value) (X : Sp) (A : Option Addr) (n c : Nat) (L : List Ett) (w : World) (hbs : BsV cs X (.slice A n c)) (hn : n = L.length) (hm : n ≤ 100000) (hL : RdM8 w A L) (hok : ∀ e ∈ L, itemN e.x = 0) :
    Calls Try.prog 31 #[.int .i64 q, .agg cs.toArray] w fun e w' => ((∃ code : Nat, e = .returned (.tuple #[.pointer none, .int .i64 code]) ∧ (code = 6 ∨ code = 9 ∨ code = 26) ∧ ¬ OfOk q X L) ∨
      (OfOk q X L ∧ ∃ (t : Nat) (S : Nat → Prop) (M : List Ett), e = .returned (.tuple #[.pointer (some ⟨t, 0, none⟩), .int .i64 0]) ∧ SameE L M ∧ SpAt w' S t { X with q := q } M)) ∧ Below w.heap.size w w' := by
  obtain ⟨w0, hw0⟩ : ∃ V, V = w.alloc (.cells cs.toArray 81) := ⟨_, rfl⟩
  have hb0 : Below w.heap.size w w0 := by rw [hw0]; exact (Below.refl _ _).alloc (Nat.le_refl _) _
  obtain ⟨gb, hgb⟩ : ∃ g, g = w.heap.size := ⟨_, rfl⟩
  have hbox : w0.heap[gb]? = some (.cells cs.toArray 81 (0, 0)) := by rw [hw0, hgb]; exact heap_alloc_new _ _
  have HW0 := Lib.hid hw0
  have HB0 := Lib.hid hb0
  have HX0 := Lib.hid hbox
  have HBS := Lib.hid hbs
  have HL := Lib.hid hL
  have HOK := Lib.hid hok
  have HN := Lib.hid hn
  have HGB := Lib.hid hgb
  clear hw0 hb0 hbox hbs hL hok hn hgb
  go_enter Try.func31, Try.ntmps31
  go_upto_region 1 with fail
  rw [← HW0.out, ← HGB.out]
  go_wp2_with fail
  refine (snew_any q h1 h2 w0).mono ?_
  rintro _ w1 ⟨rfl, hs1, hb1⟩
  obtain ⟨s, hs⟩ : ∃ g, g = w0.heap.size := ⟨_, rfl⟩
  rw [← hs] at hs1 ⊢
  have hgl0 : gb < w0.heap.size := (Array.getElem?_eq_some_iff.1 HX0.out).1
  have hx1 := (hb1.block _ hgl0).trans HX0.out
  have hba1 : BsAt w1 gb X (.slice A n c) := BsAt.of hx1 HBS.out
  have hsg : gb < s := by rw [hs]; exact hgl0
  have HX1 := Lib.hid hx1
  have HS1 := Lib.hid hs1
  have HSG := Lib.hid hsg
  have HB1 := Lib.hid (HB0.out.trans (hb1.mono HB0.out.size))
  have hsw : w.heap.size ≤ s := by rw [hs]; exact HB0.out.size
  have HSW := Lib.hid hsw
  obtain ⟨c0, c1, -, -, c35⟩ := hba1.cell
  have hno : ¬ (X.n ≠ 0 ∧ X.n ≤ 1099511627776 ∧ X.a < X.n ∧ n ≤ q) → ¬ OfOk q X L := fun h h' => h (by rw [HN.out]; exact h'.1)
  have HNO := Lib.hid hno
  clear hs hs1 hb1 hgl0 hx1 hba1 hsg hsw hno HX0 HW0 HB0
  by_cases m1 : X.n = 0
  · have g3 : ((X.n : Int) == 0) = true := by rw [beq_iff_eq]; omega
    clear HX1 HS1
    go_wp2_with fail
    go_ret2
    exact ⟨.inl ⟨6, rfl, .inl rfl, HNO.out (by omega)⟩, HB1.out⟩
  · have g3 : ((X.n : Int) == 0) = false := by rw [beq_eq_false_iff_ne]; omega
    by_cases m2 : 1099511627776 < X.n
    · have d2 : decide ((1099511627776 : Int) < (X.n : Int)) = true := decide_eq_true (by omega)
      clear HX1 HS1
      go_wp2_with fail
      go_ret2
      exact ⟨.inl ⟨6, rfl, .inl rfl, HNO.out (by omega)⟩, HB1.out⟩
    · have d2 : decide ((1099511627776 : Int) < (X.n : Int)) = false := decide_eq_false (by omega)
      by_cases m3 : X.n ≤ X.a
      · have d3 : decide ((X.n : Int) ≤ (X.a : Int)) = true := decide_eq_true (by omega)
        clear HX1 HS1
        go_wp2_with fail
        go_ret2
        exact ⟨.inl ⟨6, rfl, .inl rfl, HNO.out (by omega)⟩, HB1.out⟩
      · have d3 : decide ((X.n : Int) ≤ (X.a : Int)) = false := decide_eq_false (by omega)
        by_cases m4 : q < n
        · have d4 : decide ((q : Int) < (n : Int)) = true := decide_eq_true (by omega)
          clear HX1 HS1
          go_wp2_with fail
          go_ret2
          exact ⟨.inl ⟨6, rfl, .inl rfl, HNO.out (by omega)⟩, HB1.out⟩
        · have d4 : decide ((q : Int) < (n : Int)) = false := decide_eq_false (by omega)
          have hck := chk_any cs X A n c L w1 HBS.out HN.out hm (HL.out.below HB1.out) HOK.out
          have HCK := Lib.hid hck
          have hfirst : X.n ≠ 0 ∧ X.n ≤ 1099511627776 ∧ X.a < X.n ∧ L.length ≤ q := ⟨m1, by omega, by omega, by rw [← HN.out]; omega⟩
          have HF := Lib.hid hfirst
          clear hck hfirst HNO
          go_wp2_with (first
            | (refine wpList_load_row rfl _ _ rfl gb rfl _ _ _ _ HX1.out Try.underlying81 rfl HBS.out.infoA ?_)
            | fail)
          refine HCK.out.mono ?_
          rintro _ w2 ⟨hcase, hb2⟩
          have HB2 := Lib.hid (HB1.out.trans (hb2.mono HB1.out.size))
          have HX2 := Lib.hid ((hb2.block _ (Array.getElem?_eq_some_iff.1 HX1.out).1).trans HX1.out)
          have HS2 := Lib.hid (HS1.out.below hb2)
          clear hb2 HX1 HS1 HCK c0 c1 c35 d2 d3 d4 g3
          rcases hcase with ⟨rfl, hchk⟩ | ⟨rfl, hchk⟩
          · have HCHK := Lib.hid hchk
            clear hchk
            have hth := SpC.there (HS2.out.sp.choose_spec.1)
            have hth36 : w2.there s 2 cs.toArray.size := by rw [← HBS.out.size36]; exact hth
            have HT := Lib.hid hth36
            clear hth hth36
            go_upto_region 10 with (first
              | (refine wpList_load_row rfl _ _ rfl gb rfl _ _ _ _ HX2.out Try.underlying81 rfl HBS.out.infoA ?_)
              | (refine wpList_store_mid rfl _ _ _ rfl s 2 cs.toArray rfl rfl HT.out HBS.out.infoA HBS.out.one ?_)
              | fail)
            obtain ⟨w3, hw3⟩ : ∃ V, V = w2.setCells s 2 cs := ⟨_, rfl⟩
            have hw3' : w2.setCells s 2 cs.toArray.toList = w3 := hw3.symm
            rw [act_put_no, ← hw3]
            have hon3 : Only (fun k => k = s) w2 w3 := by rw [hw3]; exact onlyCells (T := fun k => k = s) rfl _ _ _
            have hc3 : SpC w3 s { X with q := q } 0 (.slice A n c) := by
              obtain ⟨v0, k0, -⟩ := HS2.out.sp
              rw [hw3]
              exact k0.setBase HBS.out
            have hbw3 : Below w.heap.size w w3 := HB2.out.trans ⟨hon3.os, hon3.tape, hon3.output, hon3.size, fun k hk => hon3.block k (Nat.lt_of_lt_of_le hk HB2.out.size) (fun e => by have e : k = s := e; have := HSW.out; omega)⟩
            have hx3 := (hon3.block _ (Array.getElem?_eq_some_iff.1 HX2.out).1 (fun e => by have e : gb = s := e; have := HSG.out; omega)).trans HX2.out
            have hba3 : BsAt w3 gb X (.slice A n c) := BsAt.of hx3 HBS.out
            have hl3 := HL.out.below hbw3
            have hcl := clones_new A n c L w3 HN.out hm (fun h => by rw [HN.out]; exact hl3.nil h) (fun W hW => RdM8.src HN.out (hl3.below hW)) hl3.ok
            obtain ⟨-, -, -, -, c35⟩ := hba3.cell
            have HC3 := Lib.hid hc3
            have HBW3 := Lib.hid hbw3
            have HX3 := Lib.hid hx3
            have HCL := Lib.hid hcl
            clear hw3 hw3' hon3 hc3 hbw3 hx3 hba3 hl3 hcl HT HX2 HS2 HB2
            go_wp2_with fail
            refine HCL.out.mono ?_
            rintro _ w4 ⟨A4, c4, M, rfl, hsm, hrow, hb4, hnw⟩
            have hc4 := HC3.out.below hb4
            have c37 := hc4.c37
            have f37 := hc4.fz 37
            have HC4 := Lib.hid hc4
            have HSM := Lib.hid hsm
            have HROW := Lib.hid hrow
            have HNW := Lib.hid hnw
            have HS3 := Lib.hid HC3.out.slt
            have HBW4 := Lib.hid (HBW3.out.trans (hb4.mono HBW3.out.size))
            have HX4 := Lib.hid ((hb4.block _ (Array.getElem?_eq_some_iff.1 HX3.out).1).trans HX3.out)
            clear hc4 hsm hrow hnw hb4 c35 HCL HC3 HBW3 HX3
            go_upto_region 11 with fail
            obtain ⟨w5, hw5⟩ : ∃ V, V = w4.setCell ⟨s, 37, none⟩ (.slice A4 n c4) := ⟨_, rfl⟩
            rw [← hw5]
            have hon5 : Only (fun k => k = s) w4 w5 := by rw [hw5]; exact Only.setCell _ _ _ rfl
            have hc5 : SpC w5 s { X with q := q } 0 (.slice A4 n c4) := by rw [hw5]; exact HC4.out.setL _
            have hbw5 : Below w.heap.size w w5 := HBW4.out.trans ⟨hon5.os, hon5.tape, hon5.output, hon5.size, fun k hk => hon5.block k (Nat.lt_of_lt_of_le hk HBW4.out.size) (fun e => by have e : k = s := e; have := HSW.out; omega)⟩
            have hx5 := (hon5.block _ (Array.getElem?_eq_some_iff.1 HX4.out).1 (fun e => by have e : gb = s := e; have := HSG.out; omega)).trans HX4.out
            have hba5 : BsAt w5 gb X (.slice A n c) := BsAt.of hx5 HBS.out
            have hrow5 : w5.ownsRow 0 68 14 (.slice A4 n c4) n (cellsE M) := by
              have h1 := HROW.out.own
              have hml : M.length = n := by rw [HN.out]; exact HSM.out.len.symm
              rw [hml] at h1
              exact ownB_mono (hon5.own h1 (fun k hk e => by have h2 := (h1.lt k hk).1; have h3 := HS3.out; have e : k = s := e; omega)) (Nat.zero_le _)
            have hent5 : ∀ e ∈ M, EntOk w5 (fun k => k = s ∨ (Value.slice A4 n c4).ownBlock = some k) e := fun e he => by
              have h1 := HROW.out.ok e he
              have h2 := HNW.out e he
              have h3 := HS3.out
              have h4 := h1.only hon5 (fun a ha h0 e' => by have h5 := h2 a ha h0; have e' : a.block = s := e'; omega) (fun _ h => .inl h)
              exact ⟨h4.ok, h4.sh, h4.ln, h4.lb, h4.ix, h4.nil, h4.rd, fun a ha h0 hk => hk.elim (fun e' => by have h5 := h2 a ha h0; omega) (h4.ap a ha h0)⟩
            have hvs : ∀ k, (Value.slice A4 n c4).ownBlock = some k → k ≠ s := fun k hk => by
              have h1 := HROW.out.own
              have h2 := (h1.lt k hk).1
              have h3 := HS3.out
              omega
            obtain ⟨-, -, -, -, c35⟩ := hba5.cell
            have hl5 := HL.out.below hbw5
            have hsz := sizes_any A n c L w5 HN.out hm hl5.rd hl5.ok
            have HSZ := Lib.hid hsz
            have HC5 := Lib.hid hc5
            have HBW5 := Lib.hid hbw5
            have HROW5 := Lib.hid hrow5
            have HENT5 := Lib.hid hent5
            have HVS := Lib.hid hvs
            have hsumb : sumE L ≤ 100000 * L.length := sumE_bound fun e he => (hl5.ok e he).lb
            have HSB := Lib.hid hsumb
            clear hw5 hon5 hc5 hbw5 hx5 hba5 hrow5 hent5 hvs hl5 hsz hsumb c37 f37 HC4 HROW HNW HBW4 HX4
            go_wp2_with fail
            refine HSZ.out.mono ?_
            rintro _ w6 ⟨rfl, hb6⟩
            have hc6 := HC5.out.below hb6
            have c1 := hc6.c1
            have f1 := hc6.fz 1
            obtain ⟨u, hu⟩ : ∃ u, u = sumE L := ⟨_, rfl⟩
            rw [← hu]
            have HU := Lib.hid hu
            have HC6 := Lib.hid hc6
            have HBW6 := Lib.hid (HBW5.out.trans (hb6.mono HBW5.out.size))
            have HROW6 := Lib.hid (ownB_below HROW5.out hb6)
            have HENT6 : Hid (∀ e ∈ M, EntOk w6 (fun k => k = s ∨ (Value.slice A4 n c4).ownBlock = some k) e) := fun e he => (HENT5.out e he).below hb6
            clear hc6 hb6 hu c35 HC5 HBW5 HROW5 HENT5 HSZ
            go_upto_region 12 with fail
            obtain ⟨w7, hw7⟩ : ∃ V, V = w6.setCell ⟨s, 1, none⟩ (.int .i64 (u : Int)) := ⟨_, rfl⟩
            rw [← hw7]
            have hon7 : Only (fun k => k = s) w6 w7 := by rw [hw7]; exact Only.setCell _ _ _ rfl
            have hc7 : SpC w7 s { X with q := q } u (.slice A4 n c4) := by rw [hw7]; exact HC6.out.setU _
            have hbw7 : Below w.heap.size w w7 := HBW6.out.trans ⟨hon7.os, hon7.tape, hon7.output, hon7.size, fun k hk => hon7.block k (Nat.lt_of_lt_of_le hk HBW6.out.size) (fun e => by have e : k = s := e; have := HSW.out; omega)⟩
            have hrow7 := hon7.own HROW6.out (fun k hk e => HVS.out k hk e)
            have hml : M.length = n := by rw [HN.out]; exact HSM.out.len.symm
            have hsum : u = sumE M := by rw [HU.out]; exact sum_same HSM.out
            have hsp : SpAt w7 (fun k => k = s ∨ (Value.slice A4 n c4).ownBlock = some k) s { X with q := q } M := by
              refine SpAt.build (by rw [← hsum]; exact hc7) (by rw [hml]; exact hrow7) HVS.out (by omega) (fun e he => ?_) h2
              have h1 := HENT6.out e he
              have h3 := h1.only hon7 (fun a ha h0 e' => h1.ap a ha h0 (.inl e')) (fun _ h => .inl h)
              exact h3
            have c1 := hc7.c1
            have HSP := Lib.hid hsp
            have HBW7 := Lib.hid hbw7
            clear hw7 hon7 hc7 hbw7 hrow7 hml hsum hsp f1 HC6 HBW6 HROW6 HENT6
            by_cases m5 : q < u
            · have d5 : decide ((q : Int) < (u : Int)) = true := decide_eq_true (by omega)
              clear HSP
              go_wp2_with fail
              go_ret2
              exact ⟨.inl ⟨26, rfl, .inr (.inr rfl), fun h => by have h1 := h.2.2; have h3 := HU.out; omega⟩, HBW7.out⟩
            · have d5 : decide ((q : Int) < (u : Int)) = false := decide_eq_false (by omega)
              have hofk : OfOk q X L := ⟨HF.out, HCHK.out, by rw [← HU.out]; omega⟩
              have HOFK := Lib.hid hofk
              clear hofk
              go_wp2_with fail
              go_ret2
              exact ⟨.inr ⟨HOFK.out, s, _, M, rfl, HSM.out, HSP.out⟩, HBW7.out⟩
          · have HCHK := Lib.hid hchk
            clear hchk HX2 HS2
            go_wp2_with fail
            go_ret2
            exact ⟨.inl ⟨9, rfl, .inr (.inl rfl), fun h => HCHK.out h.2.1⟩, HB2.out⟩
end Go.Proofs.Ytgcfofnlgdfmoaa
