/- Several texts in one: StTkF, ItDec, StDef. -/
import Derived.Test.YtholdcgkhicdmaaGreatDoorZq29
import Derived.Test.YtholdcgkhicdmaaGreatDoorZq34
namespace Go.Proofs.YtholdcgkhicdmaaGreatDoor
open Go.RowKit
def cellsI (L : List Ett) : List Value := L.flatMap fun e => itC e.x e.A e.c
theorem cellsI_append (a b : List Ett) : cellsI (a ++ b) = cellsI a ++ cellsI b := by simp [cellsI]
theorem cellsI_length : ∀ L : List Ett, (cellsI L).length = L.length * 13
 | [] => rfl
 | e :: L => by
   have h : cellsI (e :: L) = itC e.x e.A e.c ++ cellsI L := by simp [cellsI]
   have h2 : (itC e.x e.A e.c).length = 13 := rfl
   rw [h, List.length_append, cellsI_length L, List.length_cons]
   omega
theorem cellsI_one (L : List Ett) : ∀ u ∈ cellsI L, u.oneCell' = true := by
 intro u hu
 obtain ⟨e, _, hu⟩ := List.mem_flatMap.1 hu
 simp only [itC, List.mem_cons, List.not_mem_nil, or_false] at hu
 rcases hu with rfl | rfl | rfl | rfl | rfl | rfl | rfl | rfl | rfl | rfl | rfl | rfl | rfl <;> rfl
theorem cellsI_get {L : List Ett} {k j : Nat} {e : Ett} {v : Value} (hk : L[k]? = some e) (hj : (itC e.x e.A e.c)[j]? = some v) : (cellsI L)[k * 13 + j]? = some v := by
 have hkl := (List.getElem?_eq_some_iff.1 hk).1
 have h13 : (itC e.x e.A e.c).length = 13 := rfl
 have hj13 : j < 13 := by have := (List.getElem?_eq_some_iff.1 hj).1; rwa [h13] at this
 have hd : L = L.take k ++ (e :: L.drop (k + 1)) := by
  conv => lhs; rw [← List.take_append_drop k L, List.drop_eq_getElem_cons hkl, (List.getElem?_eq_some_iff.1 hk).2]
 have h : cellsI L = cellsI (L.take k) ++ (itC e.x e.A e.c ++ cellsI (L.drop (k + 1))) := by
  conv => lhs; rw [hd]
  rw [cellsI_append]
  simp [cellsI]
 have hl : (cellsI (L.take k)).length = k * 13 := by rw [cellsI_length, List.length_take]; congr 1; omega
 rw [h, List.getElem?_append_right (by omega), hl, Nat.add_sub_cancel_left, List.getElem?_append_left (by rw [h13]; exact hj13)]
 exact hj
theorem src_it {w : World} {g : Nat} {e : Ett} {t : TypeId} {fr : Nat × Nat} (h : w.heap[g]? = some (.cells (itC e.x e.A e.c).toArray t fr)) : Src w (some ⟨g, 0, none⟩) 1 13 (cellsI [e]) :=
 ⟨rfl, fun _ => ⟨_, rfl, fun j u hj => by
  have h2 : cellsI [e] = itC e.x e.A e.c := by simp [cellsI]
  rw [h2] at hj
  rw [Addr.add_mid, Nat.zero_add]
  have := rangeAt_row h 0 j u hj
  rw [Nat.zero_add] at this
  exact this⟩⟩
theorem ownI_slice {w : World} {base : Nat} {e : TypeId} {n : Nat} {v : Value} {xs : List Value} (h : w.ownsRow base e 13 v n xs) : ∃ A c, v = .slice A n c := by
 rcases h.2 with ⟨rfl, rfl⟩ | ⟨g, cap, cur, rfl, _⟩
 ·exact ⟨none, 0, rfl⟩
 ·exact ⟨_, _, rfl⟩
structure TkF (w0 w : World) (v : Value) (M : List Ett) : Prop where
 own : w.ownsRow w0.heap.size 47 13 v M.length (cellsI M)
 ok : ∀ e ∈ M, EntOk w (fun k => v.ownBlock = some k) e
 new : ∀ e ∈ M, LabNew w0.heap.size e
theorem TkF.only {w0 w w' : World} {v : Value} {M : List Ett} {T : Nat → Prop} (h : TkF w0 w v M) (ho : Only T w w') (hT : ∀ k, T k → k < w0.heap.size ∨ w.heap.size ≤ k) : TkF w0 w' v M := by
 refine ⟨ho.own h.own (fun k hk e => ?_), fun e he => (h.ok e he).only ho (fun a ha h0 e' => ?_) (fun _ h => .inl h), h.new⟩
 ·have h1 := h.own.lt k hk
  rcases hT k e with h2 | h2 <;> omega
 ·have h1 := h.new e he a ha h0
  have h2 := rdP_lt (h.ok e he).rd ha h0
  rcases hT _ e' with h3 | h3 <;> omega
theorem tk_fail (z g : Nat) (hz : z ≠ 0) (s : St) (w : World) (h : RdT w g s) :
  Calls Tryz.prog 150 #[.pointer (some ⟨g, 0, none⟩), .int .i64 (z : Nat)] w fun e w' => e = .returned (.tuple #[]) ∧ RdT w' g (failS z s) ∧ w.grownBy w' (some g) := by
 obtain ⟨l, er⟩ := s
 by_cases he : er = 0
 ·subst he
  refine (rfail_set g l z (by omega) w h).mono ?_
  rintro e w' ⟨h1, h2, h3⟩
  refine ⟨h1, ?_, h3⟩
  unfold failS
  rw [if_pos rfl]
  exact h2
 ·refine (rfail_keep g l er z (.inl (by omega)) w h).mono ?_
  rintro e w' ⟨h1, rfl⟩
  refine ⟨h1, ?_, World.grownBy.refl w _⟩
  unfold failS
  rw [if_neg he]
  exact h
theorem infoItm : (Tryz.prog.info? 47).map (fun i => (i.zero, i.size, i.bytes)) = some (some (.agg #[.bool false, .int .u8 0, .int .u64 0, .int .u64 0, .string ⟨#[]⟩, .slice none 0 0, .int .u8 0, .int .u8 0, .int .i64 0, .int .u8 0, .int .u8 0, .int .u64 0, .int .u64 0]), 13, 120) := by kernel_rfl
set_option maxRecDepth 100000 in
set_option maxHeartbeats 4000000 in
theorem takeFires_any (g : Nat) (s : St) (w : World) (h : RdT w g s) (hlen : s.1.length ≤ 60000) :
  Calls Tryz.prog 153 #[.pointer (some ⟨g, 0, none⟩)] w fun e w' => ∃ (A : Option Addr) (c : Nat) (M : List Ett), e = .returned (.slice A M.length c) ∧ M.map (·.x) = (firesR s).1 ∧ TkF w w' (.slice A M.length c) M ∧ M.length ≤ 60001 ∧ RdT w' g (firesR s).2 ∧ w.grownBy w' (some g) := by
 obtain ⟨i0, hi0, hz0, hz1, hz2⟩ := info_parts infoItm
 obtain ⟨N, s5, h4⟩ : ∃ n r, rU s = (n, r) := ⟨_, _, rfl⟩
 have hfir : firesR s = firR N [] s5 := by unfold firesR fsC; rw [h4]
 have hN : N < 18446744073709551616 := by have := rU_lt h.okB; rw [h4] at this; exact this
 have t1 := fun W H => tk_uint g s W H
 rw [h4] at t1
 have hgl := h.lt
 have HT1 := Lib.hid (t1 w h)
 have HFIR := Lib.hid hfir
 have H4 := Lib.hid h4
 have HR0 := Lib.hid h
 clear t1 hfir h4 h
 go_enter Tryz.func153, Tryz.ntmps153
 go_wp2_with fail
 refine HT1.out.mono ?_
 rintro _ w5 ⟨rfl, hr5, hg5⟩
 have hs5 : s5.1.length ≤ 60000 := by
  have q := rU_short HR0.out (by rw [H4.out]; exact hr5)
  rw [H4.out] at q
  exact Nat.le_trans q hlen
 have HTK0 : Hid (TkF w w5 (.slice none 0 0) []) := ⟨World.ownsRow_nil _ _ _ _, fun e he => (by cases he), fun e he => (by cases he)⟩
 have HR5 := Lib.hid hr5
 have HG5 := Lib.hid hg5
 clear hr5 hg5 HT1
 go_upto_region 3 with fail
 go_loopw [3, 4] (fun lv jv wx => ∃ (j c : Nat) (A : Option Addr) (M : List Ett) (s' : St), lv = .slice A M.length c ∧ jv = .int .u64 j ∧ Hid (firR j (M.map (·.x)) s' = firR N [] s5) ∧ Hid (TkF w wx (.slice A M.length c) M) ∧ Hid (RdT wx g s') ∧ Hid (w.grownBy wx (some g)) ∧ Hid (M.length ≤ 60001) ∧ Hid (s'.2 = 0 → M.length + s'.1.length ≤ 60000) ∧ j ≤ N) (fun _ jv _ => (intOf jv).toNat)
 case atStart => exact ⟨N, 0, none, [], s5, rfl, rfl, rfl, HTK0.out, HR5.out, HG5.out, (show ([] : List Ett).length ≤ 60001 by decide), fun _ => by simpa using hs5, Nat.le_refl _⟩
 case round =>
  obtain ⟨j, c, A, M, s', rfl, rfl, HE, HTK, HR, HG, HM1, HM2, hjN⟩ := hrel
  by_cases hj : j = 0
  ·have hent : (M.map (·.x), s') = firR N [] s5 := by
    rw [← HE.out, hj]
    rfl
   have hj0 : ¬ 0 < j := by omega
   have hj1 : decide (0 < j) = false := decide_eq_false hj0
   clear hj hs5
   go_wp2
   go_ret
   refine ⟨A, c, M, rfl, ?_, HTK.out, HM1.out, ?_, HG.out⟩
   ·rw [HFIR.out, ← hent]
   ·rw [HFIR.out, ← hent]; exact HR.out
  ·have h0 : 0 < j := by omega
   have HERR := Lib.hid (rerr_any g s'.1 (s'.2 : Nat) wr HR.out)
   go_wp2_with fail
   refine HERR.out.mono ?_
   rintro _ w6 ⟨rfl, rfl⟩
   by_cases hs0 : s'.2 = 0
   rotate_left
   ·have hent : (M.map (·.x), s') = firR N [] s5 := by
     rw [← HE.out, firR_err hs0]
    have d2 : ((s'.2 : Int) == 0) = false := by rw [beq_eq_false_iff_ne]; omega
    clear hj hs5 hs0
    go_wp2
    go_ret
    refine ⟨A, c, M, rfl, ?_, HTK.out, HM1.out, ?_, HG.out⟩
    ·rw [HFIR.out, ← hent]
    ·rw [HFIR.out, ← hent]; exact HR.out
   ·have d2 : ((s'.2 : Int) == 0) = true := by rw [beq_iff_eq]; omega
    obtain ⟨y, sA, hyA⟩ : ∃ x r, takeR s' = (x, r) := ⟨_, _, rfl⟩
    obtain ⟨sB, hsB⟩ : ∃ r, r = if y.g = true ∨ y.s ≠ 2 then failS 12 sA else sA := ⟨_, rfl⟩
    have hstep : firR j (M.map (·.x)) s' = firR (j - 1) (M.map (·.x) ++ [y]) sB := by
     obtain ⟨i, rfl⟩ : ∃ i, j = i + 1 := ⟨j - 1, by omega⟩
     rw [firR_step hs0, hyA, hsB]
     rfl
    have t6 := fun W H => take_any g s' W H
    rw [hyA] at t6
    have HT6 := Lib.hid (t6 wr HR.out)
    have HSTEP := Lib.hid hstep
    have HYA := Lib.hid hyA
    have HSB := Lib.hid hsB
    have HJ := Lib.hid h0
    have HS0 := Lib.hid hs0
    clear t6 hstep hyA hsB HERR
    go_wp2_with fail
    refine HT6.out.mono ?_
    rintro _ w7 ⟨A5, n5, c5, rfl, rfl, ho7, hr7, hg7⟩
    have HR7 := Lib.hid hr7
    have HG7 := Lib.hid hg7
    have HO7 := Lib.hid ho7
    clear hr7 hg7 ho7 HT6
    go_upto_region 6 with (first | (refine wpList_store_row rfl _ _ _ rfl w7.heap.size (itC y A5 c5).toArray rfl rfl _ _ (heap_alloc_new _ _) Tryz.infoIt rfl (by simp [Value.oneCell', itC]) ?_) | fail)
    obtain ⟨w8, hw8, hc8, hb8, hl8⟩ := boxI w7 #[.bool false, .int .u8 0, .int .u64 0, .int .u64 0, .string ⟨#[]⟩, .slice none 0 0, .int .u8 0, .int .u8 0, .int .i64 0, .int .u8 0, .int .u8 0, .int .u64 0, .int .u64 0] (itC y A5 c5).toArray
    rw [← hw8, act_put_no]
    obtain ⟨b, hb⟩ : ∃ b, b = w7.heap.size := ⟨_, rfl⟩
    rw [← hb] at hc8 hl8 ⊢
    have hgb : g < b := by rw [hb]; exact Nat.lt_of_lt_of_le HR.out.lt HG7.out.size
    have HC8 := Lib.hid hc8
    have HR8 := Lib.hid (HR7.out.below hb8)
    have HG8 : Hid (wr.grownBy w8 (some g)) := grown_fresh HG7.out (grown_below0 hb8 none) (fun _ e => by cases e)
    have HO8 := Lib.hid (ownB_below HO7.out hb8)
    have HW78 : Hid (w7.heap.size ≤ w8.heap.size) := hb8.size
    have HWB : Hid (b = w7.heap.size) := hb
    have q0 : w8.cell? ⟨b, 0, none⟩ = some (.bool y.g) := cell_of_row _ _ 0 _ _ _ hc8
    have q6 : w8.cell? ⟨b, 6, none⟩ = some (.int .u8 y.s) := cell_of_row _ _ 6 _ _ _ hc8
    clear hw8 hc8 hb8 hb
    obtain ⟨yg, hyg⟩ : ∃ z, z = y.g := ⟨_, rfl⟩
    rw [← hyg] at q0
    have HYG := Lib.hid hyg
    clear hyg
    have hfail : Hid (Calls Tryz.prog 150 #[.pointer (some ⟨g, 0, none⟩), .int .i64 12] w8 fun e w' => e = .returned (.tuple #[]) ∧ RdT w' g (failS 12 sA) ∧ w8.grownBy w' (some g)) := tk_fail 12 g (by decide) sA w8 HR8.out
    by_cases hbad : yg = true ∨ y.s ≠ 2
    case' pos =>
     have HSB2 : Hid (sB = failS 12 sA) := by show _ = _; rw [HSB.out, if_pos (by rw [← HYG.out]; exact hbad)]
     cases yg
     case' true => clear hbad
     case' false =>
      have hne : y.s ≠ 2 := hbad.elim (fun e => by cases e) id
      have d5 : ((y.s : Int) != 2) = true := by rw [bne_iff_ne]; omega
      clear hbad hne
     all_goals
      go_wp2_with fail
      refine hfail.out.mono ?_
      rintro _ w9 ⟨rfl, hr9, hg9⟩
      have HC9 := Lib.hid ((hg9.block b hl8 (by simp; omega)).trans HC8.out)
      have HR9 : Hid (RdT w9 g sB) := by show RdT _ _ _; rw [HSB2.out]; exact hr9
      have HG9 := Lib.hid (grownBy_trans HG8.out hg9)
      have HO9 : Hid (w9.ownsRow wr.heap.size 37 2 (.slice A5 y.l.length c5) y.l.length (cellsP y.l)) := (Only.of_grown (T := fun k => k = g) hg9 (fun k hk => by have e := Option.some.inj hk; exact e.symm)).own HO8.out (fun k hk e => by have := (HO8.out.lt k hk).1; have := HR.out.lt; have e : k = g := e; omega)
      have hl9 : b < w9.heap.size := Nat.lt_of_lt_of_le hl8 hg9.size
      clear hr9 hg9 q0 q6
      go_upto_region 8 with fail
    case' neg =>
     have HSB2 : Hid (sB = sA) := by show _ = _; rw [HSB.out, if_neg (by rw [← HYG.out]; exact hbad)]
     have hyf : yg = false := by cases yg with
      | false => rfl
      | true => exact absurd (.inl rfl) hbad
     have hys : y.s = 2 := Classical.byContradiction fun h => hbad (.inr h)
     subst hyf
     have d5 : ((y.s : Int) != 2) = false := by rw [bne_eq_false_iff_eq]; omega
     clear hbad hys
     go_upto_region 8 with fail
     have HR9 : Hid (RdT w8 g sB) := by show RdT _ _ _; rw [HSB2.out]; exact HR8.out
     have HC9 := HC8
     have HG9 := HG8
     have HO9 := HO8
     have hl9 := hl8
     clear q0 q6 hfail HC8 HR8 HG8 HO8 HW78
     generalize w8 = w9 at *
    all_goals
     have hc9 : w9.heap[b]? = some (.cells #[.bool y.g, .int .u8 y.o, .int .u64 y.q, .int .u64 y.t, .string y.r, .slice A5 y.l.length c5, .int .u8 y.s, .int .u8 y.p, .int .i64 y.v, .int .u8 y.w, .int .u8 y.ga, .int .u64 y.gf, .int .u64 y.gt] 47 (0, 0)) := HC9.out
     have HC10 := Lib.hid hc9
     obtain ⟨n, hn⟩ : ∃ n, n = M.length := ⟨_, rfl⟩
     have HN := Lib.hid hn
     rw [← hn] at HTK HM1 HM2 ⊢
     clear hc9 hn
     obtain ⟨w10, hw10⟩ : ∃ V, V = w9.alloc (.cells #[.bool y.g, .int .u8 y.o, .int .u64 y.q, .int .u64 y.t, .string y.r, .slice A5 y.l.length c5, .int .u8 y.s, .int .u8 y.p, .int .i64 y.v, .int .u8 y.w, .int .u8 y.ga, .int .u64 y.gf, .int .u64 y.gt] 47) := ⟨_, rfl⟩
     have hsrc : Src w10 (some ⟨w9.heap.size, 0, none⟩) 1 13 (cellsI [⟨0, y, A5, c5⟩]) := by rw [hw10]; exact src_it (e := ⟨0, y, A5, c5⟩) (heap_alloc_new w9 _)
     have hb910 : Below w9.heap.size w9 w10 := by rw [hw10]; exact (Below.refl _ _).alloc (Nat.le_refl _) _
     have HW10 := Lib.hid hw10
     have HSRC := Lib.hid hsrc
     have HB910 := Lib.hid hb910
     have hg10 : wr.grownBy w10 (some g) := grown_fresh HG9.out (grown_below0 hb910 none) (fun _ e => by cases e)
     have HROW : Hid (w10.ownsRow w.heap.size 47 13 (.slice A n c) n (cellsI M)) := by
      have h1 : Only (fun k => k = g) wr w10 := Only.of_grown hg10 (fun k hk => by have e := Option.some.inj hk; exact e.symm)
      have h2 := h1.own HTK.out.own (fun k hk e => by have := (HTK.out.own.lt k hk).1; have e : k = g := e; omega)
      rw [← HN.out] at h2
      exact h2
     have HG10 := Lib.hid hg10
     have hwr : w.heap.size ≤ w10.heap.size := by have := HG.out.size; have := hg10.size; omega
     have hM1 : n ≤ 60001 := HM1.out
     clear hw10 hsrc hb910 hg10
     go_upto_region 4 with (first
      | (refine wpList_load_row rfl _ _ rfl b rfl _ _ _ _ HC10.out Tryz.underlying47 rfl Tryz.infoIt ?_)
      | (at_builtin; (
        rw [← HW10.out]
        refine wpList_append_src (base := w.heap.size) rfl _ _ rfl Tryz.underlying231 hi0 hz0 hz1 hz2 rfl (by decide) rfl HROW.out rfl HSRC.out (cellsI_one _) (by unfold maxLen; omega) (by omega) hwr ?_
        intro vA wA hoA hgA hbA
        have HOA := Lib.hid hoA
        have HGA := Lib.hid hgA
        have HBA := Lib.hid hbA
        clear hoA hgA hbA))
      | fail)
     obtain ⟨AA, cA, rfl⟩ := ownI_slice HOA.out
     have hgA := HGA.out
     have hl910 := HB910.out.size
     have hl89 : wr.heap.size ≤ w9.heap.size := HG9.out.size
     have hwwr : w.heap.size ≤ wr.heap.size := HG.out.size
     have hlt7 : wr.heap.size ≤ b := by have := HG7.out.size; have := HWB.out; omega
     have hvne : ∀ q, (Value.slice A n c).ownBlock = some q → q < wr.heap.size := fun q hq => (HTK.out.own.lt q hq).2
     have hgr : ∀ q, (Value.slice A n c).ownBlock = some q → g < q := fun q hq => by have := (HTK.out.own.lt q hq).1; omega
     have hvA : ∀ k, (Value.slice AA (n + 1) cA).ownBlock = some k → (Value.slice A n c).ownBlock = some k ∨ w10.heap.size ≤ k := fun k hk => by
      rcases HBA.out with h' | h'
      ·rw [h'] at hk; exact .inl hk
      ·rw [h'] at hk; have hk := Option.some.inj hk; exact .inr (by omega)
     have hgwA : w.grownBy wA (some g) := grown_fresh (grownBy_trans HG.out HG10.out) hgA (fun q hq => by have := (HTK.out.own.lt q hq).1; omega)
     have honA : Only (fun q => q = g ∨ (Value.slice A n c).ownBlock = some q) wr wA := ((Only.of_grown (T := fun q => q = g ∨ (Value.slice A n c).ownBlock = some q) HG10.out (fun k hk => by have e := Option.some.inj hk; exact .inl e.symm))).trans (T' := fun q => (Value.slice A n c).ownBlock = some q) ⟨hgA.os, hgA.tape, hgA.output, hgA.size, fun q hq hne => hgA.block q hq (fun e => hne e.symm)⟩ (fun _ h => .inl (.inr h))
     have hlabn : ∀ a, A5 = some a → wr.heap.size ≤ a.block ∧ a.block < w9.heap.size := fun a ha => HO9.out.lt a.block (by rw [ha]; rfl)
     have hMe : ∀ e ∈ M, EntOk wA (fun q => (Value.slice AA (n + 1) cA).ownBlock = some q) e := fun e he => by
      have h1 := HTK.out.ok e he
      have h2 := HTK.out.new e he
      refine h1.only honA (fun a ha h0 hk => ?_) (fun q hq => (hvA q hq).imp id (fun h => by omega))
      rcases hk with h3 | h3
      ·have := h2 a ha h0; omega
      ·exact h1.ap a ha h0 h3
     have hs1 : s'.1.length ≤ 60000 := by have := HM2.out HS0.out; omega
     have hmod : Mod y := by
      have h1 := takeR_mod (s := s') HR.out.okB (by omega)
      rw [HYA.out] at h1
      exact h1
     have hrd5 : RdP wA wA.heap.size A5 y.l := Only.rdP (T := fun q => (Value.slice A n c).ownBlock = some q) ⟨hgA.os, hgA.tape, hgA.output, hgA.size, fun q hq hne => hgA.block q hq (fun e => hne e.symm)⟩ (RdP.of_own (ownB_below HO9.out HB910.out)) (fun a ha _ e => by
      have h1 := hlabn a ha
      have h2 := hvne _ e
      omega)
     have hnil5 : A5 = none → y.l.length = 0 := fun e => own_nil2 HO9.out e
     have hap5 : ∀ a, A5 = some a → 0 < y.l.length → ¬ (Value.slice AA (n + 1) cA).ownBlock = some a.block := fun a ha _ hk => by
      have h1 := hlabn a ha
      rcases hvA _ hk with h2 | h2
      ·have := hvne _ h2; omega
      ·omega
     have hnew : EntOk wA (fun q => (Value.slice AA (n + 1) cA).ownBlock = some q) ⟨0, y, A5, c5⟩ := entOk_mk hmod (by decide) hnil5 hrd5 hap5
     have hml : (M ++ [(⟨0, y, A5, c5⟩ : Ett)]).length = n + 1 := by rw [List.length_append, HN.out]; rfl
     have htkA : TkF w wA (.slice AA (M ++ [(⟨0, y, A5, c5⟩ : Ett)]).length cA) (M ++ [⟨0, y, A5, c5⟩]) := by
      rw [hml]
      refine ⟨by rw [hml, cellsI_append]; exact HOA.out, fun e he => ?_, fun e he => ?_⟩
      ·rcases List.mem_append.1 he with h1 | h1
       ·exact hMe e h1
       ·rw [List.mem_singleton] at h1; subst h1; exact hnew
      ·rcases List.mem_append.1 he with h1 | h1
       ·exact HTK.out.new e h1
       ·rw [List.mem_singleton] at h1; subst h1
        exact fun a ha _ => by have := hlabn a ha; omega
     have hrA : RdT wA g sB := (HR9.out.below HB910.out).kept hgA hgr
     have hM1A : n + 1 ≤ 60001 := by have := HM2.out HS0.out; omega
     have hM2A : sB.2 = 0 → (n + 1) + sB.1.length ≤ 60000 := fun hz => by
      have h3 : sB = sA ∨ sB = failS 12 sA := by
       rw [HSB.out]
       split
       ·exact .inr rfl
       ·exact .inl rfl
      have h4 : sA.2 = 0 ∧ sB.1.length ≤ sA.1.length := by
       rcases h3 with h3 | h3
       ·rw [h3] at hz ⊢; exact ⟨hz, Nat.le_refl _⟩
       ·rw [h3] at hz ⊢
        unfold failS at hz ⊢
        split at hz
        ·cases hz
        ·rename_i h5; exact absurd hz h5
      have h5 : sA.1.length < s'.1.length := by
       have h6 := takeR_less (l := s'.1) HR.out.okB (by rw [show (s'.1, (0 : Nat)) = s' from by rw [← HS0.out], HYA.out]; exact h4.1)
       rw [show (s'.1, (0 : Nat)) = s' from by rw [← HS0.out], HYA.out] at h6
       exact h6
      have h6 := HM2.out HS0.out
      have h7 := h4.2
      omega
     have heA : firR (j - 1) ((M ++ [(⟨0, y, A5, c5⟩ : Ett)]).map (·.x)) sB = firR N [] s5 := by
      rw [List.map_append]
      exact HSTEP.out.symm.trans HE.out
     have hsub : IntKind.u64.wrap ((j : Int) - 1) = ((j - 1 : Nat) : Int) := by have := HJ.out; rw [IntKind.wrap_u64]; omega
     have HTZ := Lib.hid htkA
     have HRZ := Lib.hid hrA
     have HGZ := Lib.hid hgwA
     have HEZ := Lib.hid heA
     have HM1Z : Hid ((M ++ [(⟨0, y, A5, c5⟩ : Ett)]).length ≤ 60001) := by show _ ≤ _; rw [hml]; exact hM1A
     have HM2Z : Hid (sB.2 = 0 → (M ++ [(⟨0, y, A5, c5⟩ : Ett)]).length + sB.1.length ≤ 60000) := by rw [hml]; exact hM2A
     have HML := Lib.hid hml
     clear hgA hl910 hl89 hwwr hlt7 hvne hgr hvA hgwA honA hlabn hMe hmod hrd5 hnil5 hap5 hnew hml htkA hrA hM1A hM2A heA hs1 hs5
     go_wp2
     go_roundw
     case rel => exact ⟨j - 1, cA, AA, M ++ [(⟨0, y, A5, c5⟩ : Ett)], sB, by rw [HML.out], by go_num, HEZ.out, HTZ.out, HRZ.out, HGZ.out, HM1Z.out, HM2Z.out, by omega⟩
     case measure => have := HJ.out; simp [intOf]; omega
def endE (s : St) : Nat := if s.2 = 0 then (if s.1 = [] then 0 else 25) else s.2
theorem tk_done (g : Nat) (s : St) (w : World) (h : RdT w g s) :
  Calls Tryz.prog 106 #[.pointer (some ⟨g, 0, none⟩)] w fun e w' => e = .returned (.int .i64 (endE s : Nat)) ∧ w.grownBy w' (some g) := by
 obtain ⟨l, er⟩ := s
 unfold endE
 by_cases he : er = 0
 ·subst he
  cases l with
  | nil =>
    refine (rdone_empty g 0 w h).mono ?_
    rintro e w' ⟨rfl, rfl⟩
    exact ⟨rfl, World.grownBy.refl w _⟩
  | cons x l =>
    refine (rdone_rest g (x :: l) (by simp) w h).mono ?_
    rintro e w' ⟨rfl, _, h3⟩
    exact ⟨by simp, h3⟩
 ·obtain rfl : l = [] := h.bare he
  refine (rdone_empty g (er : Nat) w h).mono ?_
  rintro e w' ⟨rfl, rfl⟩
  exact ⟨by simp [he], World.grownBy.refl w _⟩
structure Ab where
 X : Sp
 K : List Ett
 F : List It
 m : Nat
 f : Nat
def Rc.ab (R : Rc) : Ab := ⟨R.X, ers R.L, R.F.map (·.x), R.life, R.first⟩
def noteAll (self : Nat) (F l : List It) : List It := l.foldl (noteF self) F
def putA (self : Nat) (a : Ab) (x : It) : Ab := { a with X := (putV a.X a.K x).2.2.2.1, K := (putV a.X a.K x).2.2.2.2, F := noteF self a.F x }
def ackA (a : Ab) (N : Nat) : Ab := { a with X := ackX a.X N, K := ackK a.X a.K N }
def rep1 (self : Nat) (a : Ab) (r : List Nat) : Option Ab := if endE (takeR (r, 0)).2 = 0 ∧ (putV a.X a.K (takeR (r, 0)).1).1 = 0 then some (putA self a (takeR (r, 0)).1) else none
def rep2 (a : Ab) (r : List Nat) : Option Ab := if endE (rU (r, 0)).2 = 0 ∧ ackE a.X (rU (r, 0)).1 = 0 then some (ackA a (rU (r, 0)).1) else none
def rep3 (a : Ab) (r : List Nat) : Option Ab := if endE (rU (r, 0)).2 = 0 then some { a with m := (rU (r, 0)).1 } else none
def sn1 (r : List Nat) : Nat × St := rU (r, 0)
def sn2 (r : List Nat) : List Ett × St := baseR (sn1 r).2
def sn3 (r : List Nat) : List It × St := firesR (sn2 r).2
open Classical in
noncomputable def rep4 (self gen : Nat) (a : Ab) (r : List Nat) : Option Ab :=
 if endE (sn3 r).2 = 0 ∧ OfOk a.X.q (bsX 32 (sn1 r).2) (sn2 r).1 then some ⟨{ bsX 32 (sn1 r).2 with q := a.X.q }, (sn2 r).1, noteAll self [] (sn3 r).1, (sn1 r).1, if 0 < gen then r.length + 9 else a.f⟩ else none
noncomputable def repA (self gen : Nat) (a : Ab) (c : List Nat) : Option Ab :=
 match c with
 | [] => none
 | k :: r => if k = 1 then rep1 self a r else if k = 2 then rep2 a r else if k = 3 then rep3 a r else if k = 4 then rep4 self gen a r else none
noncomputable def repAll (self gen : Nat) (a : Ab) (cs : List (List Nat)) : Option Ab := cs.foldlM (repA self gen) a
def ErrOf (c : List Nat) (z : Nat) : Prop := z ≠ 0 ∧ ∀ k r, c = k :: r → 5 ≤ k → z = 12
structure SameS (R R' : Rc) : Prop where
 gd : R'.gd = R.gd
 g : R'.g = R.g
 st : R'.st = R.st
 jb : R'.jb = R.jb
 nm : R'.nm = R.nm
 LL : R'.LL = R.LL
 gen : R'.gen = R.gen
 self : R'.self = R.self
theorem SameS.refl (R : Rc) : SameS R R := ⟨rfl, rfl, rfl, rfl, rfl, rfl, rfl, rfl⟩
theorem SameS.trans {R R' R2 : Rc} (h : SameS R R') (k : SameS R' R2) : SameS R R2 := ⟨k.gd.trans h.gd, k.g.trans h.g, k.st.trans h.st, k.jb.trans h.jb, k.nm.trans h.nm, k.LL.trans h.LL, k.gen.trans h.gen, k.self.trans h.self⟩
def Own3 (P : Nat → Nat → Prop) : Nat → Prop := fun k => P 2 k ∨ P 4 k ∨ P 5 k
section
variable {w w' : World} {P : Nat → Nat → Prop} {R : Rc} {n : Nat} {S' : Nat → Prop}
theorem Sto.spool (h : Sto w P R n) (hs : Step w (P 4) w' S') {X' : Sp} {L' : List Ett} (hsp : SpAt w' S' R.sq X' L') (hL : ∀ e ∈ L', ∀ a, e.A = some a → 0 < e.x.l.length → (∃ e0 ∈ R.L, e0.A = some a ∧ 0 < e0.x.l.length) ∨ w.heap.size ≤ a.block) : Sto w' (upd P 4 S') { R with X := X', L := L' } n ∧ Mv6 w P w' (upd P 4 S') := by
 have hm := Mv6.of_step hs
 have hb : ∀ {j k : Nat}, P j k → j ≠ 4 → ¬ P 4 k := fun hj hn h' => hn (h.own.sep _ _ _ hj h')
 refine ⟨⟨h.own.step hs hsp.lt, h.dt.only hs.only (fun k hk => hb hk (by decide)) (hb h.p1 (by decide)), h.p1, h.p2, h.p3, (hs.only.block _ (h.own.lt 2 _ h.p2) (hb h.p2 (by decide))).trans h.blk, h.j.only hs.only (hb h.p3 (by decide)), hsp, ?_, hs.only.own h.fr (fun k hk => hb (h.fP k hk) (by decide)), h.fP, fun e he => (h.fok e he).mv hm⟩, hm⟩
 intro e he a ha h0 i hi
 rcases hL e he a ha h0 with ⟨e0, he0, ha0, h00⟩ | h'
 ·rcases hm.new i _ hi with ⟨j, hj⟩ | h2
  ·exact h.lab e0 he0 a ha0 h00 j hj
  ·have := rdP_lt (h.sp.ent e0 he0).rd ha0 h00; omega
 ·by_cases hi4 : i = 4
  ·subst hi4
   exact (hsp.ent e he).ap a ha h0 hi
  ·unfold upd at hi
   rw [if_neg hi4] at hi
   have := h.own.lt i _ hi
   omega
end
theorem putR_mem {X : Sp} {L : List Ett} {x : It} {A : Option Addr} {c : Nat} {e : Ett} (h : e ∈ (putR X L x A c).2.2.2.2) : e ∈ L ∨ e.x.l = [] ∨ (e.A = A ∧ e.x = partI x X.h) := by
 unfold putR at h
 split at h
 ·exact .inl h
 ·dsimp only at h
  split at h
  ·exact .inl h
  ·split at h
   ·exact .inl h
   ·rcases mem_addJ h with h1 | h1 | h1
    ·exact (mem_room h1).imp id .inl
    ·exact .inr (.inr (by rw [h1]; exact ⟨rfl, rfl⟩))
    ·exact .inr (.inl h1)
theorem above_mem {L : List Ett} {N : Nat} {e : Ett} (h : e ∈ aboveK L N) : e ∈ L := (List.mem_filter.1 h).1
theorem ackK_mem {X : Sp} {L : List Ett} {N : Nat} {e : Ett} (h : e ∈ ackK X L N) : e ∈ L := by
 unfold ackK at h
 split at h
 ·exact above_mem h
 ·exact h
theorem ackK_ers (X : Sp) (L : List Ett) (N : Nat) : ackK X (ers L) N = ers (ackK X L N) := by
 unfold ackK
 split
 ·unfold aboveK ers
  rw [List.filter_map]
  rfl
 ·rfl
end Go.Proofs.YtholdcgkhicdmaaGreatDoor