/- Several texts in one: FrameBytes. -/
import Derived.Deep.DeepCutAuto
import Derived.Test.YtnagmopejblegaaGreatMb17
import Derived.Test.YtnagmopejblegaaGreatMb39
import Derived.Test.YtnagmopejblegaaGreatMb43
import Derived.Test.YtnagmopejblegaaGreatMb46
import Derived.Test.YtnagmopejblegaaGreatMb49
import Derived.Test.YtnagmopejblegaaGreatMb50
/- The walk of watchfirelaw05.FrameBytes. -/
namespace Go.Proofs.YtnagmopejblegaaGreat.frameBytes
open Go.RowKit Go.Proofs.YtnagmopejblegaaGreat
open Go.Proofs.YtnagmopejblegaaGreat.crcBits (okB_set Tab_far cellsB_set)

theorem conv_own {w : World} {base : Nat} {v : Value} {l : List Nat} (h : w.ownsRow base 5 1 v l.length (cellsB l)) :
    (convert 22 9 v).run Tryz.prog w = .ok (.string (strB l)) w := by
  obtain ⟨A, c, rfl⟩ := ownB_slice h
  refine conv_any (RdB.of_own h) rfl (fun hA => ?_)
  subst hA
  rcases h.2 with ⟨_, e⟩ | ⟨g, cap, cur, e, _⟩
  · exact e
  · injection e with e1 _ _; cases e1
theorem exec_load_row {P : Program} {o : Oper} {ev : Operand → Value} {w : World} (ty : TypeId) (x : Operand) (ho : o.op = .load ty x)
    (g : Nat) (hx : ev x = .pointer (some ⟨g, 0, none⟩)) (t : TypeId) (cs : Array Value) (fr : Nat × Nat) (d : TypeDesc) (hg : w.heap[g]? = some (.cells cs t fr))
    (hu : P.underlying ty = some d) (hd : (match d with | .struct _ | .array _ _ => true | _ => false) = true) (hi : (P.info? ty).map (·.size) = some cs.size) :
    (execOp ev o).run P w = .ok (.value (.agg cs)) w := by
  unfold execOp
  simp only [ho, hx, Instr.loadAt, Instr.sureAddr, Sem.run_bind, Sem.run_pure, Result.andThen_ok, run_loadVar_row w g t ty cs fr d hg hu hd hi]
theorem smallF_as {s : Sf} {x : Fr} (hx : smallF s = x) (hs : OkSf s) (w : World) :
    Calls Tryz.prog 7 #[.agg #[.int .u8 s.k, .int .u8 s.f, .int .u8 s.t, .int .u16 s.e, .int .u16 s.q, .int .u16 s.c, .int .u16 s.l, .int .u64 s.b, .bool s.i.g, .int .u8 s.i.o, .int .u8 s.i.p, .int .u8 s.i.w, .int .u16 s.i.q, .int .u16 s.i.m, .int .u16 s.i.t, .int .u8 s.i.r, .int .u8 s.i.l, .int .u8 s.i.v, .bool s.i.s]] w (FrRet x w) := by
  subst hx; exact smallF_any s hs w
theorem own_two (w : World) (k : Nat) : (w.alloc (.cells #[.int .u8 183, .int .u8 k] 5)).ownsRow w.heap.size 5 1 (.slice (some ⟨w.heap.size, 0, none⟩) 2 2) 2 (cellsB [183, k]) :=
  ⟨rfl, .inr ⟨w.heap.size, 2, #[.int .u8 183, .int .u8 k], rfl, Nat.le_refl _, heap_alloc_new _ _, Nat.le_refl _, by unfold maxLen; omega, rfl, rfl⟩⟩
theorem elem_app {V V1 V' : World} {g n c : Nat} {A : Option Addr} {l : List Nat} (h : Elem V g A n c l) (hb : Below V.heap.size V V1) (hg : V1.grownBy V' (some V.heap.size)) : Elem V' g A n c l :=
  (h.below hb).grown hg (fun k e h0 a ha => by
    cases e
    obtain ⟨b, o, e, hlt, _⟩ := h.rd h0
    rw [e] at ha; cases ha
    show b ≠ _
    omega)

set_option maxRecDepth 100000 in
set_option maxHeartbeats 8000000 in
theorem walk (A : Option Addr) (n c : Nat) (l : List Nat) (s : Sf) (kd at_ ch : Nat) (hs : OkSf s) (hkd : kd < 256) (hat : at_ < 256) (hch : ch < 256) (hn : n = l.length) (hc : n ≤ c) (hA : A = none → n = 0) (w0 : World) (hr : RdB w0 w0.heap.size A l) (hok : OkB l) :
    Calls Tryz.prog 3 #[.slice A n c, .agg #[.int .u8 s.k, .int .u8 s.f, .int .u8 s.t, .int .u16 s.e, .int .u16 s.q, .int .u16 s.c, .int .u16 s.l, .int .u64 s.b, .bool s.i.g, .int .u8 s.i.o, .int .u8 s.i.p, .int .u8 s.i.w, .int .u16 s.i.q, .int .u16 s.i.m, .int .u16 s.i.t, .int .u8 s.i.r, .int .u8 s.i.l, .int .u8 s.i.v, .bool s.i.s], .int .u8 kd, .int .u8 at_, .int .u8 ch] w0 fun e w' => e = .returned (.bool true) ∧ Below w0.heap.size w0 w' := by
  have hba : Below w0.heap.size w0 (w0.alloc (.cells #[.int .u8 s.k, .int .u8 s.f, .int .u8 s.t, .int .u16 s.e, .int .u16 s.q, .int .u16 s.c, .int .u16 s.l, .int .u64 s.b, .bool s.i.g, .int .u8 s.i.o, .int .u8 s.i.p, .int .u8 s.i.w, .int .u16 s.i.q, .int .u16 s.i.m, .int .u16 s.i.t, .int .u8 s.i.r, .int .u8 s.i.l, .int .u8 s.i.v, .bool s.i.s] 28)) := (Below.refl _ _).alloc (Nat.le_refl _) _
  have K0 := Lib.hid (heap_alloc_new w0 (.cells #[.int .u8 s.k, .int .u8 s.f, .int .u8 s.t, .int .u16 s.e, .int .u16 s.q, .int .u16 s.c, .int .u16 s.l, .int .u64 s.b, .bool s.i.g, .int .u8 s.i.o, .int .u8 s.i.p, .int .u8 s.i.w, .int .u16 s.i.q, .int .u16 s.i.m, .int .u16 s.i.t, .int .u8 s.i.r, .int .u8 s.i.l, .int .u8 s.i.v, .bool s.i.s] 28))
  have Hba := Lib.hid hba
  have Hs := Lib.hid hs
  obtain ⟨x, hx⟩ : ∃ x, smallF s = x := ⟨_, rfl⟩
  have hxo := smallF_ok hs
  have hxs := smallF_short hs
  have hbl := bodyF_small hs
  rw [hx] at hxo hxs hbl
  have Hx := Lib.hid hx
  have Hxo := Lib.hid hxo
  have Hxs := Lib.hid hxs
  have hb4 : 4 ≤ (bodyF x).length := by unfold bodyF; simp only [List.length_cons]; omega
  have Hok := Lib.hid (bodyF_ok hxo hxs)
  obtain ⟨L, hL⟩ : ∃ L, (bodyF x).length = L := ⟨_, rfl⟩
  rw [hL] at hbl hb4
  have HL := Lib.hid hL
  have HN := Lib.hid hn
  have HC := Lib.hid hc
  have HA := Lib.hid hA
  have HR := Lib.hid hr
  have HO := Lib.hid hok
  have Hkd := Lib.hid hkd
  have Hch := Lib.hid hch
  clear hba hs hx hxo hxs hL hn hc hA hr hok hkd hch
  go_enter Tryz.func3, Tryz.ntmps3
  go_wp2_with fail
  refine (fawake_any _).mono ?_
  rintro e w1 ⟨rfl, hb1⟩
  have K1 := Lib.hid ((hb1.block w0.heap.size (by simp)).trans K0.out)
  have Hb1 := Lib.hid (Hba.out.trans (hb1.mono Hba.out.size))
  have KL : Hid (w0.heap.size < w1.heap.size) := by show _ < _; have := hb1.size; simp at this; omega
  clear hb1 K0 Hba
  by_cases h300 : n > 300
  case pos =>
    go_wp2
    go_ret
    exact ⟨rfl, Hb1.out⟩
  case neg =>
  go_wp2_with fail
  refine (new_any w1).mono ?_
  rintro e w2 ⟨rfl, hb2, hsz2, hT2⟩
  have HT2 := Lib.hid hT2
  have Hsz := Lib.hid hsz2
  have K2 := Lib.hid ((hb2.block w0.heap.size KL.out).trans K1.out)
  have Hb2 := Lib.hid (Hb1.out.trans (hb2.mono Hb1.out.size))
  clear hb2 hT2 hsz2 K1
  go_wp2_with (first | (refine wpList_load_row rfl _ _ rfl w0.heap.size rfl _ _ _ _ K2.out Tryz.underlying28 rfl (by kernel_rfl) ?_) | fail)
  refine (smallF_as Hx.out Hs.out w2).mono ?_
  rintro e w3 ⟨A2, n2, c2, rfl, hn2, ho2, hb3⟩
  have HN2 := Lib.hid hn2
  have HR2 := Lib.hid (RdP.of_own ho2)
  have HT3 := Lib.hid (HT2.out.below hb3)
  have Hb3 := Lib.hid (Hb2.out.trans (hb3.mono Hb2.out.size))
  have Hz3 := Lib.hid (show w1.heap.size + 1 ≤ w3.heap.size by have := hb3.size; have := Hsz.out; omega)
  clear hn2 ho2 hb3 HT2 K2 Hs Hx
  go_wp2_with fail
  refine (fref_any x A2 n2 c2 Hxo.out Hxs.out HN2.out w3 HR2.out).mono ?_
  rintro e w4 ⟨v, rfl, ho, hb4w⟩
  rw [show (frB x).length = L + 4 by unfold frB; rw [sealB_len, HL.out]] at ho
  obtain ⟨b, c4, rfl, hc4, hb⟩ := own_posF ho (by omega)
  have Hb4 := Lib.hid (Hb3.out.trans (hb4w.mono Hb3.out.size))
  have HT4 := Lib.hid (HT3.out.below hb4w)
  have HO4 := Lib.hid ho
  have Hbb := Lib.hid hb
  have hgb : b ≠ w1.heap.size := by have := Hz3.out; omega
  have Hgb := Lib.hid hgb
  clear ho hb4w hb hgb HR2 HN2 HT3
  go_upto_region 8 with fail
  have hz0 : 0 ≤ (at_ : Int) % (L : Int) := Int.emod_nonneg _ (by omega)
  have hz1 : (at_ : Int) % (L : Int) < L := Int.emod_lt_of_pos _ (by omega)
  obtain ⟨q, hq⟩ : ∃ q : Nat, at_ % L = q := ⟨_, rfl⟩
  have hqL : q < L := by rw [← hq]; exact Nat.mod_lt _ (by omega)
  have hw2 : (at_ : Int) % (L : Int) = (q : Int) := by rw [← hq]; rfl
  have hw3 : (at_ : Int).tmod (L : Int) = (q : Int) := by rw [← hq]; rfl
  obtain ⟨cc, hcc⟩ : ∃ cc, (frB x)[q]? = some cc := ⟨_, List.getElem?_eq_getElem (by unfold frB; rw [sealB_len, HL.out]; omega)⟩
  have hcell : w4.cell? ⟨b, q, none⟩ = some (.int .u8 cc) := by
    have h := HO4.out.cells (g := b) rfl _ _ (cellsB_get hcc)
    rw [Addr.add_lit, Nat.zero_add] at h
    exact h
  have hfz : w4.frozen? ⟨b, q, none⟩ = false := HO4.out.frozenAt _
  have hq0 : (0 : Int) ≤ (q : Int) := Int.natCast_nonneg _
  have hq1 : (q : Int) < (L : Int) := by omega
  have hLne : ((L : Int) == 0) = false := by rw [beq_eq_false_iff_ne]; omega
  clear hcc hq
  go_upto_region 9 with fail
  obtain ⟨w5, hw5⟩ : ∃ V, V = w4.setCell ⟨b, q, none⟩ (.int .u8 ch) := ⟨_, rfl⟩
  have hoks : OkB (frB x) := Hok.out.append (okB_four _)
  obtain ⟨Y, hY⟩ : ∃ Y, ((frB x).set q ch).take L = Y := ⟨_, rfl⟩
  have hYl : Y.length = L := by rw [← hY, List.length_take, List.length_set]; unfold frB; rw [sealB_len, HL.out]; omega
  have hYok : OkB Y := by rw [← hY]; exact (okB_set hoks Hch.out).take _
  have hb5 : Below w0.heap.size w0 w5 := by rw [hw5]; exact Hb4.out.setCell (p := ⟨b, q, none⟩) (by show w0.heap.size ≤ b; have := Hbb.out; have := Hb3.out.size; omega) _
  have hT5 : Tab w5 w1.heap.size 0 0 0 := by rw [hw5]; exact Tab_far (j := q) HT4.out Hgb.out (.int .u8 ch)
  have he5 : Elem w5 w1.heap.size (some ⟨b, 0, none⟩) L c4 Y := by
    have h := (HO4.out.stored q (.int .u8 ch)).1
    have h' : w5.ownsRow w3.heap.size 5 1 (.slice (some ⟨b, 0, none⟩) (L + 4) c4) (L + 4) (cellsB ((frB x).set q ch)) := by rw [hw5, cellsB_set]; exact h
    exact ⟨by rw [← hY]; exact (RdB.of_own h').take L, hYl.symm, by omega, hYok, fun _ a ha => by cases ha; exact Hgb.out, by omega, fun e => by cases e⟩
  have hel : Elem w5 w1.heap.size A n c l :=
    { rd := (HR.out.below hb5).more hb5.size, n_ := HN.out, nc := HC.out, ok := HO.out, len := by rw [← HN.out]; omega, nil := HA.out
      off := fun h0 a ha => by
        obtain ⟨b', o', e, hlt, _⟩ := HR.out h0
        rw [e] at ha; cases ha
        show b' ≠ _
        have := KL.out; omega }
  rw [← hw5]
  have HB5 := Lib.hid hb5
  have HLp5 : Hid (LpAt w5 w5 w1.heap.size 0 0 0) := ⟨TurnsIn.refl _ _ _, hT5, hT5.lt⟩
  have HE0 := Lib.hid hel
  have HE3 := Lib.hid he5
  have HYl := Lib.hid hYl
  have HYok := Lib.hid hYok
  have HG0 := Lib.hid (show w0.heap.size ≤ w1.heap.size from Nat.le_of_lt KL.out)
  clear hw5 hY hb5 hT5 he5 hel hYl hYok hoks hcell hfz hw2 hw3 hq0 hq1 hLne hqL hz0 hz1 HR HO HT4 HO4 Hbb Hgb Hb4 Hb3 Hb2 Hb1 Hz3 Hsz KL Hxo Hxs Hok HL Hch hc4
  generalize hgg : w1.heap.size = g at *
  clear hgg
  have ho0 := HE0.out
  have hn0 : n ≤ 300 := by omega
  have HCall1 := Lib.hid (seal_any g 0 0 0 (by decide) A n c l w5.heap.size w5 HLp5.out.tab ho0.n_ (by omega) (by decide) (by omega) ho0.rd (Nat.le_refl _) ho0.ok ho0.off)
  clear ho0
  go_wp2_with fail
  refine HCall1.out.mono ?_
  rintro e w6 ⟨v6, rfl, ho6, ht6, hT6⟩
  obtain ⟨A6, c6, rfl⟩ := ownB_slice ho6
  have HLp6 := Lib.hid (HLp5.out.turn ht6 hT6)
  have HE06 := Lib.hid (HE0.out.turn ht6)
  have HE36 := Lib.hid (HE3.out.turn ht6)
  have HE16 : Hid (Elem w6 g A6 (n + 4) c6 (sealB l)) := Elem.own ho6 (by rw [sealB_len, ← HN.out]) (HE0.out.ok.append (okB_four _)) (by rw [sealB_len, ← HN.out]; omega) HLp5.out.lt
  clear ho6 ht6 hT6 HCall1 HLp5 HE0 HE3
  obtain ⟨k5, hk5⟩ : ∃ k5 : Nat, kd % 5 = k5 := ⟨_, rfl⟩
  have hm1 : (kd : Int) % 5 = (k5 : Int) := by rw [← hk5]; rfl
  have hm2 : (kd : Int).tmod 5 = (k5 : Int) := by rw [← hk5]; rfl
  have Hk5 := Lib.hid (show k5 < 256 by omega)
  clear hk5
  have HOW := Lib.hid (own_two w6 k5)
  have hba6 : Below w6.heap.size w6 (w6.alloc (.cells #[.int .u8 183, .int .u8 k5] 5)) := (Below.refl _ _).alloc (Nat.le_refl _) _
  have HBa6 := Lib.hid hba6
  have HSrc := Lib.hid (src_of_rdB (HE06.out.below hba6).rd HE06.out.n_)
  have Hbs := Lib.hid hba6.size
  clear hba6
  obtain ⟨i0, hi, hz0, hz1, hz2⟩ := info_parts Tryz.infoB
  have Hi := Lib.hid hi
  have Hi0 := Lib.hid hz0
  have Hi1 := Lib.hid hz1
  have Hi2 := Lib.hid hz2
  clear hi hz0 hz1 hz2
  have hn3 : 2 + n ≤ maxLen ∧ (2 + n) * 1 ≤ 140737488355328 := by unfold maxLen; omega
  have Hn3 := Lib.hid hn3
  clear hn3
  go_wp2_with (first
    | (refine wpList_append_src (base := w6.heap.size) rfl _ _ rfl Tryz.underlying22 Hi.out Hi0.out Hi1.out Hi2.out rfl (by decide) rfl HOW.out rfl HSrc.out (cellsB_one _) Hn3.out.1 Hn3.out.2 Hbs.out ?_; intro v7 w7 ho7 hg7 _; replace ho7 := Lib.hid ho7; replace hg7 := Lib.hid hg7)
    | fail)
  obtain ⟨A7, c7, rfl⟩ := ownB_slice ho7.out
  have HLp7 := Lib.hid ((HLp6.out.below HBa6.out).far hg7.out (fun k e => by cases e; exact HLp6.out.wl))
  have HE07 := Lib.hid (elem_app HE06.out HBa6.out hg7.out)
  have HE17 := Lib.hid (elem_app HE16.out HBa6.out hg7.out)
  have HE37 := Lib.hid (elem_app HE36.out HBa6.out hg7.out)
  have HE27 : Hid (Elem w7 g A7 (2 + n) c7 ([183, k5] ++ l)) := Elem.own (by rw [cellsB_append]; exact ho7.out) (by rw [List.length_append, ← HN.out]; rfl) ((show OkB [183, k5] from fun z hz => by
    rcases List.mem_cons.1 hz with rfl | hz
    · decide
    · rcases List.mem_cons.1 hz with rfl | hz
      · exact Hk5.out
      · cases hz).append HE06.out.ok) (by rw [List.length_append, ← HN.out]; simp only [List.length_cons, List.length_nil]; omega) HLp6.out.tab.lt
  clear ho7 hg7 HOW HSrc HBa6 Hbs HE06 HE16 HE36 HLp6 hm1 hm2 Hi Hi0 Hi1 Hi2 Hn3
  have hE2 := HE27.out
  have HCall2 := Lib.hid (seal_any g 1 1 n (by decide) A7 (2 + n) c7 ([183, k5] ++ l) w7.heap.size w7 (by have h := HLp7.out.tab; rwa [Nat.zero_add, Nat.zero_add] at h) hE2.n_ (by omega) (by decide) (by omega) hE2.rd (Nat.le_refl _) hE2.ok hE2.off)
  clear hE2
  go_wp2_with fail
  refine HCall2.out.mono ?_
  rintro e w8 ⟨v8, rfl, ho8, ht8, hT8⟩
  obtain ⟨A8, c8, rfl⟩ := ownB_slice ho8
  have HLp8 := Lib.hid (HLp7.out.turn ht8 hT8)
  have HE08 := Lib.hid (HE07.out.turn ht8)
  have HE18 := Lib.hid (HE17.out.turn ht8)
  have HE38 := Lib.hid (HE37.out.turn ht8)
  have HE28 : Hid (Elem w8 g A8 (2 + n + 4) c8 (sealB ([183, k5] ++ l))) := Elem.own ho8 (by rw [sealB_len, ← HE27.out.n_]) (HE27.out.ok.append (okB_four _)) (by rw [sealB_len, ← HE27.out.n_]; omega) HLp7.out.tab.lt
  clear ho8 ht8 hT8 HCall2 HLp7 HE07 HE17 HE37
  have hE3 := HE38.out
  have HCall3 := Lib.hid (seal_any g 1 2 (n + (2 + n)) (by decide) (some ⟨b, 0, none⟩) L c4 Y w8.heap.size w8 HLp8.out.tab hE3.n_ (by omega) (by decide) (by omega) hE3.rd (Nat.le_refl _) hE3.ok hE3.off)
  clear hE3
  go_wp2_with fail
  refine HCall3.out.mono ?_
  rintro e w9 ⟨v9, rfl, ho9, ht9, hT9⟩
  obtain ⟨A9, c9, rfl⟩ := ownB_slice ho9
  have HLp9 := Lib.hid (HLp8.out.turn ht9 hT9)
  have HE09 := Lib.hid (HE08.out.turn ht9)
  have HE19 := Lib.hid (HE18.out.turn ht9)
  have HE29 := Lib.hid (HE28.out.turn ht9)
  have HE39 : Hid (Elem w9 g A9 (L + 4) c9 (sealB Y)) := Elem.own ho9 (by rw [sealB_len, HYl.out]) (HYok.out.append (okB_four _)) (by rw [sealB_len, HYl.out]; omega) HLp8.out.tab.lt
  have HOl := Lib.hid HE08.out.ok
  have HOk2 := Lib.hid HE27.out.ok
  clear ho9 ht9 hT9 HCall3 HLp8 HE08 HE18 HE28 HE38 HE27
  go_upto_region 10 with fail
  obtain ⟨C, hC⟩ : ∃ C : Array Value, C = #[.slice A n c, .slice A6 (n + 4) c6, .slice A8 (2 + n + 4) c8, .slice A9 (L + 4) c9] := ⟨_, rfl⟩
  rw [← hC]
  obtain ⟨W, hW⟩ : ∃ V, V = w9.alloc (.cells C 22) := ⟨_, rfl⟩
  rw [← hW]
  have hbW : Below w9.heap.size w9 W := by rw [hW]; exact (Below.refl _ _).alloc (Nat.le_refl _) _
  have hRW : W.heap[w9.heap.size]? = some (.cells C 22 (0, 0)) := by rw [hW]; exact heap_alloc_new _ _
  have hEl : ∀ k : Nat, k < 4 → ∃ A n c X, C[k]? = some (.slice A n c) ∧ Elem W g A n c X ∧ (0 < k → ∃ l', OkB l' ∧ X = sealB l') := fun k hk => by
    match k, hk with
    | 0, _ => exact ⟨A, n, c, l, by rw [hC]; rfl, HE09.out.below hbW, fun h => absurd h (by omega)⟩
    | 1, _ => exact ⟨A6, n + 4, c6, sealB l, by rw [hC]; rfl, HE19.out.below hbW, fun _ => ⟨l, HOl.out, rfl⟩⟩
    | 2, _ => exact ⟨A8, 2 + n + 4, c8, sealB ([183, k5] ++ l), by rw [hC]; rfl, HE29.out.below hbW, fun _ => ⟨_, HOk2.out, rfl⟩⟩
    | 3, _ => exact ⟨A9, L + 4, c9, sealB Y, by rw [hC]; rfl, HE39.out.below hbW, fun _ => ⟨Y, HYok.out, rfl⟩⟩
  have hTW := (HLp9.out.below hbW).tab
  have HR := Lib.hid hRW
  have HEl := Lib.hid hEl
  have HBW := Lib.hid (HLp9.out.end_ HB5.out HG0.out |>.trans (hbW.mono (HLp9.out.end_ HB5.out HG0.out).size))
  have HLp : Hid (∃ d s t, d ≤ 1 ∧ s ≤ 3 + 0 ∧ t ≤ 3000 + 1000 * 0 ∧ LpAt W W g d s t) := ⟨1, _, _, Nat.le_refl _, Nat.le_refl _, by omega, TurnsIn.refl _ _ _, hTW, hTW.lt⟩
  have HRg : Hid (w9.heap.size ≠ g) := by show _ ≠ _; have := HLp9.out.tab.lt; omega
  clear hbW hRW hEl hTW hW HE09 HE19 HE29 HE39 HLp9 HB5 HOl HOk2 HYl HYok HN HC HA Hkd Hk5 h300 hn0 hbl hb4 hat
  generalize w9.heap.size = R at *
  go_loopw [55] (fun x55 wr => ∃ k : Nat, k ≤ 4 ∧ x55 = .int .i64 k ∧ Hid (∃ d s t, d ≤ 1 ∧ s ≤ 3 + k ∧ t ≤ 3000 + 1000 * k ∧ LpAt W wr g d s t)) (fun x55 _ => 5 - (intOf x55).toNat)
  case atStart => exact ⟨0, by omega, rfl, HLp.out⟩
  case round =>
    obtain ⟨k, hk, rfl, HLk⟩ := hrel
    clear HLp
    by_cases hlt : k < 4
    case neg =>
      obtain rfl : k = 4 := by omega
      clear hlt hk
      go_wp2
      go_ret
      obtain ⟨d, s', t', _, _, _, hLp⟩ := HLk.out
      exact ⟨rfl, hLp.end_ HBW.out HG0.out⟩
    case pos =>
    have hlt2 : (k : Int) < 4 := by omega
    have hk0 : (0 : Int) ≤ k := Int.natCast_nonneg _
    have q1 : decide ((k : Int) < 4) = true := decide_eq_true hlt2
    obtain ⟨Ak, nk, ck, X, hCk, hElk, hse⟩ := HEl.out k hlt
    obtain ⟨d, s', t', hd, hs', ht', hLp⟩ := HLk.out
    have hcell : wr.cell? ⟨R, k, none⟩ = some (.slice Ak nk ck) := (cell_of_row _ _ k _ _ _ (hLp.block HR.out HRg.out)).trans hCk
    have hE := hElk.turn hLp.ti
    have HE := Lib.hid hE
    have HSe := Lib.hid hse
    have HLp1 := Lib.hid hLp
    have HXl := Lib.hid (show nk ≤ 1000 by rw [hE.n_]; exact hE.len)
    have hX1 := hE.len
    have HDec := Lib.hid (fdecX_any g d s' t' hd Ak nk ck X wr.heap.size wr hLp.tab hE.n_ (by have := hE.len; have := hE.n_; omega) hE.nc (by omega) (by have := hE.len; have := hE.n_; omega) hE.rd (Nat.le_refl _) hE.ok hE.off)
    clear hCk hElk hse hLp hE HLk
    go_wp2_with fail
    refine HDec.out.mono ?_
    rintro e wa ⟨y, er, A', n', c', hdx, rfl, hn', ho, hta, d2, s2, t2, hd2, hs2, ht2, hTa⟩
    have HLpa := Lib.hid (HLp1.out.turn hta hTa)
    have HEa := Lib.hid (HE.out.turn hta)
    have HOa := Lib.hid ho
    have HNy := Lib.hid hn'
    have HDx := Lib.hid hdx
    have hD2 : Hid (d2 ≤ 1 ∧ s2 ≤ 3 + (k + 1) ∧ t2 ≤ 3000 + 1000 * (k + 1)) := by
      refine ⟨hd2, by omega, ?_⟩
      omega
    clear hdx hn' ho hta hTa hd2 hs2 ht2 hd hs' ht' HDec HLp1 HE hcell hX1
    go_upto_region 13 with (first | (refine wpList_store_row rfl _ _ _ rfl wa.heap.size _ rfl rfl _ _ (heap_alloc_new _ _) Tryz.infoF rfl (by kernel_rfl) ?_) | fail)
    try rw [act_put0]
    obtain ⟨wb, hwb⟩ : ∃ V, V = (wa.alloc (.cells #[.int .u8 0, .int .u8 0, .int .u8 0, .int .u64 0, .int .u64 0, .bool false, .int .u8 0, .int .u64 0, .int .u64 0, .string ⟨#[]⟩, .slice none 0 0, .int .u8 0, .int .u8 0, .int .i64 0, .int .u8 0, .int .u8 0, .int .u64 0, .int .u64 0, .int .u64 0, .int .u64 0, .int .u64 0] 42)).setRow wa.heap.size #[.int .u8 y.k, .int .u8 y.f, .int .u8 y.t, .int .u64 y.e, .int .u64 y.q, .bool y.i.g, .int .u8 y.i.o, .int .u64 y.i.q, .int .u64 y.i.t, .string y.i.r, .slice A' n' c', .int .u8 y.i.s, .int .u8 y.i.p, .int .i64 y.i.v, .int .u8 y.i.w, .int .u8 y.i.ga, .int .u64 y.i.gf, .int .u64 y.i.gt, .int .u64 y.c, .int .u64 y.b, .int .u64 y.l] := ⟨_, rfl⟩
    rw [← hwb]
    have hbb : Below wa.heap.size wa wb := by rw [hwb]; exact below_setRow ((Below.refl _ _).alloc (Nat.le_refl _) _) (Nat.le_refl _) _
    have hFb : wb.heap[wa.heap.size]? = some (.cells #[.int .u8 y.k, .int .u8 y.f, .int .u8 y.t, .int .u64 y.e, .int .u64 y.q, .bool y.i.g, .int .u8 y.i.o, .int .u64 y.i.q, .int .u64 y.i.t, .string y.i.r, .slice A' n' c', .int .u8 y.i.s, .int .u8 y.i.p, .int .i64 y.i.v, .int .u8 y.i.w, .int .u8 y.i.ga, .int .u64 y.i.gf, .int .u64 y.i.gt, .int .u64 y.c, .int .u64 y.b, .int .u64 y.l] 42 (0, 0)) := by rw [hwb]; exact setRow_heap _ _ _ _ _ _ (heap_alloc_new _ _)
    have HLpb := Lib.hid (HLpa.out.below hbb)
    have HEb := Lib.hid (HEa.out.below hbb)
    have HRy := Lib.hid ((RdP.of_own HOa.out).below hbb |>.more hbb.size)
    have HFb := Lib.hid hFb
    have HFl := Lib.hid (Array.getElem?_eq_some_iff.1 hFb).1
    clear hwb hbb hFb HLpa HEa HOa
    generalize wa.heap.size = P at *
    by_cases her : er = 0
    case pos =>
      have q2 : ((er : Int) == 0) = true := by rw [beq_iff_eq]; omega
      have hdx := HDx.out
      rw [her] at hdx
      obtain ⟨hy1, hy2, hy3, hy4⟩ := decX_back HEb.out.ok (by have := HEb.out.len; omega) hdx
      have hml : n' ≤ maxLen := by rw [HNy.out]; have := hy4.l; unfold maxLen; omega
      obtain ⟨r1, hr1⟩ : ∃ r : Value, r = .agg #[.int .u8 y.k, .int .u8 y.f, .int .u8 y.t, .int .u64 y.e, .int .u64 y.q, .bool y.i.g, .int .u8 y.i.o, .int .u64 y.i.q, .int .u64 y.i.t, .string y.i.r, .slice A' n' c', .int .u8 y.i.s, .int .u8 y.i.p, .int .i64 y.i.v, .int .u8 y.i.w, .int .u8 y.i.ga, .int .u64 y.i.gf, .int .u64 y.i.gt, .int .u64 y.c, .int .u64 y.b, .int .u64 y.l] := ⟨_, rfl⟩
      have HR1 := Lib.hid hr1
      have HRV := Lib.hid (show ∀ V, Below wb.heap.size wb V → RdP V V.heap.size A' y.i.l from fun V hV => (HRy.out.below hV).more hV.size)
      have HMF := Lib.hid (show ∀ V, Below wb.heap.size wb V → V.heap[P]? = some (.cells #[.int .u8 y.k, .int .u8 y.f, .int .u8 y.t, .int .u64 y.e, .int .u64 y.q, .bool y.i.g, .int .u8 y.i.o, .int .u64 y.i.q, .int .u64 y.i.t, .string y.i.r, .slice A' n' c', .int .u8 y.i.s, .int .u8 y.i.p, .int .i64 y.i.v, .int .u8 y.i.w, .int .u8 y.i.ga, .int .u64 y.i.gf, .int .u64 y.i.gt, .int .u64 y.c, .int .u64 y.b, .int .u64 y.l] 42 (0, 0)) from fun V hV => (hV.block _ HFl.out).trans HFb.out)
      have HKc := Lib.hid (show ∀ V, Below wb.heap.size wb V → Calls Tryz.prog 10 #[r1] V fun e w' => e = .returned (.int .i64 0) ∧ Below V.heap.size V w' from fun V hV => by
        rw [hr1]; exact fcheck_any y A' n' c' hy3 hy1 HNy.out hml V (HRV.out _ hV))
      have HKe := Lib.hid (show ∀ V, Below wb.heap.size wb V → Calls Tryz.prog 6 #[r1] V fun e w' => ∃ v', e = .returned v' ∧ w'.ownsRow V.heap.size 5 1 v' (frB y).length (cellsB (frB y)) ∧ Below V.heap.size V w' from fun V hV => by
        rw [hr1]; exact fref_any y A' n' c' hy3 hy4 HNy.out V (HRV.out _ hV))
      have HCv := Lib.hid (show ∀ V, Below wb.heap.size wb V → (convert 22 9 (.slice Ak nk ck)).run Tryz.prog V = .ok (.string (strB (frB y))) V from fun V hV => by
        rw [← hy2]; exact conv_any (HEb.out.rd.below hV) HEb.out.n_ HEb.out.nil)
      clear hdx hy1 hy2 hy3 hy4 hml hr1 her HRy HEb HDx HNy
      go_upto_region 14 with fail
      clear q2
      refine wp_region_noPanic ?_
      refine wp_region_held_drew (S := (fun V => Below wb.heap.size wb V)) (by kernel_rfl) ?_ (fun hHeld => ?_)
      · exact (Below.refl _ _).drew
      refine heldTake (i := 0) (v := r1) rfl (by kernel_rfl) (by kernel_rfl) (by kernel_rfl) (fun _ _ _ h => h) (Or.inl ⟨by rfl, ?_⟩) (by assumption) ?_
      · (intro w hSw; rw [HR1.out]; exact exec_load_row 42 _ rfl P rfl _ _ _ _ (HMF.out _ hSw) Tryz.underlying42 rfl Tryz.infoF)
      try simp only [heldPut, List.set]
      refine heldOne (i := 1) rfl (by kernel_rfl) (fun K hK => ?_)
      go_simp
      refine (HKc.out _ hHeld).mono ?_
      rintro e V32 ⟨rfl, hb⟩
      go_wp2_with fail
      refine hK.out _ _ ?_ (fun hHeld => ?_)
      · exact hHeld.trans (hb.mono hHeld.size)
      clear hK K hb
      try simp only [heldPut, List.set]
      refine heldTake (i := 2) (v := ?_) rfl (by kernel_rfl) (by kernel_rfl) (by kernel_rfl) (fun _ _ _ h => h) (Or.inl ⟨by rfl, ?_⟩) (by assumption) ?_
      rotate_left
      · (intro w hSw; (try dsimp only at hSw); go_simp; try with_reducible rfl)
      try simp only [heldPut, List.set]
      refine heldTake (i := 3) (v := ?_) rfl (by kernel_rfl) (by kernel_rfl) (by kernel_rfl) (fun _ _ _ h => h) (Or.inl ⟨by rfl, ?_⟩) (by assumption) ?_
      rotate_left
      · (intro w hSw; (try dsimp only at hSw); go_simp; try with_reducible rfl)
      try simp only [heldPut, List.set]
      refine heldTake (i := 4) (v := r1) rfl (by kernel_rfl) (by kernel_rfl) (by kernel_rfl) (fun _ _ _ h => h) (Or.inl ⟨by rfl, ?_⟩) (by assumption) ?_
      · (intro w hSw; rw [HR1.out]; exact exec_load_row 42 _ rfl P rfl _ _ _ _ (HMF.out _ hSw) Tryz.underlying42 rfl Tryz.infoF)
      try simp only [heldPut, List.set]
      refine heldTake (i := 7) (v := ?_) rfl (by kernel_rfl) (by kernel_rfl) (by kernel_rfl) (fun _ _ _ h => h) (Or.inl ⟨by rfl, ?_⟩) (by assumption) ?_
      rotate_left
      · (intro w hSw; (try dsimp only at hSw); go_simp; try with_reducible rfl)
      try simp only [heldPut, List.set]
      refine heldTake (i := 8) (v := ?_) rfl (by kernel_rfl) (by kernel_rfl) (by kernel_rfl) (fun _ _ _ h => h) (Or.inl ⟨by rfl, ?_⟩) (by assumption) ?_
      rotate_left
      · (intro w hSw; have k := HCv.out _ hSw; clear hSw; (try dsimp only at k); go_simp; try with_reducible rfl)
      try simp only [heldPut, List.set]
      refine heldOne (i := 5) rfl (by kernel_rfl) (fun K hK => ?_)
      go_simp
      refine (HKe.out _ hHeld).mono ?_
      rintro e V34 ⟨v4, rfl, ho4, hb⟩
      have HO4 := Lib.hid ho4
      clear ho4
      go_wp2_with fail
      refine hK.out _ _ ?_ (fun hHeld => ?_)
      · exact hHeld.trans (hb.mono hHeld.size)
      clear hK K
      try simp only [heldPut, List.set]
      refine heldMore (S2 := fun V => Below wb.heap.size wb V ∧ Below V34.heap.size V34 V) (fun _ h => h.1) ?_
      replace hHeld : Below wb.heap.size wb V34 ∧ Below V34.heap.size V34 V34 := ⟨hHeld, Below.refl _ _⟩
      clear hb
      refine heldTake (i := 6) (v := ?_) rfl (by kernel_rfl) (by kernel_rfl) (by kernel_rfl) (fun _ _ _ h => h) (Or.inl ⟨by rfl, ?_⟩) (by assumption) ?_
      rotate_left
      · (intro w hSw; have k := conv_own (own_below HO4.out hSw.2); clear hSw; (try dsimp only at k); go_simp; try with_reducible rfl)
      try simp only [heldPut, List.set]
      refine heldTake (i := 9) (v := ?_) rfl (by kernel_rfl) (by kernel_rfl) (by kernel_rfl) (fun _ _ _ h => h) (Or.inl ⟨by rfl, ?_⟩) (by assumption) ?_
      rotate_left
      · (intro w hSw; (try dsimp only at hSw); go_simp; try with_reducible rfl)
      try simp only [heldPut, List.set]
      refine heldTake (i := 10) (v := ?_) rfl (by kernel_rfl) (by kernel_rfl) (by kernel_rfl) (fun _ _ _ h => h) (Or.inl ⟨by rfl, ?_⟩) (by assumption) ?_
      rotate_left
      · (intro w hSw; (try dsimp only at hSw); go_simp; try with_reducible rfl)
      try simp only [heldPut, List.set]
      refine wpAnyH_done (by kernel_rfl) ?_ _
      refine NoPanic.normal ?_
      have HLpc := Lib.hid (HLpb.out.below hHeld.1)
      clear hHeld HO4
      go_wp2_with fail
      exact ⟨⟨k + 1, by omega, by go_num, ⟨d2, s2, t2, hD2.out.1, hD2.out.2.1, hD2.out.2.2, HLpc.out⟩⟩, by simp [intOf]; omega⟩
    case neg =>
      have q2 : ((er : Int) == 0) = false := by rw [beq_eq_false_iff_ne]; omega
      obtain rfl := decX_zero HDx.out her
      have hX3 : X.length < 8 → er = 3 := decX_less HDx.out
      have hX10 : 0 < k → er ≠ 10 := fun h => by
        obtain ⟨l', hl', e⟩ := HSe.out h
        have h2 := HDx.out
        rw [e] at h2
        exact decX_sealed hl' h2
      have HNk := Lib.hid HEb.out.n_
      have HX3 := Lib.hid hX3
      have HX10 := Lib.hid hX10
      have HKs := Lib.hid ((frameSame_any zeroF zeroF A' n' c' none 0 0 wb HNy.out rfl (by rw [HNy.out]; decide) (HRy.out) RdP.none_).mono (fun e w' h => (⟨by rw [h.1, sameF_refl], h.2⟩ : e = .returned (.bool true) ∧ Below wb.heap.size wb w')))
      clear hX3 hX10 her HRy HEb HDx HSe
      go_wp2_with (first | (refine wpList_load_row rfl _ _ rfl P rfl _ _ _ _ HFb.out Tryz.underlying42 rfl (by kernel_rfl) ?_) | fail)
      refine HKs.out.mono ?_
      rintro e wc ⟨rfl, hbc⟩
      have HLpc := Lib.hid (HLpb.out.below hbc)
      clear hbc HKs q2
      have hfin : Hid (∃ d s t, d ≤ 1 ∧ s ≤ 3 + (k + 1) ∧ t ≤ 3000 + 1000 * (k + 1) ∧ LpAt W wc g d s t) := ⟨d2, s2, t2, hD2.out.1, hD2.out.2.1, hD2.out.2.2, HLpc.out⟩
      by_cases h8 : nk < 8
      case pos =>
        have q3 : decide ((nk : Int) < 8) = true := decide_eq_true (by omega)
        obtain rfl : er = 3 := HX3.out (by rw [← HNk.out]; exact h8)
        clear h8
        by_cases hk1 : k = 0
        · have q4 : ¬ 0 < k := by omega
          have Hk1 := Lib.hid hk1
          clear hk1
          go_wp2_with fail
          exact ⟨⟨k + 1, by omega, by go_num, hfin.out⟩, by simp [intOf]; omega⟩
        · have q4 : 0 < k := by omega
          go_wp2_with fail
          exact ⟨⟨k + 1, by omega, by go_num, hfin.out⟩, by simp [intOf]; omega⟩
      case neg =>
        have q3 : decide ((nk : Int) < 8) = false := decide_eq_false (by omega)
        clear h8
        by_cases hk1 : k = 0
        · have q4 : ¬ 0 < k := by omega
          have Hk1 := Lib.hid hk1
          clear hk1
          by_cases h3 : er = 3
          · have q5 : ((er : Int) == 3) = true := by rw [beq_iff_eq]; omega
            clear h3
            go_wp2_with fail
            exact ⟨⟨k + 1, by omega, by go_num, hfin.out⟩, by simp [intOf]; omega⟩
          · have q5 : ((er : Int) == 3) = false := by rw [beq_eq_false_iff_ne]; omega
            clear h3
            go_wp2_with fail
            exact ⟨⟨k + 1, by omega, by go_num, hfin.out⟩, by simp [intOf]; omega⟩
        · have q4 : 0 < k := by omega
          have hX10 := HX10.out (by omega)
          have q6 : ((er : Int) == 10) = false := by rw [beq_eq_false_iff_ne]; omega
          by_cases h3 : er = 3
          · have q5 : ((er : Int) == 3) = true := by rw [beq_iff_eq]; omega
            clear h3 hX10
            go_wp2_with fail
            exact ⟨⟨k + 1, by omega, by go_num, hfin.out⟩, by simp [intOf]; omega⟩
          · have q5 : ((er : Int) == 3) = false := by rw [beq_eq_false_iff_ne]; omega
            clear h3 hX10
            go_wp2_with fail
            exact ⟨⟨k + 1, by omega, by go_num, hfin.out⟩, by simp [intOf]; omega⟩
end Go.Proofs.YtnagmopejblegaaGreat.frameBytes
