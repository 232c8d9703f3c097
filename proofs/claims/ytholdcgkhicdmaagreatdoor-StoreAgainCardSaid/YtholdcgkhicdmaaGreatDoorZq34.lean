/- Several texts in one: StTkB. -/
import Derived.Test.YtholdcgkhicdmaaGreatDoorZq33
namespace Go.Proofs.YtholdcgkhicdmaaGreatDoor
open Go.RowKit
theorem bsX_step (k : Nat) (s : St) : (fun i => if i = k then (rU (bsH k s).2).1 else (bsX k s).h i) = (bsX (k + 1) s).h := by
 funext i
 show (if i = k then (rU (nR k (bsV s).2).2).1 else (nR k (bsV s).2).1.getD i 0) = ((nR k (bsV s).2).1 ++ [(rU (nR k (bsV s).2).2).1]).getD i 0
 have hl := nR_len k (bsV s).2
 rw [List.getD_eq_getElem?_getD, List.getD_eq_getElem?_getD, List.getElem?_append]
 by_cases h1 : i = k
 ·subst h1
  rw [if_pos rfl, if_neg (by omega), hl, Nat.sub_self]
  rfl
 ·rw [if_neg h1]
  by_cases h2 : i < k
  ·rw [if_pos (by omega)]
  ·rw [if_neg (by omega), List.getElem?_eq_none (by omega), List.getElem?_eq_none (by simp; omega)]
theorem takeR_s9 : Sticks takeR := (rB_s.bnd fun g => itG_s 12 8 8 16 g).bnd fun x => chkR_s x
theorem entOk_mk {w : World} {S : Nat → Prop} {i c : Nat} {x : It} {A : Option Addr} (hm : Mod x) (hi : i < 18446744073709551616) (hn : A = none → x.l.length = 0) (hr : RdP w w.heap.size A x.l) (ha : ∀ a, A = some a → 0 < x.l.length → ¬ S a.block) : EntOk w S ⟨i, x, A, c⟩ :=
 ⟨hm.ok, hm.sh, hm.ln, hm.lb, hi, hn, hr, ha⟩
theorem own_nil2 {w : World} {base : Nat} {e : TypeId} {A : Option Addr} {n c : Nat} {xs : List Value} (h : w.ownsRow base e 2 (.slice A n c) n xs) (hA : A = none) : n = 0 := by
 rcases h.2 with ⟨_, e2⟩ | ⟨g', cap, cur, e1, _⟩
 ·exact e2
 ·rw [hA] at e1
  injection e1 with e1
  cases e1
theorem RdT.okB {w : World} {g : Nat} {s : St} (h : RdT w g s) : OkB s.1 := Rdr.ok h
theorem rU_short {w w' : World} {g : Nat} {s : St} (h : RdT w g s) (h' : RdT w' g (rU s).2) : (rU s).2.1.length ≤ s.1.length := by
 obtain ⟨l, er⟩ := s
 by_cases he : er = 0
 ·subst he
  by_cases h0 : (rU (l, 0)).2.2 = 0
  ·exact Nat.le_of_lt (rU_less h.okB h0)
  ·rw [h'.bare h0]
   exact Nat.zero_le _
 ·have e : (rU (l, er)).2 = (l, er) := rU_s l er he
  rw [e]
  exact Nat.le_refl _
def base3 (a b c : Nat) : List Value := [.int .u64 a, .int .u64 b, .int .u64 c, .int .u64 0, .int .u64 0, .int .u64 0, .int .u64 0, .int .u64 0, .int .u64 0, .int .u64 0, .int .u64 0, .int .u64 0, .int .u64 0, .int .u64 0, .int .u64 0, .int .u64 0, .int .u64 0, .int .u64 0, .int .u64 0, .int .u64 0, .int .u64 0, .int .u64 0, .int .u64 0, .int .u64 0, .int .u64 0, .int .u64 0, .int .u64 0, .int .u64 0, .int .u64 0, .int .u64 0, .int .u64 0, .int .u64 0, .int .u64 0, .int .u64 0, .int .u64 0, .slice none 0 0]
theorem base3_V (a b c : Nat) (h : Nat → Nat) (hh : ∀ i, h i = 0) : BsV (base3 a b c) ⟨0, a, b, c, h⟩ (.slice none 0 0) := by
 refine ⟨rfl, rfl, rfl, rfl, fun i hi => ?_, rfl⟩
 show _ = some (Value.int .u64 ((h i : Nat) : Int))
 rw [hh i]
 have : ∀ i, i < 32 → (base3 a b c)[3 + i]? = some (.int .u64 0) := by
  intro i hi
  have e : base3 a b c = [.int .u64 (a : Int), .int .u64 b, .int .u64 c] ++ (List.replicate 32 (.int .u64 0) ++ [.slice none 0 0]) := rfl
  rw [e, List.getElem?_append_right (by simp), List.getElem?_append_left (by simp; omega), List.getElem?_replicate, if_pos (by simp; omega)]
 exact this i hi
theorem base3_one (a b c : Nat) : (base3 a b c).toArray.all (·.oneCell') = true := (base3_V a b c (fun _ => 0) (fun _ => rfl)).one
theorem base3_info (a b c : Nat) : (Tryz.prog.info? 63).map (·.size) = some (base3 a b c).toArray.size := Tryz.infoBs
structure TkE (w0 w : World) (v : Value) (M : List Ett) : Prop where
 own : w.ownsRow w0.heap.size 74 14 v M.length (cellsE M)
 ok : ∀ e ∈ M, EntOk w (fun k => v.ownBlock = some k) e
 new : ∀ e ∈ M, LabNew w0.heap.size e
theorem TkE.only {w0 w w' : World} {v : Value} {M : List Ett} {T : Nat → Prop} (h : TkE w0 w v M) (ho : Only T w w') (hT : ∀ k, T k → k < w0.heap.size ∨ w.heap.size ≤ k) (_ : w0.heap.size ≤ w.heap.size) : TkE w0 w' v M := by
 refine ⟨ho.own h.own (fun k hk e => ?_), fun e he => (h.ok e he).only ho (fun a ha h0 e' => ?_) (fun _ h => .inl h), h.new⟩
 ·have h1 := h.own.lt k hk
  rcases hT k e with h2 | h2 <;> omega
 ·have h1 := h.new e he a ha h0
  have h2 := rdP_lt (h.ok e he).rd ha h0
  rcases hT _ e' with h3 | h3 <;> omega
theorem rU_lt {s : St} (hok : OkB s.1) : (rU s).1 < 18446744073709551616 := by
 obtain ⟨l, er⟩ := s
 unfold rU lft
 split
 ·exact getU_lt l 0 0 hok (by omega) (by decide)
 ·exact (by decide : 0 < 18446744073709551616)
theorem own_ne_base {w : World} {b : Nat} {X : Sp} {v u : Value} {n base : Nat} {xs : List Value} (h : BsAt w b X u) (ho : w.ownsRow base 74 14 v n xs) : v.ownBlock ≠ some b := fun e => by
 obtain ⟨cs, h1, _⟩ := h.at_
 rcases ho.2 with ⟨rfl, _⟩ | ⟨g, cap, cur, rfl, _, h2, _⟩
 ·cases e
 ·injection e with e
  have e : g = b := e
  rw [e, h1] at h2
  injection h2 with h2
  injection h2 with _ h3 _
  exact absurd h3 (by decide)
set_option maxRecDepth 100000 in
set_option maxHeartbeats 4000000 in
theorem takeBase_any (g : Nat) (s : St) (w : World) (h : RdT w g s) (hlen : s.1.length ≤ 60000) :
  Calls Tryz.prog 152 #[.pointer (some ⟨g, 0, none⟩)] w fun e w' => ∃ (cs : List Value) (A : Option Addr) (c : Nat) (M : List Ett), e = .returned (.agg cs.toArray) ∧ BsV cs (bsX 32 s) (.slice A M.length c) ∧ ers M = (baseR s).1 ∧ TkE w w' (.slice A M.length c) M ∧ M.length ≤ 60001 ∧ RdT w' g (baseR s).2 ∧ w.grownBy w' (some g) ∧ (baseR s).2.1.length ≤ 60000 := by
 obtain ⟨N1, s1, h1⟩ : ∃ n r, rU s = (n, r) := ⟨_, _, rfl⟩
 obtain ⟨N2, s2, h2⟩ : ∃ n r, rU s1 = (n, r) := ⟨_, _, rfl⟩
 obtain ⟨N3, s3, h3⟩ : ∃ n r, rU s2 = (n, r) := ⟨_, _, rfl⟩
 have hX : ∀ k, bsX k s = ⟨0, N1, N2, N3, fun i => (nR k s3).1.getD i 0⟩ := fun k => by
  show (⟨0, (rU s).1, (rU (rU s).2).1, (rU (rU (rU s).2).2).1, fun i => (nR k (rU (rU (rU s).2).2).2).1.getD i 0⟩ : Sp) = _
  rw [h1, h2, h3]
 have t1 := fun W H => tk_uint g s W H
 have t2 := fun W H => tk_uint g s1 W H
 have t3 := fun W H => tk_uint g s2 W H
 rw [h1] at t1
 rw [h2] at t2
 rw [h3] at t3
 have HT1 := Lib.hid t1
 have HT2 := Lib.hid t2
 have HT3 := Lib.hid t3
 obtain ⟨W, hW⟩ : ∃ W, W = w.alloc (.cells zeroBase 63) := ⟨_, rfl⟩
 have hb : Below w.heap.size w W := by rw [hW]; exact (Below.refl _ _).alloc (Nat.le_refl _) _
 have hc : W.heap[w.heap.size]? = some (.cells zeroBase 63 (0, 0)) := by rw [hW]; exact heap_alloc_new _ _
 have hgl := h.lt
 have HW := Lib.hid hW
 have HB := Lib.hid hb
 have HC := Lib.hid hc
 have HR := Lib.hid (h.below hb)
 clear hW hb hc t1 t2 t3 h
 go_enter Tryz.func152, Tryz.ntmps152
 go_upto_region 1 with fail
 have hw := HW.out
 unfold zeroBase at hw
 rw [← hw]
 clear hw
 go_wp2_with fail
 refine (HT1.out W HR.out).mono ?_
 rintro _ w1 ⟨rfl, hr1, hg1⟩
 have HR1 := Lib.hid hr1
 have HG1 := Lib.hid hg1
 clear hr1 hg1 HT1
 go_wp2_with fail
 refine (HT2.out w1 HR1.out).mono ?_
 rintro _ w2 ⟨rfl, hr2, hg2⟩
 have HR2 := Lib.hid hr2
 have HG2 := Lib.hid (grownBy_trans HG1.out hg2)
 clear hr2 hg2 HT2
 go_wp2_with fail
 refine (HT3.out w2 HR2.out).mono ?_
 rintro _ w3 ⟨rfl, hr3, hg3⟩
 have HR3 := Lib.hid hr3
 have HG3 := Lib.hid (grownBy_trans HG2.out hg3)
 clear hr3 hg3 HT3
 go_upto_region 2 with (first | (refine wpList_store_row rfl _ _ _ rfl w3.heap.size (base3 N1 N2 N3).toArray rfl rfl _ _ (heap_alloc_new _ _) (base3_info N1 N2 N3) rfl (base3_one N1 N2 N3) ?_) | fail)
 obtain ⟨V, hV, hbx, hbV⟩ := boxB w3 zeroBase (base3 N1 N2 N3)
 unfold zeroBase at hV
 rw [← hV, act_put_no]
 obtain ⟨b3, hb3⟩ : ∃ g, g = w3.heap.size := ⟨_, rfl⟩
 rw [← hb3] at hbx ⊢
 have hww3 : w.heap.size < w3.heap.size := Nat.lt_of_lt_of_le ((Array.getElem?_eq_some_iff.1 HC.out).1) HG3.out.size
 have hb3w : w.heap.size < b3 := by rw [hb3]; exact hww3
 have hgV : w.grownBy V (some g) := grown_fresh (grownBy_trans (grown_below0 HB.out (some g)) HG3.out) (grown_below0 hbV none) (fun _ e => by cases e)
 have hcV : V.heap[w.heap.size]? = some (.cells zeroBase 63 (0, 0)) := (hbV.block _ hww3).trans ((HG3.out.block _ (Array.getElem?_eq_some_iff.1 HC.out).1 (by simp; omega)).trans HC.out)
 have hba : BsAt V b3 (bsX 0 s) (.slice none 0 0) := by rw [hX]; exact BsAt.of hbx (base3_V N1 N2 N3 _ (fun i => by show ([] : List Nat).getD i 0 = 0; rfl))
 have hrV := HR3.out.below hbV
 have HGV := Lib.hid hgV
 have HCV := Lib.hid hcV
 have hb3V : b3 < V.heap.size := hba.lt
 have hwV : w.heap.size ≤ V.heap.size := hgV.size
 have HBA := Lib.hid hba
 have HRV := Lib.hid hrV
 have hs3 : s3.1.length ≤ 60000 := by
  have q1 := rU_short HR.out (by rw [h1]; exact HR1.out)
  have q2 := rU_short HR1.out (by rw [h2]; exact HR2.out)
  have q3 := rU_short HR2.out (by rw [h3]; exact HR3.out)
  rw [h1] at q1
  rw [h2] at q2
  rw [h3] at q3
  exact Nat.le_trans q3 (Nat.le_trans q2 (Nat.le_trans q1 hlen))
 have HS3 := Lib.hid hs3
 have HXX := Lib.hid hX
 have H123 := Lib.hid (⟨h1, h2, h3⟩ : _ ∧ _ ∧ _)
 clear hs3 hV hbx hbV hb3 hww3 hgV hcV hba hrV hX h1 h2 h3 HB HC HR HW HR1 HG1 HR2 HG2 HR3 HG3
 go_upto_region 3 with fail
 go_loopw [13] (fun iv wx => ∃ k : Nat, k ≤ 32 ∧ iv = .int .i64 k ∧ Hid (BsAt wx b3 (bsX k s) (.slice none 0 0)) ∧ Hid (RdT wx g (nR k s3).2) ∧ Hid (w.grownBy wx (some g)) ∧ Hid (wx.heap[w.heap.size]? = some (.cells zeroBase 63 (0, 0))) ∧ Hid (V.heap.size ≤ wx.heap.size) ∧ Hid ((nR k s3).2.1.length ≤ 60000)) (fun iv _ => 32 - (intOf iv).toNat)
 case atStart => exact ⟨0, by decide, rfl, HBA.out, HRV.out, HGV.out, HCV.out, Nat.le_refl _, HS3.out⟩
 case round =>
  obtain ⟨k, hk, rfl, HBA, HR, HG, HC, HV, HSN⟩ := hrel
  by_cases hlt : k < 32
  ·obtain ⟨x, s4, hx⟩ : ∃ x r, rU (nR k s3).2 = (x, r) := ⟨_, _, rfl⟩
   have t4 := fun W H => tk_uint g (nR k s3).2 W H
   rw [hx] at t4
   have HT := Lib.hid (t4 wr HR.out)
   have HX := Lib.hid hx
   clear t4 hx
   go_wp2_with fail
   refine HT.out.mono ?_
   rintro _ w5 ⟨rfl, hr5, hg5⟩
   have hgb : b3 ≠ g := by omega
   have hba5 : BsAt w5 b3 (bsX k s) (.slice none 0 0) := HBA.out.as (hg5.block _ HBA.out.lt (by simp; omega))
   have c3 := hba5.cell.2.2.2.1 k hlt
   have f3 := hba5.fz (3 + k)
   have hhk : (fun i => if i = k then x else (bsX k s).h i) = (bsX (k + 1) s).h := by
    have h5 := bsX_step k s
    have e : (rU (bsH k s).2).1 = x := by
     show (rU (nR k (rU (rU (rU s).2).2).2).2).1 = x
     rw [H123.out.1, H123.out.2.1, H123.out.2.2, HX.out]
    rw [e] at h5
    exact h5
   have hba6 : BsAt (w5.setCell ⟨b3, 3 + k, none⟩ (.int .u64 (x : Int))) b3 (bsX (k + 1) s) (.slice none 0 0) := by
    have h6 := hba5.set (X' := { bsX k s with h := fun i => if i = k then x else (bsX k s).h i }) (fun cs h => h.setH hlt x)
    rw [hhk] at h6
    exact h6
   have hr6 : RdT (w5.setCell ⟨b3, 3 + k, none⟩ (.int .u64 (x : Int))) g (nR (k + 1) s3).2 := by
    have e : (nR (k + 1) s3).2 = s4 := by show (rU (nR k s3).2).2 = s4; rw [HX.out]
    rw [e]
    exact hr5.setCell (by omega) _
   have hg6 : w.grownBy (w5.setCell ⟨b3, 3 + k, none⟩ (.int .u64 (x : Int))) (some g) := grown_fresh (grownBy_trans HG.out hg5) (grown_set w5 b3 _ _) (fun j e => by cases e; omega)
   have hc6 : (w5.setCell ⟨b3, 3 + k, none⟩ (.int .u64 (x : Int))).heap[w.heap.size]? = some (.cells zeroBase 63 (0, 0)) := (heap_setCell_other _ _ _ _ (by simp; omega)).trans ((hg5.block _ (Array.getElem?_eq_some_iff.1 HC.out).1 (by simp; omega)).trans HC.out)
   have HBA6 := Lib.hid hba6
   have HR6 := Lib.hid hr6
   have HG6 := Lib.hid hg6
   have HC6 := Lib.hid hc6
   have hsh : (nR (k + 1) s3).2.1.length ≤ 60000 := by
    have e : (nR (k + 1) s3).2 = s4 := by show (rU (nR k s3).2).2 = s4; rw [HX.out]
    have q := rU_short HR.out (by rw [HX.out]; exact hr5)
    rw [HX.out] at q
    rw [e]
    exact Nat.le_trans q HSN.out
   have HSH := Lib.hid hsh
   have HV6 : Hid (V.heap.size ≤ (w5.setCell ⟨b3, 3 + k, none⟩ (.int .u64 (x : Int))).heap.size) := by show _ ≤ _; rw [World.size_setCell]; exact Nat.le_trans HV.out hg5.size
   clear hsh hr5 hg5 hba5 hhk hba6 hr6 hg6 hc6 HT
   go_wp2
   go_roundw
   case rel => exact ⟨k + 1, by omega, by go_num, HBA6.out, HR6.out, HG6.out, HC6.out, HV6.out, HSH.out⟩
   case measure => simp [intOf]; omega
  ·have HK : Hid (k = 32) := by show k = 32; omega
   have d0 : decide ((k : Int) < 32) = false := decide_eq_false (by omega)
   obtain ⟨N4, s5, h4⟩ : ∃ x r, rU (nR k s3).2 = (x, r) := ⟨_, _, rfl⟩
   have hbase : baseR s = entsR N4 [] s5 := by
    have hk := HK.out
    subst hk
    unfold baseR bsC bsH bsV bsA bsN
    rw [H123.out.1, H123.out.2.1, H123.out.2.2, h4]
   have t4 := fun W H => tk_uint g (nR k s3).2 W H
   rw [h4] at t4
   have HT := Lib.hid (t4 wr HR.out)
   have HBASE := Lib.hid hbase
   have H4 := Lib.hid h4
   clear t4 h4 hbase
   go_wp2_with fail
   refine HT.out.mono ?_
   rintro _ w5 ⟨rfl, hr5, hg5⟩
   have hgb : b3 ≠ g := by omega
   have HBA5 : Hid (BsAt w5 b3 (bsX k s) (.slice none 0 0)) := HBA.out.as (hg5.block _ HBA.out.lt (by simp; omega))
   have HR5 := Lib.hid hr5
   have HG5 := Lib.hid (grownBy_trans HG.out hg5)
   have HC5 := Lib.hid ((hg5.block _ (Array.getElem?_eq_some_iff.1 HC.out).1 (by simp; omega)).trans HC.out)
   have hN4 : N4 < 18446744073709551616 := by have := rU_lt HR.out.okB; rw [H4.out] at this; exact this
   have hs5 : s5.1.length ≤ 60000 := by
    have q := rU_short HR.out (by rw [H4.out]; exact hr5)
    rw [H4.out] at q
    exact Nat.le_trans q HSN.out
   have HV5 : Hid (V.heap.size ≤ w5.heap.size) := Nat.le_trans HV.out hg5.size
   have HTK0 : Hid (TkE V w5 (.slice none 0 0) []) := ⟨World.ownsRow_nil _ _ _ _, fun e he => (by cases he), fun e he => (by cases he)⟩
   clear hr5 hg5 HT HBA HR HG HC HGV HCV HRV
   go_upto_region 8 with fail
   go_loopw [5] (fun jv wx => ∃ (j c : Nat) (A : Option Addr) (M : List Ett) (s' : St), jv = .int .u64 j ∧ Hid (entsR j (ers M) s' = entsR N4 [] s5) ∧ Hid (BsAt wx b3 (bsX k s) (.slice A M.length c)) ∧ Hid (TkE V wx (.slice A M.length c) M) ∧ Hid (RdT wx g s') ∧ Hid (w.grownBy wx (some g)) ∧ Hid (wx.heap[w.heap.size]? = some (.cells zeroBase 63 (0, 0))) ∧ Hid (M.length ≤ 60001) ∧ Hid (s'.2 = 0 → M.length + s'.1.length ≤ 60000) ∧ Hid (V.heap.size ≤ wx.heap.size) ∧ j ≤ N4) (fun jv _ => (intOf jv).toNat)
   case atStart => exact ⟨N4, 0, none, [], s5, rfl, rfl, HBA5.out, HTK0.out, HR5.out, HG5.out, HC5.out, (show ([] : List Ett).length ≤ 60001 by decide), fun _ => by simpa using hs5, HV5.out, Nat.le_refl _⟩
   case round =>
    obtain ⟨j, c, A, M, s', rfl, HE, HBA, HTK, HR, HG, HC, HM1, HM2, HVX, hjN⟩ := hrel
    by_cases hj : j = 0
    ·have hent : (ers M, s') = entsR N4 [] s5 := by
      rw [← HE.out, hj]
      rfl
     have hj0 : ¬ 0 < j := by omega
     have hj1 : decide (0 < j) = false := decide_eq_false hj0
     clear hj hs5
     obtain ⟨cs, hcs, hbs⟩ := HBA.out.at_
     have HCS := Lib.hid hcs
     have HBS := Lib.hid hbs
     have hone : cs.toArray.all (·.oneCell') = true := hbs.one
     clear hcs hbs
     go_wp2_with (first
      | (refine wpList_load_row rfl _ _ rfl b3 rfl _ _ _ _ HCS.out Tryz.underlying63 rfl HBS.out.infoA ?_)
      | (refine wpList_store_row rfl _ _ _ rfl w.heap.size cs.toArray rfl rfl _ _ HC.out HBS.out.infoA HBS.out.size36 hone ?_)
      | fail)
     have hon6 := onlyRow w.heap.size cs.toArray wr
     have hwl : w.heap.size < wr.heap.size := (Array.getElem?_eq_some_iff.1 HC.out).1
     have htk : TkE w (wr.setRow w.heap.size cs.toArray) (.slice A M.length c) M := by
      have h1 := HTK.out.only (T := fun q => q = w.heap.size) hon6 (fun q hq => .inl (by have hq : q = w.heap.size := hq; omega)) HVX.out
      exact ⟨ownB_mono h1.own hwV, h1.ok, fun e he a ha h0 => Nat.le_trans hwV (h1.new e he a ha h0)⟩
     refine bodyPost_ret (v := .agg cs.toArray) (results_cell_row rfl _ _ w.heap.size _ _ _ _ rfl (setRow_heap _ _ _ _ _ _ HC.out) Tryz.underlying63 rfl HBS.out.infoA) rfl
      ⟨cs, A, c, M, rfl, ?_, ?_, htk, HM1.out, ?_, grown_setRow HG.out (Nat.le_refl _) _, ?_⟩
     ·have hk := HK.out
      subst hk
      exact HBS.out
     ·rw [HBASE.out, ← hent]
     ·rw [HBASE.out, ← hent]
      exact HR.out.setRow (by omega) _
     ·rw [HBASE.out, ← hent]
      show s'.1.length ≤ 60000
      by_cases hz : s'.2 = 0
      ·have := HM2.out hz; omega
      ·rw [HR.out.bare hz]; exact Nat.zero_le _
    ·have h0 : 0 < j := by omega
     have HERR := Lib.hid (rerr_any g s'.1 (s'.2 : Nat) wr HR.out)
     go_wp2_with fail
     refine HERR.out.mono ?_
     rintro _ w6 ⟨rfl, rfl⟩
     by_cases hs0 : s'.2 = 0
     rotate_left
     ·have hent : (ers M, s') = entsR N4 [] s5 := by
       rw [← HE.out, entsR_err hs0]
      have d2 : ((s'.2 : Int) == 0) = false := by rw [beq_eq_false_iff_ne]; omega
      clear hj hs5 hs0
      obtain ⟨cs, hcs, hbs⟩ := HBA.out.at_
      have HCS := Lib.hid hcs
      have HBS := Lib.hid hbs
      have hone : cs.toArray.all (·.oneCell') = true := hbs.one
      clear hcs hbs
      go_wp2_with (first
       | (refine wpList_load_row rfl _ _ rfl b3 rfl _ _ _ _ HCS.out Tryz.underlying63 rfl HBS.out.infoA ?_)
       | (refine wpList_store_row rfl _ _ _ rfl w.heap.size cs.toArray rfl rfl _ _ HC.out HBS.out.infoA HBS.out.size36 hone ?_)
       | fail)
      have hon6 := onlyRow w.heap.size cs.toArray wr
      have hwl : w.heap.size < wr.heap.size := (Array.getElem?_eq_some_iff.1 HC.out).1
      have htk : TkE w (wr.setRow w.heap.size cs.toArray) (.slice A M.length c) M := by
       have h1 := HTK.out.only (T := fun q => q = w.heap.size) hon6 (fun q hq => .inl (by have hq : q = w.heap.size := hq; omega)) HVX.out
       exact ⟨ownB_mono h1.own hwV, h1.ok, fun e he a ha h0 => Nat.le_trans hwV (h1.new e he a ha h0)⟩
      refine bodyPost_ret (v := .agg cs.toArray) (results_cell_row rfl _ _ w.heap.size _ _ _ _ rfl (setRow_heap _ _ _ _ _ _ HC.out) Tryz.underlying63 rfl HBS.out.infoA) rfl
       ⟨cs, A, c, M, rfl, ?_, ?_, htk, HM1.out, ?_, grown_setRow HG.out (Nat.le_refl _) _, ?_⟩
      ·have hk := HK.out
       subst hk
       exact HBS.out
      ·rw [HBASE.out, ← hent]
      ·rw [HBASE.out, ← hent]
       exact HR.out.setRow (by omega) _
      ·rw [HBASE.out, ← hent]
       show s'.1.length ≤ 60000
       by_cases hz : s'.2 = 0
       ·have := HM2.out hz; omega
       ·rw [HR.out.bare hz]; exact Nat.zero_le _
     ·have d2 : ((s'.2 : Int) == 0) = true := by rw [beq_iff_eq]; omega
      go_upto_region 10 with fail
      obtain ⟨x, sA, hxA⟩ : ∃ x r, rU s' = (x, r) := ⟨_, _, rfl⟩
      obtain ⟨y, sB, hyB⟩ : ∃ x r, takeR sA = (x, r) := ⟨_, _, rfl⟩
      have hxlt : x < 18446744073709551616 := by have := rU_lt HR.out.okB; rw [hxA] at this; exact this
      have hstep : entsR j (ers M) s' = entsR (j - 1) (ers M ++ [⟨x, y, none, 0⟩]) sB := by
       obtain ⟨i, rfl⟩ : ∃ i, j = i + 1 := ⟨j - 1, by omega⟩
       rw [entsR_step hs0, hxA, hyB]
       rfl
      have t5 := fun W H => tk_uint g s' W H
      rw [hxA] at t5
      have t6 := fun W H => take_any g sA W H
      rw [hyB] at t6
      have HT5 := Lib.hid (t5 wr.drew (HR.out.below (Below.refl _ _).drew))
      have HT6 := Lib.hid t6
      have HSTEP := Lib.hid hstep
      have HXA := Lib.hid hxA
      have HYB := Lib.hid hyB
      have HXLT := Lib.hid hxlt
      have HJ := Lib.hid h0
      have HS0 := Lib.hid hs0
      obtain ⟨n, hn⟩ : ∃ n, n = M.length := ⟨_, rfl⟩
      have HN := Lib.hid hn
      rw [← hn] at HBA HTK HM1 HM2
      obtain ⟨v, hv⟩ : ∃ v, v = Value.slice A n c := ⟨_, rfl⟩
      rw [← hv] at HBA HTK
      obtain ⟨D, hD⟩ : ∃ D : Nat → Prop, D = fun k => k = g ∨ v.ownBlock = some k := ⟨_, rfl⟩
      have HDI : Hid (∀ k, k = g ∨ v.ownBlock = some k → D k) := fun k hk => by rw [hD]; exact hk
      have HGD : Hid (D g) := HDI.out g (.inl rfl)
      have HDO : Hid (∀ k, D k → k = g ∨ v.ownBlock = some k) := fun k hk => by rw [hD] at hk; exact hk
      have hDb : ¬ D b3 := fun e => (HDO.out _ e).elim hgb (own_ne_base HBA.out HTK.out.own)
      have hDw : ∀ k, D k → k ≠ w.heap.size := fun k hk e => (HDO.out k hk).elim (fun h => by omega) (fun h => by have := (HTK.out.own.lt k h).1; omega)
      have HC35 : Hid (∀ W, Only D wr W → W.cell? ⟨b3, 35, none⟩ = some v) := fun W hW => (hW.cell (p := ⟨b3, 35, none⟩) HBA.out.lt hDb).trans HBA.out.cell.2.2.2.2
      have HF35 : Hid (∀ W, Only D wr W → W.frozen? ⟨b3, 35, none⟩ = false) := fun W hW => (hW.frozen (p := ⟨b3, 35, none⟩) HBA.out.lt hDb).trans (HBA.out.fz 35)
      obtain ⟨i0, hi0, hz0, hz1, hz2⟩ := info_parts Tryz.infoEnt
      have hbl : b3 < wr.heap.size := HBA.out.lt
      have HDB := Lib.hid hDb
      have HDW := Lib.hid hDw
      have HVV := Lib.hid hv
      clear t5 t6 hstep hxA hyB hxlt hs0 h0 hn hv hD hDb hDw HERR
      refine wp_region_noPanic ?_
      refine keepBegin (S := fun W => Only D wr W) 10 (by kernel_rfl) ?_ (fun hHeld => ?_)
      ·exact Only.of_below ((Below.refl _ _).drew) _
      try simp only [keepPut, List.set, Nat.zero_add]
      refine kT 0 (v := ?_) [0] rfl (Or.inl ⟨by rfl, ?_⟩) ?_
      rotate_left
      ·(intro W hSw; (try dsimp only at hSw); have f2 := HC35.out W hSw; go_simp; try with_reducible rfl)
      try simp only [keepPut, List.set, Nat.zero_add]
      refine kT 1 (v := ?_) [1] rfl (Or.inl ⟨by rfl, ?_⟩) ?_
      rotate_left
      ·(intro W hSw; (try dsimp only at hSw); have f2 := HC35.out W hSw; go_simp; try with_reducible rfl)
      try simp only [keepPut, List.set, Nat.zero_add]
      refine kT 2 (v := ?_) [2] rfl (Or.inl ⟨by rfl, ?_⟩) ?_
      rotate_left
      ·(intro W hSw; (try dsimp only at hSw); have f2 := HC35.out W hSw; go_simp; try with_reducible rfl)
      try simp only [keepPut, List.set, Nat.zero_add]
      refine kT 4 (v := ?_) [4] rfl (Or.inl ⟨by rfl, ?_⟩) ?_
      rotate_left
      ·(intro W hSw; (try dsimp only at hSw); have f2 := HC35.out W hSw; go_simp; try with_reducible rfl)
      try simp only [keepPut, List.set, Nat.zero_add]
      refine keepAll (rs := [3]) (by kernel_rfl) (by simp) (AllReadyK.cons rfl (fun K hK => ?_) AllReadyK.nil)
      go_simp
      refine HT5.out.mono ?_
      rintro _ w7 ⟨rfl, hr7, hg7⟩
      have ho67 : Only D wr.drew w7 := Only.of_grown hg7 (fun k hk => by have e := Option.some.inj hk; rw [← e]; exact HGD.out)
      have ho0 : Only D wr wr.drew := Only.of_below ((Below.refl wr.heap.size wr).drew) D
      have hon7 : Only D wr w7 := ho0.trans ho67 (fun _ h => .inl h)
      have HR7 := Lib.hid hr7
      have HR7B := Lib.hid hr7
      have HLA0 : Hid (sA.1.length ≤ 100000) := by
       have h1 := HM2.out HS0.out
       have h2 := rU_short HR.out (by rw [HXA.out]; exact HR7B.out)
       rw [HXA.out] at h2
       have h2 : sA.1.length ≤ s'.1.length := h2
       show sA.1.length ≤ _
       omega
      have HG7 := Lib.hid (grownBy_trans (grown_below0 ((Below.refl wr.heap.size wr).drew) (some g)) hg7)
      clear hr7 hg7 HT5
      go_wp2_with fail
      refine hK.out _ _ (hon7) (fun hHeld => ?_)
      clear hK K
      try simp only [keepPut, List.set, Nat.zero_add]
      refine keepAll (rs := [5]) (by kernel_rfl) (by simp) (AllReadyK.cons rfl (fun K hK => ?_) AllReadyK.nil)
      go_simp
      refine (HT6.out w7 HR7.out).mono ?_
      rintro _ w8 ⟨A5, n5, c5, rfl, rfl, ho8, hr8, hg8⟩
      have ho78 : Only D w7 w8 := Only.of_grown hg8 (fun k hk => by have e := Option.some.inj hk; rw [← e]; exact HGD.out)
      have hon8 : Only D wr w8 := hon7.trans ho78 (fun _ h => .inl h)
      have HR8 := Lib.hid hr8
      have HG8 := Lib.hid (grownBy_trans HG7.out hg8)
      have HO8 := Lib.hid ho8
      have hl78 := hg8.size
      have hlr7 := hon7.size
      have hgw7 : g < w7.heap.size := Nat.lt_of_lt_of_le HR.out.lt hlr7
      clear hr8 hg8 ho8 hon7 HT6 HR7 ho67 ho0 ho78
      go_wp2_with fail
      refine hK.out _ _ (hon8) (fun hHeld => ?_)
      clear hK K
      try simp only [keepPut, List.set, Nat.zero_add]
      refine kT 6 (v := .agg #[.int .u64 (x : Int), .bool y.g, .int .u8 y.o, .int .u64 y.q, .int .u64 y.t, .string y.r, .slice A5 y.l.length c5, .int .u8 y.s, .int .u8 y.p, .int .i64 y.v, .int .u8 y.w, .int .u8 y.ga, .int .u64 y.gf, .int .u64 y.gt]) [6] rfl (Or.inl ⟨by rfl, ?_⟩) ?_
      ·(intro W hSw; first | (go_simp; done) | (go_simp; with_reducible rfl) | (go_simp; simp [List.zipIdx]; done) | (trace_state; go_simp; trace_state))
      try simp only [keepPut, List.set, Nat.zero_add]
      refine keepAll (rs := [7]) (by kernel_rfl) (by simp) (AllReadyK.cons rfl (fun K hK => ?_) AllReadyK.nil)
      go_simp
      obtain ⟨w9, hw9⟩ : ∃ V, V = w8.alloc (.cells #[.int .u64 (x : Int), .bool y.g, .int .u8 y.o, .int .u64 y.q, .int .u64 y.t, .string y.r, .slice A5 y.l.length c5, .int .u8 y.s, .int .u8 y.p, .int .i64 y.v, .int .u8 y.w, .int .u8 y.ga, .int .u64 y.gf, .int .u64 y.gt] 74) := ⟨_, rfl⟩
      have hsrc : Src w9 (some ⟨w8.heap.size, 0, none⟩) 1 14 (cellsE [⟨x, y, A5, c5⟩]) := by rw [hw9]; exact src_ent (e := ⟨x, y, A5, c5⟩) (heap_alloc_new w8 _)
      have hb89 : Below w8.heap.size w8 w9 := by rw [hw9]; exact (Below.refl _ _).alloc (Nat.le_refl _) _
      rw [← hw9]
      have hon9 : Only D wr w9 := hon8.trans (Only.of_below hb89 D) (fun _ h => .inl h)
      have ho9 := ownB_below HO8.out hb89
      clear hw9
      refine hK.out _ _ (hon9) (fun hHeld => ?_)
      clear hK K
      try simp only [keepPut, List.set, Nat.zero_add]
      refine keepAll (rs := [8]) (by kernel_rfl) (by simp) (AllReadyK.cons rfl (fun K hK => ?_) AllReadyK.nil)
      have hrow9 : w9.ownsRow V.heap.size 74 14 v n (cellsE M) := by
       have hne : ∀ k, v.ownBlock = some k → k ≠ g := fun k hk e => by have := (HTK.out.own.lt k hk).1; omega
       have h1 : Only (fun k => k = g) wr w8 := (Only.of_grown HG8.out (fun k hk => by have e := Option.some.inj hk; exact e.symm))
       have h2 : Only (fun k => k = g) wr w9 := h1.trans (Only.of_below hb89 _) (fun _ h => .inl h)
       have h3 := h2.own HTK.out.own hne
       rw [← HN.out] at h3
       exact h3
      have hM1 := HM1.out
      have hwr : V.heap.size ≤ wr.heap.size := HVX.out
      refine step_append_src rfl (.tmp 34) (.tmp 40) rfl (base := V.heap.size) Tryz.underlying61 hi0 hz0 hz1 hz2 rfl (by decide) rfl hrow9 rfl hsrc (cellsE_one _) (by unfold maxLen; omega) (by omega) (by have := hb89.size; omega) ?_
      intro vA wA hoA hgA hbA
      obtain ⟨AA, cA, rfl⟩ := own_slice hoA
      have hl89 := hb89.size
      have h9A : Only D w9 wA := ⟨hgA.os, hgA.tape, hgA.output, hgA.size, fun k hk hne => hgA.block k hk (fun e => hne (HDI.out k (.inr e.symm)))⟩
      have honA : Only D wr wA := hon9.trans h9A (fun _ h => .inl h)
      have hvA : ∀ k, (Value.slice AA (n + 1) cA).ownBlock = some k → v.ownBlock = some k ∨ w9.heap.size ≤ k := fun k hk => by
       rcases hbA with h' | h'
       ·rw [h'] at hk; exact .inl hk
       ·rw [h'] at hk; have hk := Option.some.inj hk; exact .inr (by omega)
      rw [← cellsE_append] at hoA
      have hg9 : wr.grownBy w9 (some g) := grown_fresh HG8.out (grown_below0 hb89 none) (fun _ e => by cases e)
      have hgrA : wr.grownBy wA (some g) ∨ True := .inr trivial
      have hgA : w9.grownBy wA v.ownBlock := hgA
      have hgwA : w.grownBy wA (some g) := grown_fresh (grownBy_trans HG.out hg9) hgA (fun q hq => by have := (HTK.out.own.lt q hq).1; omega)
      have hlabn : ∀ a, A5 = some a → w7.heap.size ≤ a.block ∧ a.block < w8.heap.size := fun a ha => HO8.out.lt a.block (by rw [ha]; rfl)
      have hvne : ∀ q, v.ownBlock = some q → q < wr.heap.size := fun q hq => (HTK.out.own.lt q hq).2
      have hMe : ∀ e ∈ M, EntOk wA (fun q => (Value.slice AA (n + 1) cA).ownBlock = some q) e := fun e he => by
       have h1 := HTK.out.ok e he
       have h2 := HTK.out.new e he
       refine h1.only honA (fun a ha h0 hk => ?_) (fun q hq => (hvA q hq).imp id (fun h => by omega))
       rcases HDO.out _ hk with h3 | h3
       ·have := h2 a ha h0; omega
       ·exact h1.ap a ha h0 h3
      have hmod : Mod y := by
       have h1 := takeR_mod (s := sA) (HR7B.out.okB) (by have := HLA0.out; omega)
       rw [HYB.out] at h1
       exact h1
      have hrd5 : RdP wA wA.heap.size A5 y.l := Only.rdP (T := fun q => v.ownBlock = some q) ⟨hgA.os, hgA.tape, hgA.output, hgA.size, fun q hq hne => hgA.block q hq (fun e => hne e.symm)⟩ (RdP.of_own ho9) (fun a ha _ e => by
       have h1 := hlabn a ha
       have h2 := hvne _ e
       omega)
      have hnil5 : A5 = none → y.l.length = 0 := fun e => own_nil2 HO8.out e
      have hap5 : ∀ a, A5 = some a → 0 < y.l.length → ¬ (Value.slice AA (n + 1) cA).ownBlock = some a.block := fun a ha _ hk => by
       have h1 := hlabn a ha
       rcases hvA _ hk with h2 | h2
       ·have := hvne _ h2; omega
       ·omega
      have hnew : EntOk wA (fun q => (Value.slice AA (n + 1) cA).ownBlock = some q) ⟨x, y, A5, c5⟩ := entOk_mk hmod HXLT.out hnil5 hrd5 hap5
      have htkA : TkE V wA (.slice AA (n + 1) cA) (M ++ [⟨x, y, A5, c5⟩]) := by
       have hml : (M ++ [(⟨x, y, A5, c5⟩ : Ett)]).length = n + 1 := by rw [List.length_append, HN.out]; rfl
       refine ⟨by rw [hml]; exact hoA, fun e he => ?_, fun e he => ?_⟩
       ·rcases List.mem_append.1 he with h1 | h1
        ·exact hMe e h1
        ·rw [List.mem_singleton] at h1; subst h1; exact hnew
       ·rcases List.mem_append.1 he with h1 | h1
        ·exact HTK.out.new e h1
        ·rw [List.mem_singleton] at h1; subst h1
         exact fun a ha _ => by have := hlabn a ha; omega
      have hrA : RdT wA g sB := (HR8.out.below hb89).kept hgA (fun q hq => by have := (HTK.out.own.lt q hq).1; omega)
      have hcA : wA.heap[w.heap.size]? = some (.cells zeroBase 63 (0, 0)) := (honA.block _ (Array.getElem?_eq_some_iff.1 HC.out).1 (fun e => HDW.out _ e rfl)).trans HC.out
      have hM0 := HM2.out HS0.out
      have hM1A : n + 1 ≤ 60001 := by omega
      have hM2A : sB.2 = 0 → (n + 1) + sB.1.length ≤ 60000 := fun hz => by
       have h1 : sA.2 = 0 := Classical.byContradiction fun hne => by
        have h2 := takeR_s9 sA.1 sA.2 hne
        rw [show (sA.1, sA.2) = sA from rfl, HYB.out] at h2
        have h3 : sB.2 = sA.2 := congrArg Prod.snd h2
        omega
       have h2 : sA.1.length < s'.1.length := by
        have h3 := rU_less (l := s'.1) HR.out.okB (by rw [show (s'.1, (0 : Nat)) = s' from by rw [← HS0.out], HXA.out]; exact h1)
        rw [show (s'.1, (0 : Nat)) = s' from by rw [← HS0.out], HXA.out] at h3
        exact h3
       have h4 : sB.1.length < sA.1.length := by
        have h5 := takeR_less (l := sA.1) HR7B.out.okB (by rw [show (sA.1, (0 : Nat)) = sA from by rw [← h1], HYB.out]; exact hz)
        rw [show (sA.1, (0 : Nat)) = sA from by rw [← h1], HYB.out] at h5
        exact h5
       omega
      have HGA := Lib.hid hgwA
      have HTKA := Lib.hid htkA
      have HRA := Lib.hid hrA
      have HCA := Lib.hid hcA
      have HM2A := Lib.hid hM2A
      have HM1A := Lib.hid hM1A
      have HONA := Lib.hid honA
      have HLA : Hid (b3 < wA.heap.size) := Nat.lt_of_lt_of_le hbl honA.size
      clear hnil5 hap5 hgrA hgwA hg9 hlabn hvne hMe hmod hrd5 hnew hM0 htkA hrA hcA hM2A hM1A hoA hgA hbA h9A hvA hrow9 hsrc hb89 hon8 hon9 ho9 hl78 hlr7 hgw7 hM1 hwr hl89
      refine hK.out _ _ (honA) (fun hHeld => ?_)
      clear hK K
      try simp only [keepPut, List.set, Nat.zero_add]
      refine kT 9 (v := ?_) [9] rfl (Or.inl ⟨by rfl, ?_⟩) ?_
      rotate_left
      ·(intro W hSw; (try dsimp only at hSw); go_simp; try with_reducible rfl)
      try simp only [keepPut, List.set, Nat.zero_add]
      refine keepLast rfl (by kernel_rfl) (fun K hK => ?_)
      have f2 := HC35.out wA HONA.out
      have f4 := HF35.out wA HONA.out
      go_simp
      refine hK.out _ _ ?_
      clear hK K
      try simp only [keepPut, List.set, Nat.zero_add]
      refine keepDone (by kernel_rfl) ?_ _
      refine NoPanic.normal ?_
      obtain ⟨wZ, hwZ⟩ : ∃ V, V = wA.setCell ⟨b3, 35, none⟩ (.slice AA (n + 1) cA) := ⟨_, rfl⟩
      rw [← hwZ]
      have hon35 : Only (fun q => q = b3) wA wZ := by rw [hwZ]; exact Only.setCell _ _ _ rfl
      have hml : (M ++ [(⟨x, y, A5, c5⟩ : Ett)]).length = n + 1 := by rw [List.length_append, HN.out]; rfl
      have hbaZ : BsAt wZ b3 (bsX k s) (.slice AA (M ++ [(⟨x, y, A5, c5⟩ : Ett)]).length cA) := by
       rw [hwZ, hml]
       exact (HBA.out.as (HONA.out.block _ HBA.out.lt HDB.out)).set (fun cs h => h.set35)
      have htkZ : TkE V wZ (.slice AA (M ++ [(⟨x, y, A5, c5⟩ : Ett)]).length cA) (M ++ [⟨x, y, A5, c5⟩]) := by
       rw [hml]
       exact HTKA.out.only hon35 (fun q hq => .inl (by have hq : q = b3 := hq; omega)) (by have := HONA.out.size; have := HVX.out; omega)
      have hrZ : RdT wZ g sB := by rw [hwZ]; exact HRA.out.setCell (by omega) _
      have hgZ : w.grownBy wZ (some g) := by rw [hwZ]; exact grown_fresh HGA.out (grown_set wA b3 35 _) (fun q e => by have e := Option.some.inj e; omega)
      have hcZ : wZ.heap[w.heap.size]? = some (.cells zeroBase 63 (0, 0)) := (hon35.block _ (Array.getElem?_eq_some_iff.1 HCA.out).1 (fun e => by have e : w.heap.size = b3 := e; omega)).trans HCA.out
      have heZ : entsR (j - 1) (ers (M ++ [(⟨x, y, A5, c5⟩ : Ett)])) sB = entsR N4 [] s5 := by
       rw [ers_append]
       exact HSTEP.out.symm.trans HE.out
      have hvZ : V.heap.size ≤ wZ.heap.size := by have := hon35.size; have := HONA.out.size; have := HVX.out; omega
      have hsub : IntKind.u64.wrap ((j : Int) - 1) = ((j - 1 : Nat) : Int) := by have := HJ.out; rw [IntKind.wrap_u64]; omega
      have HBZ := Lib.hid hbaZ
      have HTZ := Lib.hid htkZ
      have HRZ := Lib.hid hrZ
      have HGZ := Lib.hid hgZ
      have HCZ := Lib.hid hcZ
      have HEZ := Lib.hid heZ
      have HVZ := Lib.hid hvZ
      have HMZ1 : Hid ((M ++ [(⟨x, y, A5, c5⟩ : Ett)]).length ≤ 60001) := by show _ ≤ _; rw [hml]; exact HM1A.out
      have HMZ2 : Hid (sB.2 = 0 → (M ++ [(⟨x, y, A5, c5⟩ : Ett)]).length + sB.1.length ≤ 60000) := by rw [hml]; exact HM2A.out
      clear hwZ hon35 hml hbaZ htkZ hrZ hgZ hcZ heZ hvZ f2 f4 hHeld
      go_wp2
      go_roundw
      case rel => exact ⟨j - 1, cA, AA, M ++ [(⟨x, y, A5, c5⟩ : Ett)], sB, by go_num, HEZ.out, HBZ.out, HTZ.out, HRZ.out, HGZ.out, HCZ.out, HMZ1.out, HMZ2.out, HVZ.out, by omega⟩
      case measure => have := HJ.out; simp [intOf]; omega
end Go.Proofs.YtholdcgkhicdmaaGreatDoor