/- Several texts in one: SpChk, SpOf, SpBasP. -/
import Derived.Test.YtholdcgkhicdmaaGreatDoorZq19
namespace Go.Proofs.YtholdcgkhicdmaaGreatDoor
open Go.RowKit
theorem run_index32 (cs : Array Value) (k : Nat) (v : Value) (hk : k < 32) (hv : cs[k]? = some v) (W : World) : (Instr.index 60 (.agg cs) (.int .i64 (k : Int))).run Tryz.prog W = .ok v W := by
 have hk2 : (0 : Int) ≤ (k : Int) ∧ (k : Int) < ((32 : Nat) : Int) := by omega
 simp [Instr.index, run_underlying Tryz.underlying60, asIntOf, hk2, go_sem, hk, hv]
def ChkE (n : Nat) (h : Nat → Nat) (b : Nat) (E : Nat → Nat) (e : Ett) : Prop := b < e.i ∧ e.i < n ∧ (E (spO e.x) = 0 ∨ spF e.x = E (spO e.x) + 1) ∧ spT e.x ≤ h (spO e.x)
instance (n : Nat) (h : Nat → Nat) (b : Nat) (E : Nat → Nat) (e : Ett) : Decidable (ChkE n h b E e) := inferInstanceAs (Decidable (_ ∧ _ ∧ _ ∧ _))
def chkL (n : Nat) (h : Nat → Nat) : List Ett → Nat → (Nat → Nat) → Option (Nat × (Nat → Nat))
 | [], b, E => some (b, E)
 | e :: L, b, E => if ChkE n h b E e then chkL n h L e.i (upT E e.x) else none
theorem chkL_app (n : Nat) (h : Nat → Nat) : ∀ (A B : List Ett) (b : Nat) (E : Nat → Nat), chkL n h (A ++ B) b E = (chkL n h A b E).bind fun p => chkL n h B p.1 p.2
 | [], B, b, E => rfl
 | e :: A, B, b, E => by
   rw [List.cons_append]
   have e0 : ∀ l, chkL n h (e :: l) b E = if ChkE n h b E e then chkL n h l e.i (upT E e.x) else none := fun _ => rfl
   rw [e0, e0]
   by_cases hc : ChkE n h b E e
   ·rw [if_pos hc, if_pos hc]
    exact chkL_app n h A B _ _
   ·rw [if_neg hc, if_neg hc]
    rfl
structure EndOk (X : Sp) (E : Nat → Nat) (o : Nat) : Prop where
 e : E o = 0 ∨ E o = X.h o
 m : X.h o ≤ 1099511627776
def ChkOk (X : Sp) (L : List Ett) : Prop := ∃ b E, chkL X.n X.h L X.a (fun _ => 0) = some (b, E) ∧ ∀ o, o < 32 → EndOk X E o
theorem chk_next {n : Nat} {h : Nat → Nat} {L : List Ett} {k b a : Nat} {E E0 : Nat → Nat} {e : Ett} (hk : chkL n h (L.take k) a E0 = some (b, E)) (he : L[k]? = some e) : chkL n h (L.take (k + 1)) a E0 = if ChkE n h b E e then some (e.i, upT E e.x) else none := by
 rw [List.take_add_one, he, Option.toList_some, chkL_app, hk, Option.bind_some]
 rfl
theorem chk_fail {X : Sp} {L : List Ett} {k b : Nat} {E : Nat → Nat} {e : Ett} (hk : chkL X.n X.h (L.take k) X.a (fun _ => 0) = some (b, E)) (he : L[k]? = some e) (hn : ¬ ChkE X.n X.h b E e) : ¬ ChkOk X L := by
 rintro ⟨b', E', h, _⟩
 have h1 := chk_next hk he
 rw [if_neg hn] at h1
 rw [← List.take_append_drop (k + 1) L, chkL_app, h1] at h
 cases h
theorem chk_ends {X : Sp} {L : List Ett} {b o : Nat} {E : Nat → Nat} (hk : chkL X.n X.h L X.a (fun _ => 0) = some (b, E)) (ho : o < 32) (hn : ¬ EndOk X E o) : ¬ ChkOk X L := by
 rintro ⟨b', E', h, h2⟩
 rw [hk] at h
 injection h with h
 injection h with h3 h4
 subst h4
 exact hn (h2 o ho)
structure EndsAt (w : World) (g : Nat) (E : Nat → Nat) : Prop where
 blk : ∃ C : Array Value, w.heap[g]? = some (.cells C 60 (0, 0)) ∧ C.size = 32 ∧ ∀ i, i < 32 → C[i]? = some (.int .u64 (E i))
section
variable {w w' : World} {g : Nat} {E : Nat → Nat}
theorem EndsAt.lt (h : EndsAt w g E) : g < w.heap.size := by
 obtain ⟨C, h, _⟩ := h.blk
 exact (Array.getElem?_eq_some_iff.1 h).1
theorem EndsAt.below (h : EndsAt w g E) (hb : Below w.heap.size w w') : EndsAt w' g E := by
 obtain ⟨C, h1, h2⟩ := h.blk
 exact ⟨C, (hb.block _ h.lt).trans h1, h2⟩
theorem EndsAt.cell (h : EndsAt w g E) {i : Nat} (hi : i < 32) : w.cell? ⟨g, i, none⟩ = some (.int .u64 (E i)) := by
 obtain ⟨C, h1, _, h2⟩ := h.blk
 rw [cell_of_row w g i C _ _ h1]
 exact h2 i hi
theorem EndsAt.fz (h : EndsAt w g E) (k : Nat) : w.frozen? ⟨g, k, none⟩ = false := by
 obtain ⟨C, h1, _⟩ := h.blk
 simp [World.frozen?, h1]
theorem EndsAt.set (h : EndsAt w g E) {o : Nat} (ho : o < 32) (k : Nat) : EndsAt (w.setCell ⟨g, o, none⟩ (.int .u64 k)) g (fun i => if i = o then k else E i) := by
 obtain ⟨C, h1, h2, h3⟩ := h.blk
 refine ⟨C.setIfInBounds o (.int .u64 k), heap_setAt h1 o _, by rw [Array.size_setIfInBounds, h2], fun i hi => ?_⟩
 show _ = some (Value.int .u64 ((if i = o then k else E i : Nat) : Int))
 by_cases e : i = o
 ·rw [if_pos e, e, Array.getElem?_setIfInBounds_self, if_pos (by omega)]
 ·rw [if_neg e, Array.getElem?_setIfInBounds_ne (fun h => e h.symm)]
  exact h3 i hi
end
theorem check_C8 (x : It) (A : Option Addr) (c : Nat) (w : World) (hx : itemN x = 0) (hl : x.l.length ≤ 1000) (hr : RdP w w.heap.size A x.l) : Calls Tryz.prog 108 #[.agg (itC x A c).toArray] w fun e w' => e = .returned (.int .i64 0) ∧ Below w.heap.size w w' :=
 (itemCheck_any x A x.l.length c w rfl (by unfold maxLen; omega) hr).mono fun e w' h => ⟨by rw [h.1, hx]; rfl, h.2⟩
theorem span_C9 (x : It) (A : Option Addr) (c : Nat) (w : World) : Calls Tryz.prog 109 #[.agg (itC x A c).toArray] w fun e w' => e = .returned (.tuple #[.int .u8 (spO x), .int .u64 (spF x), .int .u64 (spT x)]) ∧ Below w.heap.size w w' := span_any x A x.l.length c w
def zero32 : Array Value := #[.int .u64 0, .int .u64 0, .int .u64 0, .int .u64 0, .int .u64 0, .int .u64 0, .int .u64 0, .int .u64 0, .int .u64 0, .int .u64 0, .int .u64 0, .int .u64 0, .int .u64 0, .int .u64 0, .int .u64 0, .int .u64 0, .int .u64 0, .int .u64 0, .int .u64 0, .int .u64 0, .int .u64 0, .int .u64 0, .int .u64 0, .int .u64 0, .int .u64 0, .int .u64 0, .int .u64 0, .int .u64 0, .int .u64 0, .int .u64 0, .int .u64 0, .int .u64 0]
theorem zero32_get : ∀ i, i < 32 → zero32[i]? = some (.int .u64 0) := by
 intro i hi
 have : zero32 = (List.replicate 32 (Value.int .u64 0)).toArray := rfl
 rw [this, List.getElem?_toArray, List.getElem?_replicate, if_pos hi]
def highsL (X : Sp) : List Value := (List.range 32).map fun i => .int .u64 (X.h i)
theorem highsL_get (X : Sp) {i : Nat} (hi : i < 32) : (highsL X)[i]? = some (.int .u64 (X.h i)) := by
 unfold highsL
 rw [List.getElem?_map, List.getElem?_range hi]
 rfl
theorem highsL_len (X : Sp) : (highsL X).length = 32 := by unfold highsL; simp
theorem BsAt.highs {w : World} {g : Nat} {X : Sp} {v : Value} (h : BsAt w g X v) : w.rangeAt g 3 (highsL X) := fun j u hu => by
 have hj : j < 32 := by have := (List.getElem?_eq_some_iff.1 hu).1; rwa [highsL_len] at this
 rw [highsL_get X hj] at hu
 injection hu with hu
 rw [← hu]
 exact h.cell.2.2.2.1 j hj
theorem Tryz.infoHs : (Tryz.prog.info? 60).map (·.size) = some 32 := by kernel_rfl
theorem infoH (X : Sp) : (Tryz.prog.info? 60).map (·.size) = some (highsL X).length := by rw [Tryz.infoHs, highsL_len]
set_option maxRecDepth 100000 in
set_option maxHeartbeats 4000000 in
theorem chk_any (cs : List Value) (X : Sp) (A : Option Addr) (n c : Nat) (L : List Ett) (w : World) (hbs : BsV cs X (.slice A n c)) (hn : n = L.length) (hm : n ≤ 100000) (hL : RdM8 w A L) (hok : ∀ e ∈ L, itemN e.x = 0) :
  Calls Tryz.prog 179 #[.agg cs.toArray] w fun e w' => ((e = .returned (.int .i64 0) ∧ ChkOk X L) ∨ (e = .returned (.int .i64 9) ∧ ¬ ChkOk X L)) ∧ Below w.heap.size w w' := by
 obtain ⟨w0, hw0⟩ : ∃ V, V = w.alloc (.cells cs.toArray 63) := ⟨_, rfl⟩
 have hb0 : Below w.heap.size w w0 := by rw [hw0]; exact (Below.refl _ _).alloc (Nat.le_refl _) _
 obtain ⟨gb, hgb⟩ : ∃ g, g = w.heap.size := ⟨_, rfl⟩
 have hba : BsAt w0 gb X (.slice A n c) := BsAt.of (by rw [hw0, hgb]; exact heap_alloc_new _ _) hbs
 have HW0 := Lib.hid hw0
 have HB0 := Lib.hid hb0
 have HBA := Lib.hid hba
 have HL := Lib.hid hL
 have HOK := Lib.hid hok
 have HN := Lib.hid hn
 have HGB := Lib.hid hgb
 clear hw0 hb0 hba hbs hL hok hn hgb
 go_enter Tryz.func179, Tryz.ntmps179
 go_upto_region 1 with fail
 rw [← HW0.out, ← HGB.out]
 go_upto_region 2 with fail
 obtain ⟨w1, hw1⟩ : ∃ V, V = w0.alloc (.cells zero32 60) := ⟨_, rfl⟩
 have hw1' := hw1
 unfold zero32 at hw1'
 obtain ⟨ge, hge⟩ : ∃ g, g = w0.heap.size := ⟨_, rfl⟩
 rw [← hw1', ← hge]
 have hb1 : Below w0.heap.size w0 w1 := by rw [hw1]; exact (Below.refl _ _).alloc (Nat.le_refl _) _
 have hea : EndsAt w1 ge (fun _ => 0) := ⟨zero32, by rw [hw1, hge]; exact heap_alloc_new _ _, rfl, zero32_get⟩
 have HEA := Lib.hid hea
 have hba1 := HBA.out.below hb1
 have HBA1 := Lib.hid hba1
 have HB1 := Lib.hid (HB0.out.trans (hb1.mono HB0.out.size))
 have hgbe : gb < ge := by rw [hge]; exact HBA.out.lt
 have hgew : w.heap.size ≤ ge := by rw [hge]; exact HB0.out.size
 have HGBE := Lib.hid hgbe
 have HGEW := Lib.hid hgew
 obtain ⟨c0, c1, c2, ch, c35⟩ := hba1.cell
 clear hw1 hw1' hge hb1 hea hba1 hgbe hgew HBA HB0 c0 c2 ch
 go_wp2_with fail
 go_loopw [4, 20] (fun bv iv wx => ∃ (k b : Nat) (E : Nat → Nat), k ≤ n ∧ bv = .int .u64 b ∧ iv = .int .i64 k ∧ Hid (chkL X.n X.h (L.take k) X.a (fun _ => 0) = some (b, E)) ∧ Hid (BsAt wx gb X (.slice A n c)) ∧ Hid (EndsAt wx ge E) ∧ Hid (Below w.heap.size w wx) ∧ Hid (∀ o, E o ≤ 1099511627776)) (fun _ iv _ => n - (intOf iv).toNat)
 case atStart => exact ⟨0, X.a, fun _ => 0, Nat.zero_le _, rfl, rfl, rfl, HBA1.out, HEA.out, HB1.out, fun _ => Nat.zero_le 1099511627776⟩
 case round =>
  obtain ⟨k, b, E, hk, rfl, rfl, HC, HBA, HE, HB, HM⟩ := hrel
  clear HBA1 HEA HB1
  by_cases hlt : k < n
  ·have q1 : decide ((k : Int) < (n : Int)) = true := decide_eq_true (by omega)
   have q2 : decide (k < n) = true := decide_eq_true hlt
   obtain ⟨e, he⟩ : ∃ e, L[k]? = some e := ⟨_, List.getElem?_eq_getElem (by rw [← HN.out]; exact hlt)⟩
   obtain ⟨b9, o9, rfl, hbb9, hr9, -, -⟩ := (HL.out.below HB.out).at_ he
   have HEL := Lib.hid he
   clear he hbb9
   go_upto_region 6 with (first
    | (refine wpList_load_mid rfl _ _ rfl b9 (o9 + k * 14) rfl (entC e) _ hr9 Tryz.underlying74 rfl Tryz.infoEn ?_)
    | (refine wpList_store_row rfl _ _ _ rfl wr.heap.size _ rfl rfl _ _ (heap_alloc_new _ _) Tryz.infoEn rfl (by simp [Value.oneCell', entC, itC]) ?_)
    | fail)
   obtain ⟨V, hV, hbx, hbV, hrV, -⟩ := boxE wr _ e
   rw [← hV]
   obtain ⟨gz, hgz⟩ : ∃ g, g = wr.heap.size := ⟨_, rfl⟩
   rw [← hgz] at hbx hrV ⊢
   have hbwV := HB.out.trans (hbV.mono HB.out.size)
   have hq := (HL.out.below hbwV).ok e (List.mem_of_getElem? HEL.out)
   have hgzl : gz < V.heap.size := (Array.getElem?_eq_some_iff.1 hbx).1
   have hcz : V.cell? ⟨gz, 0, none⟩ = some (.int .u64 e.i) := cell_of_row _ _ 0 _ _ _ hbx
   have h0 := HOK.out e (List.mem_of_getElem? HEL.out)
   have HCK := Lib.hid (check_C8 e.x e.A e.c V h0 hq.ln hq.rd)
   have HBV := Lib.hid hbwV
   have HBAV := Lib.hid (HBA.out.below hbV)
   have HEV := Lib.hid (HE.out.below hbV)
   have HCZ := Lib.hid hcz
   have HRZ := Lib.hid hrV
   have HGZ := Lib.hid hgzl
   have HR := Lib.hid (right_span h0)
   have hgze : gz ≠ ge := by have := HE.out.lt; omega
   have hgzb : gz ≠ gb := by have := HBA.out.lt; omega
   clear hV hbx hbV hgz hr9 hbwV hq hgzl hcz h0 HB HBA HE q1 q2
   go_wp2_with (first
    | (refine wpList_load_mid rfl _ _ rfl gz 1 rfl (itC e.x e.A e.c) _ hrV Tryz.underlying47 rfl Tryz.infoIt ?_)
    | fail)
   refine HCK.out.mono ?_
   rintro _ w4 ⟨rfl, hb4⟩
   have hrz4 := range_keep HRZ.out (hb4.block _ HGZ.out)
   have HRZ4 := Lib.hid hrz4
   have HCZ4 := Lib.hid ((hb4.cell (p := ⟨gz, 0, none⟩) HGZ.out).trans HCZ.out)
   have HGZ4 := Lib.hid (Nat.lt_of_lt_of_le HGZ.out hb4.size)
   have HB4 := Lib.hid (HBV.out.trans (hb4.mono HBV.out.size))
   have HBA4 := Lib.hid (HBAV.out.below hb4)
   have HE4 := Lib.hid (HEV.out.below hb4)
   have HSPN := Lib.hid (span_C9 e.x e.A e.c w4)
   clear hrV hb4 HCK HCZ HRZ HGZ HBV HBAV HEV
   go_wp2_with (first
    | (refine wpList_load_mid rfl _ _ rfl gz 1 rfl (itC e.x e.A e.c) _ hrz4 Tryz.underlying47 rfl Tryz.infoIt ?_)
    | fail)
   refine HSPN.out.mono ?_
   rintro _ w5 ⟨rfl, hb5⟩
   have cz := (hb5.cell (p := ⟨gz, 0, none⟩) HGZ4.out).trans HCZ4.out
   have hba5 := HBA4.out.below hb5
   have he5 := HE4.out.below hb5
   have HB5 := Lib.hid (HB4.out.trans (hb5.mono HB4.out.size))
   have HBA5 := Lib.hid hba5
   have HE5 := Lib.hid he5
   have hr := HR.out
   obtain ⟨so, hso⟩ : ∃ o, o = spO e.x := ⟨_, rfl⟩
   obtain ⟨sf, hsf⟩ : ∃ o, o = spF e.x := ⟨_, rfl⟩
   obtain ⟨st, hst⟩ : ∃ o, o = spT e.x := ⟨_, rfl⟩
   rw [← hso, ← hsf, ← hst] at hr ⊢
   have hso32 : so < 32 := by omega
   have ce := he5.cell hso32
   have fe := he5.fz so
   obtain ⟨c0, c1, c2, ch, c35⟩ := hba5.cell
   have chs := ch so hso32
   have hEm := HM.out so
   have HMM := Lib.hid HM.out
   obtain ⟨Es, hEs⟩ : ∃ x, x = E so := ⟨_, rfl⟩
   rw [← hEs] at ce hEm
   have hw8 : IntKind.u64.wrap ((Es : Int) + 1) = ((Es + 1 : Nat) : Int) := by rw [IntKind.wrap_u64]; omega
   have HSO := Lib.hid hso
   have HSF := Lib.hid hsf
   have HST := Lib.hid hst
   have HES := Lib.hid hEs
   have HRR := Lib.hid hr
   clear hso hsf hst hEs hba5 he5 hb5 ch c1 c2 c35 hrz4 HRZ4 HCZ4 HGZ4 HB4 HBA4 HE4 HSPN HM hr
   have hfail : ¬ ChkE X.n X.h b E e → ¬ ChkOk X L := fun h => chk_fail HC.out HEL.out h
   have hE9 : ¬ (b < e.i ∧ e.i < X.n ∧ (Es = 0 ∨ sf = Es + 1) ∧ st ≤ X.h so) → ¬ ChkOk X L := fun h => hfail (fun h' => h (by
    obtain ⟨h1, h2, h3, h4⟩ := h'
    rw [← HSO.out, ← HSF.out, ← HES.out] at h3
    rw [← HSO.out, ← HST.out] at h4
    exact ⟨h1, h2, h3, h4⟩))
   have HE9 := Lib.hid hE9
   clear hfail hE9
   by_cases k1 : e.i ≤ b
   ·have d1 : decide ((e.i : Int) ≤ (b : Int)) = true := decide_eq_true (by omega)
    clear HBA5 HE5 HSO HSF HST HES HRR HC HEL
    go_wp2_with fail
    go_ret
    exact ⟨.inr ⟨rfl, HE9.out (by omega)⟩, HB5.out⟩
   ·have d1 : decide ((e.i : Int) ≤ (b : Int)) = false := decide_eq_false (by omega)
    by_cases k2 : X.n ≤ e.i
    ·have d2 : decide ((X.n : Int) ≤ (e.i : Int)) = true := decide_eq_true (by omega)
     clear HBA5 HE5 HSO HSF HST HES HRR HC HEL
     go_wp2_with fail
     go_ret
     exact ⟨.inr ⟨rfl, HE9.out (by omega)⟩, HB5.out⟩
    ·have d2 : decide ((X.n : Int) ≤ (e.i : Int)) = false := decide_eq_false (by omega)
     by_cases k4 : X.h so < st
     ·have d4 : decide (((X.h so : Nat) : Int) < (st : Int)) = true := decide_eq_true (by omega)
      by_cases k3 : Es = 0
      ·have g3 : ((Es : Int) == 0) = true := by rw [beq_iff_eq]; omega
       have g4 : ((Es : Int) != 0) = false := by rw [bne, g3]; rfl
       clear HBA5 HE5 HSO HSF HST HES HRR HC HEL
       go_wp2_with fail
       go_ret
       exact ⟨.inr ⟨rfl, HE9.out (by omega)⟩, HB5.out⟩
      ·have g3 : ((Es : Int) == 0) = false := by rw [beq_eq_false_iff_ne]; omega
       have g4 : ((Es : Int) != 0) = true := by rw [bne, g3]; rfl
       by_cases k5 : sf = Es + 1
       ·have g5 : ((sf : Int) == ((Es + 1 : Nat) : Int)) = true := by rw [beq_iff_eq]; omega
        have g6 : ((sf : Int) != ((Es + 1 : Nat) : Int)) = false := by rw [bne, g5]; rfl
        clear HBA5 HE5 HSO HSF HST HES HRR HC HEL
        go_wp2_with fail
        go_ret
        exact ⟨.inr ⟨rfl, HE9.out (by omega)⟩, HB5.out⟩
       ·have g5 : ((sf : Int) == ((Es + 1 : Nat) : Int)) = false := by rw [beq_eq_false_iff_ne]; omega
        have g6 : ((sf : Int) != ((Es + 1 : Nat) : Int)) = true := by rw [bne, g5]; rfl
        clear HBA5 HE5 HSO HSF HST HES HRR HC HEL
        go_wp2_with fail
        go_ret
        exact ⟨.inr ⟨rfl, HE9.out (by omega)⟩, HB5.out⟩
     ·have d4 : decide (((X.h so : Nat) : Int) < (st : Int)) = false := decide_eq_false (by omega)
      by_cases k3 : Es = 0
      ·have g3 : ((Es : Int) == 0) = true := by rw [beq_iff_eq]; omega
       have g4 : ((Es : Int) != 0) = false := by rw [bne, g3]; rfl
       have hchk : ChkE X.n X.h b E e := ⟨by omega, by omega, .inl (by rw [← HSO.out, ← HES.out]; exact k3), by rw [← HSO.out, ← HST.out]; omega⟩
       have hnx := chk_next HC.out HEL.out
       rw [if_pos hchk] at hnx
       have HNX := Lib.hid hnx
       clear hchk hnx HE9
       go_wp2_with fail
       have hset := HE5.out.set hso32 st
       have heq : (fun i => if i = so then st else E i) = upT E e.x := by rw [HSO.out, HST.out]; rfl
       rw [heq] at hset
       have hon : Only (fun k => k = ge) w5 (w5.setCell ⟨ge, so, none⟩ (.int .u64 st)) := Only.setCell _ _ _ rfl
       have hba6 : BsAt (w5.setCell ⟨ge, so, none⟩ (.int .u64 st)) gb X (.slice (some ⟨b9, o9, none⟩) n c) := HBA5.out.as (hon.block _ HBA5.out.lt (fun e => by have e : gb = ge := e; have := HGBE.out; omega))
       have hbl6 : Below w.heap.size w (w5.setCell ⟨ge, so, none⟩ (.int .u64 st)) := HB5.out.trans ⟨hon.os, hon.tape, hon.output, hon.size, fun k hk => hon.block k (Nat.lt_of_lt_of_le hk HB5.out.size) (fun e => by have e : k = ge := e; have := HGEW.out; omega)⟩
       have hm6 : ∀ o, upT E e.x o ≤ 1099511627776 := fun o => by
        unfold upT
        split
        ·rw [← HST.out]; exact HRR.out.2.2.2
        ·exact HMM.out o
       exact ⟨⟨k + 1, e.i, _, by omega, rfl, by go_num, HNX.out, hba6, hset, hbl6, hm6⟩, by simp [intOf]; omega⟩
      ·have g3 : ((Es : Int) == 0) = false := by rw [beq_eq_false_iff_ne]; omega
       have g4 : ((Es : Int) != 0) = true := by rw [bne, g3]; rfl
       by_cases k5 : sf = Es + 1
       ·have g5 : ((sf : Int) == ((Es + 1 : Nat) : Int)) = true := by rw [beq_iff_eq]; omega
        have g6 : ((sf : Int) != ((Es + 1 : Nat) : Int)) = false := by rw [bne, g5]; rfl
        have hchk : ChkE X.n X.h b E e := ⟨by omega, by omega, .inr (by rw [← HSO.out, ← HSF.out, ← HES.out]; exact k5), by rw [← HSO.out, ← HST.out]; omega⟩
        have hnx := chk_next HC.out HEL.out
        rw [if_pos hchk] at hnx
        have HNX := Lib.hid hnx
        clear hchk hnx HE9
        go_wp2_with fail
        have hset := HE5.out.set hso32 st
        have heq : (fun i => if i = so then st else E i) = upT E e.x := by rw [HSO.out, HST.out]; rfl
        rw [heq] at hset
        have hon : Only (fun k => k = ge) w5 (w5.setCell ⟨ge, so, none⟩ (.int .u64 st)) := Only.setCell _ _ _ rfl
        have hba6 : BsAt (w5.setCell ⟨ge, so, none⟩ (.int .u64 st)) gb X (.slice (some ⟨b9, o9, none⟩) n c) := HBA5.out.as (hon.block _ HBA5.out.lt (fun e => by have e : gb = ge := e; have := HGBE.out; omega))
        have hbl6 : Below w.heap.size w (w5.setCell ⟨ge, so, none⟩ (.int .u64 st)) := HB5.out.trans ⟨hon.os, hon.tape, hon.output, hon.size, fun k hk => hon.block k (Nat.lt_of_lt_of_le hk HB5.out.size) (fun e => by have e : k = ge := e; have := HGEW.out; omega)⟩
        have hm6 : ∀ o, upT E e.x o ≤ 1099511627776 := fun o => by
         unfold upT
         split
         ·rw [← HST.out]; exact HRR.out.2.2.2
         ·exact HMM.out o
        exact ⟨⟨k + 1, e.i, _, by omega, rfl, by go_num, HNX.out, hba6, hset, hbl6, hm6⟩, by simp [intOf]; omega⟩
       ·have g5 : ((sf : Int) == ((Es + 1 : Nat) : Int)) = false := by rw [beq_eq_false_iff_ne]; omega
        have g6 : ((sf : Int) != ((Es + 1 : Nat) : Int)) = true := by rw [bne, g5]; rfl
        clear HBA5 HE5 HSO HSF HST HES HRR HC HEL
        go_wp2_with fail
        go_ret
        exact ⟨.inr ⟨rfl, HE9.out (by omega)⟩, HB5.out⟩
  ·obtain rfl : n = k := by omega
   have q1 : decide ((n : Int) < (n : Int)) = false := decide_eq_false (by omega)
   have hall : chkL X.n X.h L X.a (fun _ => 0) = some (b, E) := by
    have h1 := HC.out
    rwa [HN.out, List.take_length] at h1
   have HALL := Lib.hid hall
   have hrg := HBA.out.highs
   clear hall HC
   go_wp2_with (first
    | (refine wpList_load_mid rfl _ _ rfl gb 3 rfl (highsL X) _ hrg Tryz.underlying60 rfl (infoH X) ?_)
    | fail)
   clear hrg
   go_loopw [77] (fun iv wx => ∃ k : Nat, k ≤ 32 ∧ iv = .int .i64 k ∧ Hid (EndsAt wx ge E) ∧ Hid (Below w.heap.size w wx) ∧ Hid (∀ o, o < k → EndOk X E o)) (fun iv _ => 32 - (intOf iv).toNat)
   case atStart => exact ⟨0, Nat.zero_le _, rfl, HE.out, HB.out, fun o ho => by omega⟩
   case round =>
    obtain ⟨k, hk, rfl, HE2, HB2, HOO⟩ := hrel
    clear HE HB HBA
    by_cases hk32 : k < 32
    ·have q2 : decide ((k : Int) < 32) = true := decide_eq_true (by omega)
     have q3 : decide (k < 32) = true := decide_eq_true hk32
     have hidx : ∀ W, (Instr.index 60 (.agg (highsL X).toArray) (.int .i64 (k : Int))).run Tryz.prog W = .ok (.int .u64 ((X.h k : Nat) : Int)) W := fun W => run_index32 _ k _ hk32 (by rw [List.getElem?_toArray]; exact highsL_get X hk32) W
     have ce := HE2.out.cell hk32
     obtain ⟨Ek, hEk⟩ : ∃ x, x = E k := ⟨_, rfl⟩
     obtain ⟨hk1, hhk⟩ : ∃ x, x = X.h k := ⟨_, rfl⟩
     rw [← hEk] at ce
     rw [← hhk] at hidx
     have hbad : ¬ ((Ek = 0 ∨ Ek = hk1) ∧ hk1 ≤ 1099511627776) → ¬ ChkOk X L := fun h => chk_ends HALL.out hk32 (fun h' => h (by rw [hEk, hhk]; exact ⟨h'.e, h'.m⟩))
     have hgood : (Ek = 0 ∨ Ek = hk1) ∧ hk1 ≤ 1099511627776 → ∀ o, o < k + 1 → EndOk X E o := fun h o ho => by
      by_cases e : o = k
      ·rw [e]; exact ⟨by rw [← hEk, ← hhk]; exact h.1, by rw [← hhk]; exact h.2⟩
      ·exact HOO.out o (by omega)
     have HBAD := Lib.hid hbad
     have HGOOD := Lib.hid hgood
     clear hbad hgood hEk hhk q2
     by_cases m3 : 1099511627776 < hk1
     ·have d3 : decide ((1099511627776 : Int) < (hk1 : Int)) = true := decide_eq_true (by omega)
      by_cases m1 : Ek = 0
      ·have g3 : ((Ek : Int) == 0) = true := by rw [beq_iff_eq]; omega
       have g4 : ((Ek : Int) != 0) = false := by rw [bne, g3]; rfl
       go_wp2_with fail
       go_ret
       exact ⟨.inr ⟨rfl, HBAD.out (by omega)⟩, HB2.out⟩
      ·have g3 : ((Ek : Int) == 0) = false := by rw [beq_eq_false_iff_ne]; omega
       have g4 : ((Ek : Int) != 0) = true := by rw [bne, g3]; rfl
       by_cases m2 : Ek = hk1
       ·subst m2
        go_wp2_with fail
        go_ret
        exact ⟨.inr ⟨rfl, HBAD.out (by omega)⟩, HB2.out⟩
       ·have g5 : ((Ek : Int) == (hk1 : Int)) = false := by rw [beq_eq_false_iff_ne]; omega
        have g6 : ((Ek : Int) != (hk1 : Int)) = true := by rw [bne, g5]; rfl
        go_wp2_with fail
        go_ret
        exact ⟨.inr ⟨rfl, HBAD.out (by omega)⟩, HB2.out⟩
     ·have d3 : decide ((1099511627776 : Int) < (hk1 : Int)) = false := decide_eq_false (by omega)
      by_cases m1 : Ek = 0
      ·have g3 : ((Ek : Int) == 0) = true := by rw [beq_iff_eq]; omega
       have g4 : ((Ek : Int) != 0) = false := by rw [bne, g3]; rfl
       go_wp2_with fail
       exact ⟨⟨k + 1, by omega, by go_num, HE2.out, HB2.out, HGOOD.out ⟨.inl m1, by omega⟩⟩, by simp [intOf]; omega⟩
      ·have g3 : ((Ek : Int) == 0) = false := by rw [beq_eq_false_iff_ne]; omega
       have g4 : ((Ek : Int) != 0) = true := by rw [bne, g3]; rfl
       by_cases m2 : Ek = hk1
       ·subst m2
        go_wp2_with fail
        exact ⟨⟨k + 1, by omega, by go_num, HE2.out, HB2.out, HGOOD.out ⟨.inr rfl, by omega⟩⟩, by simp [intOf]; omega⟩
       ·have g5 : ((Ek : Int) == (hk1 : Int)) = false := by rw [beq_eq_false_iff_ne]; omega
        have g6 : ((Ek : Int) != (hk1 : Int)) = true := by rw [bne, g5]; rfl
        go_wp2_with fail
        go_ret
        exact ⟨.inr ⟨rfl, HBAD.out (by omega)⟩, HB2.out⟩
    ·obtain rfl : k = 32 := by omega
     have q2 : decide (((32 : Nat) : Int) < 32) = false := by decide
     clear HE2
     go_wp2_with fail
     go_ret
     exact ⟨.inl ⟨rfl, b, E, HALL.out, HOO.out⟩, HB2.out⟩
theorem cellsE_split {L : List Ett} {j : Nat} {u : Value} (h : (cellsE L)[j]? = some u) : ∃ e, L[j / 14]? = some e ∧ (entC e)[j % 14]? = some u := by
 have hj := (List.getElem?_eq_some_iff.1 h).1
 rw [cellsE_length] at hj
 have hk : j / 14 < L.length := by omega
 have he := List.getElem?_eq_getElem hk
 have hi : j % 14 < (entC L[j / 14]).length := by rw [entC_length]; omega
 have h2 := cellsE_get he (List.getElem?_eq_getElem hi)
 rw [show j / 14 * 14 + j % 14 = j by omega, h] at h2
 exact ⟨_, he, by rw [List.getElem?_eq_getElem hi]; exact h2.symm⟩
theorem RdM8.src {w : World} {A : Option Addr} {n : Nat} {L : List Ett} (hn : n = L.length) (h : RdM8 w A L) : Src w A n 14 (cellsE L) := by
 refine ⟨by rw [cellsE_length, hn], fun h0 => ?_⟩
 obtain ⟨b, o, rfl, _, hc⟩ := h.rd (by omega)
 refine ⟨_, rfl, fun j u hu => ?_⟩
 obtain ⟨e, he, hv⟩ := cellsE_split hu
 have := (hc _ e he).1 _ u hv
 rw [Addr.add_mid]
 rwa [show o + j / 14 * 14 + j % 14 = o + j by omega] at this
theorem RdM8.nil {w : World} {A : Option Addr} {L : List Ett} (h : RdM8 w A L) : A = none → L.length = 0 := fun hA => by
 rcases Nat.eq_zero_or_pos L.length with h0 | h0
 ·exact h0
 ·obtain ⟨b, o, e, _, _⟩ := h.rd h0
  rw [hA] at e; cases e
theorem heap_setCells : ∀ (vs : List Value) (o : Nat) {w : World} {s : Nat} {cs : Array Value} {t : TypeId} {fr : Nat × Nat}, w.heap[s]? = some (.cells cs t fr) → ∃ cs', (w.setCells s o vs).heap[s]? = some (.cells cs' t fr) ∧ cs'.size = cs.size
 | [], _, _, _, cs, _, _, h => ⟨cs, h, rfl⟩
 | v :: vs, o, w, s, cs, t, fr, h => by
   obtain ⟨cs', h1, h2⟩ := heap_setCells vs (o + 1) (heap_setAt h o v)
   exact ⟨cs', h1, by rw [h2, Array.size_setIfInBounds]⟩
theorem SpC.there {w : World} {s u : Nat} {X : Sp} {v : Value} (h : SpC w s X u v) : w.there s 2 36 := fun j hj => by
 refine ⟨?_, h.fz _⟩
 obtain ⟨C, hC, hz⟩ := h.blk
 rw [cell_of_row w s _ C _ _ hC, Array.getElem?_eq_getElem (by omega)]
 rfl
theorem SpC.setBase {w : World} {s u : Nat} {X0 X : Sp} {v0 v : Value} {cs : List Value} (h : SpC w s X0 u v0) (hb : BsV cs X v) : SpC (w.setCells s 2 cs) s { X with q := X0.q } u v := by
 obtain ⟨C, hC, hz⟩ := h.blk
 obtain ⟨C', hC', hz'⟩ := heap_setCells cs 2 hC
 have hl := hb.len
 have hth := h.there
 have hr := World.rangeAt_setCells_same w s 2 cs (by rw [hl]; exact hth)
 have ho : ∀ j, j < 2 → (w.setCells s 2 cs).cell? ⟨s, j, none⟩ = w.cell? ⟨s, j, none⟩ := fun j hj => World.cell?_setCells_out s cs 2 w ⟨s, j, none⟩ (fun _ _ => .inl hj)
 exact ⟨⟨C', hC', by omega⟩, (ho 0 (by omega)).trans h.c0, (ho 1 (by omega)).trans h.c1, hr 0 _ hb.c0, hr 1 _ hb.c1, hr 2 _ hb.c2,
  fun i hi => by have := hr (3 + i) _ (hb.hi i hi); rwa [show 2 + (3 + i) = 5 + i by omega] at this, hr 35 _ hb.c35⟩
theorem sum_same {L M : List Ett} (h : SameE L M) : sumE L = sumE M := by
 have e : ∀ K : List Ett, sumE K = ((K.map (·.x)).map fun x => (itemB x).length).sum := fun K => by unfold sumE; rw [List.map_map]; rfl
 rw [e, e, same_its h]
theorem SpAt.build {w : World} {s : Nat} {X : Sp} {v : Value} {M : List Ett} (hC : SpC w s X (sumE M) v) (ho : w.ownsRow 0 74 14 v M.length (cellsE M)) (hv : ∀ k, v.ownBlock = some k → k ≠ s) (hf : M.length ≤ 100000)
  (he : ∀ e ∈ M, EntOk w (fun k => k = s ∨ v.ownBlock = some k) e) (hq : X.q ≤ 65536) : SpAt w (fun k => k = s ∨ v.ownBlock = some k) s X M :=
 ⟨⟨v, hC, ho, fun e => hv s e rfl, fun _ h => .inr h⟩, .inl rfl, fun k hk => hk.elim (fun e => by rw [e]; exact hC.slt) (fun e => (ho.lt k e).2), hf, he, hq⟩
def OfOk (q : Nat) (X : Sp) (L : List Ett) : Prop := (X.n ≠ 0 ∧ X.n ≤ 1099511627776 ∧ X.a < X.n ∧ L.length ≤ q) ∧ ChkOk X L ∧ sumE L ≤ q
theorem gap_size {x y : It} (h : joinB x y = true) : (itemB (joinI x y)).length ≤ (itemB x).length + (itemB y).length := by
 obtain ⟨h1, h2, _, _, _, h6⟩ := joinB_parts h
 rw [h6]
 unfold itemB gapB
 rw [h1, h2]
 simp only [if_true, List.length_cons, List.length_append, List.length_nil]
 omega
theorem sum_joinK {L : List Ett} {a b : Nat} (hab : a < b) (hb : b < L.length) : sumE (joinK L (some a) (some b)).1 ≤ sumE L := by
 have ha := List.getElem?_eq_getElem (show a < L.length by omega)
 have hb2 := List.getElem?_eq_getElem hb
 obtain ⟨ea, hea⟩ : ∃ x, x = L[a]'(by omega) := ⟨_, rfl⟩
 obtain ⟨eb, heb⟩ : ∃ x, x = L[b] := ⟨_, rfl⟩
 rw [← hea] at ha
 rw [← heb] at hb2
 clear hea heb
 unfold joinK
 simp only
 rw [getD_of ha, getD_of hb2]
 split
 ·rename_i hj
  obtain ⟨A, M, R, rfl, hA, hM⟩ := split2 ha hb2 hab
  show sumE (joinL _ _ _ _ _) ≤ _
  rw [joinL_split hA hM hab]
  have := gap_size hj
  simp only [sumE_append, sumE_cons]
  omega
 ·exact Nat.le_refl _
theorem room_fits {size q : Nat} : ∀ {fuel : Nat} {L : List Ett} {f v : Nat}, (roomK size q fuel L f v).1 = true → sumE (roomK size q fuel L f v).2.1 + size ≤ q
 | fuel, L, f, v, h => by
   by_cases hf : sumE L + size ≤ q
   ·rw [roomK_fit hf]; exact hf
   ·cases hl : leastK L L.length with
    | none => rw [roomK_none hf hl] at h; cases h
    | some p =>
      cases fuel with
      | zero =>
        unfold roomK at h
        rw [if_neg hf] at h
        cases h
      | succ k =>
        rw [roomK_some hf hl] at h ⊢
        exact room_fits h
theorem sum_addJ (L : List Ett) (e : Ett) : sumE (addJ L e).1 ≤ sumE L + (itemB e.x).length := by
 have h : sumE (L ++ [e]) = sumE L + (itemB e.x).length := by rw [sumE_append, sumE_cons]; rfl
 unfold addJ
 split
 ·cases hp : prevK (L ++ [e]) (spO e.x) L.length with
  | none => exact Nat.le_of_eq h
  | some i =>
    rw [← h]
    exact sum_joinK (prevK_some hp).1 (by rw [List.length_append]; exact Nat.lt_succ_self _)
 ·exact Nat.le_of_eq h
theorem sum_put {X : Sp} {L : List Ett} (h : sumE L ≤ X.q) (x : It) (A : Option Addr) (c : Nat) : sumE (putR X L x A c).2.2.2.2 ≤ X.q := by
 unfold putR
 split
 ·exact h
 ·dsimp only
  split
  ·exact h
  ·rename_i hr
   split
   ·exact h
   ·have h1 := room_fits (size := (itemB (partI x X.h)).length) (q := X.q) (fuel := cntE L) (L := L) (f := 0) (v := X.v) (by simpa using hr)
    exact Nat.le_trans (sum_addJ _ _) h1
theorem chkL_same {n : Nat} {h : Nat → Nat} : ∀ {L M : List Ett} {b : Nat} {E : Nat → Nat}, SameE L M → chkL n h L b E = chkL n h M b E
 | L, M, b, E, hs => by
   rcases same_cons hs with ⟨rfl, rfl⟩ | ⟨a, c, l, m, rfl, rfl, hi, hx, hs⟩
   ·rfl
   ·have e0 : ∀ (y : Ett) (k : List Ett), chkL n h (y :: k) b E = if ChkE n h b E y then chkL n h k y.i (upT E y.x) else none := fun _ _ => rfl
    rw [e0, e0]
    have hc : ChkE n h b E a ↔ ChkE n h b E c := by unfold ChkE; rw [hi, hx]
    by_cases hk : ChkE n h b E a
    ·rw [if_pos hk, if_pos (hc.1 hk), hi, hx]
     exact chkL_same hs
    ·rw [if_neg hk, if_neg (fun h => hk (hc.2 h))]
 termination_by L => L.length
theorem OfOk.same {q : Nat} {X : Sp} {L M : List Ett} (h : OfOk q X L) (hs : SameE L M) : OfOk q X M := by
 obtain ⟨⟨h1, h2, h3, h4⟩, ⟨b, E, h5, h6⟩, h7⟩ := h
 exact ⟨⟨h1, h2, h3, by rw [← hs.len]; exact h4⟩, ⟨b, E, by rw [← chkL_same hs]; exact h5, h6⟩, by rw [← sum_same hs]; exact h7⟩
end Go.Proofs.YtholdcgkhicdmaaGreatDoor