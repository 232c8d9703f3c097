/- Several texts in one: SpHas. -/
import Derived.Test.YtgcfofnlgdfmoaaMf35
import Derived.Test.YtgcfofnlgdfmoaaMf40
import Derived.Test.YtgcfofnlgdfmoaaMf42
/- Layer 8: the statements' own 'has': is an item there? -/
namespace Go.Proofs.Ytgcfofnlgdfmoaa
open Go.RowKit

theorem wpList_at8 {P : Program} {ops : Array Oper} {rest : List Oper} {op : Oper} {a : Act} {w : World} {Q : Exit → Act → World → Prop} (h : wpList P ops Q (op :: rest) a w) : wpList P ops Q (op :: rest) a w := h
theorem wpList_load_wanted8 {P : Program} {ops : Array Oper} {rest : List Oper} {op : Oper} {a : Act} {w : World} {Q : Exit → Act → World → Prop} (hw : Region.wanted op (yielded ops a.tmps) = true) (ty : TypeId) (x : Operand) (ho : op.op = .load ty x)
    (b o : Nat) (hx : a.eval x = .pointer (some ⟨b, o, none⟩)) (cs : List Value) (d : TypeDesc) (hc : w.rangeAt b o cs)
    (hu : P.underlying ty = some d) (hd : d.isRow = true) (hi : (P.info? ty).map (·.size) = some cs.length)
    (h : wpList P ops Q rest (a.put op.dst (.agg cs.toArray)) w) : wpList P ops Q (op :: rest) a w :=
  BigFrame.wpList_want hw fun _ hK => wp_load_mid ty x ho b o hx cs d hc hu hd hi (hK _ _ h)
theorem same_any (x y : It) (A A2 : Option Addr) (c c2 : Nat) (w : World) (hl : x.l.length ≤ 1000) (hr : RdP w w.heap.size A x.l) (hr2 : RdP w w.heap.size A2 y.l) :
    Calls Try.prog 29 #[.agg (itC x A c).toArray, .agg (itC y A2 c2).toArray] w fun e w' => e = .returned (.bool (sameI x y)) ∧ Below w.heap.size w w' :=
  refSame_any x y A x.l.length c A2 y.l.length c2 w rfl rfl (by unfold maxLen; omega) hr hr2
theorem lasts_C (x : It) (A : Option Addr) (c : Nat) (w : World) : Calls Try.prog 57 #[.agg (itC x A c).toArray] w fun e w' => e = .returned (.bool (lastB x)) ∧ Below w.heap.size w w' :=
  lasts_any x A x.l.length c w
theorem hasI_take {M : List Ett} {x : It} {k : Nat} {e : Ett} (he : M[k]? = some e) : hasI (itsE (M.take (k + 1))) x = (hasI (itsE (M.take k)) x || sameI x e.x) := by
  unfold hasI itsE
  rw [List.take_add_one, he]
  simp
theorem hasI_of_take {M : List Ett} {x : It} {k : Nat} (h : hasI (itsE (M.take k)) x = true) : hasI (itsE M) x = true := by
  obtain ⟨y, hy, hs⟩ := hasI_ex h
  exact List.any_eq_true.2 ⟨y.x, List.mem_map_of_mem (List.mem_of_mem_take hy), hs⟩
theorem rdP_keep8 {w w' : World} {A : Option Addr} {l : List Pr} (h : RdP w w.heap.size A l) (hb : Below w.heap.size w w') : RdP w' w'.heap.size A l := (Only.of_below hb fun _ => False).rdP h (fun _ _ _ h => h)
set_option maxRecDepth 100000 in
set_option maxHeartbeats 2000000 in
theorem has_any (A : Option Addr) (n c : Nat) (M : List Ett) (x : It) (B : Option Addr) (d : Nat) (w : World) (hn : n = M.length) (hm : n ≤ 100000) (hM : RdM8 w A M) (hl : x.l.length ≤ 1000) (hr : RdP w w.heap.size B x.l) :
    Calls Try.prog 58 #[.slice A n c, .agg (itC x B d).toArray] w fun e w' => e = .returned (.bool (hasI (itsE M) x)) ∧ Below w.heap.size w w' := by
  obtain ⟨w0, hw0⟩ : ∃ w0, w0 = w.alloc (.cells (itC x B d).toArray 60) := ⟨_, rfl⟩
  have hb0 : Below w.heap.size w w0 := by rw [hw0]; exact (Below.refl _ _).alloc (Nat.le_refl _) _
  have hbox : w0.heap[w.heap.size]? = some (.cells (itC x B d).toArray 60 (0, 0)) := by rw [hw0]; exact heap_alloc_new _ _
  have HW0 := Lib.hid hw0
  have HB0 := Lib.hid hb0
  have HX := Lib.hid hbox
  have HM := Lib.hid (hM.below hb0)
  have HR := Lib.hid (rdP_keep8 hr hb0)
  have HN := Lib.hid hn
  clear hw0 hb0 hbox hM hr hn
  go_enter Try.func58, Try.ntmps58
  go_upto_region 1 with fail
  rw [← HW0.out]
  go_wp2_with fail
  go_loopw [9] (fun iv wx => ∃ k : Nat, k ≤ n ∧ iv = .int .i64 k ∧ Hid (Below w0.heap.size w0 wx) ∧ hasI (itsE (M.take k)) x = false) (fun iv _ => n - (intOf iv).toNat)
  case atStart => exact ⟨0, Nat.zero_le _, rfl, Below.refl _ _, rfl⟩
  case round =>
    obtain ⟨k, hk, rfl, HB, hno⟩ := hrel
    have HNO := Lib.hid hno
    clear hno
    by_cases hlt : k < n
    · have q1 : decide ((k : Int) < (n : Int)) = true := decide_eq_true (by omega)
      have q2 : decide (k < n) = true := decide_eq_true hlt
      obtain ⟨e, he⟩ : ∃ e, M[k]? = some e := ⟨_, List.getElem?_eq_getElem (by rw [← HN.out]; exact hlt)⟩
      obtain ⟨b, o, rfl, hbb, hr1, -, -⟩ := (HM.out.below HB.out).at_ he
      have HE := Lib.hid he
      clear he hbb
      go_upto_region 4 with (first
        | (refine wpList_load_mid rfl _ _ rfl b (o + k * 14) rfl (entC e) _ hr1 Try.underlying68 rfl Try.infoEn ?_)
        | (refine wpList_store_row rfl _ _ _ rfl wr.heap.size _ rfl rfl _ _ (heap_alloc_new _ _) Try.infoEn rfl (by simp [Value.oneCell', entC, itC]) ?_)
        | fail)
      obtain ⟨V, hV, -, hbV, hrV, -⟩ := boxE wr _ e
      rw [← hV, act_put_no]
      have hb2 := HB.out.trans (hbV.mono HB.out.size)
      have hbx := (hb2.block _ (Array.getElem?_eq_some_iff.1 HX.out).1).trans HX.out
      have HB2 := Lib.hid hb2
      have hq := ((HM.out.below hb2).ok e (List.mem_of_getElem? HE.out))
      have HS := Lib.hid (same_any x e.x B e.A d e.c V hl (rdP_keep8 HR.out hb2) hq.rd)
      clear hV hbV hb2 hq hr1 q1 q2 HB
      go_wp2_with (first
        | (refine wpList_load_mid rfl _ _ rfl wr.heap.size 1 rfl (itC e.x e.A e.c) _ hrV Try.underlying60 rfl Try.infoIt ?_)
        | (refine wpList_load_row rfl _ _ rfl w.heap.size rfl _ _ _ _ hbx Try.underlying60 rfl Try.infoIt ?_)
        | fail)
      refine HS.out.mono ?_
      rintro _ w4 ⟨rfl, hb4⟩
      have HB4 := Lib.hid (HB2.out.trans (hb4.mono HB2.out.size))
      have htk := hasI_take (x := x) HE.out
      rw [HNO.out, Bool.false_or] at htk
      have HTK := Lib.hid htk
      clear hb4 htk HS HB2 hbx hrV
      cases hs : sameI x e.x with
      | true =>
        rw [hs] at HTK
        have hall := hasI_of_take HTK.out
        have HALL := Lib.hid hall
        clear hall hs
        go_wp2_with fail
        go_ret
        exact ⟨by rw [HALL.out]; rfl, HB0.out.trans (HB4.out.mono HB0.out.size)⟩
      | false =>
        rw [hs] at HTK
        clear hs
        go_wp2_with fail
        exact ⟨⟨k + 1, by omega, by go_num, HB4.out, HTK.out⟩, by simp [intOf]; omega⟩
    · obtain rfl : n = k := by omega
      have q1 : decide ((n : Int) < (n : Int)) = false := decide_eq_false (by omega)
      have hall : hasI (itsE M) x = false := by
        have h1 := HNO.out
        rwa [HN.out, List.take_length] at h1
      have HALL := Lib.hid hall
      clear hall HNO
      go_wp2_with fail
      go_ret
      exact ⟨by rw [HALL.out]; rfl, HB0.out.trans (HB.out.mono HB0.out.size)⟩
end Go.Proofs.Ytgcfofnlgdfmoaa
