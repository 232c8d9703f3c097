/- Several texts in one: SpHas, SpKeptW. -/
import Derived.Test.YtgcfofnlgdfmoaaMd35
import Derived.Test.YtgcfofnlgdfmoaaMd41
import Derived.Test.YtgcfofnlgdfmoaaMd42
/- Layer 8: the statements' own 'has': is an item there? -/
namespace Go.Proofs.Ytgcfofnlgdfmoaa
open Go.RowKit

theorem wpList_at8 {P : Program} {ops : Array Oper} {rest : List Oper} {op : Oper} {a : Act} {w : World} {Q : Exit → Act → World → Prop} (h : wpList P ops Q (op :: rest) a w) : wpList P ops Q (op :: rest) a w := h
theorem wpList_load_wanted8 {P : Program} {ops : Array Oper} {rest : List Oper} {op : Oper} {a : Act} {w : World} {Q : Exit → Act → World → Prop} (hw : Region.wanted op (yielded ops a.tmps) = true) (ty : TypeId) (x : Operand) (ho : op.op = .load ty x)
    (b o : Nat) (hx : a.eval x = .pointer (some ⟨b, o, none⟩)) (cs : List Value) (d : TypeDesc) (hc : w.rangeAt b o cs)
    (hu : P.underlying ty = some d) (hd : d.isRow = true) (hi : (P.info? ty).map (·.size) = some cs.length)
    (h : wpList P ops Q rest (a.put op.dst (.agg cs.toArray)) w) : wpList P ops Q (op :: rest) a w :=
  BigFrame.wpList_want hw fun _ hK => wp_load_mid ty x ho b o hx cs d hc hu hd hi (hK _ _ h)
theorem same_any (x y : It) (A A2 : Option Addr) (c c2 : Nat) (w : World) (hl : x.l.length ≤ 1000) (hr : RdP w w.heap.size A x.l) (hr2 : RdP w w.heap.size A2 y.l) :
    Calls Try.prog 29 #[.agg (itC x A c).toArray, .agg (itC y A2 c2).toArray] w fun e w' => e = .returned (.bool (sameI x y)) ∧ Below w.heap.size w w' :=
  refSame_any x y A x.l.length c A2 y.l.length c2 w rfl rfl (by unfold maxLen; omega) hr hr2
theorem lasts_C (x : It) (A : Option Addr) (c : Nat) (w : World) : Calls Try.prog 57 #[.agg (itC x A c).toArray] w fun e w' => e = .returned (.bool (lastB x)) ∧ Below w.heap.size w w' :=
  lasts_any x A x.l.length c w
theorem hasI_take {M : List Ett} {x : It} {k : Nat} {e : Ett} (he : M[k]? = some e) : hasI (itsE (M.take (k + 1))) x = (hasI (itsE (M.take k)) x || sameI x e.x) := by
  unfold hasI itsE
  rw [List.take_add_one, he]
  simp
theorem hasI_of_take {M : List Ett} {x : It} {k : Nat} (h : hasI (itsE (M.take k)) x = true) : hasI (itsE M) x = true := by
  obtain ⟨y, hy, hs⟩ := hasI_ex h
  exact List.any_eq_true.2 ⟨y.x, List.mem_map_of_mem (List.mem_of_mem_take hy), hs⟩
theorem rdP_keep8 {w w' : World} {A : Option Addr} {l : List Pr} (h : RdP w w.heap.size A l) (hb : Below w.heap.size w w') : RdP w' w'.heap.size A l := (Only.of_below hb fun _ => False).rdP h (fun _ _ _ h => h)
set_option maxRecDepth 100000 in
set_option maxHeartbeats 2000000 in
theorem has_any (A : Option Addr) (n c : Nat) (M : List Ett) (x : It) (B : Option Addr) (d : Nat) (w : World) (hn : n = M.length) (hm : n ≤ 100000) (hM : RdM8 w A M) (hl : x.l.length ≤ 1000) (hr : RdP w w.heap.size B x.l) :
    Calls Try.prog 58 #[.slice A n c, .agg (itC x B d).toArray] w fun e w' => e = .returned (.bool (hasI (itsE M) x)) ∧ Below w.heap.size w w' := by
  obtain ⟨w0, hw0⟩ : ∃ w0, w0 = w.alloc (.cells (itC x B d).toArray 60) := ⟨_, rfl⟩
  have hb0 : Below w.heap.size w w0 := by rw [hw0]; exact (Below.refl _ _).alloc (Nat.le_refl _) _
  have hbox : w0.heap[w.heap.size]? = some (.cells (itC x B d).toArray 60 (0, 0)) := by rw [hw0]; exact heap_alloc_new _ _
  have HW0 := Lib.hid hw0
  have HB0 := Lib.hid hb0
  have HX := Lib.hid hbox
  have HM := Lib.hid (hM.below hb0)
  have HR := Lib.hid (rdP_keep8 hr hb0)
  have HN := Lib.hid hn
  clear hw0 hb0 hbox hM hr hn
  go_enter Try.func58, Try.ntmps58
  go_upto_region 1 with fail
  rw [← HW0.out]
  go_wp2_with fail
  go_loopw [9] (fun iv wx => ∃ k : Nat, k ≤ n ∧ iv = .int .i64 k ∧ Hid (Below w0.heap.size w0 wx) ∧ hasI (itsE (M.take k)) x = false) (fun iv _ => n - (intOf iv).toNat)
  case atStart => exact ⟨0, Nat.zero_le _, rfl, Below.refl _ _, rfl⟩
  case round =>
    obtain ⟨k, hk, rfl, HB, hno⟩ := hrel
    have HNO := Lib.hid hno
    clear hno
    by_cases hlt : k < n
    · have q1 : decide ((k : Int) < (n : Int)) = true := decide_eq_true (by omega)
      have q2 : decide (k < n) = true := decide_eq_true hlt
      obtain ⟨e, he⟩ : ∃ e, M[k]? = some e := ⟨_, List.getElem?_eq_getElem (by rw [← HN.out]; exact hlt)⟩
      obtain ⟨b, o, rfl, hbb, hr1, -, -⟩ := (HM.out.below HB.out).at_ he
      have HE := Lib.hid he
      clear he hbb
      go_upto_region 4 with (first
        | (refine wpList_load_mid rfl _ _ rfl b (o + k * 14) rfl (entC e) _ hr1 Try.underlying68 rfl Try.infoEn ?_)
        | (refine wpList_store_row rfl _ _ _ rfl wr.heap.size _ rfl rfl _ _ (heap_alloc_new _ _) Try.infoEn rfl (by simp [Value.oneCell', entC, itC]) ?_)
        | fail)
      obtain ⟨V, hV, -, hbV, hrV, -⟩ := boxE wr _ e
      rw [← hV, act_put_no]
      have hb2 := HB.out.trans (hbV.mono HB.out.size)
      have hbx := (hb2.block _ (Array.getElem?_eq_some_iff.1 HX.out).1).trans HX.out
      have HB2 := Lib.hid hb2
      have hq := ((HM.out.below hb2).ok e (List.mem_of_getElem? HE.out))
      have HS := Lib.hid (same_any x e.x B e.A d e.c V hl (rdP_keep8 HR.out hb2) hq.rd)
      clear hV hbV hb2 hq hr1 q1 q2 HB
      go_wp2_with (first
        | (refine wpList_load_mid rfl _ _ rfl wr.heap.size 1 rfl (itC e.x e.A e.c) _ hrV Try.underlying60 rfl Try.infoIt ?_)
        | (refine wpList_load_row rfl _ _ rfl w.heap.size rfl _ _ _ _ hbx Try.underlying60 rfl Try.infoIt ?_)
        | fail)
      refine HS.out.mono ?_
      rintro _ w4 ⟨rfl, hb4⟩
      have HB4 := Lib.hid (HB2.out.trans (hb4.mono HB2.out.size))
      have htk := hasI_take (x := x) HE.out
      rw [HNO.out, Bool.false_or] at htk
      have HTK := Lib.hid htk
      clear hb4 htk HS HB2 hbx hrV
      cases hs : sameI x e.x with
      | true =>
        rw [hs] at HTK
        have hall := hasI_of_take HTK.out
        have HALL := Lib.hid hall
        clear hall hs
        go_wp2_with fail
        go_ret
        exact ⟨by rw [HALL.out]; rfl, HB0.out.trans (HB4.out.mono HB0.out.size)⟩
      | false =>
        rw [hs] at HTK
        clear hs
        go_wp2_with fail
        exact ⟨⟨k + 1, by omega, by go_num, HB4.out, HTK.out⟩, by simp [intOf]; omega⟩
    · obtain rfl : n = k := by omega
      have q1 : decide ((n : Int) < (n : Int)) = false := decide_eq_false (by omega)
      have hall : hasI (itsE M) x = false := by
        have h1 := HNO.out
        rwa [HN.out, List.take_length] at h1
      have HALL := Lib.hid hall
      clear hall HNO
      go_wp2_with fail
      go_ret
      exact ⟨by rw [HALL.out]; rfl, HB0.out.trans (HB.out.mono HB0.out.size)⟩
end Go.Proofs.Ytgcfofnlgdfmoaa
/- Layer 8: the statement's own 'kept'. -/
namespace Go.Proofs.Ytgcfofnlgdfmoaa
open Go.RowKit

/-- the lowest priority that stays, the highest that was evicted, of what was looked at -/
structure LowHigh (K N : List It) (k : Nat) (lo hi : Int) : Prop where
  lo : lo = 8 ∨ ∃ y ∈ K.take k, lastB y = false ∧ hasI N y = true ∧ lo = (y.p : Int)
  hi : hi = -1 ∨ ∃ y ∈ K.take k, lastB y = false ∧ hasI N y = false ∧ hi = (y.p : Int)
theorem LowHigh.zero (K N : List It) : LowHigh K N 0 8 (-1) := ⟨.inl rfl, .inl rfl⟩
theorem take_mem {K : List It} {k : Nat} {x : It} (h : x ∈ K.take k) : x ∈ K.take (k + 1) := by
  rw [List.take_add_one]
  exact List.mem_append_left _ h
theorem take_self {K : List It} {k : Nat} {e : It} (he : K[k]? = some e) : e ∈ K.take (k + 1) := by
  rw [List.take_add_one, he]
  exact List.mem_append_right _ (List.mem_singleton.2 rfl)
theorem LowHigh.skip {K N : List It} {k : Nat} {lo hi : Int} (h : LowHigh K N k lo hi) : LowHigh K N (k + 1) lo hi :=
  ⟨h.lo.imp id fun ⟨y, hy, h⟩ => ⟨y, take_mem hy, h⟩, h.hi.imp id fun ⟨y, hy, h⟩ => ⟨y, take_mem hy, h⟩⟩
theorem LowHigh.low {K N : List It} {k : Nat} {lo hi : Int} {e : It} (h : LowHigh K N k lo hi) (he : K[k]? = some e) (hl : lastB e = false) (hh : hasI N e = true) : LowHigh K N (k + 1) (min lo (e.p : Int)) hi := by
  refine ⟨?_, h.skip.hi⟩
  by_cases hc : lo ≤ (e.p : Int)
  · rw [Int.min_eq_left hc]; exact h.skip.lo
  · rw [Int.min_eq_right (by omega)]; exact .inr ⟨e, take_self he, hl, hh, rfl⟩
theorem LowHigh.high {K N : List It} {k : Nat} {lo hi : Int} {e : It} (h : LowHigh K N k lo hi) (he : K[k]? = some e) (hl : lastB e = false) (hh : hasI N e = false) : LowHigh K N (k + 1) lo (max hi (e.p : Int)) := by
  refine ⟨h.skip.lo, ?_⟩
  by_cases hc : hi ≤ (e.p : Int)
  · rw [Int.max_eq_right hc]; exact .inr ⟨e, take_self he, hl, hh, rfl⟩
  · rw [Int.max_eq_left (by omega)]; exact h.skip.hi
theorem LowHigh.done {K N : List It} {x : It} {k : Nat} {lo hi : Int} (h : LowHigh K N k lo hi) (hk : KeptP K N x) : hi ≤ lo := by
  have m : ∀ {y : It}, y ∈ K.take k → y ∈ K := fun h => List.mem_of_mem_take h
  rcases h.hi with h1 | ⟨a, ha, la, ha2, ea⟩ <;> rcases h.lo with h2 | ⟨b, hb, lb, hb2, eb⟩
  · omega
  · omega
  · have := hk.few a (m ha) (ev_span la).1; omega
  · have := hk.low a (m ha) b (m hb) la lb ha2 hb2; omega
theorem itsE_get {M : List Ett} {k : Nat} {e : Ett} (h : M[k]? = some e) : (itsE M)[k]? = some e.x := by
  unfold itsE
  rw [List.getElem?_map, h]
  rfl
set_option maxRecDepth 100000 in
set_option maxHeartbeats 4000000 in
theorem kept_any (A : Option Addr) (n c : Nat) (K : List Ett) (A2 : Option Addr) (n2 c2 : Nat) (M : List Ett) (x : It) (B : Option Addr) (d : Nat) (w : World) (hn : n = K.length) (hm : n ≤ 100000) (hK : RdM8 w A K)
    (hn2 : n2 = M.length) (hm2 : n2 ≤ 100000) (hM : RdM8 w A2 M) (hl : x.l.length ≤ 1000) (hr : RdP w w.heap.size B x.l) (hkp : KeptP (itsE K) (itsE M) x) :
    Calls Try.prog 27 #[.slice A n c, .slice A2 n2 c2, .agg (itC x B d).toArray] w fun e w' => e = .returned (.bool true) ∧ Below w.heap.size w w' := by
  obtain ⟨w0, hw0⟩ : ∃ w0, w0 = w.alloc (.cells (itC x B d).toArray 60) := ⟨_, rfl⟩
  have hb0 : Below w.heap.size w w0 := by rw [hw0]; exact (Below.refl _ _).alloc (Nat.le_refl _) _
  have hbox : w0.heap[w.heap.size]? = some (.cells (itC x B d).toArray 60 (0, 0)) := by rw [hw0]; exact heap_alloc_new _ _
  have HW0 := Lib.hid hw0
  have HB0 := Lib.hid hb0
  have HX := Lib.hid hbox
  have HK := Lib.hid (hK.below hb0)
  have HM := Lib.hid (hM.below hb0)
  have HR := Lib.hid (rdP_keep8 hr hb0)
  have HN := Lib.hid hn
  have HN2 := Lib.hid hn2
  have HKP := Lib.hid hkp
  have HAS : Hid (∀ (y : It) (D : Option Addr) (e : Nat) (V : World), Below w0.heap.size w0 V → y.l.length ≤ 1000 → RdP V V.heap.size D y.l → Calls Try.prog 58 #[.slice A2 n2 c2, .agg (itC y D e).toArray] V fun e w' => e = .returned (.bool (hasI (itsE M) y)) ∧ Below V.heap.size V w') :=
    fun y D e V hV h1 h2 => has_any A2 n2 c2 M y D e V HN2.out hm2 (HM.out.below hV) h1 h2
  clear hw0 hb0 hbox hK hM hr hn hn2 hkp HM HN2
  go_enter Try.func27, Try.ntmps27
  go_upto_region 1 with fail
  rw [← HW0.out]
  go_wp2_with fail
  go_loopw [7, 8, 14] (fun lv hv iv wx => ∃ (k : Nat) (lo hi : Int), k ≤ n ∧ lv = .int .i64 lo ∧ hv = .int .i64 hi ∧ iv = .int .i64 k ∧ Hid (Below w0.heap.size w0 wx) ∧ Hid (LowHigh (itsE K) (itsE M) k lo hi)) (fun _ _ iv _ => n - (intOf iv).toNat)
  case atStart => exact ⟨0, 8, -1, Nat.zero_le _, rfl, rfl, rfl, Below.refl _ _, LowHigh.zero _ _⟩
  case round =>
    obtain ⟨k, lo, hi, hk, rfl, rfl, rfl, HB, HL⟩ := hrel
    by_cases hlt : k < n
    · have q1 : decide ((k : Int) < (n : Int)) = true := decide_eq_true (by omega)
      have q2 : decide (k < n) = true := decide_eq_true hlt
      obtain ⟨e, he⟩ : ∃ e, K[k]? = some e := ⟨_, List.getElem?_eq_getElem (by rw [← HN.out]; exact hlt)⟩
      obtain ⟨b, o, rfl, hbb, hr1, -, -⟩ := (HK.out.below HB.out).at_ he
      have HE := Lib.hid he
      have HI := Lib.hid (itsE_get he)
      clear he hbb
      go_upto_region 5 with (first
        | (refine wpList_load_mid rfl _ _ rfl b (o + k * 14) rfl (entC e) _ hr1 Try.underlying68 rfl Try.infoEn ?_)
        | (refine wpList_store_row rfl _ _ _ rfl wr.heap.size _ rfl rfl _ _ (heap_alloc_new _ _) Try.infoEn rfl (by simp [Value.oneCell', entC, itC]) ?_)
        | fail)
      obtain ⟨V, hV, hbx, hbV, hrV, -⟩ := boxE wr _ e
      rw [← hV, act_put_no]
      obtain ⟨g, hg⟩ : ∃ g, g = wr.heap.size := ⟨_, rfl⟩
      rw [← hg] at hbx hrV ⊢
      have hb2 := HB.out.trans (hbV.mono HB.out.size)
      have HB2 := Lib.hid hb2
      have HQ := Lib.hid ((HK.out.below hb2).ok e (List.mem_of_getElem? HE.out))
      have HC2 : Hid (V.cell? ⟨g, 2 - 1, none⟩ = some (.bool e.x.g)) := cell_of_row _ _ 1 _ _ _ hbx
      have HC8 : Hid (V.cell? ⟨g, 8, none⟩ = some (.int .u8 e.x.p)) := cell_of_row _ _ 8 _ _ _ hbx
      have HRV := Lib.hid hrV
      have HGL : Hid (g < V.heap.size) := (Array.getElem?_eq_some_iff.1 hbx).1
      have hlast := lasts_C e.x e.A e.c V
      have HLAST := Lib.hid hlast
      clear hV hbx hbV hb2 hr1 q1 q2 HB hg hlast
      go_wp2_with (first
        | (refine wpList_load_mid rfl _ _ rfl g 1 rfl (itC e.x e.A e.c) _ hrV Try.underlying60 rfl Try.infoIt ?_)
        | fail)
      refine HLAST.out.mono ?_
      rintro _ w4 ⟨rfl, hb4⟩
      have hb04 := HB2.out.trans (hb4.mono HB2.out.size)
      have HB4 := Lib.hid hb04
      have hrV4 := range_keep HRV.out (hb4.block _ HGL.out)
      have c1 : w4.cell? ⟨g, 1, none⟩ = some (.bool e.x.g) := (hb4.cell (p := ⟨g, 1, none⟩) HGL.out).trans HC2.out
      have c8 : w4.cell? ⟨g, 8, none⟩ = some (.int .u8 e.x.p) := (hb4.cell (p := ⟨g, 8, none⟩) HGL.out).trans HC8.out
      have hq4 := HQ.out.below hb4
      have HC := Lib.hid (HAS.out e.x e.A e.c w4 hb04 hq4.ln hq4.rd)
      clear hb4 hb04 hq4 hrV HLAST HB2 HQ HC2 HC8 HRV HGL
      cases hl : lastB e.x with
      | true =>
        cases hgap : e.x.g with
        | true =>
          rw [hgap] at c1
          have HL2 := Lib.hid (HL.out.skip)
          clear hgap hl HL HI HE HC
          go_wp2_with fail
          exact ⟨⟨k + 1, lo, hi, by omega, rfl, rfl, by go_num, HB4.out, HL2.out⟩, by simp [intOf]; omega⟩
        | false =>
          rw [hgap] at c1
          have hh := HKP.out.own e.x (List.mem_of_getElem? HI.out) hl hgap
          rw [hh] at HC
          have HL2 := Lib.hid (HL.out.skip)
          clear hgap hl HL HI HE hh
          go_wp2_with (first
            | ((with_reducible refine wpList_at8 (op := ⟨some 28, _, _, _, _, _⟩) ?_); refine wpList_load_wanted8 (by rfl) _ _ rfl g 1 rfl (itC e.x e.A e.c) _ hrV4 Try.underlying60 rfl Try.infoIt ?_)
            | fail)
          refine HC.out.mono ?_
          rintro _ w5 ⟨rfl, hb5⟩
          have HB5 := Lib.hid (HB4.out.trans (hb5.mono HB4.out.size))
          clear hb5 HC c1 c8 hrV4
          go_wp2_with fail
          exact ⟨⟨k + 1, lo, hi, by omega, rfl, rfl, by go_num, HB5.out, HL2.out⟩, by simp [intOf]; omega⟩
      | false =>
        have HL0 := Lib.hid hl
        have hp7 := HKP.out.few e.x (List.mem_of_getElem? HI.out) (ev_span hl).1
        have hwp : IntKind.i64.wrap ((e.x.p : Nat) : Int) = ((e.x.p : Nat) : Int) := by rw [IntKind.wrap_i64]; omega
        clear hl
        go_wp2_with (first
          | (refine wpList_load_mid rfl _ _ rfl g 1 rfl (itC e.x e.A e.c) _ hrV4 Try.underlying60 rfl Try.infoIt ?_)
          | fail)
        refine HC.out.mono ?_
        rintro _ w5 ⟨rfl, hb5⟩
        have HB5 := Lib.hid (HB4.out.trans (hb5.mono HB4.out.size))
        clear hb5 HC c1 c8 hrV4
        cases hh : hasI (itsE M) e.x with
        | true =>
          have HL2 := Lib.hid (HL.out.low HI.out HL0.out hh)
          clear hh HL HI HE
          go_wp2_with fail
          exact ⟨⟨k + 1, _, _, by omega, rfl, rfl, by go_num, HB5.out, HL2.out⟩, by simp [intOf]; omega⟩
        | false =>
          have HL2 := Lib.hid (HL.out.high HI.out HL0.out hh)
          clear hh HL HI HE
          go_wp2_with fail
          exact ⟨⟨k + 1, _, _, by omega, rfl, rfl, by go_num, HB5.out, HL2.out⟩, by simp [intOf]; omega⟩
    · obtain rfl : n = k := by omega
      have q1 : decide ((n : Int) < (n : Int)) = false := decide_eq_false (by omega)
      have hle := HL.out.done HKP.out
      have hbx := (HB.out.block _ (Array.getElem?_eq_some_iff.1 HX.out).1).trans HX.out
      have c0 : wr.cell? ⟨w.heap.size, 0, none⟩ = some (.bool x.g) := cell_of_row _ _ 0 _ _ _ hbx
      have hrx : wr.rangeAt w.heap.size 0 (itC x B d) := rangeAt_row hbx 0
      have HC := Lib.hid (HAS.out x B d wr HB.out hl (rdP_keep8 HR.out HB.out))
      have hput := HKP.out.put
      cases hgap : x.g with
      | true =>
        rw [hgap] at c0
        clear hput HC
        go_wp2_with fail
        go_ret
        exact ⟨rfl, HB0.out.trans (HB.out.mono HB0.out.size)⟩
      | false =>
        rw [hgap] at c0 hput
        have hput : hasI (itsE M) x = true := hput.elim (fun h => by cases h) id
        rw [hput] at HC
        clear hput
        go_wp2_with (first
          | ((with_reducible refine wpList_at8 (op := ⟨some 56, _, _, _, _, _⟩) ?_); refine wpList_load_wanted8 (by rfl) _ _ rfl w.heap.size 0 rfl (itC x B d) _ hrx Try.underlying60 rfl Try.infoIt ?_)
          | fail)
        refine HC.out.mono ?_
        rintro _ w5 ⟨rfl, hb5⟩
        go_wp2_with fail
        go_ret
        exact ⟨rfl, HB0.out.trans ((HB.out.trans (hb5.mono HB.out.size)).mono HB0.out.size)⟩
end Go.Proofs.Ytgcfofnlgdfmoaa
