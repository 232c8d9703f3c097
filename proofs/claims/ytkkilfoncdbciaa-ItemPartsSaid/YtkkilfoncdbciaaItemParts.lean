/- The walk of watchfirelaw04.ItemParts. -/
import Derived.Test.YtkkilfoncdbciaaItTwo
import Derived.Test.YtkkilfoncdbciaaItJoin
import Derived.Test.YtkkilfoncdbciaaItSameRef
import Derived.Test.YtkkilfoncdbciaaItEnc
import Derived.Deep.CutRange
import Derived.Deep.MidRow
namespace Go.Proofs.Ytkkilfoncdbciaa.itemParts
open Go.RowKit Go.Proofs.Ytkkilfoncdbciaa

theorem own_setCell2 {W : World} {base : Nat} {e : TypeId} {size n g : Nat} {v : Value} {xs : List Value} (h : W.ownsRow base e size v n xs) (hg : v.ownBlock ≠ some g) (i : Nat) (u : Value) : (W.setCell ⟨g, i, none⟩ u).ownsRow base e size v n xs := by
  refine ⟨h.1, ?_⟩
  rcases h.2 with hn | ⟨k, cap, cur, rfl, hb, hgg, rest⟩
  · exact .inl hn
  · exact .inr ⟨k, cap, cur, rfl, hb, (heap_setCell_other W ⟨g, i, none⟩ k u (fun e => hg (by simp [Value.ownBlock, e]))).trans hgg, rest⟩
theorem same_true {x y : It} (hs : sameI x y = true) (A : Option Addr) (n c : Nat) (A2 : Option Addr) (n2 c2 : Nat) (w : World) (hn : n = x.l.length) (hn2 : n2 = y.l.length) (hm : n ≤ maxLen) (hr : RdP w w.heap.size A x.l) (hr2 : RdP w w.heap.size A2 y.l) :
    Calls Try.prog 18 #[.agg #[.bool x.g, .int .u8 x.o, .int .u64 x.q, .int .u64 x.t, .string x.r, .slice A n c, .int .u8 x.s, .int .u8 x.p, .int .i64 x.v, .int .u8 x.w, .int .u8 x.ga, .int .u64 x.gf, .int .u64 x.gt], .agg #[.bool y.g, .int .u8 y.o, .int .u64 y.q, .int .u64 y.t, .string y.r, .slice A2 n2 c2, .int .u8 y.s, .int .u8 y.p, .int .i64 y.v, .int .u8 y.w, .int .u8 y.ga, .int .u64 y.gf, .int .u64 y.gt]] w fun e w' => e = .returned (.bool true) ∧ Below w.heap.size w w' :=
  (refSame_any x y A n c A2 n2 c2 w hn hn2 hm hr hr2).mono fun e w' h => ⟨by rw [h.1, hs], h.2⟩
theorem parts_alloc4 (w : World) (a b c d : Obj) : ((((w.alloc a).alloc b).alloc c).alloc d).heap.size = w.heap.size + 4 := by simp
theorem parts_h0 (w : World) (a b c d : Obj) : ((((w.alloc a).alloc b).alloc c).alloc d).heap[w.heap.size]? = some a := by
  rw [heap_alloc_old _ _ (by simp; omega), heap_alloc_old _ _ (by simp; omega)]; exact heap_alloc2_old _ _ _
theorem parts_h1 (w : World) (a b c d : Obj) : ((((w.alloc a).alloc b).alloc c).alloc d).heap[w.heap.size + 1]? = some b := by
  rw [heap_alloc_old _ _ (by simp), heap_alloc_old _ _ (by simp)]; exact heap_alloc2_new _ _ _
theorem parts_h2 (w : World) (a b c d : Obj) : ((((w.alloc a).alloc b).alloc c).alloc d).heap[w.heap.size + 2]? = some c := by
  have h := heap_alloc2_old ((w.alloc a).alloc b) c d
  simpa using h
theorem parts_h3 (w : World) (a b c d : Obj) : ((((w.alloc a).alloc b).alloc c).alloc d).heap[w.heap.size + 3]? = some d := by
  have h := heap_alloc2_new ((w.alloc a).alloc b) c d
  simpa using h

/-- a gap made to follow another one -/
def followI (x y : It) : It := ⟨y.g, y.o, y.q, y.t, y.r, y.l, y.s, y.p, y.v, y.w, x.ga, x.gt + 1, x.gt + 1 + y.gt - y.gf⟩
theorem followI_ok {x y : It} (h : x.gt ≤ 131071 ∧ x.ga < 256 ∧ x.gf ≤ x.gt) (h2 : y.gt ≤ 131071 ∧ y.ga < 256 ∧ y.gf ≤ y.gt) (hy : OkI y) : OkI (followI x y) :=
  ⟨hy.o, hy.q, hy.t, hy.r, hy.l, hy.s, hy.p, hy.v0, hy.v1, hy.w, h.2.1, by show x.gt + 1 < _; omega, by show x.gt + 1 + y.gt - y.gf < _; omega⟩
theorem _root_.Go.Proofs.Ytkkilfoncdbciaa.XY.follow {w0 w : World} {x y : It} {X Y : Nat} {A : Option Addr} {n c : Nat} {A2 : Option Addr} {n2 c2 : Nat} {tI tP : TypeId} (h : XY w0 w x y X Y A n c A2 n2 c2 tI tP) {u v : Int} (hu : u = ((x.gt + 1 + y.gt - y.gf : Nat) : Int)) (hv : v = ((x.gt + 1 : Nat) : Int)) :
    XY w0 (((w.setCell ⟨Y, 10, none⟩ (.int .u8 x.ga)).setCell ⟨Y, 12, none⟩ (.int .u64 u)).setCell ⟨Y, 11, none⟩ (.int .u64 v)) x (followI x y) X Y A n c A2 n2 c2 tI tP := by
  subst hu
  subst hv
  exact ⟨((h.bl.setCell (p := ⟨Y, 10, none⟩) h.ly _).setCell (p := ⟨Y, 12, none⟩) h.ly _).setCell (p := ⟨Y, 11, none⟩) h.ly _,
   (heap_setCell_other _ _ _ _ h.ne).trans ((heap_setCell_other _ _ _ _ h.ne).trans ((heap_setCell_other _ _ _ _ h.ne).trans h.hx)),
   heap_setCell_same _ Y 11 _ _ (.int .u64 ((x.gt + 1 : Nat) : Int)) (heap_setCell_same _ Y 12 _ _ (.int .u64 ((x.gt + 1 + y.gt - y.gf : Nat) : Int)) (heap_setCell_same w Y 10 _ _ (.int .u8 x.ga) h.hy)),
   own_setCell2 (own_setCell2 (own_setCell2 h.ox h.xy _ _) h.xy _ _) h.xy _ _, own_setCell2 (own_setCell2 (own_setCell2 h.oy h.yy _ _) h.yy _ _) h.yy _ _, h.nx, h.ny, h.ne, h.lx, h.ly, h.xx, h.xy, h.yx, h.yy⟩
theorem smallI_gt {s : Sm} (hs : OkS s) : (smallI s).gt ≤ 131071 ∧ (smallI s).ga < 256 ∧ (smallI s).gf ≤ (smallI s).gt := by
  have a1 := hs.q
  have a2 := hs.m
  cases hg : s.g with
  | true => rw [smallI_gap s hg]; simp only; omega
  | false => rw [smallI_ev s hg]; simp
/-- an item's cells -/
def listI (x : It) (A : Option Addr) (n c : Nat) : List Value := [.bool x.g, .int .u8 x.o, .int .u64 x.q, .int .u64 x.t, .string x.r, .slice A n c, .int .u8 x.s, .int .u8 x.p, .int .i64 x.v, .int .u8 x.w, .int .u8 x.ga, .int .u64 x.gf, .int .u64 x.gt]
theorem range_left {w : World} {b : Nat} {l1 l2 : List Value} {t : TypeId} {fr : Nat × Nat} (hb : w.heap[b]? = some (.cells (l1 ++ l2).toArray t fr)) : w.rangeAt b 0 l1 := fun j v hv => by
  rw [cell_of_row w b (0 + j) _ t fr hb, Nat.zero_add, List.getElem?_toArray, List.getElem?_append_left (List.getElem?_eq_some_iff.1 hv).1]
  exact hv
theorem range_right {w : World} {b o : Nat} {l1 l2 : List Value} {t : TypeId} {fr : Nat × Nat} (ho : o = l1.length) (hb : w.heap[b]? = some (.cells (l1 ++ l2).toArray t fr)) : w.rangeAt b o l2 := fun j v hv => by
  subst ho
  rw [cell_of_row w b (l1.length + j) _ t fr hb, List.getElem?_toArray, List.getElem?_append_right (Nat.le_add_right _ _), Nat.add_sub_cancel_left]
  exact hv
theorem gap_range {V : World} {b o : Nat} {x : It} {A : Option Addr} {n c : Nat} (h : V.rangeAt b o (listI x A n c)) : V.rangeAt b (o + 10) [.int .u8 x.ga, .int .u64 x.gf, .int .u64 x.gt] := fun j v hv => by
  have := h (10 + j) v (by rw [← hv]; unfold listI; rw [Nat.add_comm]; rfl)
  rwa [← Nat.add_assoc] at this
theorem wpList_at {P : Program} {ops : Array Oper} {rest : List Oper} {op : Oper} {a : Act} {w : World} {Q : Exit → Act → World → Prop} (h : wpList P ops Q (op :: rest) a w) : wpList P ops Q (op :: rest) a w := h
theorem put_none (a : Act) (v : Value) : a.put none v = a := rfl
theorem trim_as {x y : It} {N : Nat} {b : Bool} (hy : trimI x N = y) (hb : aboveB x N = b) (hx : OkI x) (A : Option Addr) (n c : Nat) (w : World) (hn : n = x.l.length) (hA : A = none → n = 0) (hm : n * 32 ≤ 140737488351232) (hr : RdP w w.heap.size A x.l) :
    Calls Try.prog 19 #[.agg #[.bool x.g, .int .u8 x.o, .int .u64 x.q, .int .u64 x.t, .string x.r, .slice A n c, .int .u8 x.s, .int .u8 x.p, .int .i64 x.v, .int .u8 x.w, .int .u8 x.ga, .int .u64 x.gf, .int .u64 x.gt], .int .u64 N] w (TwoRet y b w) := by
  subst hy; subst hb; exact trim_any x hx A n c N w hn hA hm hr
theorem above_as {x y : It} {N : Nat} {b : Bool} (hy : aboveI x N = y) (hb : aboveB x N = b) (hx : OkI x) (A : Option Addr) (n c : Nat) (w : World) (hn : n = x.l.length) (hr : RdP w w.heap.size A x.l) :
    Calls Try.prog 20 #[.agg #[.bool x.g, .int .u8 x.o, .int .u64 x.q, .int .u64 x.t, .string x.r, .slice A n c, .int .u8 x.s, .int .u8 x.p, .int .i64 x.v, .int .u8 x.w, .int .u8 x.ga, .int .u64 x.gf, .int .u64 x.gt], .int .u64 N] w (TwoRet y b w) := by
  subst hy; subst hb; exact above_any x hx A n c N w hn hr
theorem join_as {x y z : It} {b : Bool} (hz : joinI x y = z) (hb : joinB x y = b) (hy : OkI y) (A : Option Addr) (n c : Nat) (A2 : Option Addr) (n2 c2 : Nat) (w : World) :
    Calls Try.prog 24 #[.agg #[.bool x.g, .int .u8 x.o, .int .u64 x.q, .int .u64 x.t, .string x.r, .slice A n c, .int .u8 x.s, .int .u8 x.p, .int .i64 x.v, .int .u8 x.w, .int .u8 x.ga, .int .u64 x.gf, .int .u64 x.gt], .agg #[.bool y.g, .int .u8 y.o, .int .u64 y.q, .int .u64 y.t, .string y.r, .slice A2 n2 c2, .int .u8 y.s, .int .u8 y.p, .int .i64 y.v, .int .u8 y.w, .int .u8 y.ga, .int .u64 y.gf, .int .u64 y.gt]] w (TwoRet z b w) := by
  subst hz; subst hb; exact join_any x y hy A n c A2 n2 c2 w
theorem lasts_as {x : It} {b : Bool} (hb : lastB x = b) (A : Option Addr) (n c : Nat) (w : World) :
    Calls Try.prog 23 #[.agg #[.bool x.g, .int .u8 x.o, .int .u64 x.q, .int .u64 x.t, .string x.r, .slice A n c, .int .u8 x.s, .int .u8 x.p, .int .i64 x.v, .int .u8 x.w, .int .u8 x.ga, .int .u64 x.gf, .int .u64 x.gt]] w fun e w' => e = .returned (.bool b) ∧ Below w.heap.size w w' := by
  subst hb; exact lasts_any x A n c w
theorem wpList_load_wanted {P : Program} {ops : Array Oper} {rest : List Oper} {op : Oper} {a : Act} {w : World} {Q : Exit → Act → World → Prop} (hw : Region.wanted op (yielded ops a.tmps) = true) (ty : TypeId) (x : Operand) (ho : op.op = .load ty x)
    (b o : Nat) (hx : a.eval x = .pointer (some ⟨b, o, none⟩)) (cs : List Value) (d : TypeDesc) (hc : w.rangeAt b o cs)
    (hu : P.underlying ty = some d) (hd : d.isRow = true) (hi : (P.info? ty).map (·.size) = some cs.length)
    (h : wpList P ops Q rest (a.put op.dst (.agg cs.toArray)) w) : wpList P ops Q (op :: rest) a w :=
  BigFrame.wpList_want hw fun _ hK => wp_load_mid ty x ho b o hx cs d hc hu hd hi (hK _ _ h)
theorem trimI_len (x : It) (N : Nat) : (trimI x N).l.length ≤ x.l.length := by
  unfold trimI
  split
  · exact Nat.zero_le _
  · split
    · exact Nat.le_refl _
    · exact Nat.zero_le _
theorem under2 : Try.prog.underlying 48 = some (.array 2 30) := by kernel_rfl
theorem infoG : (Try.prog.info? 28).map (·.size) = some 3 := by kernel_rfl
theorem info2 : (Try.prog.info? 48).map (·.size) = some 26 := by kernel_rfl
/-- two items side by side at block P from cell o on, whatever is made later -/
structure PairOk (W : World) (P o : Nat) (u v : It) (U : Option Addr) (nu cu : Nat) (U' : Option Addr) (nv cv : Nat) : Prop where
  hu : OkI u
  hv : OkI v
  enu : nu = u.l.length
  env : nv = v.l.length
  qu : U = none → nu = 0
  qv : U' = none → nv = 0
  lu : nu ≤ 20
  lv : nv ≤ 20
  ru : ∀ V, Below W.heap.size W V → RdP V V.heap.size U u.l
  rv : ∀ V, Below W.heap.size W V → RdP V V.heap.size U' v.l
  rg : ∀ V, Below W.heap.size W V → V.rangeAt P o (listI u U nu cu ++ listI v U' nv cv)
set_option maxRecDepth 100000 in
set_option maxHeartbeats 16000000 in
theorem walk (a : It) (A : Option Addr) (na ca : Nat) (hoka : OkI a) (hna : na = a.l.length) (hnilA : A = none → na = 0) (b : It) (B : Option Addr) (nb cb : Nat) (hokb : OkI b) (hnb : nb = b.l.length) (hnilB : B = none → nb = 0)
    (s t : Sm) (hs : OkS s) (ht : OkS t) (N : Nat) (hN : N < 18446744073709551616) (f : Bool) (w : World) (hra : RdP w w.heap.size A a.l) (hrb : RdP w w.heap.size B b.l) :
    Calls Try.prog 5 #[.agg #[.bool a.g, .int .u8 a.o, .int .u64 a.q, .int .u64 a.t, .string a.r, .slice A na ca, .int .u8 a.s, .int .u8 a.p, .int .i64 a.v, .int .u8 a.w, .int .u8 a.ga, .int .u64 a.gf, .int .u64 a.gt], .agg #[.bool b.g, .int .u8 b.o, .int .u64 b.q, .int .u64 b.t, .string b.r, .slice B nb cb, .int .u8 b.s, .int .u8 b.p, .int .i64 b.v, .int .u8 b.w, .int .u8 b.ga, .int .u64 b.gf, .int .u64 b.gt], .agg #[.bool s.g, .int .u8 s.o, .int .u8 s.p, .int .u8 s.w, .int .u16 s.q, .int .u16 s.m, .int .u16 s.t, .int .u8 s.r, .int .u8 s.l, .int .u8 s.v, .bool s.s], .agg #[.bool t.g, .int .u8 t.o, .int .u8 t.p, .int .u8 t.w, .int .u16 t.q, .int .u16 t.m, .int .u16 t.t, .int .u8 t.r, .int .u8 t.l, .int .u8 t.v, .bool t.s], .int .u64 N, .bool f] w fun e w' => e = .returned (.bool true) ∧ Below w.heap.size w w' := by
  obtain ⟨W, hW⟩ : ∃ W, W = ((((w.alloc (.cells #[.bool a.g, .int .u8 a.o, .int .u64 a.q, .int .u64 a.t, .string a.r, .slice A na ca, .int .u8 a.s, .int .u8 a.p, .int .i64 a.v, .int .u8 a.w, .int .u8 a.ga, .int .u64 a.gf, .int .u64 a.gt] 30)).alloc (.cells #[.bool b.g, .int .u8 b.o, .int .u64 b.q, .int .u64 b.t, .string b.r, .slice B nb cb, .int .u8 b.s, .int .u8 b.p, .int .i64 b.v, .int .u8 b.w, .int .u8 b.ga, .int .u64 b.gf, .int .u64 b.gt] 30)).alloc (.cells #[.bool s.g, .int .u8 s.o, .int .u8 s.p, .int .u8 s.w, .int .u16 s.q, .int .u16 s.m, .int .u16 s.t, .int .u8 s.r, .int .u8 s.l, .int .u8 s.v, .bool s.s] 33)).alloc (.cells #[.bool t.g, .int .u8 t.o, .int .u8 t.p, .int .u8 t.w, .int .u16 t.q, .int .u16 t.m, .int .u16 t.t, .int .u8 t.r, .int .u8 t.l, .int .u8 t.v, .bool t.s] 33)) := ⟨_, rfl⟩
  have hba : Below w.heap.size w W := by rw [hW]; exact ((((Below.refl _ _).alloc (Nat.le_refl _) _).alloc (by simp) _).alloc (by simp; omega) _).alloc (by simp; omega) _
  have hz : W.heap.size = w.heap.size + 4 := by rw [hW]; exact parts_alloc4 _ _ _ _ _
  have k0 : W.heap[w.heap.size]? = some (.cells #[.bool a.g, .int .u8 a.o, .int .u64 a.q, .int .u64 a.t, .string a.r, .slice A na ca, .int .u8 a.s, .int .u8 a.p, .int .i64 a.v, .int .u8 a.w, .int .u8 a.ga, .int .u64 a.gf, .int .u64 a.gt] 30 (0, 0)) := by rw [hW]; exact parts_h0 _ _ _ _ _
  have k1 : W.heap[w.heap.size + 1]? = some (.cells #[.bool b.g, .int .u8 b.o, .int .u64 b.q, .int .u64 b.t, .string b.r, .slice B nb cb, .int .u8 b.s, .int .u8 b.p, .int .i64 b.v, .int .u8 b.w, .int .u8 b.ga, .int .u64 b.gf, .int .u64 b.gt] 30 (0, 0)) := by rw [hW]; exact parts_h1 _ _ _ _ _
  have k2 : W.heap[w.heap.size + 2]? = some (.cells #[.bool s.g, .int .u8 s.o, .int .u8 s.p, .int .u8 s.w, .int .u16 s.q, .int .u16 s.m, .int .u16 s.t, .int .u8 s.r, .int .u8 s.l, .int .u8 s.v, .bool s.s] 33 (0, 0)) := by rw [hW]; exact parts_h2 _ _ _ _ _
  have k3 : W.heap[w.heap.size + 3]? = some (.cells #[.bool t.g, .int .u8 t.o, .int .u8 t.p, .int .u8 t.w, .int .u16 t.q, .int .u16 t.m, .int .u16 t.t, .int .u8 t.r, .int .u8 t.l, .int .u8 t.v, .bool t.s] 33 (0, 0)) := by rw [hW]; exact parts_h3 _ _ _ _ _
  have HW := Lib.hid hW
  have HZ := Lib.hid hz
  have K0 := Lib.hid k0
  have K1 := Lib.hid k1
  have K2 := Lib.hid k2
  have K3 := Lib.hid k3
  have Hba := Lib.hid hba
  have HS1 := Lib.hid hs
  have HS2 := Lib.hid ht
  have HOa := Lib.hid hoka
  have HOb := Lib.hid hokb
  have HNa := Lib.hid hna
  have HNb := Lib.hid hnb
  have HQa := Lib.hid hnilA
  have HQb := Lib.hid hnilB
  have HRa := Lib.hid hra
  have HRb := Lib.hid hrb
  have HN := Lib.hid hN
  obtain ⟨x, hx⟩ : ∃ x, smallI s = x := ⟨_, rfl⟩
  obtain ⟨y, hy⟩ : ∃ y, smallI t = y := ⟨_, rfl⟩
  have HX1 := Lib.hid hx
  have HX2 := Lib.hid hy
  clear hba hz k0 k1 k2 k3 hW hs ht hoka hokb hna hnb hnilA hnilB hra hrb hN hx hy
  go_enter Try.func5, Try.ntmps5
  go_upto_region 1 with fail
  rw [← HW.out]
  generalize (.agg #[.bool a.g, .int .u8 a.o, .int .u64 a.q, .int .u64 a.t, .string a.r, .slice A na ca, .int .u8 a.s, .int .u8 a.p, .int .i64 a.v, .int .u8 a.w, .int .u8 a.ga, .int .u64 a.gf, .int .u64 a.gt] : Value) = va
  generalize (.agg #[.bool b.g, .int .u8 b.o, .int .u64 b.q, .int .u64 b.t, .string b.r, .slice B nb cb, .int .u8 b.s, .int .u8 b.p, .int .i64 b.v, .int .u8 b.w, .int .u8 b.ga, .int .u64 b.gf, .int .u64 b.gt] : Value) = vb
  generalize (.agg #[.bool s.g, .int .u8 s.o, .int .u8 s.p, .int .u8 s.w, .int .u16 s.q, .int .u16 s.m, .int .u16 s.t, .int .u8 s.r, .int .u8 s.l, .int .u8 s.v, .bool s.s] : Value) = vs
  generalize (.agg #[.bool t.g, .int .u8 t.o, .int .u8 t.p, .int .u8 t.w, .int .u16 t.q, .int .u16 t.m, .int .u16 t.t, .int .u8 t.r, .int .u8 t.l, .int .u8 t.v, .bool t.s] : Value) = vt
  go_wp2_with fail
  refine (iawake_any _).mono ?_
  rintro e w1 ⟨rfl, hb1⟩
  have hz := HZ.out
  have L0 : Hid (∀ V, Below w1.heap.size w1 V → V.heap[w.heap.size]? = some (.cells #[.bool a.g, .int .u8 a.o, .int .u64 a.q, .int .u64 a.t, .string a.r, .slice A na ca, .int .u8 a.s, .int .u8 a.p, .int .i64 a.v, .int .u8 a.w, .int .u8 a.ga, .int .u64 a.gf, .int .u64 a.gt] 30 (0, 0))) := fun V hV => (hV.block _ (by have := hb1.size; omega)).trans ((hb1.block _ (by omega)).trans K0.out)
  have L1 : Hid (∀ V, Below w1.heap.size w1 V → V.heap[w.heap.size + 1]? = some (.cells #[.bool b.g, .int .u8 b.o, .int .u64 b.q, .int .u64 b.t, .string b.r, .slice B nb cb, .int .u8 b.s, .int .u8 b.p, .int .i64 b.v, .int .u8 b.w, .int .u8 b.ga, .int .u64 b.gf, .int .u64 b.gt] 30 (0, 0))) := fun V hV => (hV.block _ (by have := hb1.size; omega)).trans ((hb1.block _ (by omega)).trans K1.out)
  have L2 : Hid (∀ V, Below w1.heap.size w1 V → V.heap[w.heap.size + 2]? = some (.cells #[.bool s.g, .int .u8 s.o, .int .u8 s.p, .int .u8 s.w, .int .u16 s.q, .int .u16 s.m, .int .u16 s.t, .int .u8 s.r, .int .u8 s.l, .int .u8 s.v, .bool s.s] 33 (0, 0))) := fun V hV => (hV.block _ (by have := hb1.size; omega)).trans ((hb1.block _ (by omega)).trans K2.out)
  have L3 : Hid (∀ V, Below w1.heap.size w1 V → V.heap[w.heap.size + 3]? = some (.cells #[.bool t.g, .int .u8 t.o, .int .u8 t.p, .int .u8 t.w, .int .u16 t.q, .int .u16 t.m, .int .u16 t.t, .int .u8 t.r, .int .u8 t.l, .int .u8 t.v, .bool t.s] 33 (0, 0))) := fun V hV => (hV.block _ (by have := hb1.size; omega)).trans ((hb1.block _ (by omega)).trans K3.out)
  have Hb1 := Lib.hid (Hba.out.trans (hb1.mono Hba.out.size))
  have hw1 := Hb1.out.size
  have Hb4 : Hid (w.heap.size + 4 ≤ w1.heap.size) := by have := hb1.size; show _ ≤ _; omega
  clear hb1 K0 K1 K2 K3 Hba hz HZ HW
  have c0 : w1.cell? ⟨w.heap.size, 5, none⟩ = some (.slice A na ca) := cell_of_row _ _ 5 _ _ _ (L0.out w1 (Below.refl _ _))
  have c1 : w1.cell? ⟨w.heap.size + 1, 5, none⟩ = some (.slice B nb cb) := cell_of_row _ _ 5 _ _ _ (L1.out w1 (Below.refl _ _))
  by_cases h20 : 20 < na
  · have d1 : decide ((20 : Int) < (na : Int)) = true := decide_eq_true (by omega)
    have d2 : decide (20 < na) = true := decide_eq_true (by omega)
    clear h20 L0 L1 L2 L3
    go_wp2
    go_ret
    exact ⟨rfl, Hb1.out⟩
  by_cases h21 : 20 < nb
  · have d1 : decide ((20 : Int) < (na : Int)) = false := decide_eq_false (by omega)
    have d2 : decide (20 < na) = false := decide_eq_false (by omega)
    have d3 : decide ((20 : Int) < (nb : Int)) = true := decide_eq_true (by omega)
    have d4 : decide (20 < nb) = true := decide_eq_true (by omega)
    clear h20 h21 L0 L1 L2 L3
    go_wp2
    go_ret
    exact ⟨rfl, Hb1.out⟩
  have d1 : decide ((20 : Int) < (na : Int)) = false := decide_eq_false (by omega)
  have d2 : decide (20 < na) = false := decide_eq_false (by omega)
  have d3 : decide ((20 : Int) < (nb : Int)) = false := decide_eq_false (by omega)
  have d4 : decide (20 < nb) = false := decide_eq_false (by omega)
  have H20 := Lib.hid h20
  have H21 := Lib.hid h21
  clear h20 h21
  go_upto_region 5 with fail
  clear d1 d2 d3 d4 c0 c1
  go_cut [13, 14] from 48 to 51 (fun p q wx => ∃ X Y A1 n1 c1 A2 n2 c2, p = .pointer (some ⟨X, 0, none⟩) ∧ q = .pointer (some ⟨Y, 0, none⟩) ∧ XY w1 wx x y X Y A1 n1 c1 A2 n2 c2 30 61)
  case first =>
    refine wp_region_noPanic ?_
    refine wp_region_held_drew (S := (fun V => Below w1.heap.size w1 V)) (by kernel_rfl) ?_ (fun hHeld => ?_)
    · exact (Below.refl _ _).drew
    refine heldTake (i := 0) (v := ?_) rfl (by kernel_rfl) (by kernel_rfl) (by kernel_rfl) (fun _ _ _ h => h) (Or.inl ⟨by rfl, ?_⟩) (by assumption) ?_
    rotate_left
    · (intro w hSw; (try dsimp only at hSw); have k0 := cell_of_row _ _ 0 _ _ _ (L2.out _ hSw); have k1 := cell_of_row _ _ 1 _ _ _ (L2.out _ hSw); have k2 := cell_of_row _ _ 2 _ _ _ (L2.out _ hSw); have k3 := cell_of_row _ _ 3 _ _ _ (L2.out _ hSw); have k4 := cell_of_row _ _ 4 _ _ _ (L2.out _ hSw); have k5 := cell_of_row _ _ 5 _ _ _ (L2.out _ hSw); have k6 := cell_of_row _ _ 6 _ _ _ (L2.out _ hSw); have k7 := cell_of_row _ _ 7 _ _ _ (L2.out _ hSw); have k8 := cell_of_row _ _ 8 _ _ _ (L2.out _ hSw); have k9 := cell_of_row _ _ 9 _ _ _ (L2.out _ hSw); have k10 := cell_of_row _ _ 10 _ _ _ (L2.out _ hSw); clear hSw; simp at k0 k1 k2 k3 k4 k5 k6 k7 k8 k9 k10; go_simp; try with_reducible rfl)
    try simp only [heldPut, List.set]
    refine heldTake (i := 2) (v := ?_) rfl (by kernel_rfl) (by kernel_rfl) (by kernel_rfl) (fun _ _ _ h => h) (Or.inl ⟨by rfl, ?_⟩) (by assumption) ?_
    rotate_left
    · (intro w hSw; (try dsimp only at hSw); have k0 := cell_of_row _ _ 0 _ _ _ (L3.out _ hSw); have k1 := cell_of_row _ _ 1 _ _ _ (L3.out _ hSw); have k2 := cell_of_row _ _ 2 _ _ _ (L3.out _ hSw); have k3 := cell_of_row _ _ 3 _ _ _ (L3.out _ hSw); have k4 := cell_of_row _ _ 4 _ _ _ (L3.out _ hSw); have k5 := cell_of_row _ _ 5 _ _ _ (L3.out _ hSw); have k6 := cell_of_row _ _ 6 _ _ _ (L3.out _ hSw); have k7 := cell_of_row _ _ 7 _ _ _ (L3.out _ hSw); have k8 := cell_of_row _ _ 8 _ _ _ (L3.out _ hSw); have k9 := cell_of_row _ _ 9 _ _ _ (L3.out _ hSw); have k10 := cell_of_row _ _ 10 _ _ _ (L3.out _ hSw); clear hSw; simp at k0 k1 k2 k3 k4 k5 k6 k7 k8 k9 k10; go_simp; try with_reducible rfl)
    try simp only [heldPut, List.set]
    have hz0 : w1.heap.size ≤ w1.drew.heap.size := Nat.le_refl _
    generalize hw2 : w1.drew = w2 at *
    clear hw2
    refine heldThree (i := 1) (j := 4) (k := 5) rfl rfl rfl (by kernel_rfl) (fun K hK => ?g1_1) (fun K hK => ?g1_4) (fun K hK => ?g1_5)
    case' g1_1 =>
      go_simp
      refine (smallItem_as HX1.out HS1.out _).mono ?_
      rintro e V2 ⟨A1, n1, c1, rfl, hn1, ho1, hb2⟩
      have HN1 := Lib.hid hn1
      clear hn1
      go_wp2_with fail
      refine hK.out _ _ ?_ (fun hh2 => ?_)
      · exact (hHeld.trans (hb2.mono (hHeld.size)))
      clear hK K
      try simp only [heldPut, List.set]
      have hz2 := hb2.size
      have HL1 : Hid (∀ k, (Value.slice A1 n1 c1).ownBlock = some k → w2.heap.size ≤ k ∧ k < V2.heap.size) := fun k e => ho1.lt k e
      refine heldMore (S2 := (fun V : World => Below w1.heap.size w1 V ∧ V.ownsRow w2.heap.size 61 2 (.slice A1 n1 c1) n1 (cellsP x.l))) (fun _ h => h.1) ?_
      have hh2' : (fun V : World => Below w1.heap.size w1 V ∧ V.ownsRow w2.heap.size 61 2 (.slice A1 n1 c1) n1 (cellsP x.l)) V2 := ⟨hh2, ho1⟩
      clear hh2 ho1 hb2
      refine heldThree (i := 3) (j := 4) (k := 5) rfl rfl rfl (by kernel_rfl) (fun K hK => ?g3_3) (fun K hK => ?g3_4) (fun K hK => ?g3_5)
      case' g3_3 =>
        go_simp
        refine (smallItem_as HX2.out HS2.out _).mono ?_
        rintro e V4 ⟨A2, n2, c2, rfl, hn2, ho2, hb4⟩
        have HN2 := Lib.hid hn2
        clear hn2
        go_wp2_with fail
        refine hK.out _ _ ?_ (fun hh4 => ?_)
        · exact ⟨(hh2'.1.trans (hb4.mono (hh2'.1.size))), (own_below hh2'.2 hb4)⟩
        clear hK K
        try simp only [heldPut, List.set]
        have hz4 := hb4.size
        have HL2 : Hid (∀ k, (Value.slice A2 n2 c2).ownBlock = some k → V2.heap.size ≤ k ∧ k < V4.heap.size) := fun k e => ho2.lt k e
        refine heldMore (S2 := (fun V : World => Below w1.heap.size w1 V ∧ V.ownsRow w2.heap.size 61 2 (.slice A1 n1 c1) n1 (cellsP x.l) ∧ V.ownsRow V2.heap.size 61 2 (.slice A2 n2 c2) n2 (cellsP y.l))) (fun _ h => ⟨h.1, h.2.1⟩) ?_
        have hh4' : (fun V : World => Below w1.heap.size w1 V ∧ V.ownsRow w2.heap.size 61 2 (.slice A1 n1 c1) n1 (cellsP x.l) ∧ V.ownsRow V2.heap.size 61 2 (.slice A2 n2 c2) n2 (cellsP y.l)) V4 := ⟨hh4.1, hh4.2, ho2⟩
        clear hh4 ho2 hb4
        refine heldTwo (i := 4) (j := 5) rfl rfl (by kernel_rfl) (fun K hK => ?g5_4) (fun K hK => ?g5_5)
        case' g5_4 =>
          have hb6 : Below V4.heap.size V4 (V4.alloc (.cells #[.bool false, .int .u8 0, .int .u64 0, .int .u64 0, .string ⟨#[]⟩, .slice none 0 0, .int .u8 0, .int .u8 0, .int .i64 0, .int .u8 0, .int .u8 0, .int .u64 0, .int .u64 0] 30)) := (Below.refl _ _).alloc (Nat.le_refl _) _
          go_simp
          refine hK.out _ _ ?_ (fun hh6 => ?_)
          · exact ⟨(hh4'.1.trans (hb6.mono (hh4'.1.size))), (own_below hh4'.2.1 hb6), (own_below hh4'.2.2 hb6)⟩
          clear hK K
          try simp only [heldPut, List.set]
          have hc6 : CellsAt (V4.alloc (.cells #[.bool false, .int .u8 0, .int .u64 0, .int .u64 0, .string ⟨#[]⟩, .slice none 0 0, .int .u8 0, .int .u8 0, .int .i64 0, .int .u8 0, .int .u8 0, .int .u64 0, .int .u64 0] 30)) V4.heap.size 30 := CellsAt.new _ _ _ rfl
          have hz6 : (V4.alloc (.cells #[.bool false, .int .u8 0, .int .u64 0, .int .u64 0, .string ⟨#[]⟩, .slice none 0 0, .int .u8 0, .int .u8 0, .int .i64 0, .int .u8 0, .int .u8 0, .int .u64 0, .int .u64 0] 30)).heap.size = V4.heap.size + 1 := by simp
          generalize hV6 : V4.alloc (.cells #[.bool false, .int .u8 0, .int .u64 0, .int .u64 0, .string ⟨#[]⟩, .slice none 0 0, .int .u8 0, .int .u8 0, .int .i64 0, .int .u8 0, .int .u8 0, .int .u64 0, .int .u64 0] 30) = V6 at *
          clear hV6 hb6
          refine heldMore (S2 := (fun V : World => Below w1.heap.size w1 V ∧ V.ownsRow w2.heap.size 61 2 (.slice A1 n1 c1) n1 (cellsP x.l) ∧ V.ownsRow V2.heap.size 61 2 (.slice A2 n2 c2) n2 (cellsP y.l) ∧ CellsAt V V4.heap.size 30)) (fun _ h => ⟨h.1, h.2.1, h.2.2.1⟩) ?_
          have hh6' : (fun V : World => Below w1.heap.size w1 V ∧ V.ownsRow w2.heap.size 61 2 (.slice A1 n1 c1) n1 (cellsP x.l) ∧ V.ownsRow V2.heap.size 61 2 (.slice A2 n2 c2) n2 (cellsP y.l) ∧ CellsAt V V4.heap.size 30) V6 := ⟨hh6.1, hh6.2.1, hh6.2.2, hc6⟩
          clear hh6 hc6
          replace hz6 : V4.heap.size + 1 ≤ V6.heap.size := by omega
          refine heldOne (i := 5) rfl (by kernel_rfl) (fun K hK => ?_)
          have hb8 : Below V6.heap.size V6 (V6.alloc (.cells #[.bool false, .int .u8 0, .int .u64 0, .int .u64 0, .string ⟨#[]⟩, .slice none 0 0, .int .u8 0, .int .u8 0, .int .i64 0, .int .u8 0, .int .u8 0, .int .u64 0, .int .u64 0] 30)) := (Below.refl _ _).alloc (Nat.le_refl _) _
          go_simp
          refine hK.out _ _ ?_ (fun hh8 => ?_)
          · exact ⟨(hh6'.1.trans (hb8.mono (hh6'.1.size))), (own_below hh6'.2.1 hb8), (own_below hh6'.2.2.1 hb8), (hh6'.2.2.2.below hb8)⟩
          clear hK K
          try simp only [heldPut, List.set]
          have hc8 : CellsAt (V6.alloc (.cells #[.bool false, .int .u8 0, .int .u64 0, .int .u64 0, .string ⟨#[]⟩, .slice none 0 0, .int .u8 0, .int .u8 0, .int .i64 0, .int .u8 0, .int .u8 0, .int .u64 0, .int .u64 0] 30)) V6.heap.size 30 := CellsAt.new _ _ _ rfl
          have hz8 : (V6.alloc (.cells #[.bool false, .int .u8 0, .int .u64 0, .int .u64 0, .string ⟨#[]⟩, .slice none 0 0, .int .u8 0, .int .u8 0, .int .i64 0, .int .u8 0, .int .u8 0, .int .u64 0, .int .u64 0] 30)).heap.size = V6.heap.size + 1 := by simp
          generalize hV8 : V6.alloc (.cells #[.bool false, .int .u8 0, .int .u64 0, .int .u64 0, .string ⟨#[]⟩, .slice none 0 0, .int .u8 0, .int .u8 0, .int .i64 0, .int .u8 0, .int .u8 0, .int .u64 0, .int .u64 0] 30) = V8 at *
          clear hV8 hb8
          refine heldMore (S2 := (fun V : World => Below w1.heap.size w1 V ∧ V.ownsRow w2.heap.size 61 2 (.slice A1 n1 c1) n1 (cellsP x.l) ∧ V.ownsRow V2.heap.size 61 2 (.slice A2 n2 c2) n2 (cellsP y.l) ∧ CellsAt V V4.heap.size 30 ∧ CellsAt V V6.heap.size 30)) (fun _ h => ⟨h.1, h.2.1, h.2.2.1, h.2.2.2.1⟩) ?_
          have hh8' : (fun V : World => Below w1.heap.size w1 V ∧ V.ownsRow w2.heap.size 61 2 (.slice A1 n1 c1) n1 (cellsP x.l) ∧ V.ownsRow V2.heap.size 61 2 (.slice A2 n2 c2) n2 (cellsP y.l) ∧ CellsAt V V4.heap.size 30 ∧ CellsAt V V6.heap.size 30) V8 := ⟨hh8.1, hh8.2.1, hh8.2.2.1, hh8.2.2.2, hc8⟩
          clear hh8 hc8
          replace hz8 : V6.heap.size + 1 ≤ V8.heap.size := by omega
          refine heldOne (i := 6) rfl (by kernel_rfl) (fun K hK => ?_)
          rw [if_pos (by rfl)]
          obtain ⟨cs10, hcs10, hsz10⟩ := hh8'.2.2.2.1
          refine wp_store_row _ _ _ rfl (V4.heap.size) _ rfl rfl _ _ hcs10 Try.infoI hsz10 (by simp [Value.oneCell']) ?_
          refine hK.out _ _ ?_ (fun hh10 => ?_)
          · exact ⟨(below_setRow hh8'.1 (by omega) _), (own_setRow2 hh8'.2.1 (fun e => by have := HL1.out _ e; omega) _), (own_setRow2 hh8'.2.2.1 (fun e => by have := HL2.out _ e; omega) _), (hh8'.2.2.2.1.same _ rfl), (hh8'.2.2.2.2.other (by omega) _)⟩
          clear hK K
          have hX : (V8.setRow (V4.heap.size) #[.bool x.g, .int .u8 x.o, .int .u64 x.q, .int .u64 x.t, .string x.r, .slice A1 n1 c1, .int .u8 x.s, .int .u8 x.p, .int .i64 x.v, .int .u8 x.w, .int .u8 x.ga, .int .u64 x.gf, .int .u64 x.gt]).heap[V4.heap.size]? = some (.cells #[.bool x.g, .int .u8 x.o, .int .u64 x.q, .int .u64 x.t, .string x.r, .slice A1 n1 c1, .int .u8 x.s, .int .u8 x.p, .int .i64 x.v, .int .u8 x.w, .int .u8 x.ga, .int .u64 x.gf, .int .u64 x.gt] 30 (0, 0)) := setRow_heap _ _ _ _ _ _ hcs10
          generalize hV10 : V8.setRow (V4.heap.size) #[.bool x.g, .int .u8 x.o, .int .u64 x.q, .int .u64 x.t, .string x.r, .slice A1 n1 c1, .int .u8 x.s, .int .u8 x.p, .int .i64 x.v, .int .u8 x.w, .int .u8 x.ga, .int .u64 x.gf, .int .u64 x.gt] = V10 at *
          clear hV10 hcs10 hsz10 
          refine heldOne (i := 7) rfl (by kernel_rfl) (fun K hK => ?_)
          rw [if_pos (by rfl)]
          obtain ⟨cs12, hcs12, hsz12⟩ := hh10.2.2.2.2
          refine wp_store_row _ _ _ rfl (V6.heap.size) _ rfl rfl _ _ hcs12 Try.infoI hsz12 (by simp [Value.oneCell']) ?_
          refine hK.out _ _ ?_ (fun hh12 => ?_)
          · exact ⟨(below_setRow hh10.1 (by omega) _), (own_setRow2 hh10.2.1 (fun e => by have := HL1.out _ e; omega) _), (own_setRow2 hh10.2.2.1 (fun e => by have := HL2.out _ e; omega) _), (hh10.2.2.2.1.other (by omega) _), (hh10.2.2.2.2.same _ rfl)⟩
          clear hK K
          have hY : (V10.setRow (V6.heap.size) #[.bool y.g, .int .u8 y.o, .int .u64 y.q, .int .u64 y.t, .string y.r, .slice A2 n2 c2, .int .u8 y.s, .int .u8 y.p, .int .i64 y.v, .int .u8 y.w, .int .u8 y.ga, .int .u64 y.gf, .int .u64 y.gt]).heap[V6.heap.size]? = some (.cells #[.bool y.g, .int .u8 y.o, .int .u64 y.q, .int .u64 y.t, .string y.r, .slice A2 n2 c2, .int .u8 y.s, .int .u8 y.p, .int .i64 y.v, .int .u8 y.w, .int .u8 y.ga, .int .u64 y.gf, .int .u64 y.gt] 30 (0, 0)) := setRow_heap _ _ _ _ _ _ hcs12
          have hX' : (V10.setRow (V6.heap.size) #[.bool y.g, .int .u8 y.o, .int .u64 y.q, .int .u64 y.t, .string y.r, .slice A2 n2 c2, .int .u8 y.s, .int .u8 y.p, .int .i64 y.v, .int .u8 y.w, .int .u8 y.ga, .int .u64 y.gf, .int .u64 y.gt]).heap[V4.heap.size]? = some (.cells #[.bool x.g, .int .u8 x.o, .int .u64 x.q, .int .u64 x.t, .string x.r, .slice A1 n1 c1, .int .u8 x.s, .int .u8 x.p, .int .i64 x.v, .int .u8 x.w, .int .u8 x.ga, .int .u64 x.gf, .int .u64 x.gt] 30 (0, 0)) := (setRow_other _ _ _ _ (by omega)).trans hX
          generalize hV12 : V10.setRow (V6.heap.size) #[.bool y.g, .int .u8 y.o, .int .u64 y.q, .int .u64 y.t, .string y.r, .slice A2 n2 c2, .int .u8 y.s, .int .u8 y.p, .int .i64 y.v, .int .u8 y.w, .int .u8 y.ga, .int .u64 y.gf, .int .u64 y.gt] = V12 at *
          clear hV12 hcs12 hsz12 hX
          refine wpAnyH_done (by kernel_rfl) ?_ _
          refine NoPanic.normal ?_
          go_wp2_with fail
          go_meet
          exact ⟨V4.heap.size, V6.heap.size, A1, n1, c1, A2, n2, c2, rfl, rfl, ⟨hh12.1, hX', hY, ownB_mono hh12.2.1 (by omega), ownB_mono hh12.2.2.1 (by omega), HN1.out, HN2.out, by omega, by omega, by omega, fun e => by have := HL1.out _ e; omega, fun e => by have := HL1.out _ e; omega, fun e => by have := HL2.out _ e; omega, fun e => by have := HL2.out _ e; omega⟩⟩
        case' g5_5 =>
          have hb13 : Below V4.heap.size V4 (V4.alloc (.cells #[.bool false, .int .u8 0, .int .u64 0, .int .u64 0, .string ⟨#[]⟩, .slice none 0 0, .int .u8 0, .int .u8 0, .int .i64 0, .int .u8 0, .int .u8 0, .int .u64 0, .int .u64 0] 30)) := (Below.refl _ _).alloc (Nat.le_refl _) _
          go_simp
          refine hK.out _ _ ?_ (fun hh13 => ?_)
          · exact ⟨(hh4'.1.trans (hb13.mono (hh4'.1.size))), (own_below hh4'.2.1 hb13), (own_below hh4'.2.2 hb13)⟩
          clear hK K
          try simp only [heldPut, List.set]
          have hc13 : CellsAt (V4.alloc (.cells #[.bool false, .int .u8 0, .int .u64 0, .int .u64 0, .string ⟨#[]⟩, .slice none 0 0, .int .u8 0, .int .u8 0, .int .i64 0, .int .u8 0, .int .u8 0, .int .u64 0, .int .u64 0] 30)) V4.heap.size 30 := CellsAt.new _ _ _ rfl
          have hz13 : (V4.alloc (.cells #[.bool false, .int .u8 0, .int .u64 0, .int .u64 0, .string ⟨#[]⟩, .slice none 0 0, .int .u8 0, .int .u8 0, .int .i64 0, .int .u8 0, .int .u8 0, .int .u64 0, .int .u64 0] 30)).heap.size = V4.heap.size + 1 := by simp
          generalize hV13 : V4.alloc (.cells #[.bool false, .int .u8 0, .int .u64 0, .int .u64 0, .string ⟨#[]⟩, .slice none 0 0, .int .u8 0, .int .u8 0, .int .i64 0, .int .u8 0, .int .u8 0, .int .u64 0, .int .u64 0] 30) = V13 at *
          clear hV13 hb13
          refine heldMore (S2 := (fun V : World => Below w1.heap.size w1 V ∧ V.ownsRow w2.heap.size 61 2 (.slice A1 n1 c1) n1 (cellsP x.l) ∧ V.ownsRow V2.heap.size 61 2 (.slice A2 n2 c2) n2 (cellsP y.l) ∧ CellsAt V V4.heap.size 30)) (fun _ h => ⟨h.1, h.2.1, h.2.2.1⟩) ?_
          have hh13' : (fun V : World => Below w1.heap.size w1 V ∧ V.ownsRow w2.heap.size 61 2 (.slice A1 n1 c1) n1 (cellsP x.l) ∧ V.ownsRow V2.heap.size 61 2 (.slice A2 n2 c2) n2 (cellsP y.l) ∧ CellsAt V V4.heap.size 30) V13 := ⟨hh13.1, hh13.2.1, hh13.2.2, hc13⟩
          clear hh13 hc13
          replace hz13 : V4.heap.size + 1 ≤ V13.heap.size := by omega
          refine heldOne (i := 4) rfl (by kernel_rfl) (fun K hK => ?_)
          have hb15 : Below V13.heap.size V13 (V13.alloc (.cells #[.bool false, .int .u8 0, .int .u64 0, .int .u64 0, .string ⟨#[]⟩, .slice none 0 0, .int .u8 0, .int .u8 0, .int .i64 0, .int .u8 0, .int .u8 0, .int .u64 0, .int .u64 0] 30)) := (Below.refl _ _).alloc (Nat.le_refl _) _
          go_simp
          refine hK.out _ _ ?_ (fun hh15 => ?_)
          · exact ⟨(hh13'.1.trans (hb15.mono (hh13'.1.size))), (own_below hh13'.2.1 hb15), (own_below hh13'.2.2.1 hb15), (hh13'.2.2.2.below hb15)⟩
          clear hK K
          try simp only [heldPut, List.set]
          have hc15 : CellsAt (V13.alloc (.cells #[.bool false, .int .u8 0, .int .u64 0, .int .u64 0, .string ⟨#[]⟩, .slice none 0 0, .int .u8 0, .int .u8 0, .int .i64 0, .int .u8 0, .int .u8 0, .int .u64 0, .int .u64 0] 30)) V13.heap.size 30 := CellsAt.new _ _ _ rfl
          have hz15 : (V13.alloc (.cells #[.bool false, .int .u8 0, .int .u64 0, .int .u64 0, .string ⟨#[]⟩, .slice none 0 0, .int .u8 0, .int .u8 0, .int .i64 0, .int .u8 0, .int .u8 0, .int .u64 0, .int .u64 0] 30)).heap.size = V13.heap.size + 1 := by simp
          generalize hV15 : V13.alloc (.cells #[.bool false, .int .u8 0, .int .u64 0, .int .u64 0, .string ⟨#[]⟩, .slice none 0 0, .int .u8 0, .int .u8 0, .int .i64 0, .int .u8 0, .int .u8 0, .int .u64 0, .int .u64 0] 30) = V15 at *
          clear hV15 hb15
          refine heldMore (S2 := (fun V : World => Below w1.heap.size w1 V ∧ V.ownsRow w2.heap.size 61 2 (.slice A1 n1 c1) n1 (cellsP x.l) ∧ V.ownsRow V2.heap.size 61 2 (.slice A2 n2 c2) n2 (cellsP y.l) ∧ CellsAt V V4.heap.size 30 ∧ CellsAt V V13.heap.size 30)) (fun _ h => ⟨h.1, h.2.1, h.2.2.1, h.2.2.2.1⟩) ?_
          have hh15' : (fun V : World => Below w1.heap.size w1 V ∧ V.ownsRow w2.heap.size 61 2 (.slice A1 n1 c1) n1 (cellsP x.l) ∧ V.ownsRow V2.heap.size 61 2 (.slice A2 n2 c2) n2 (cellsP y.l) ∧ CellsAt V V4.heap.size 30 ∧ CellsAt V V13.heap.size 30) V15 := ⟨hh15.1, hh15.2.1, hh15.2.2.1, hh15.2.2.2, hc15⟩
          clear hh15 hc15
          replace hz15 : V13.heap.size + 1 ≤ V15.heap.size := by omega
          refine heldOne (i := 6) rfl (by kernel_rfl) (fun K hK => ?_)
          rw [if_pos (by rfl)]
          obtain ⟨cs17, hcs17, hsz17⟩ := hh15'.2.2.2.2
          refine wp_store_row _ _ _ rfl (V13.heap.size) _ rfl rfl _ _ hcs17 Try.infoI hsz17 (by simp [Value.oneCell']) ?_
          refine hK.out _ _ ?_ (fun hh17 => ?_)
          · exact ⟨(below_setRow hh15'.1 (by omega) _), (own_setRow2 hh15'.2.1 (fun e => by have := HL1.out _ e; omega) _), (own_setRow2 hh15'.2.2.1 (fun e => by have := HL2.out _ e; omega) _), (hh15'.2.2.2.1.other (by omega) _), (hh15'.2.2.2.2.same _ rfl)⟩
          clear hK K
          have hX : (V15.setRow (V13.heap.size) #[.bool x.g, .int .u8 x.o, .int .u64 x.q, .int .u64 x.t, .string x.r, .slice A1 n1 c1, .int .u8 x.s, .int .u8 x.p, .int .i64 x.v, .int .u8 x.w, .int .u8 x.ga, .int .u64 x.gf, .int .u64 x.gt]).heap[V13.heap.size]? = some (.cells #[.bool x.g, .int .u8 x.o, .int .u64 x.q, .int .u64 x.t, .string x.r, .slice A1 n1 c1, .int .u8 x.s, .int .u8 x.p, .int .i64 x.v, .int .u8 x.w, .int .u8 x.ga, .int .u64 x.gf, .int .u64 x.gt] 30 (0, 0)) := setRow_heap _ _ _ _ _ _ hcs17
          generalize hV17 : V15.setRow (V13.heap.size) #[.bool x.g, .int .u8 x.o, .int .u64 x.q, .int .u64 x.t, .string x.r, .slice A1 n1 c1, .int .u8 x.s, .int .u8 x.p, .int .i64 x.v, .int .u8 x.w, .int .u8 x.ga, .int .u64 x.gf, .int .u64 x.gt] = V17 at *
          clear hV17 hcs17 hsz17 
          refine heldOne (i := 7) rfl (by kernel_rfl) (fun K hK => ?_)
          rw [if_pos (by rfl)]
          obtain ⟨cs19, hcs19, hsz19⟩ := hh17.2.2.2.1
          refine wp_store_row _ _ _ rfl (V4.heap.size) _ rfl rfl _ _ hcs19 Try.infoI hsz19 (by simp [Value.oneCell']) ?_
          refine hK.out _ _ ?_ (fun hh19 => ?_)
          · exact ⟨(below_setRow hh17.1 (by omega) _), (own_setRow2 hh17.2.1 (fun e => by have := HL1.out _ e; omega) _), (own_setRow2 hh17.2.2.1 (fun e => by have := HL2.out _ e; omega) _), (hh17.2.2.2.1.same _ rfl), (hh17.2.2.2.2.other (by omega) _)⟩
          clear hK K
          have hY : (V17.setRow (V4.heap.size) #[.bool y.g, .int .u8 y.o, .int .u64 y.q, .int .u64 y.t, .string y.r, .slice A2 n2 c2, .int .u8 y.s, .int .u8 y.p, .int .i64 y.v, .int .u8 y.w, .int .u8 y.ga, .int .u64 y.gf, .int .u64 y.gt]).heap[V4.heap.size]? = some (.cells #[.bool y.g, .int .u8 y.o, .int .u64 y.q, .int .u64 y.t, .string y.r, .slice A2 n2 c2, .int .u8 y.s, .int .u8 y.p, .int .i64 y.v, .int .u8 y.w, .int .u8 y.ga, .int .u64 y.gf, .int .u64 y.gt] 30 (0, 0)) := setRow_heap _ _ _ _ _ _ hcs19
          have hX' : (V17.setRow (V4.heap.size) #[.bool y.g, .int .u8 y.o, .int .u64 y.q, .int .u64 y.t, .string y.r, .slice A2 n2 c2, .int .u8 y.s, .int .u8 y.p, .int .i64 y.v, .int .u8 y.w, .int .u8 y.ga, .int .u64 y.gf, .int .u64 y.gt]).heap[V13.heap.size]? = some (.cells #[.bool x.g, .int .u8 x.o, .int .u64 x.q, .int .u64 x.t, .string x.r, .slice A1 n1 c1, .int .u8 x.s, .int .u8 x.p, .int .i64 x.v, .int .u8 x.w, .int .u8 x.ga, .int .u64 x.gf, .int .u64 x.gt] 30 (0, 0)) := (setRow_other _ _ _ _ (by omega)).trans hX
          generalize hV19 : V17.setRow (V4.heap.size) #[.bool y.g, .int .u8 y.o, .int .u64 y.q, .int .u64 y.t, .string y.r, .slice A2 n2 c2, .int .u8 y.s, .int .u8 y.p, .int .i64 y.v, .int .u8 y.w, .int .u8 y.ga, .int .u64 y.gf, .int .u64 y.gt] = V19 at *
          clear hV19 hcs19 hsz19 hX
          refine wpAnyH_done (by kernel_rfl) ?_ _
          refine NoPanic.normal ?_
          go_wp2_with fail
          go_meet
          exact ⟨V13.heap.size, V4.heap.size, A1, n1, c1, A2, n2, c2, rfl, rfl, ⟨hh19.1, hX', hY, ownB_mono hh19.2.1 (by omega), ownB_mono hh19.2.2.1 (by omega), HN1.out, HN2.out, by omega, by omega, by omega, fun e => by have := HL1.out _ e; omega, fun e => by have := HL1.out _ e; omega, fun e => by have := HL2.out _ e; omega, fun e => by have := HL2.out _ e; omega⟩⟩
      case' g3_4 =>
        have hb20 : Below V2.heap.size V2 (V2.alloc (.cells #[.bool false, .int .u8 0, .int .u64 0, .int .u64 0, .string ⟨#[]⟩, .slice none 0 0, .int .u8 0, .int .u8 0, .int .i64 0, .int .u8 0, .int .u8 0, .int .u64 0, .int .u64 0] 30)) := (Below.refl _ _).alloc (Nat.le_refl _) _
        go_simp
        refine hK.out _ _ ?_ (fun hh20 => ?_)
        · exact ⟨(hh2'.1.trans (hb20.mono (hh2'.1.size))), (own_below hh2'.2 hb20)⟩
        clear hK K
        try simp only [heldPut, List.set]
        have hc20 : CellsAt (V2.alloc (.cells #[.bool false, .int .u8 0, .int .u64 0, .int .u64 0, .string ⟨#[]⟩, .slice none 0 0, .int .u8 0, .int .u8 0, .int .i64 0, .int .u8 0, .int .u8 0, .int .u64 0, .int .u64 0] 30)) V2.heap.size 30 := CellsAt.new _ _ _ rfl
        have hz20 : (V2.alloc (.cells #[.bool false, .int .u8 0, .int .u64 0, .int .u64 0, .string ⟨#[]⟩, .slice none 0 0, .int .u8 0, .int .u8 0, .int .i64 0, .int .u8 0, .int .u8 0, .int .u64 0, .int .u64 0] 30)).heap.size = V2.heap.size + 1 := by simp
        generalize hV20 : V2.alloc (.cells #[.bool false, .int .u8 0, .int .u64 0, .int .u64 0, .string ⟨#[]⟩, .slice none 0 0, .int .u8 0, .int .u8 0, .int .i64 0, .int .u8 0, .int .u8 0, .int .u64 0, .int .u64 0] 30) = V20 at *
        clear hV20 hb20
        refine heldMore (S2 := (fun V : World => Below w1.heap.size w1 V ∧ V.ownsRow w2.heap.size 61 2 (.slice A1 n1 c1) n1 (cellsP x.l) ∧ CellsAt V V2.heap.size 30)) (fun _ h => ⟨h.1, h.2.1⟩) ?_
        have hh20' : (fun V : World => Below w1.heap.size w1 V ∧ V.ownsRow w2.heap.size 61 2 (.slice A1 n1 c1) n1 (cellsP x.l) ∧ CellsAt V V2.heap.size 30) V20 := ⟨hh20.1, hh20.2, hc20⟩
        clear hh20 hc20
        replace hz20 : V2.heap.size + 1 ≤ V20.heap.size := by omega
        refine heldTwo (i := 3) (j := 5) rfl rfl (by kernel_rfl) (fun K hK => ?g21_3) (fun K hK => ?g21_5)
        case' g21_3 =>
          go_simp
          refine (smallItem_as HX2.out HS2.out _).mono ?_
          rintro e V22 ⟨A2, n2, c2, rfl, hn2, ho2, hb22⟩
          have HN2 := Lib.hid hn2
          clear hn2
          go_wp2_with fail
          refine hK.out _ _ ?_ (fun hh22 => ?_)
          · exact ⟨(hh20'.1.trans (hb22.mono (hh20'.1.size))), (own_below hh20'.2.1 hb22), (hh20'.2.2.below hb22)⟩
          clear hK K
          try simp only [heldPut, List.set]
          have hz22 := hb22.size
          have HL2 : Hid (∀ k, (Value.slice A2 n2 c2).ownBlock = some k → V20.heap.size ≤ k ∧ k < V22.heap.size) := fun k e => ho2.lt k e
          refine heldMore (S2 := (fun V : World => Below w1.heap.size w1 V ∧ V.ownsRow w2.heap.size 61 2 (.slice A1 n1 c1) n1 (cellsP x.l) ∧ CellsAt V V2.heap.size 30 ∧ V.ownsRow V20.heap.size 61 2 (.slice A2 n2 c2) n2 (cellsP y.l))) (fun _ h => ⟨h.1, h.2.1, h.2.2.1⟩) ?_
          have hh22' : (fun V : World => Below w1.heap.size w1 V ∧ V.ownsRow w2.heap.size 61 2 (.slice A1 n1 c1) n1 (cellsP x.l) ∧ CellsAt V V2.heap.size 30 ∧ V.ownsRow V20.heap.size 61 2 (.slice A2 n2 c2) n2 (cellsP y.l)) V22 := ⟨hh22.1, hh22.2.1, hh22.2.2, ho2⟩
          clear hh22 ho2 hb22
          refine heldOne (i := 5) rfl (by kernel_rfl) (fun K hK => ?_)
          have hb24 : Below V22.heap.size V22 (V22.alloc (.cells #[.bool false, .int .u8 0, .int .u64 0, .int .u64 0, .string ⟨#[]⟩, .slice none 0 0, .int .u8 0, .int .u8 0, .int .i64 0, .int .u8 0, .int .u8 0, .int .u64 0, .int .u64 0] 30)) := (Below.refl _ _).alloc (Nat.le_refl _) _
          go_simp
          refine hK.out _ _ ?_ (fun hh24 => ?_)
          · exact ⟨(hh22'.1.trans (hb24.mono (hh22'.1.size))), (own_below hh22'.2.1 hb24), (hh22'.2.2.1.below hb24), (own_below hh22'.2.2.2 hb24)⟩
          clear hK K
          try simp only [heldPut, List.set]
          have hc24 : CellsAt (V22.alloc (.cells #[.bool false, .int .u8 0, .int .u64 0, .int .u64 0, .string ⟨#[]⟩, .slice none 0 0, .int .u8 0, .int .u8 0, .int .i64 0, .int .u8 0, .int .u8 0, .int .u64 0, .int .u64 0] 30)) V22.heap.size 30 := CellsAt.new _ _ _ rfl
          have hz24 : (V22.alloc (.cells #[.bool false, .int .u8 0, .int .u64 0, .int .u64 0, .string ⟨#[]⟩, .slice none 0 0, .int .u8 0, .int .u8 0, .int .i64 0, .int .u8 0, .int .u8 0, .int .u64 0, .int .u64 0] 30)).heap.size = V22.heap.size + 1 := by simp
          generalize hV24 : V22.alloc (.cells #[.bool false, .int .u8 0, .int .u64 0, .int .u64 0, .string ⟨#[]⟩, .slice none 0 0, .int .u8 0, .int .u8 0, .int .i64 0, .int .u8 0, .int .u8 0, .int .u64 0, .int .u64 0] 30) = V24 at *
          clear hV24 hb24
          refine heldMore (S2 := (fun V : World => Below w1.heap.size w1 V ∧ V.ownsRow w2.heap.size 61 2 (.slice A1 n1 c1) n1 (cellsP x.l) ∧ CellsAt V V2.heap.size 30 ∧ V.ownsRow V20.heap.size 61 2 (.slice A2 n2 c2) n2 (cellsP y.l) ∧ CellsAt V V22.heap.size 30)) (fun _ h => ⟨h.1, h.2.1, h.2.2.1, h.2.2.2.1⟩) ?_
          have hh24' : (fun V : World => Below w1.heap.size w1 V ∧ V.ownsRow w2.heap.size 61 2 (.slice A1 n1 c1) n1 (cellsP x.l) ∧ CellsAt V V2.heap.size 30 ∧ V.ownsRow V20.heap.size 61 2 (.slice A2 n2 c2) n2 (cellsP y.l) ∧ CellsAt V V22.heap.size 30) V24 := ⟨hh24.1, hh24.2.1, hh24.2.2.1, hh24.2.2.2, hc24⟩
          clear hh24 hc24
          replace hz24 : V22.heap.size + 1 ≤ V24.heap.size := by omega
          refine heldOne (i := 6) rfl (by kernel_rfl) (fun K hK => ?_)
          rw [if_pos (by rfl)]
          obtain ⟨cs26, hcs26, hsz26⟩ := hh24'.2.2.1
          refine wp_store_row _ _ _ rfl (V2.heap.size) _ rfl rfl _ _ hcs26 Try.infoI hsz26 (by simp [Value.oneCell']) ?_
          refine hK.out _ _ ?_ (fun hh26 => ?_)
          · exact ⟨(below_setRow hh24'.1 (by omega) _), (own_setRow2 hh24'.2.1 (fun e => by have := HL1.out _ e; omega) _), (hh24'.2.2.1.same _ rfl), (own_setRow2 hh24'.2.2.2.1 (fun e => by have := HL2.out _ e; omega) _), (hh24'.2.2.2.2.other (by omega) _)⟩
          clear hK K
          have hX : (V24.setRow (V2.heap.size) #[.bool x.g, .int .u8 x.o, .int .u64 x.q, .int .u64 x.t, .string x.r, .slice A1 n1 c1, .int .u8 x.s, .int .u8 x.p, .int .i64 x.v, .int .u8 x.w, .int .u8 x.ga, .int .u64 x.gf, .int .u64 x.gt]).heap[V2.heap.size]? = some (.cells #[.bool x.g, .int .u8 x.o, .int .u64 x.q, .int .u64 x.t, .string x.r, .slice A1 n1 c1, .int .u8 x.s, .int .u8 x.p, .int .i64 x.v, .int .u8 x.w, .int .u8 x.ga, .int .u64 x.gf, .int .u64 x.gt] 30 (0, 0)) := setRow_heap _ _ _ _ _ _ hcs26
          generalize hV26 : V24.setRow (V2.heap.size) #[.bool x.g, .int .u8 x.o, .int .u64 x.q, .int .u64 x.t, .string x.r, .slice A1 n1 c1, .int .u8 x.s, .int .u8 x.p, .int .i64 x.v, .int .u8 x.w, .int .u8 x.ga, .int .u64 x.gf, .int .u64 x.gt] = V26 at *
          clear hV26 hcs26 hsz26 
          refine heldOne (i := 7) rfl (by kernel_rfl) (fun K hK => ?_)
          rw [if_pos (by rfl)]
          obtain ⟨cs28, hcs28, hsz28⟩ := hh26.2.2.2.2
          refine wp_store_row _ _ _ rfl (V22.heap.size) _ rfl rfl _ _ hcs28 Try.infoI hsz28 (by simp [Value.oneCell']) ?_
          refine hK.out _ _ ?_ (fun hh28 => ?_)
          · exact ⟨(below_setRow hh26.1 (by omega) _), (own_setRow2 hh26.2.1 (fun e => by have := HL1.out _ e; omega) _), (hh26.2.2.1.other (by omega) _), (own_setRow2 hh26.2.2.2.1 (fun e => by have := HL2.out _ e; omega) _), (hh26.2.2.2.2.same _ rfl)⟩
          clear hK K
          have hY : (V26.setRow (V22.heap.size) #[.bool y.g, .int .u8 y.o, .int .u64 y.q, .int .u64 y.t, .string y.r, .slice A2 n2 c2, .int .u8 y.s, .int .u8 y.p, .int .i64 y.v, .int .u8 y.w, .int .u8 y.ga, .int .u64 y.gf, .int .u64 y.gt]).heap[V22.heap.size]? = some (.cells #[.bool y.g, .int .u8 y.o, .int .u64 y.q, .int .u64 y.t, .string y.r, .slice A2 n2 c2, .int .u8 y.s, .int .u8 y.p, .int .i64 y.v, .int .u8 y.w, .int .u8 y.ga, .int .u64 y.gf, .int .u64 y.gt] 30 (0, 0)) := setRow_heap _ _ _ _ _ _ hcs28
          have hX' : (V26.setRow (V22.heap.size) #[.bool y.g, .int .u8 y.o, .int .u64 y.q, .int .u64 y.t, .string y.r, .slice A2 n2 c2, .int .u8 y.s, .int .u8 y.p, .int .i64 y.v, .int .u8 y.w, .int .u8 y.ga, .int .u64 y.gf, .int .u64 y.gt]).heap[V2.heap.size]? = some (.cells #[.bool x.g, .int .u8 x.o, .int .u64 x.q, .int .u64 x.t, .string x.r, .slice A1 n1 c1, .int .u8 x.s, .int .u8 x.p, .int .i64 x.v, .int .u8 x.w, .int .u8 x.ga, .int .u64 x.gf, .int .u64 x.gt] 30 (0, 0)) := (setRow_other _ _ _ _ (by omega)).trans hX
          generalize hV28 : V26.setRow (V22.heap.size) #[.bool y.g, .int .u8 y.o, .int .u64 y.q, .int .u64 y.t, .string y.r, .slice A2 n2 c2, .int .u8 y.s, .int .u8 y.p, .int .i64 y.v, .int .u8 y.w, .int .u8 y.ga, .int .u64 y.gf, .int .u64 y.gt] = V28 at *
          clear hV28 hcs28 hsz28 hX
          refine wpAnyH_done (by kernel_rfl) ?_ _
          refine NoPanic.normal ?_
          go_wp2_with fail
          go_meet
          exact ⟨V2.heap.size, V22.heap.size, A1, n1, c1, A2, n2, c2, rfl, rfl, ⟨hh28.1, hX', hY, ownB_mono hh28.2.1 (by omega), ownB_mono hh28.2.2.2.1 (by omega), HN1.out, HN2.out, by omega, by omega, by omega, fun e => by have := HL1.out _ e; omega, fun e => by have := HL1.out _ e; omega, fun e => by have := HL2.out _ e; omega, fun e => by have := HL2.out _ e; omega⟩⟩
        case' g21_5 =>
          have hb29 : Below V20.heap.size V20 (V20.alloc (.cells #[.bool false, .int .u8 0, .int .u64 0, .int .u64 0, .string ⟨#[]⟩, .slice none 0 0, .int .u8 0, .int .u8 0, .int .i64 0, .int .u8 0, .int .u8 0, .int .u64 0, .int .u64 0] 30)) := (Below.refl _ _).alloc (Nat.le_refl _) _
          go_simp
          refine hK.out _ _ ?_ (fun hh29 => ?_)
          · exact ⟨(hh20'.1.trans (hb29.mono (hh20'.1.size))), (own_below hh20'.2.1 hb29), (hh20'.2.2.below hb29)⟩
          clear hK K
          try simp only [heldPut, List.set]
          have hc29 : CellsAt (V20.alloc (.cells #[.bool false, .int .u8 0, .int .u64 0, .int .u64 0, .string ⟨#[]⟩, .slice none 0 0, .int .u8 0, .int .u8 0, .int .i64 0, .int .u8 0, .int .u8 0, .int .u64 0, .int .u64 0] 30)) V20.heap.size 30 := CellsAt.new _ _ _ rfl
          have hz29 : (V20.alloc (.cells #[.bool false, .int .u8 0, .int .u64 0, .int .u64 0, .string ⟨#[]⟩, .slice none 0 0, .int .u8 0, .int .u8 0, .int .i64 0, .int .u8 0, .int .u8 0, .int .u64 0, .int .u64 0] 30)).heap.size = V20.heap.size + 1 := by simp
          generalize hV29 : V20.alloc (.cells #[.bool false, .int .u8 0, .int .u64 0, .int .u64 0, .string ⟨#[]⟩, .slice none 0 0, .int .u8 0, .int .u8 0, .int .i64 0, .int .u8 0, .int .u8 0, .int .u64 0, .int .u64 0] 30) = V29 at *
          clear hV29 hb29
          refine heldMore (S2 := (fun V : World => Below w1.heap.size w1 V ∧ V.ownsRow w2.heap.size 61 2 (.slice A1 n1 c1) n1 (cellsP x.l) ∧ CellsAt V V2.heap.size 30 ∧ CellsAt V V20.heap.size 30)) (fun _ h => ⟨h.1, h.2.1, h.2.2.1⟩) ?_
          have hh29' : (fun V : World => Below w1.heap.size w1 V ∧ V.ownsRow w2.heap.size 61 2 (.slice A1 n1 c1) n1 (cellsP x.l) ∧ CellsAt V V2.heap.size 30 ∧ CellsAt V V20.heap.size 30) V29 := ⟨hh29.1, hh29.2.1, hh29.2.2, hc29⟩
          clear hh29 hc29
          replace hz29 : V20.heap.size + 1 ≤ V29.heap.size := by omega
          refine heldOne (i := 3) rfl (by kernel_rfl) (fun K hK => ?_)
          go_simp
          refine (smallItem_as HX2.out HS2.out _).mono ?_
          rintro e V31 ⟨A2, n2, c2, rfl, hn2, ho2, hb31⟩
          have HN2 := Lib.hid hn2
          clear hn2
          go_wp2_with fail
          refine hK.out _ _ ?_ (fun hh31 => ?_)
          · exact ⟨(hh29'.1.trans (hb31.mono (hh29'.1.size))), (own_below hh29'.2.1 hb31), (hh29'.2.2.1.below hb31), (hh29'.2.2.2.below hb31)⟩
          clear hK K
          try simp only [heldPut, List.set]
          have hz31 := hb31.size
          have HL2 : Hid (∀ k, (Value.slice A2 n2 c2).ownBlock = some k → V29.heap.size ≤ k ∧ k < V31.heap.size) := fun k e => ho2.lt k e
          refine heldMore (S2 := (fun V : World => Below w1.heap.size w1 V ∧ V.ownsRow w2.heap.size 61 2 (.slice A1 n1 c1) n1 (cellsP x.l) ∧ CellsAt V V2.heap.size 30 ∧ CellsAt V V20.heap.size 30 ∧ V.ownsRow V29.heap.size 61 2 (.slice A2 n2 c2) n2 (cellsP y.l))) (fun _ h => ⟨h.1, h.2.1, h.2.2.1, h.2.2.2.1⟩) ?_
          have hh31' : (fun V : World => Below w1.heap.size w1 V ∧ V.ownsRow w2.heap.size 61 2 (.slice A1 n1 c1) n1 (cellsP x.l) ∧ CellsAt V V2.heap.size 30 ∧ CellsAt V V20.heap.size 30 ∧ V.ownsRow V29.heap.size 61 2 (.slice A2 n2 c2) n2 (cellsP y.l)) V31 := ⟨hh31.1, hh31.2.1, hh31.2.2.1, hh31.2.2.2, ho2⟩
          clear hh31 ho2 hb31
          refine heldOne (i := 6) rfl (by kernel_rfl) (fun K hK => ?_)
          rw [if_pos (by rfl)]
          obtain ⟨cs33, hcs33, hsz33⟩ := hh31'.2.2.1
          refine wp_store_row _ _ _ rfl (V2.heap.size) _ rfl rfl _ _ hcs33 Try.infoI hsz33 (by simp [Value.oneCell']) ?_
          refine hK.out _ _ ?_ (fun hh33 => ?_)
          · exact ⟨(below_setRow hh31'.1 (by omega) _), (own_setRow2 hh31'.2.1 (fun e => by have := HL1.out _ e; omega) _), (hh31'.2.2.1.same _ rfl), (hh31'.2.2.2.1.other (by omega) _), (own_setRow2 hh31'.2.2.2.2 (fun e => by have := HL2.out _ e; omega) _)⟩
          clear hK K
          have hX : (V31.setRow (V2.heap.size) #[.bool x.g, .int .u8 x.o, .int .u64 x.q, .int .u64 x.t, .string x.r, .slice A1 n1 c1, .int .u8 x.s, .int .u8 x.p, .int .i64 x.v, .int .u8 x.w, .int .u8 x.ga, .int .u64 x.gf, .int .u64 x.gt]).heap[V2.heap.size]? = some (.cells #[.bool x.g, .int .u8 x.o, .int .u64 x.q, .int .u64 x.t, .string x.r, .slice A1 n1 c1, .int .u8 x.s, .int .u8 x.p, .int .i64 x.v, .int .u8 x.w, .int .u8 x.ga, .int .u64 x.gf, .int .u64 x.gt] 30 (0, 0)) := setRow_heap _ _ _ _ _ _ hcs33
          generalize hV33 : V31.setRow (V2.heap.size) #[.bool x.g, .int .u8 x.o, .int .u64 x.q, .int .u64 x.t, .string x.r, .slice A1 n1 c1, .int .u8 x.s, .int .u8 x.p, .int .i64 x.v, .int .u8 x.w, .int .u8 x.ga, .int .u64 x.gf, .int .u64 x.gt] = V33 at *
          clear hV33 hcs33 hsz33 
          refine heldOne (i := 7) rfl (by kernel_rfl) (fun K hK => ?_)
          rw [if_pos (by rfl)]
          obtain ⟨cs35, hcs35, hsz35⟩ := hh33.2.2.2.1
          refine wp_store_row _ _ _ rfl (V20.heap.size) _ rfl rfl _ _ hcs35 Try.infoI hsz35 (by simp [Value.oneCell']) ?_
          refine hK.out _ _ ?_ (fun hh35 => ?_)
          · exact ⟨(below_setRow hh33.1 (by omega) _), (own_setRow2 hh33.2.1 (fun e => by have := HL1.out _ e; omega) _), (hh33.2.2.1.other (by omega) _), (hh33.2.2.2.1.same _ rfl), (own_setRow2 hh33.2.2.2.2 (fun e => by have := HL2.out _ e; omega) _)⟩
          clear hK K
          have hY : (V33.setRow (V20.heap.size) #[.bool y.g, .int .u8 y.o, .int .u64 y.q, .int .u64 y.t, .string y.r, .slice A2 n2 c2, .int .u8 y.s, .int .u8 y.p, .int .i64 y.v, .int .u8 y.w, .int .u8 y.ga, .int .u64 y.gf, .int .u64 y.gt]).heap[V20.heap.size]? = some (.cells #[.bool y.g, .int .u8 y.o, .int .u64 y.q, .int .u64 y.t, .string y.r, .slice A2 n2 c2, .int .u8 y.s, .int .u8 y.p, .int .i64 y.v, .int .u8 y.w, .int .u8 y.ga, .int .u64 y.gf, .int .u64 y.gt] 30 (0, 0)) := setRow_heap _ _ _ _ _ _ hcs35
          have hX' : (V33.setRow (V20.heap.size) #[.bool y.g, .int .u8 y.o, .int .u64 y.q, .int .u64 y.t, .string y.r, .slice A2 n2 c2, .int .u8 y.s, .int .u8 y.p, .int .i64 y.v, .int .u8 y.w, .int .u8 y.ga, .int .u64 y.gf, .int .u64 y.gt]).heap[V2.heap.size]? = some (.cells #[.bool x.g, .int .u8 x.o, .int .u64 x.q, .int .u64 x.t, .string x.r, .slice A1 n1 c1, .int .u8 x.s, .int .u8 x.p, .int .i64 x.v, .int .u8 x.w, .int .u8 x.ga, .int .u64 x.gf, .int .u64 x.gt] 30 (0, 0)) := (setRow_other _ _ _ _ (by omega)).trans hX
          generalize hV35 : V33.setRow (V20.heap.size) #[.bool y.g, .int .u8 y.o, .int .u64 y.q, .int .u64 y.t, .string y.r, .slice A2 n2 c2, .int .u8 y.s, .int .u8 y.p, .int .i64 y.v, .int .u8 y.w, .int .u8 y.ga, .int .u64 y.gf, .int .u64 y.gt] = V35 at *
          clear hV35 hcs35 hsz35 hX
          refine wpAnyH_done (by kernel_rfl) ?_ _
          refine NoPanic.normal ?_
          go_wp2_with fail
          go_meet
          exact ⟨V2.heap.size, V20.heap.size, A1, n1, c1, A2, n2, c2, rfl, rfl, ⟨hh35.1, hX', hY, ownB_mono hh35.2.1 (by omega), ownB_mono hh35.2.2.2.2 (by omega), HN1.out, HN2.out, by omega, by omega, by omega, fun e => by have := HL1.out _ e; omega, fun e => by have := HL1.out _ e; omega, fun e => by have := HL2.out _ e; omega, fun e => by have := HL2.out _ e; omega⟩⟩
      case' g3_5 =>
        have hb36 : Below V2.heap.size V2 (V2.alloc (.cells #[.bool false, .int .u8 0, .int .u64 0, .int .u64 0, .string ⟨#[]⟩, .slice none 0 0, .int .u8 0, .int .u8 0, .int .i64 0, .int .u8 0, .int .u8 0, .int .u64 0, .int .u64 0] 30)) := (Below.refl _ _).alloc (Nat.le_refl _) _
        go_simp
        refine hK.out _ _ ?_ (fun hh36 => ?_)
        · exact ⟨(hh2'.1.trans (hb36.mono (hh2'.1.size))), (own_below hh2'.2 hb36)⟩
        clear hK K
        try simp only [heldPut, List.set]
        have hc36 : CellsAt (V2.alloc (.cells #[.bool false, .int .u8 0, .int .u64 0, .int .u64 0, .string ⟨#[]⟩, .slice none 0 0, .int .u8 0, .int .u8 0, .int .i64 0, .int .u8 0, .int .u8 0, .int .u64 0, .int .u64 0] 30)) V2.heap.size 30 := CellsAt.new _ _ _ rfl
        have hz36 : (V2.alloc (.cells #[.bool false, .int .u8 0, .int .u64 0, .int .u64 0, .string ⟨#[]⟩, .slice none 0 0, .int .u8 0, .int .u8 0, .int .i64 0, .int .u8 0, .int .u8 0, .int .u64 0, .int .u64 0] 30)).heap.size = V2.heap.size + 1 := by simp
        generalize hV36 : V2.alloc (.cells #[.bool false, .int .u8 0, .int .u64 0, .int .u64 0, .string ⟨#[]⟩, .slice none 0 0, .int .u8 0, .int .u8 0, .int .i64 0, .int .u8 0, .int .u8 0, .int .u64 0, .int .u64 0] 30) = V36 at *
        clear hV36 hb36
        refine heldMore (S2 := (fun V : World => Below w1.heap.size w1 V ∧ V.ownsRow w2.heap.size 61 2 (.slice A1 n1 c1) n1 (cellsP x.l) ∧ CellsAt V V2.heap.size 30)) (fun _ h => ⟨h.1, h.2.1⟩) ?_
        have hh36' : (fun V : World => Below w1.heap.size w1 V ∧ V.ownsRow w2.heap.size 61 2 (.slice A1 n1 c1) n1 (cellsP x.l) ∧ CellsAt V V2.heap.size 30) V36 := ⟨hh36.1, hh36.2, hc36⟩
        clear hh36 hc36
        replace hz36 : V2.heap.size + 1 ≤ V36.heap.size := by omega
        refine heldTwo (i := 3) (j := 4) rfl rfl (by kernel_rfl) (fun K hK => ?g37_3) (fun K hK => ?g37_4)
        case' g37_3 =>
          go_simp
          refine (smallItem_as HX2.out HS2.out _).mono ?_
          rintro e V38 ⟨A2, n2, c2, rfl, hn2, ho2, hb38⟩
          have HN2 := Lib.hid hn2
          clear hn2
          go_wp2_with fail
          refine hK.out _ _ ?_ (fun hh38 => ?_)
          · exact ⟨(hh36'.1.trans (hb38.mono (hh36'.1.size))), (own_below hh36'.2.1 hb38), (hh36'.2.2.below hb38)⟩
          clear hK K
          try simp only [heldPut, List.set]
          have hz38 := hb38.size
          have HL2 : Hid (∀ k, (Value.slice A2 n2 c2).ownBlock = some k → V36.heap.size ≤ k ∧ k < V38.heap.size) := fun k e => ho2.lt k e
          refine heldMore (S2 := (fun V : World => Below w1.heap.size w1 V ∧ V.ownsRow w2.heap.size 61 2 (.slice A1 n1 c1) n1 (cellsP x.l) ∧ CellsAt V V2.heap.size 30 ∧ V.ownsRow V36.heap.size 61 2 (.slice A2 n2 c2) n2 (cellsP y.l))) (fun _ h => ⟨h.1, h.2.1, h.2.2.1⟩) ?_
          have hh38' : (fun V : World => Below w1.heap.size w1 V ∧ V.ownsRow w2.heap.size 61 2 (.slice A1 n1 c1) n1 (cellsP x.l) ∧ CellsAt V V2.heap.size 30 ∧ V.ownsRow V36.heap.size 61 2 (.slice A2 n2 c2) n2 (cellsP y.l)) V38 := ⟨hh38.1, hh38.2.1, hh38.2.2, ho2⟩
          clear hh38 ho2 hb38
          refine heldOne (i := 4) rfl (by kernel_rfl) (fun K hK => ?_)
          have hb40 : Below V38.heap.size V38 (V38.alloc (.cells #[.bool false, .int .u8 0, .int .u64 0, .int .u64 0, .string ⟨#[]⟩, .slice none 0 0, .int .u8 0, .int .u8 0, .int .i64 0, .int .u8 0, .int .u8 0, .int .u64 0, .int .u64 0] 30)) := (Below.refl _ _).alloc (Nat.le_refl _) _
          go_simp
          refine hK.out _ _ ?_ (fun hh40 => ?_)
          · exact ⟨(hh38'.1.trans (hb40.mono (hh38'.1.size))), (own_below hh38'.2.1 hb40), (hh38'.2.2.1.below hb40), (own_below hh38'.2.2.2 hb40)⟩
          clear hK K
          try simp only [heldPut, List.set]
          have hc40 : CellsAt (V38.alloc (.cells #[.bool false, .int .u8 0, .int .u64 0, .int .u64 0, .string ⟨#[]⟩, .slice none 0 0, .int .u8 0, .int .u8 0, .int .i64 0, .int .u8 0, .int .u8 0, .int .u64 0, .int .u64 0] 30)) V38.heap.size 30 := CellsAt.new _ _ _ rfl
          have hz40 : (V38.alloc (.cells #[.bool false, .int .u8 0, .int .u64 0, .int .u64 0, .string ⟨#[]⟩, .slice none 0 0, .int .u8 0, .int .u8 0, .int .i64 0, .int .u8 0, .int .u8 0, .int .u64 0, .int .u64 0] 30)).heap.size = V38.heap.size + 1 := by simp
          generalize hV40 : V38.alloc (.cells #[.bool false, .int .u8 0, .int .u64 0, .int .u64 0, .string ⟨#[]⟩, .slice none 0 0, .int .u8 0, .int .u8 0, .int .i64 0, .int .u8 0, .int .u8 0, .int .u64 0, .int .u64 0] 30) = V40 at *
          clear hV40 hb40
          refine heldMore (S2 := (fun V : World => Below w1.heap.size w1 V ∧ V.ownsRow w2.heap.size 61 2 (.slice A1 n1 c1) n1 (cellsP x.l) ∧ CellsAt V V2.heap.size 30 ∧ V.ownsRow V36.heap.size 61 2 (.slice A2 n2 c2) n2 (cellsP y.l) ∧ CellsAt V V38.heap.size 30)) (fun _ h => ⟨h.1, h.2.1, h.2.2.1, h.2.2.2.1⟩) ?_
          have hh40' : (fun V : World => Below w1.heap.size w1 V ∧ V.ownsRow w2.heap.size 61 2 (.slice A1 n1 c1) n1 (cellsP x.l) ∧ CellsAt V V2.heap.size 30 ∧ V.ownsRow V36.heap.size 61 2 (.slice A2 n2 c2) n2 (cellsP y.l) ∧ CellsAt V V38.heap.size 30) V40 := ⟨hh40.1, hh40.2.1, hh40.2.2.1, hh40.2.2.2, hc40⟩
          clear hh40 hc40
          replace hz40 : V38.heap.size + 1 ≤ V40.heap.size := by omega
          refine heldOne (i := 6) rfl (by kernel_rfl) (fun K hK => ?_)
          rw [if_pos (by rfl)]
          obtain ⟨cs42, hcs42, hsz42⟩ := hh40'.2.2.2.2
          refine wp_store_row _ _ _ rfl (V38.heap.size) _ rfl rfl _ _ hcs42 Try.infoI hsz42 (by simp [Value.oneCell']) ?_
          refine hK.out _ _ ?_ (fun hh42 => ?_)
          · exact ⟨(below_setRow hh40'.1 (by omega) _), (own_setRow2 hh40'.2.1 (fun e => by have := HL1.out _ e; omega) _), (hh40'.2.2.1.other (by omega) _), (own_setRow2 hh40'.2.2.2.1 (fun e => by have := HL2.out _ e; omega) _), (hh40'.2.2.2.2.same _ rfl)⟩
          clear hK K
          have hX : (V40.setRow (V38.heap.size) #[.bool x.g, .int .u8 x.o, .int .u64 x.q, .int .u64 x.t, .string x.r, .slice A1 n1 c1, .int .u8 x.s, .int .u8 x.p, .int .i64 x.v, .int .u8 x.w, .int .u8 x.ga, .int .u64 x.gf, .int .u64 x.gt]).heap[V38.heap.size]? = some (.cells #[.bool x.g, .int .u8 x.o, .int .u64 x.q, .int .u64 x.t, .string x.r, .slice A1 n1 c1, .int .u8 x.s, .int .u8 x.p, .int .i64 x.v, .int .u8 x.w, .int .u8 x.ga, .int .u64 x.gf, .int .u64 x.gt] 30 (0, 0)) := setRow_heap _ _ _ _ _ _ hcs42
          generalize hV42 : V40.setRow (V38.heap.size) #[.bool x.g, .int .u8 x.o, .int .u64 x.q, .int .u64 x.t, .string x.r, .slice A1 n1 c1, .int .u8 x.s, .int .u8 x.p, .int .i64 x.v, .int .u8 x.w, .int .u8 x.ga, .int .u64 x.gf, .int .u64 x.gt] = V42 at *
          clear hV42 hcs42 hsz42 
          refine heldOne (i := 7) rfl (by kernel_rfl) (fun K hK => ?_)
          rw [if_pos (by rfl)]
          obtain ⟨cs44, hcs44, hsz44⟩ := hh42.2.2.1
          refine wp_store_row _ _ _ rfl (V2.heap.size) _ rfl rfl _ _ hcs44 Try.infoI hsz44 (by simp [Value.oneCell']) ?_
          refine hK.out _ _ ?_ (fun hh44 => ?_)
          · exact ⟨(below_setRow hh42.1 (by omega) _), (own_setRow2 hh42.2.1 (fun e => by have := HL1.out _ e; omega) _), (hh42.2.2.1.same _ rfl), (own_setRow2 hh42.2.2.2.1 (fun e => by have := HL2.out _ e; omega) _), (hh42.2.2.2.2.other (by omega) _)⟩
          clear hK K
          have hY : (V42.setRow (V2.heap.size) #[.bool y.g, .int .u8 y.o, .int .u64 y.q, .int .u64 y.t, .string y.r, .slice A2 n2 c2, .int .u8 y.s, .int .u8 y.p, .int .i64 y.v, .int .u8 y.w, .int .u8 y.ga, .int .u64 y.gf, .int .u64 y.gt]).heap[V2.heap.size]? = some (.cells #[.bool y.g, .int .u8 y.o, .int .u64 y.q, .int .u64 y.t, .string y.r, .slice A2 n2 c2, .int .u8 y.s, .int .u8 y.p, .int .i64 y.v, .int .u8 y.w, .int .u8 y.ga, .int .u64 y.gf, .int .u64 y.gt] 30 (0, 0)) := setRow_heap _ _ _ _ _ _ hcs44
          have hX' : (V42.setRow (V2.heap.size) #[.bool y.g, .int .u8 y.o, .int .u64 y.q, .int .u64 y.t, .string y.r, .slice A2 n2 c2, .int .u8 y.s, .int .u8 y.p, .int .i64 y.v, .int .u8 y.w, .int .u8 y.ga, .int .u64 y.gf, .int .u64 y.gt]).heap[V38.heap.size]? = some (.cells #[.bool x.g, .int .u8 x.o, .int .u64 x.q, .int .u64 x.t, .string x.r, .slice A1 n1 c1, .int .u8 x.s, .int .u8 x.p, .int .i64 x.v, .int .u8 x.w, .int .u8 x.ga, .int .u64 x.gf, .int .u64 x.gt] 30 (0, 0)) := (setRow_other _ _ _ _ (by omega)).trans hX
          generalize hV44 : V42.setRow (V2.heap.size) #[.bool y.g, .int .u8 y.o, .int .u64 y.q, .int .u64 y.t, .string y.r, .slice A2 n2 c2, .int .u8 y.s, .int .u8 y.p, .int .i64 y.v, .int .u8 y.w, .int .u8 y.ga, .int .u64 y.gf, .int .u64 y.gt] = V44 at *
          clear hV44 hcs44 hsz44 hX
          refine wpAnyH_done (by kernel_rfl) ?_ _
          refine NoPanic.normal ?_
          go_wp2_with fail
          go_meet
          exact ⟨V38.heap.size, V2.heap.size, A1, n1, c1, A2, n2, c2, rfl, rfl, ⟨hh44.1, hX', hY, ownB_mono hh44.2.1 (by omega), ownB_mono hh44.2.2.2.1 (by omega), HN1.out, HN2.out, by omega, by omega, by omega, fun e => by have := HL1.out _ e; omega, fun e => by have := HL1.out _ e; omega, fun e => by have := HL2.out _ e; omega, fun e => by have := HL2.out _ e; omega⟩⟩
        case' g37_4 =>
          have hb45 : Below V36.heap.size V36 (V36.alloc (.cells #[.bool false, .int .u8 0, .int .u64 0, .int .u64 0, .string ⟨#[]⟩, .slice none 0 0, .int .u8 0, .int .u8 0, .int .i64 0, .int .u8 0, .int .u8 0, .int .u64 0, .int .u64 0] 30)) := (Below.refl _ _).alloc (Nat.le_refl _) _
          go_simp
          refine hK.out _ _ ?_ (fun hh45 => ?_)
          · exact ⟨(hh36'.1.trans (hb45.mono (hh36'.1.size))), (own_below hh36'.2.1 hb45), (hh36'.2.2.below hb45)⟩
          clear hK K
          try simp only [heldPut, List.set]
          have hc45 : CellsAt (V36.alloc (.cells #[.bool false, .int .u8 0, .int .u64 0, .int .u64 0, .string ⟨#[]⟩, .slice none 0 0, .int .u8 0, .int .u8 0, .int .i64 0, .int .u8 0, .int .u8 0, .int .u64 0, .int .u64 0] 30)) V36.heap.size 30 := CellsAt.new _ _ _ rfl
          have hz45 : (V36.alloc (.cells #[.bool false, .int .u8 0, .int .u64 0, .int .u64 0, .string ⟨#[]⟩, .slice none 0 0, .int .u8 0, .int .u8 0, .int .i64 0, .int .u8 0, .int .u8 0, .int .u64 0, .int .u64 0] 30)).heap.size = V36.heap.size + 1 := by simp
          generalize hV45 : V36.alloc (.cells #[.bool false, .int .u8 0, .int .u64 0, .int .u64 0, .string ⟨#[]⟩, .slice none 0 0, .int .u8 0, .int .u8 0, .int .i64 0, .int .u8 0, .int .u8 0, .int .u64 0, .int .u64 0] 30) = V45 at *
          clear hV45 hb45
          refine heldMore (S2 := (fun V : World => Below w1.heap.size w1 V ∧ V.ownsRow w2.heap.size 61 2 (.slice A1 n1 c1) n1 (cellsP x.l) ∧ CellsAt V V2.heap.size 30 ∧ CellsAt V V36.heap.size 30)) (fun _ h => ⟨h.1, h.2.1, h.2.2.1⟩) ?_
          have hh45' : (fun V : World => Below w1.heap.size w1 V ∧ V.ownsRow w2.heap.size 61 2 (.slice A1 n1 c1) n1 (cellsP x.l) ∧ CellsAt V V2.heap.size 30 ∧ CellsAt V V36.heap.size 30) V45 := ⟨hh45.1, hh45.2.1, hh45.2.2, hc45⟩
          clear hh45 hc45
          replace hz45 : V36.heap.size + 1 ≤ V45.heap.size := by omega
          refine heldOne (i := 3) rfl (by kernel_rfl) (fun K hK => ?_)
          go_simp
          refine (smallItem_as HX2.out HS2.out _).mono ?_
          rintro e V47 ⟨A2, n2, c2, rfl, hn2, ho2, hb47⟩
          have HN2 := Lib.hid hn2
          clear hn2
          go_wp2_with fail
          refine hK.out _ _ ?_ (fun hh47 => ?_)
          · exact ⟨(hh45'.1.trans (hb47.mono (hh45'.1.size))), (own_below hh45'.2.1 hb47), (hh45'.2.2.1.below hb47), (hh45'.2.2.2.below hb47)⟩
          clear hK K
          try simp only [heldPut, List.set]
          have hz47 := hb47.size
          have HL2 : Hid (∀ k, (Value.slice A2 n2 c2).ownBlock = some k → V45.heap.size ≤ k ∧ k < V47.heap.size) := fun k e => ho2.lt k e
          refine heldMore (S2 := (fun V : World => Below w1.heap.size w1 V ∧ V.ownsRow w2.heap.size 61 2 (.slice A1 n1 c1) n1 (cellsP x.l) ∧ CellsAt V V2.heap.size 30 ∧ CellsAt V V36.heap.size 30 ∧ V.ownsRow V45.heap.size 61 2 (.slice A2 n2 c2) n2 (cellsP y.l))) (fun _ h => ⟨h.1, h.2.1, h.2.2.1, h.2.2.2.1⟩) ?_
          have hh47' : (fun V : World => Below w1.heap.size w1 V ∧ V.ownsRow w2.heap.size 61 2 (.slice A1 n1 c1) n1 (cellsP x.l) ∧ CellsAt V V2.heap.size 30 ∧ CellsAt V V36.heap.size 30 ∧ V.ownsRow V45.heap.size 61 2 (.slice A2 n2 c2) n2 (cellsP y.l)) V47 := ⟨hh47.1, hh47.2.1, hh47.2.2.1, hh47.2.2.2, ho2⟩
          clear hh47 ho2 hb47
          refine heldOne (i := 6) rfl (by kernel_rfl) (fun K hK => ?_)
          rw [if_pos (by rfl)]
          obtain ⟨cs49, hcs49, hsz49⟩ := hh47'.2.2.2.1
          refine wp_store_row _ _ _ rfl (V36.heap.size) _ rfl rfl _ _ hcs49 Try.infoI hsz49 (by simp [Value.oneCell']) ?_
          refine hK.out _ _ ?_ (fun hh49 => ?_)
          · exact ⟨(below_setRow hh47'.1 (by omega) _), (own_setRow2 hh47'.2.1 (fun e => by have := HL1.out _ e; omega) _), (hh47'.2.2.1.other (by omega) _), (hh47'.2.2.2.1.same _ rfl), (own_setRow2 hh47'.2.2.2.2 (fun e => by have := HL2.out _ e; omega) _)⟩
          clear hK K
          have hX : (V47.setRow (V36.heap.size) #[.bool x.g, .int .u8 x.o, .int .u64 x.q, .int .u64 x.t, .string x.r, .slice A1 n1 c1, .int .u8 x.s, .int .u8 x.p, .int .i64 x.v, .int .u8 x.w, .int .u8 x.ga, .int .u64 x.gf, .int .u64 x.gt]).heap[V36.heap.size]? = some (.cells #[.bool x.g, .int .u8 x.o, .int .u64 x.q, .int .u64 x.t, .string x.r, .slice A1 n1 c1, .int .u8 x.s, .int .u8 x.p, .int .i64 x.v, .int .u8 x.w, .int .u8 x.ga, .int .u64 x.gf, .int .u64 x.gt] 30 (0, 0)) := setRow_heap _ _ _ _ _ _ hcs49
          generalize hV49 : V47.setRow (V36.heap.size) #[.bool x.g, .int .u8 x.o, .int .u64 x.q, .int .u64 x.t, .string x.r, .slice A1 n1 c1, .int .u8 x.s, .int .u8 x.p, .int .i64 x.v, .int .u8 x.w, .int .u8 x.ga, .int .u64 x.gf, .int .u64 x.gt] = V49 at *
          clear hV49 hcs49 hsz49 
          refine heldOne (i := 7) rfl (by kernel_rfl) (fun K hK => ?_)
          rw [if_pos (by rfl)]
          obtain ⟨cs51, hcs51, hsz51⟩ := hh49.2.2.1
          refine wp_store_row _ _ _ rfl (V2.heap.size) _ rfl rfl _ _ hcs51 Try.infoI hsz51 (by simp [Value.oneCell']) ?_
          refine hK.out _ _ ?_ (fun hh51 => ?_)
          · exact ⟨(below_setRow hh49.1 (by omega) _), (own_setRow2 hh49.2.1 (fun e => by have := HL1.out _ e; omega) _), (hh49.2.2.1.same _ rfl), (hh49.2.2.2.1.other (by omega) _), (own_setRow2 hh49.2.2.2.2 (fun e => by have := HL2.out _ e; omega) _)⟩
          clear hK K
          have hY : (V49.setRow (V2.heap.size) #[.bool y.g, .int .u8 y.o, .int .u64 y.q, .int .u64 y.t, .string y.r, .slice A2 n2 c2, .int .u8 y.s, .int .u8 y.p, .int .i64 y.v, .int .u8 y.w, .int .u8 y.ga, .int .u64 y.gf, .int .u64 y.gt]).heap[V2.heap.size]? = some (.cells #[.bool y.g, .int .u8 y.o, .int .u64 y.q, .int .u64 y.t, .string y.r, .slice A2 n2 c2, .int .u8 y.s, .int .u8 y.p, .int .i64 y.v, .int .u8 y.w, .int .u8 y.ga, .int .u64 y.gf, .int .u64 y.gt] 30 (0, 0)) := setRow_heap _ _ _ _ _ _ hcs51
          have hX' : (V49.setRow (V2.heap.size) #[.bool y.g, .int .u8 y.o, .int .u64 y.q, .int .u64 y.t, .string y.r, .slice A2 n2 c2, .int .u8 y.s, .int .u8 y.p, .int .i64 y.v, .int .u8 y.w, .int .u8 y.ga, .int .u64 y.gf, .int .u64 y.gt]).heap[V36.heap.size]? = some (.cells #[.bool x.g, .int .u8 x.o, .int .u64 x.q, .int .u64 x.t, .string x.r, .slice A1 n1 c1, .int .u8 x.s, .int .u8 x.p, .int .i64 x.v, .int .u8 x.w, .int .u8 x.ga, .int .u64 x.gf, .int .u64 x.gt] 30 (0, 0)) := (setRow_other _ _ _ _ (by omega)).trans hX
          generalize hV51 : V49.setRow (V2.heap.size) #[.bool y.g, .int .u8 y.o, .int .u64 y.q, .int .u64 y.t, .string y.r, .slice A2 n2 c2, .int .u8 y.s, .int .u8 y.p, .int .i64 y.v, .int .u8 y.w, .int .u8 y.ga, .int .u64 y.gf, .int .u64 y.gt] = V51 at *
          clear hV51 hcs51 hsz51 hX
          refine wpAnyH_done (by kernel_rfl) ?_ _
          refine NoPanic.normal ?_
          go_wp2_with fail
          go_meet
          exact ⟨V36.heap.size, V2.heap.size, A1, n1, c1, A2, n2, c2, rfl, rfl, ⟨hh51.1, hX', hY, ownB_mono hh51.2.1 (by omega), ownB_mono hh51.2.2.2.2 (by omega), HN1.out, HN2.out, by omega, by omega, by omega, fun e => by have := HL1.out _ e; omega, fun e => by have := HL1.out _ e; omega, fun e => by have := HL2.out _ e; omega, fun e => by have := HL2.out _ e; omega⟩⟩
    case' g1_4 =>
      have hb52 : Below w2.heap.size w2 (w2.alloc (.cells #[.bool false, .int .u8 0, .int .u64 0, .int .u64 0, .string ⟨#[]⟩, .slice none 0 0, .int .u8 0, .int .u8 0, .int .i64 0, .int .u8 0, .int .u8 0, .int .u64 0, .int .u64 0] 30)) := (Below.refl _ _).alloc (Nat.le_refl _) _
      go_simp
      refine hK.out _ _ ?_ (fun hh52 => ?_)
      · exact (hHeld.trans (hb52.mono (hHeld.size)))
      clear hK K
      try simp only [heldPut, List.set]
      have hc52 : CellsAt (w2.alloc (.cells #[.bool false, .int .u8 0, .int .u64 0, .int .u64 0, .string ⟨#[]⟩, .slice none 0 0, .int .u8 0, .int .u8 0, .int .i64 0, .int .u8 0, .int .u8 0, .int .u64 0, .int .u64 0] 30)) w2.heap.size 30 := CellsAt.new _ _ _ rfl
      have hz52 : (w2.alloc (.cells #[.bool false, .int .u8 0, .int .u64 0, .int .u64 0, .string ⟨#[]⟩, .slice none 0 0, .int .u8 0, .int .u8 0, .int .i64 0, .int .u8 0, .int .u8 0, .int .u64 0, .int .u64 0] 30)).heap.size = w2.heap.size + 1 := by simp
      generalize hV52 : w2.alloc (.cells #[.bool false, .int .u8 0, .int .u64 0, .int .u64 0, .string ⟨#[]⟩, .slice none 0 0, .int .u8 0, .int .u8 0, .int .i64 0, .int .u8 0, .int .u8 0, .int .u64 0, .int .u64 0] 30) = V52 at *
      clear hV52 hb52
      refine heldMore (S2 := (fun V : World => Below w1.heap.size w1 V ∧ CellsAt V w2.heap.size 30)) (fun _ h => h.1) ?_
      have hh52' : (fun V : World => Below w1.heap.size w1 V ∧ CellsAt V w2.heap.size 30) V52 := ⟨hh52, hc52⟩
      clear hh52 hc52
      replace hz52 : w2.heap.size + 1 ≤ V52.heap.size := by omega
      refine heldTwo (i := 1) (j := 5) rfl rfl (by kernel_rfl) (fun K hK => ?g53_1) (fun K hK => ?g53_5)
      case' g53_1 =>
        go_simp
        refine (smallItem_as HX1.out HS1.out _).mono ?_
        rintro e V54 ⟨A1, n1, c1, rfl, hn1, ho1, hb54⟩
        have HN1 := Lib.hid hn1
        clear hn1
        go_wp2_with fail
        refine hK.out _ _ ?_ (fun hh54 => ?_)
        · exact ⟨(hh52'.1.trans (hb54.mono (hh52'.1.size))), (hh52'.2.below hb54)⟩
        clear hK K
        try simp only [heldPut, List.set]
        have hz54 := hb54.size
        have HL1 : Hid (∀ k, (Value.slice A1 n1 c1).ownBlock = some k → V52.heap.size ≤ k ∧ k < V54.heap.size) := fun k e => ho1.lt k e
        refine heldMore (S2 := (fun V : World => Below w1.heap.size w1 V ∧ CellsAt V w2.heap.size 30 ∧ V.ownsRow V52.heap.size 61 2 (.slice A1 n1 c1) n1 (cellsP x.l))) (fun _ h => ⟨h.1, h.2.1⟩) ?_
        have hh54' : (fun V : World => Below w1.heap.size w1 V ∧ CellsAt V w2.heap.size 30 ∧ V.ownsRow V52.heap.size 61 2 (.slice A1 n1 c1) n1 (cellsP x.l)) V54 := ⟨hh54.1, hh54.2, ho1⟩
        clear hh54 ho1 hb54
        refine heldTwo (i := 3) (j := 5) rfl rfl (by kernel_rfl) (fun K hK => ?g55_3) (fun K hK => ?g55_5)
        case' g55_3 =>
          go_simp
          refine (smallItem_as HX2.out HS2.out _).mono ?_
          rintro e V56 ⟨A2, n2, c2, rfl, hn2, ho2, hb56⟩
          have HN2 := Lib.hid hn2
          clear hn2
          go_wp2_with fail
          refine hK.out _ _ ?_ (fun hh56 => ?_)
          · exact ⟨(hh54'.1.trans (hb56.mono (hh54'.1.size))), (hh54'.2.1.below hb56), (own_below hh54'.2.2 hb56)⟩
          clear hK K
          try simp only [heldPut, List.set]
          have hz56 := hb56.size
          have HL2 : Hid (∀ k, (Value.slice A2 n2 c2).ownBlock = some k → V54.heap.size ≤ k ∧ k < V56.heap.size) := fun k e => ho2.lt k e
          refine heldMore (S2 := (fun V : World => Below w1.heap.size w1 V ∧ CellsAt V w2.heap.size 30 ∧ V.ownsRow V52.heap.size 61 2 (.slice A1 n1 c1) n1 (cellsP x.l) ∧ V.ownsRow V54.heap.size 61 2 (.slice A2 n2 c2) n2 (cellsP y.l))) (fun _ h => ⟨h.1, h.2.1, h.2.2.1⟩) ?_
          have hh56' : (fun V : World => Below w1.heap.size w1 V ∧ CellsAt V w2.heap.size 30 ∧ V.ownsRow V52.heap.size 61 2 (.slice A1 n1 c1) n1 (cellsP x.l) ∧ V.ownsRow V54.heap.size 61 2 (.slice A2 n2 c2) n2 (cellsP y.l)) V56 := ⟨hh56.1, hh56.2.1, hh56.2.2, ho2⟩
          clear hh56 ho2 hb56
          refine heldOne (i := 5) rfl (by kernel_rfl) (fun K hK => ?_)
          have hb58 : Below V56.heap.size V56 (V56.alloc (.cells #[.bool false, .int .u8 0, .int .u64 0, .int .u64 0, .string ⟨#[]⟩, .slice none 0 0, .int .u8 0, .int .u8 0, .int .i64 0, .int .u8 0, .int .u8 0, .int .u64 0, .int .u64 0] 30)) := (Below.refl _ _).alloc (Nat.le_refl _) _
          go_simp
          refine hK.out _ _ ?_ (fun hh58 => ?_)
          · exact ⟨(hh56'.1.trans (hb58.mono (hh56'.1.size))), (hh56'.2.1.below hb58), (own_below hh56'.2.2.1 hb58), (own_below hh56'.2.2.2 hb58)⟩
          clear hK K
          try simp only [heldPut, List.set]
          have hc58 : CellsAt (V56.alloc (.cells #[.bool false, .int .u8 0, .int .u64 0, .int .u64 0, .string ⟨#[]⟩, .slice none 0 0, .int .u8 0, .int .u8 0, .int .i64 0, .int .u8 0, .int .u8 0, .int .u64 0, .int .u64 0] 30)) V56.heap.size 30 := CellsAt.new _ _ _ rfl
          have hz58 : (V56.alloc (.cells #[.bool false, .int .u8 0, .int .u64 0, .int .u64 0, .string ⟨#[]⟩, .slice none 0 0, .int .u8 0, .int .u8 0, .int .i64 0, .int .u8 0, .int .u8 0, .int .u64 0, .int .u64 0] 30)).heap.size = V56.heap.size + 1 := by simp
          generalize hV58 : V56.alloc (.cells #[.bool false, .int .u8 0, .int .u64 0, .int .u64 0, .string ⟨#[]⟩, .slice none 0 0, .int .u8 0, .int .u8 0, .int .i64 0, .int .u8 0, .int .u8 0, .int .u64 0, .int .u64 0] 30) = V58 at *
          clear hV58 hb58
          refine heldMore (S2 := (fun V : World => Below w1.heap.size w1 V ∧ CellsAt V w2.heap.size 30 ∧ V.ownsRow V52.heap.size 61 2 (.slice A1 n1 c1) n1 (cellsP x.l) ∧ V.ownsRow V54.heap.size 61 2 (.slice A2 n2 c2) n2 (cellsP y.l) ∧ CellsAt V V56.heap.size 30)) (fun _ h => ⟨h.1, h.2.1, h.2.2.1, h.2.2.2.1⟩) ?_
          have hh58' : (fun V : World => Below w1.heap.size w1 V ∧ CellsAt V w2.heap.size 30 ∧ V.ownsRow V52.heap.size 61 2 (.slice A1 n1 c1) n1 (cellsP x.l) ∧ V.ownsRow V54.heap.size 61 2 (.slice A2 n2 c2) n2 (cellsP y.l) ∧ CellsAt V V56.heap.size 30) V58 := ⟨hh58.1, hh58.2.1, hh58.2.2.1, hh58.2.2.2, hc58⟩
          clear hh58 hc58
          replace hz58 : V56.heap.size + 1 ≤ V58.heap.size := by omega
          refine heldOne (i := 6) rfl (by kernel_rfl) (fun K hK => ?_)
          rw [if_pos (by rfl)]
          obtain ⟨cs60, hcs60, hsz60⟩ := hh58'.2.1
          refine wp_store_row _ _ _ rfl (w2.heap.size) _ rfl rfl _ _ hcs60 Try.infoI hsz60 (by simp [Value.oneCell']) ?_
          refine hK.out _ _ ?_ (fun hh60 => ?_)
          · exact ⟨(below_setRow hh58'.1 (by omega) _), (hh58'.2.1.same _ rfl), (own_setRow2 hh58'.2.2.1 (fun e => by have := HL1.out _ e; omega) _), (own_setRow2 hh58'.2.2.2.1 (fun e => by have := HL2.out _ e; omega) _), (hh58'.2.2.2.2.other (by omega) _)⟩
          clear hK K
          have hX : (V58.setRow (w2.heap.size) #[.bool x.g, .int .u8 x.o, .int .u64 x.q, .int .u64 x.t, .string x.r, .slice A1 n1 c1, .int .u8 x.s, .int .u8 x.p, .int .i64 x.v, .int .u8 x.w, .int .u8 x.ga, .int .u64 x.gf, .int .u64 x.gt]).heap[w2.heap.size]? = some (.cells #[.bool x.g, .int .u8 x.o, .int .u64 x.q, .int .u64 x.t, .string x.r, .slice A1 n1 c1, .int .u8 x.s, .int .u8 x.p, .int .i64 x.v, .int .u8 x.w, .int .u8 x.ga, .int .u64 x.gf, .int .u64 x.gt] 30 (0, 0)) := setRow_heap _ _ _ _ _ _ hcs60
          generalize hV60 : V58.setRow (w2.heap.size) #[.bool x.g, .int .u8 x.o, .int .u64 x.q, .int .u64 x.t, .string x.r, .slice A1 n1 c1, .int .u8 x.s, .int .u8 x.p, .int .i64 x.v, .int .u8 x.w, .int .u8 x.ga, .int .u64 x.gf, .int .u64 x.gt] = V60 at *
          clear hV60 hcs60 hsz60 
          refine heldOne (i := 7) rfl (by kernel_rfl) (fun K hK => ?_)
          rw [if_pos (by rfl)]
          obtain ⟨cs62, hcs62, hsz62⟩ := hh60.2.2.2.2
          refine wp_store_row _ _ _ rfl (V56.heap.size) _ rfl rfl _ _ hcs62 Try.infoI hsz62 (by simp [Value.oneCell']) ?_
          refine hK.out _ _ ?_ (fun hh62 => ?_)
          · exact ⟨(below_setRow hh60.1 (by omega) _), (hh60.2.1.other (by omega) _), (own_setRow2 hh60.2.2.1 (fun e => by have := HL1.out _ e; omega) _), (own_setRow2 hh60.2.2.2.1 (fun e => by have := HL2.out _ e; omega) _), (hh60.2.2.2.2.same _ rfl)⟩
          clear hK K
          have hY : (V60.setRow (V56.heap.size) #[.bool y.g, .int .u8 y.o, .int .u64 y.q, .int .u64 y.t, .string y.r, .slice A2 n2 c2, .int .u8 y.s, .int .u8 y.p, .int .i64 y.v, .int .u8 y.w, .int .u8 y.ga, .int .u64 y.gf, .int .u64 y.gt]).heap[V56.heap.size]? = some (.cells #[.bool y.g, .int .u8 y.o, .int .u64 y.q, .int .u64 y.t, .string y.r, .slice A2 n2 c2, .int .u8 y.s, .int .u8 y.p, .int .i64 y.v, .int .u8 y.w, .int .u8 y.ga, .int .u64 y.gf, .int .u64 y.gt] 30 (0, 0)) := setRow_heap _ _ _ _ _ _ hcs62
          have hX' : (V60.setRow (V56.heap.size) #[.bool y.g, .int .u8 y.o, .int .u64 y.q, .int .u64 y.t, .string y.r, .slice A2 n2 c2, .int .u8 y.s, .int .u8 y.p, .int .i64 y.v, .int .u8 y.w, .int .u8 y.ga, .int .u64 y.gf, .int .u64 y.gt]).heap[w2.heap.size]? = some (.cells #[.bool x.g, .int .u8 x.o, .int .u64 x.q, .int .u64 x.t, .string x.r, .slice A1 n1 c1, .int .u8 x.s, .int .u8 x.p, .int .i64 x.v, .int .u8 x.w, .int .u8 x.ga, .int .u64 x.gf, .int .u64 x.gt] 30 (0, 0)) := (setRow_other _ _ _ _ (by omega)).trans hX
          generalize hV62 : V60.setRow (V56.heap.size) #[.bool y.g, .int .u8 y.o, .int .u64 y.q, .int .u64 y.t, .string y.r, .slice A2 n2 c2, .int .u8 y.s, .int .u8 y.p, .int .i64 y.v, .int .u8 y.w, .int .u8 y.ga, .int .u64 y.gf, .int .u64 y.gt] = V62 at *
          clear hV62 hcs62 hsz62 hX
          refine wpAnyH_done (by kernel_rfl) ?_ _
          refine NoPanic.normal ?_
          go_wp2_with fail
          go_meet
          exact ⟨w2.heap.size, V56.heap.size, A1, n1, c1, A2, n2, c2, rfl, rfl, ⟨hh62.1, hX', hY, ownB_mono hh62.2.2.1 (by omega), ownB_mono hh62.2.2.2.1 (by omega), HN1.out, HN2.out, by omega, by omega, by omega, fun e => by have := HL1.out _ e; omega, fun e => by have := HL1.out _ e; omega, fun e => by have := HL2.out _ e; omega, fun e => by have := HL2.out _ e; omega⟩⟩
        case' g55_5 =>
          have hb63 : Below V54.heap.size V54 (V54.alloc (.cells #[.bool false, .int .u8 0, .int .u64 0, .int .u64 0, .string ⟨#[]⟩, .slice none 0 0, .int .u8 0, .int .u8 0, .int .i64 0, .int .u8 0, .int .u8 0, .int .u64 0, .int .u64 0] 30)) := (Below.refl _ _).alloc (Nat.le_refl _) _
          go_simp
          refine hK.out _ _ ?_ (fun hh63 => ?_)
          · exact ⟨(hh54'.1.trans (hb63.mono (hh54'.1.size))), (hh54'.2.1.below hb63), (own_below hh54'.2.2 hb63)⟩
          clear hK K
          try simp only [heldPut, List.set]
          have hc63 : CellsAt (V54.alloc (.cells #[.bool false, .int .u8 0, .int .u64 0, .int .u64 0, .string ⟨#[]⟩, .slice none 0 0, .int .u8 0, .int .u8 0, .int .i64 0, .int .u8 0, .int .u8 0, .int .u64 0, .int .u64 0] 30)) V54.heap.size 30 := CellsAt.new _ _ _ rfl
          have hz63 : (V54.alloc (.cells #[.bool false, .int .u8 0, .int .u64 0, .int .u64 0, .string ⟨#[]⟩, .slice none 0 0, .int .u8 0, .int .u8 0, .int .i64 0, .int .u8 0, .int .u8 0, .int .u64 0, .int .u64 0] 30)).heap.size = V54.heap.size + 1 := by simp
          generalize hV63 : V54.alloc (.cells #[.bool false, .int .u8 0, .int .u64 0, .int .u64 0, .string ⟨#[]⟩, .slice none 0 0, .int .u8 0, .int .u8 0, .int .i64 0, .int .u8 0, .int .u8 0, .int .u64 0, .int .u64 0] 30) = V63 at *
          clear hV63 hb63
          refine heldMore (S2 := (fun V : World => Below w1.heap.size w1 V ∧ CellsAt V w2.heap.size 30 ∧ V.ownsRow V52.heap.size 61 2 (.slice A1 n1 c1) n1 (cellsP x.l) ∧ CellsAt V V54.heap.size 30)) (fun _ h => ⟨h.1, h.2.1, h.2.2.1⟩) ?_
          have hh63' : (fun V : World => Below w1.heap.size w1 V ∧ CellsAt V w2.heap.size 30 ∧ V.ownsRow V52.heap.size 61 2 (.slice A1 n1 c1) n1 (cellsP x.l) ∧ CellsAt V V54.heap.size 30) V63 := ⟨hh63.1, hh63.2.1, hh63.2.2, hc63⟩
          clear hh63 hc63
          replace hz63 : V54.heap.size + 1 ≤ V63.heap.size := by omega
          refine heldOne (i := 3) rfl (by kernel_rfl) (fun K hK => ?_)
          go_simp
          refine (smallItem_as HX2.out HS2.out _).mono ?_
          rintro e V65 ⟨A2, n2, c2, rfl, hn2, ho2, hb65⟩
          have HN2 := Lib.hid hn2
          clear hn2
          go_wp2_with fail
          refine hK.out _ _ ?_ (fun hh65 => ?_)
          · exact ⟨(hh63'.1.trans (hb65.mono (hh63'.1.size))), (hh63'.2.1.below hb65), (own_below hh63'.2.2.1 hb65), (hh63'.2.2.2.below hb65)⟩
          clear hK K
          try simp only [heldPut, List.set]
          have hz65 := hb65.size
          have HL2 : Hid (∀ k, (Value.slice A2 n2 c2).ownBlock = some k → V63.heap.size ≤ k ∧ k < V65.heap.size) := fun k e => ho2.lt k e
          refine heldMore (S2 := (fun V : World => Below w1.heap.size w1 V ∧ CellsAt V w2.heap.size 30 ∧ V.ownsRow V52.heap.size 61 2 (.slice A1 n1 c1) n1 (cellsP x.l) ∧ CellsAt V V54.heap.size 30 ∧ V.ownsRow V63.heap.size 61 2 (.slice A2 n2 c2) n2 (cellsP y.l))) (fun _ h => ⟨h.1, h.2.1, h.2.2.1, h.2.2.2.1⟩) ?_
          have hh65' : (fun V : World => Below w1.heap.size w1 V ∧ CellsAt V w2.heap.size 30 ∧ V.ownsRow V52.heap.size 61 2 (.slice A1 n1 c1) n1 (cellsP x.l) ∧ CellsAt V V54.heap.size 30 ∧ V.ownsRow V63.heap.size 61 2 (.slice A2 n2 c2) n2 (cellsP y.l)) V65 := ⟨hh65.1, hh65.2.1, hh65.2.2.1, hh65.2.2.2, ho2⟩
          clear hh65 ho2 hb65
          refine heldOne (i := 6) rfl (by kernel_rfl) (fun K hK => ?_)
          rw [if_pos (by rfl)]
          obtain ⟨cs67, hcs67, hsz67⟩ := hh65'.2.1
          refine wp_store_row _ _ _ rfl (w2.heap.size) _ rfl rfl _ _ hcs67 Try.infoI hsz67 (by simp [Value.oneCell']) ?_
          refine hK.out _ _ ?_ (fun hh67 => ?_)
          · exact ⟨(below_setRow hh65'.1 (by omega) _), (hh65'.2.1.same _ rfl), (own_setRow2 hh65'.2.2.1 (fun e => by have := HL1.out _ e; omega) _), (hh65'.2.2.2.1.other (by omega) _), (own_setRow2 hh65'.2.2.2.2 (fun e => by have := HL2.out _ e; omega) _)⟩
          clear hK K
          have hX : (V65.setRow (w2.heap.size) #[.bool x.g, .int .u8 x.o, .int .u64 x.q, .int .u64 x.t, .string x.r, .slice A1 n1 c1, .int .u8 x.s, .int .u8 x.p, .int .i64 x.v, .int .u8 x.w, .int .u8 x.ga, .int .u64 x.gf, .int .u64 x.gt]).heap[w2.heap.size]? = some (.cells #[.bool x.g, .int .u8 x.o, .int .u64 x.q, .int .u64 x.t, .string x.r, .slice A1 n1 c1, .int .u8 x.s, .int .u8 x.p, .int .i64 x.v, .int .u8 x.w, .int .u8 x.ga, .int .u64 x.gf, .int .u64 x.gt] 30 (0, 0)) := setRow_heap _ _ _ _ _ _ hcs67
          generalize hV67 : V65.setRow (w2.heap.size) #[.bool x.g, .int .u8 x.o, .int .u64 x.q, .int .u64 x.t, .string x.r, .slice A1 n1 c1, .int .u8 x.s, .int .u8 x.p, .int .i64 x.v, .int .u8 x.w, .int .u8 x.ga, .int .u64 x.gf, .int .u64 x.gt] = V67 at *
          clear hV67 hcs67 hsz67 
          refine heldOne (i := 7) rfl (by kernel_rfl) (fun K hK => ?_)
          rw [if_pos (by rfl)]
          obtain ⟨cs69, hcs69, hsz69⟩ := hh67.2.2.2.1
          refine wp_store_row _ _ _ rfl (V54.heap.size) _ rfl rfl _ _ hcs69 Try.infoI hsz69 (by simp [Value.oneCell']) ?_
          refine hK.out _ _ ?_ (fun hh69 => ?_)
          · exact ⟨(below_setRow hh67.1 (by omega) _), (hh67.2.1.other (by omega) _), (own_setRow2 hh67.2.2.1 (fun e => by have := HL1.out _ e; omega) _), (hh67.2.2.2.1.same _ rfl), (own_setRow2 hh67.2.2.2.2 (fun e => by have := HL2.out _ e; omega) _)⟩
          clear hK K
          have hY : (V67.setRow (V54.heap.size) #[.bool y.g, .int .u8 y.o, .int .u64 y.q, .int .u64 y.t, .string y.r, .slice A2 n2 c2, .int .u8 y.s, .int .u8 y.p, .int .i64 y.v, .int .u8 y.w, .int .u8 y.ga, .int .u64 y.gf, .int .u64 y.gt]).heap[V54.heap.size]? = some (.cells #[.bool y.g, .int .u8 y.o, .int .u64 y.q, .int .u64 y.t, .string y.r, .slice A2 n2 c2, .int .u8 y.s, .int .u8 y.p, .int .i64 y.v, .int .u8 y.w, .int .u8 y.ga, .int .u64 y.gf, .int .u64 y.gt] 30 (0, 0)) := setRow_heap _ _ _ _ _ _ hcs69
          have hX' : (V67.setRow (V54.heap.size) #[.bool y.g, .int .u8 y.o, .int .u64 y.q, .int .u64 y.t, .string y.r, .slice A2 n2 c2, .int .u8 y.s, .int .u8 y.p, .int .i64 y.v, .int .u8 y.w, .int .u8 y.ga, .int .u64 y.gf, .int .u64 y.gt]).heap[w2.heap.size]? = some (.cells #[.bool x.g, .int .u8 x.o, .int .u64 x.q, .int .u64 x.t, .string x.r, .slice A1 n1 c1, .int .u8 x.s, .int .u8 x.p, .int .i64 x.v, .int .u8 x.w, .int .u8 x.ga, .int .u64 x.gf, .int .u64 x.gt] 30 (0, 0)) := (setRow_other _ _ _ _ (by omega)).trans hX
          generalize hV69 : V67.setRow (V54.heap.size) #[.bool y.g, .int .u8 y.o, .int .u64 y.q, .int .u64 y.t, .string y.r, .slice A2 n2 c2, .int .u8 y.s, .int .u8 y.p, .int .i64 y.v, .int .u8 y.w, .int .u8 y.ga, .int .u64 y.gf, .int .u64 y.gt] = V69 at *
          clear hV69 hcs69 hsz69 hX
          refine wpAnyH_done (by kernel_rfl) ?_ _
          refine NoPanic.normal ?_
          go_wp2_with fail
          go_meet
          exact ⟨w2.heap.size, V54.heap.size, A1, n1, c1, A2, n2, c2, rfl, rfl, ⟨hh69.1, hX', hY, ownB_mono hh69.2.2.1 (by omega), ownB_mono hh69.2.2.2.2 (by omega), HN1.out, HN2.out, by omega, by omega, by omega, fun e => by have := HL1.out _ e; omega, fun e => by have := HL1.out _ e; omega, fun e => by have := HL2.out _ e; omega, fun e => by have := HL2.out _ e; omega⟩⟩
      case' g53_5 =>
        have hb70 : Below V52.heap.size V52 (V52.alloc (.cells #[.bool false, .int .u8 0, .int .u64 0, .int .u64 0, .string ⟨#[]⟩, .slice none 0 0, .int .u8 0, .int .u8 0, .int .i64 0, .int .u8 0, .int .u8 0, .int .u64 0, .int .u64 0] 30)) := (Below.refl _ _).alloc (Nat.le_refl _) _
        go_simp
        refine hK.out _ _ ?_ (fun hh70 => ?_)
        · exact ⟨(hh52'.1.trans (hb70.mono (hh52'.1.size))), (hh52'.2.below hb70)⟩
        clear hK K
        try simp only [heldPut, List.set]
        have hc70 : CellsAt (V52.alloc (.cells #[.bool false, .int .u8 0, .int .u64 0, .int .u64 0, .string ⟨#[]⟩, .slice none 0 0, .int .u8 0, .int .u8 0, .int .i64 0, .int .u8 0, .int .u8 0, .int .u64 0, .int .u64 0] 30)) V52.heap.size 30 := CellsAt.new _ _ _ rfl
        have hz70 : (V52.alloc (.cells #[.bool false, .int .u8 0, .int .u64 0, .int .u64 0, .string ⟨#[]⟩, .slice none 0 0, .int .u8 0, .int .u8 0, .int .i64 0, .int .u8 0, .int .u8 0, .int .u64 0, .int .u64 0] 30)).heap.size = V52.heap.size + 1 := by simp
        generalize hV70 : V52.alloc (.cells #[.bool false, .int .u8 0, .int .u64 0, .int .u64 0, .string ⟨#[]⟩, .slice none 0 0, .int .u8 0, .int .u8 0, .int .i64 0, .int .u8 0, .int .u8 0, .int .u64 0, .int .u64 0] 30) = V70 at *
        clear hV70 hb70
        refine heldMore (S2 := (fun V : World => Below w1.heap.size w1 V ∧ CellsAt V w2.heap.size 30 ∧ CellsAt V V52.heap.size 30)) (fun _ h => ⟨h.1, h.2.1⟩) ?_
        have hh70' : (fun V : World => Below w1.heap.size w1 V ∧ CellsAt V w2.heap.size 30 ∧ CellsAt V V52.heap.size 30) V70 := ⟨hh70.1, hh70.2, hc70⟩
        clear hh70 hc70
        replace hz70 : V52.heap.size + 1 ≤ V70.heap.size := by omega
        refine heldOne (i := 1) rfl (by kernel_rfl) (fun K hK => ?_)
        go_simp
        refine (smallItem_as HX1.out HS1.out _).mono ?_
        rintro e V72 ⟨A1, n1, c1, rfl, hn1, ho1, hb72⟩
        have HN1 := Lib.hid hn1
        clear hn1
        go_wp2_with fail
        refine hK.out _ _ ?_ (fun hh72 => ?_)
        · exact ⟨(hh70'.1.trans (hb72.mono (hh70'.1.size))), (hh70'.2.1.below hb72), (hh70'.2.2.below hb72)⟩
        clear hK K
        try simp only [heldPut, List.set]
        have hz72 := hb72.size
        have HL1 : Hid (∀ k, (Value.slice A1 n1 c1).ownBlock = some k → V70.heap.size ≤ k ∧ k < V72.heap.size) := fun k e => ho1.lt k e
        refine heldMore (S2 := (fun V : World => Below w1.heap.size w1 V ∧ CellsAt V w2.heap.size 30 ∧ CellsAt V V52.heap.size 30 ∧ V.ownsRow V70.heap.size 61 2 (.slice A1 n1 c1) n1 (cellsP x.l))) (fun _ h => ⟨h.1, h.2.1, h.2.2.1⟩) ?_
        have hh72' : (fun V : World => Below w1.heap.size w1 V ∧ CellsAt V w2.heap.size 30 ∧ CellsAt V V52.heap.size 30 ∧ V.ownsRow V70.heap.size 61 2 (.slice A1 n1 c1) n1 (cellsP x.l)) V72 := ⟨hh72.1, hh72.2.1, hh72.2.2, ho1⟩
        clear hh72 ho1 hb72
        refine heldOne (i := 3) rfl (by kernel_rfl) (fun K hK => ?_)
        go_simp
        refine (smallItem_as HX2.out HS2.out _).mono ?_
        rintro e V74 ⟨A2, n2, c2, rfl, hn2, ho2, hb74⟩
        have HN2 := Lib.hid hn2
        clear hn2
        go_wp2_with fail
        refine hK.out _ _ ?_ (fun hh74 => ?_)
        · exact ⟨(hh72'.1.trans (hb74.mono (hh72'.1.size))), (hh72'.2.1.below hb74), (hh72'.2.2.1.below hb74), (own_below hh72'.2.2.2 hb74)⟩
        clear hK K
        try simp only [heldPut, List.set]
        have hz74 := hb74.size
        have HL2 : Hid (∀ k, (Value.slice A2 n2 c2).ownBlock = some k → V72.heap.size ≤ k ∧ k < V74.heap.size) := fun k e => ho2.lt k e
        refine heldMore (S2 := (fun V : World => Below w1.heap.size w1 V ∧ CellsAt V w2.heap.size 30 ∧ CellsAt V V52.heap.size 30 ∧ V.ownsRow V70.heap.size 61 2 (.slice A1 n1 c1) n1 (cellsP x.l) ∧ V.ownsRow V72.heap.size 61 2 (.slice A2 n2 c2) n2 (cellsP y.l))) (fun _ h => ⟨h.1, h.2.1, h.2.2.1, h.2.2.2.1⟩) ?_
        have hh74' : (fun V : World => Below w1.heap.size w1 V ∧ CellsAt V w2.heap.size 30 ∧ CellsAt V V52.heap.size 30 ∧ V.ownsRow V70.heap.size 61 2 (.slice A1 n1 c1) n1 (cellsP x.l) ∧ V.ownsRow V72.heap.size 61 2 (.slice A2 n2 c2) n2 (cellsP y.l)) V74 := ⟨hh74.1, hh74.2.1, hh74.2.2.1, hh74.2.2.2, ho2⟩
        clear hh74 ho2 hb74
        refine heldOne (i := 6) rfl (by kernel_rfl) (fun K hK => ?_)
        rw [if_pos (by rfl)]
        obtain ⟨cs76, hcs76, hsz76⟩ := hh74'.2.1
        refine wp_store_row _ _ _ rfl (w2.heap.size) _ rfl rfl _ _ hcs76 Try.infoI hsz76 (by simp [Value.oneCell']) ?_
        refine hK.out _ _ ?_ (fun hh76 => ?_)
        · exact ⟨(below_setRow hh74'.1 (by omega) _), (hh74'.2.1.same _ rfl), (hh74'.2.2.1.other (by omega) _), (own_setRow2 hh74'.2.2.2.1 (fun e => by have := HL1.out _ e; omega) _), (own_setRow2 hh74'.2.2.2.2 (fun e => by have := HL2.out _ e; omega) _)⟩
        clear hK K
        have hX : (V74.setRow (w2.heap.size) #[.bool x.g, .int .u8 x.o, .int .u64 x.q, .int .u64 x.t, .string x.r, .slice A1 n1 c1, .int .u8 x.s, .int .u8 x.p, .int .i64 x.v, .int .u8 x.w, .int .u8 x.ga, .int .u64 x.gf, .int .u64 x.gt]).heap[w2.heap.size]? = some (.cells #[.bool x.g, .int .u8 x.o, .int .u64 x.q, .int .u64 x.t, .string x.r, .slice A1 n1 c1, .int .u8 x.s, .int .u8 x.p, .int .i64 x.v, .int .u8 x.w, .int .u8 x.ga, .int .u64 x.gf, .int .u64 x.gt] 30 (0, 0)) := setRow_heap _ _ _ _ _ _ hcs76
        generalize hV76 : V74.setRow (w2.heap.size) #[.bool x.g, .int .u8 x.o, .int .u64 x.q, .int .u64 x.t, .string x.r, .slice A1 n1 c1, .int .u8 x.s, .int .u8 x.p, .int .i64 x.v, .int .u8 x.w, .int .u8 x.ga, .int .u64 x.gf, .int .u64 x.gt] = V76 at *
        clear hV76 hcs76 hsz76 
        refine heldOne (i := 7) rfl (by kernel_rfl) (fun K hK => ?_)
        rw [if_pos (by rfl)]
        obtain ⟨cs78, hcs78, hsz78⟩ := hh76.2.2.1
        refine wp_store_row _ _ _ rfl (V52.heap.size) _ rfl rfl _ _ hcs78 Try.infoI hsz78 (by simp [Value.oneCell']) ?_
        refine hK.out _ _ ?_ (fun hh78 => ?_)
        · exact ⟨(below_setRow hh76.1 (by omega) _), (hh76.2.1.other (by omega) _), (hh76.2.2.1.same _ rfl), (own_setRow2 hh76.2.2.2.1 (fun e => by have := HL1.out _ e; omega) _), (own_setRow2 hh76.2.2.2.2 (fun e => by have := HL2.out _ e; omega) _)⟩
        clear hK K
        have hY : (V76.setRow (V52.heap.size) #[.bool y.g, .int .u8 y.o, .int .u64 y.q, .int .u64 y.t, .string y.r, .slice A2 n2 c2, .int .u8 y.s, .int .u8 y.p, .int .i64 y.v, .int .u8 y.w, .int .u8 y.ga, .int .u64 y.gf, .int .u64 y.gt]).heap[V52.heap.size]? = some (.cells #[.bool y.g, .int .u8 y.o, .int .u64 y.q, .int .u64 y.t, .string y.r, .slice A2 n2 c2, .int .u8 y.s, .int .u8 y.p, .int .i64 y.v, .int .u8 y.w, .int .u8 y.ga, .int .u64 y.gf, .int .u64 y.gt] 30 (0, 0)) := setRow_heap _ _ _ _ _ _ hcs78
        have hX' : (V76.setRow (V52.heap.size) #[.bool y.g, .int .u8 y.o, .int .u64 y.q, .int .u64 y.t, .string y.r, .slice A2 n2 c2, .int .u8 y.s, .int .u8 y.p, .int .i64 y.v, .int .u8 y.w, .int .u8 y.ga, .int .u64 y.gf, .int .u64 y.gt]).heap[w2.heap.size]? = some (.cells #[.bool x.g, .int .u8 x.o, .int .u64 x.q, .int .u64 x.t, .string x.r, .slice A1 n1 c1, .int .u8 x.s, .int .u8 x.p, .int .i64 x.v, .int .u8 x.w, .int .u8 x.ga, .int .u64 x.gf, .int .u64 x.gt] 30 (0, 0)) := (setRow_other _ _ _ _ (by omega)).trans hX
        generalize hV78 : V76.setRow (V52.heap.size) #[.bool y.g, .int .u8 y.o, .int .u64 y.q, .int .u64 y.t, .string y.r, .slice A2 n2 c2, .int .u8 y.s, .int .u8 y.p, .int .i64 y.v, .int .u8 y.w, .int .u8 y.ga, .int .u64 y.gf, .int .u64 y.gt] = V78 at *
        clear hV78 hcs78 hsz78 hX
        refine wpAnyH_done (by kernel_rfl) ?_ _
        refine NoPanic.normal ?_
        go_wp2_with fail
        go_meet
        exact ⟨w2.heap.size, V52.heap.size, A1, n1, c1, A2, n2, c2, rfl, rfl, ⟨hh78.1, hX', hY, ownB_mono hh78.2.2.2.1 (by omega), ownB_mono hh78.2.2.2.2 (by omega), HN1.out, HN2.out, by omega, by omega, by omega, fun e => by have := HL1.out _ e; omega, fun e => by have := HL1.out _ e; omega, fun e => by have := HL2.out _ e; omega, fun e => by have := HL2.out _ e; omega⟩⟩
    case' g1_5 =>
      have hb79 : Below w2.heap.size w2 (w2.alloc (.cells #[.bool false, .int .u8 0, .int .u64 0, .int .u64 0, .string ⟨#[]⟩, .slice none 0 0, .int .u8 0, .int .u8 0, .int .i64 0, .int .u8 0, .int .u8 0, .int .u64 0, .int .u64 0] 30)) := (Below.refl _ _).alloc (Nat.le_refl _) _
      go_simp
      refine hK.out _ _ ?_ (fun hh79 => ?_)
      · exact (hHeld.trans (hb79.mono (hHeld.size)))
      clear hK K
      try simp only [heldPut, List.set]
      have hc79 : CellsAt (w2.alloc (.cells #[.bool false, .int .u8 0, .int .u64 0, .int .u64 0, .string ⟨#[]⟩, .slice none 0 0, .int .u8 0, .int .u8 0, .int .i64 0, .int .u8 0, .int .u8 0, .int .u64 0, .int .u64 0] 30)) w2.heap.size 30 := CellsAt.new _ _ _ rfl
      have hz79 : (w2.alloc (.cells #[.bool false, .int .u8 0, .int .u64 0, .int .u64 0, .string ⟨#[]⟩, .slice none 0 0, .int .u8 0, .int .u8 0, .int .i64 0, .int .u8 0, .int .u8 0, .int .u64 0, .int .u64 0] 30)).heap.size = w2.heap.size + 1 := by simp
      generalize hV79 : w2.alloc (.cells #[.bool false, .int .u8 0, .int .u64 0, .int .u64 0, .string ⟨#[]⟩, .slice none 0 0, .int .u8 0, .int .u8 0, .int .i64 0, .int .u8 0, .int .u8 0, .int .u64 0, .int .u64 0] 30) = V79 at *
      clear hV79 hb79
      refine heldMore (S2 := (fun V : World => Below w1.heap.size w1 V ∧ CellsAt V w2.heap.size 30)) (fun _ h => h.1) ?_
      have hh79' : (fun V : World => Below w1.heap.size w1 V ∧ CellsAt V w2.heap.size 30) V79 := ⟨hh79, hc79⟩
      clear hh79 hc79
      replace hz79 : w2.heap.size + 1 ≤ V79.heap.size := by omega
      refine heldTwo (i := 1) (j := 4) rfl rfl (by kernel_rfl) (fun K hK => ?g80_1) (fun K hK => ?g80_4)
      case' g80_1 =>
        go_simp
        refine (smallItem_as HX1.out HS1.out _).mono ?_
        rintro e V81 ⟨A1, n1, c1, rfl, hn1, ho1, hb81⟩
        have HN1 := Lib.hid hn1
        clear hn1
        go_wp2_with fail
        refine hK.out _ _ ?_ (fun hh81 => ?_)
        · exact ⟨(hh79'.1.trans (hb81.mono (hh79'.1.size))), (hh79'.2.below hb81)⟩
        clear hK K
        try simp only [heldPut, List.set]
        have hz81 := hb81.size
        have HL1 : Hid (∀ k, (Value.slice A1 n1 c1).ownBlock = some k → V79.heap.size ≤ k ∧ k < V81.heap.size) := fun k e => ho1.lt k e
        refine heldMore (S2 := (fun V : World => Below w1.heap.size w1 V ∧ CellsAt V w2.heap.size 30 ∧ V.ownsRow V79.heap.size 61 2 (.slice A1 n1 c1) n1 (cellsP x.l))) (fun _ h => ⟨h.1, h.2.1⟩) ?_
        have hh81' : (fun V : World => Below w1.heap.size w1 V ∧ CellsAt V w2.heap.size 30 ∧ V.ownsRow V79.heap.size 61 2 (.slice A1 n1 c1) n1 (cellsP x.l)) V81 := ⟨hh81.1, hh81.2, ho1⟩
        clear hh81 ho1 hb81
        refine heldTwo (i := 3) (j := 4) rfl rfl (by kernel_rfl) (fun K hK => ?g82_3) (fun K hK => ?g82_4)
        case' g82_3 =>
          go_simp
          refine (smallItem_as HX2.out HS2.out _).mono ?_
          rintro e V83 ⟨A2, n2, c2, rfl, hn2, ho2, hb83⟩
          have HN2 := Lib.hid hn2
          clear hn2
          go_wp2_with fail
          refine hK.out _ _ ?_ (fun hh83 => ?_)
          · exact ⟨(hh81'.1.trans (hb83.mono (hh81'.1.size))), (hh81'.2.1.below hb83), (own_below hh81'.2.2 hb83)⟩
          clear hK K
          try simp only [heldPut, List.set]
          have hz83 := hb83.size
          have HL2 : Hid (∀ k, (Value.slice A2 n2 c2).ownBlock = some k → V81.heap.size ≤ k ∧ k < V83.heap.size) := fun k e => ho2.lt k e
          refine heldMore (S2 := (fun V : World => Below w1.heap.size w1 V ∧ CellsAt V w2.heap.size 30 ∧ V.ownsRow V79.heap.size 61 2 (.slice A1 n1 c1) n1 (cellsP x.l) ∧ V.ownsRow V81.heap.size 61 2 (.slice A2 n2 c2) n2 (cellsP y.l))) (fun _ h => ⟨h.1, h.2.1, h.2.2.1⟩) ?_
          have hh83' : (fun V : World => Below w1.heap.size w1 V ∧ CellsAt V w2.heap.size 30 ∧ V.ownsRow V79.heap.size 61 2 (.slice A1 n1 c1) n1 (cellsP x.l) ∧ V.ownsRow V81.heap.size 61 2 (.slice A2 n2 c2) n2 (cellsP y.l)) V83 := ⟨hh83.1, hh83.2.1, hh83.2.2, ho2⟩
          clear hh83 ho2 hb83
          refine heldOne (i := 4) rfl (by kernel_rfl) (fun K hK => ?_)
          have hb85 : Below V83.heap.size V83 (V83.alloc (.cells #[.bool false, .int .u8 0, .int .u64 0, .int .u64 0, .string ⟨#[]⟩, .slice none 0 0, .int .u8 0, .int .u8 0, .int .i64 0, .int .u8 0, .int .u8 0, .int .u64 0, .int .u64 0] 30)) := (Below.refl _ _).alloc (Nat.le_refl _) _
          go_simp
          refine hK.out _ _ ?_ (fun hh85 => ?_)
          · exact ⟨(hh83'.1.trans (hb85.mono (hh83'.1.size))), (hh83'.2.1.below hb85), (own_below hh83'.2.2.1 hb85), (own_below hh83'.2.2.2 hb85)⟩
          clear hK K
          try simp only [heldPut, List.set]
          have hc85 : CellsAt (V83.alloc (.cells #[.bool false, .int .u8 0, .int .u64 0, .int .u64 0, .string ⟨#[]⟩, .slice none 0 0, .int .u8 0, .int .u8 0, .int .i64 0, .int .u8 0, .int .u8 0, .int .u64 0, .int .u64 0] 30)) V83.heap.size 30 := CellsAt.new _ _ _ rfl
          have hz85 : (V83.alloc (.cells #[.bool false, .int .u8 0, .int .u64 0, .int .u64 0, .string ⟨#[]⟩, .slice none 0 0, .int .u8 0, .int .u8 0, .int .i64 0, .int .u8 0, .int .u8 0, .int .u64 0, .int .u64 0] 30)).heap.size = V83.heap.size + 1 := by simp
          generalize hV85 : V83.alloc (.cells #[.bool false, .int .u8 0, .int .u64 0, .int .u64 0, .string ⟨#[]⟩, .slice none 0 0, .int .u8 0, .int .u8 0, .int .i64 0, .int .u8 0, .int .u8 0, .int .u64 0, .int .u64 0] 30) = V85 at *
          clear hV85 hb85
          refine heldMore (S2 := (fun V : World => Below w1.heap.size w1 V ∧ CellsAt V w2.heap.size 30 ∧ V.ownsRow V79.heap.size 61 2 (.slice A1 n1 c1) n1 (cellsP x.l) ∧ V.ownsRow V81.heap.size 61 2 (.slice A2 n2 c2) n2 (cellsP y.l) ∧ CellsAt V V83.heap.size 30)) (fun _ h => ⟨h.1, h.2.1, h.2.2.1, h.2.2.2.1⟩) ?_
          have hh85' : (fun V : World => Below w1.heap.size w1 V ∧ CellsAt V w2.heap.size 30 ∧ V.ownsRow V79.heap.size 61 2 (.slice A1 n1 c1) n1 (cellsP x.l) ∧ V.ownsRow V81.heap.size 61 2 (.slice A2 n2 c2) n2 (cellsP y.l) ∧ CellsAt V V83.heap.size 30) V85 := ⟨hh85.1, hh85.2.1, hh85.2.2.1, hh85.2.2.2, hc85⟩
          clear hh85 hc85
          replace hz85 : V83.heap.size + 1 ≤ V85.heap.size := by omega
          refine heldOne (i := 6) rfl (by kernel_rfl) (fun K hK => ?_)
          rw [if_pos (by rfl)]
          obtain ⟨cs87, hcs87, hsz87⟩ := hh85'.2.2.2.2
          refine wp_store_row _ _ _ rfl (V83.heap.size) _ rfl rfl _ _ hcs87 Try.infoI hsz87 (by simp [Value.oneCell']) ?_
          refine hK.out _ _ ?_ (fun hh87 => ?_)
          · exact ⟨(below_setRow hh85'.1 (by omega) _), (hh85'.2.1.other (by omega) _), (own_setRow2 hh85'.2.2.1 (fun e => by have := HL1.out _ e; omega) _), (own_setRow2 hh85'.2.2.2.1 (fun e => by have := HL2.out _ e; omega) _), (hh85'.2.2.2.2.same _ rfl)⟩
          clear hK K
          have hX : (V85.setRow (V83.heap.size) #[.bool x.g, .int .u8 x.o, .int .u64 x.q, .int .u64 x.t, .string x.r, .slice A1 n1 c1, .int .u8 x.s, .int .u8 x.p, .int .i64 x.v, .int .u8 x.w, .int .u8 x.ga, .int .u64 x.gf, .int .u64 x.gt]).heap[V83.heap.size]? = some (.cells #[.bool x.g, .int .u8 x.o, .int .u64 x.q, .int .u64 x.t, .string x.r, .slice A1 n1 c1, .int .u8 x.s, .int .u8 x.p, .int .i64 x.v, .int .u8 x.w, .int .u8 x.ga, .int .u64 x.gf, .int .u64 x.gt] 30 (0, 0)) := setRow_heap _ _ _ _ _ _ hcs87
          generalize hV87 : V85.setRow (V83.heap.size) #[.bool x.g, .int .u8 x.o, .int .u64 x.q, .int .u64 x.t, .string x.r, .slice A1 n1 c1, .int .u8 x.s, .int .u8 x.p, .int .i64 x.v, .int .u8 x.w, .int .u8 x.ga, .int .u64 x.gf, .int .u64 x.gt] = V87 at *
          clear hV87 hcs87 hsz87 
          refine heldOne (i := 7) rfl (by kernel_rfl) (fun K hK => ?_)
          rw [if_pos (by rfl)]
          obtain ⟨cs89, hcs89, hsz89⟩ := hh87.2.1
          refine wp_store_row _ _ _ rfl (w2.heap.size) _ rfl rfl _ _ hcs89 Try.infoI hsz89 (by simp [Value.oneCell']) ?_
          refine hK.out _ _ ?_ (fun hh89 => ?_)
          · exact ⟨(below_setRow hh87.1 (by omega) _), (hh87.2.1.same _ rfl), (own_setRow2 hh87.2.2.1 (fun e => by have := HL1.out _ e; omega) _), (own_setRow2 hh87.2.2.2.1 (fun e => by have := HL2.out _ e; omega) _), (hh87.2.2.2.2.other (by omega) _)⟩
          clear hK K
          have hY : (V87.setRow (w2.heap.size) #[.bool y.g, .int .u8 y.o, .int .u64 y.q, .int .u64 y.t, .string y.r, .slice A2 n2 c2, .int .u8 y.s, .int .u8 y.p, .int .i64 y.v, .int .u8 y.w, .int .u8 y.ga, .int .u64 y.gf, .int .u64 y.gt]).heap[w2.heap.size]? = some (.cells #[.bool y.g, .int .u8 y.o, .int .u64 y.q, .int .u64 y.t, .string y.r, .slice A2 n2 c2, .int .u8 y.s, .int .u8 y.p, .int .i64 y.v, .int .u8 y.w, .int .u8 y.ga, .int .u64 y.gf, .int .u64 y.gt] 30 (0, 0)) := setRow_heap _ _ _ _ _ _ hcs89
          have hX' : (V87.setRow (w2.heap.size) #[.bool y.g, .int .u8 y.o, .int .u64 y.q, .int .u64 y.t, .string y.r, .slice A2 n2 c2, .int .u8 y.s, .int .u8 y.p, .int .i64 y.v, .int .u8 y.w, .int .u8 y.ga, .int .u64 y.gf, .int .u64 y.gt]).heap[V83.heap.size]? = some (.cells #[.bool x.g, .int .u8 x.o, .int .u64 x.q, .int .u64 x.t, .string x.r, .slice A1 n1 c1, .int .u8 x.s, .int .u8 x.p, .int .i64 x.v, .int .u8 x.w, .int .u8 x.ga, .int .u64 x.gf, .int .u64 x.gt] 30 (0, 0)) := (setRow_other _ _ _ _ (by omega)).trans hX
          generalize hV89 : V87.setRow (w2.heap.size) #[.bool y.g, .int .u8 y.o, .int .u64 y.q, .int .u64 y.t, .string y.r, .slice A2 n2 c2, .int .u8 y.s, .int .u8 y.p, .int .i64 y.v, .int .u8 y.w, .int .u8 y.ga, .int .u64 y.gf, .int .u64 y.gt] = V89 at *
          clear hV89 hcs89 hsz89 hX
          refine wpAnyH_done (by kernel_rfl) ?_ _
          refine NoPanic.normal ?_
          go_wp2_with fail
          go_meet
          exact ⟨V83.heap.size, w2.heap.size, A1, n1, c1, A2, n2, c2, rfl, rfl, ⟨hh89.1, hX', hY, ownB_mono hh89.2.2.1 (by omega), ownB_mono hh89.2.2.2.1 (by omega), HN1.out, HN2.out, by omega, by omega, by omega, fun e => by have := HL1.out _ e; omega, fun e => by have := HL1.out _ e; omega, fun e => by have := HL2.out _ e; omega, fun e => by have := HL2.out _ e; omega⟩⟩
        case' g82_4 =>
          have hb90 : Below V81.heap.size V81 (V81.alloc (.cells #[.bool false, .int .u8 0, .int .u64 0, .int .u64 0, .string ⟨#[]⟩, .slice none 0 0, .int .u8 0, .int .u8 0, .int .i64 0, .int .u8 0, .int .u8 0, .int .u64 0, .int .u64 0] 30)) := (Below.refl _ _).alloc (Nat.le_refl _) _
          go_simp
          refine hK.out _ _ ?_ (fun hh90 => ?_)
          · exact ⟨(hh81'.1.trans (hb90.mono (hh81'.1.size))), (hh81'.2.1.below hb90), (own_below hh81'.2.2 hb90)⟩
          clear hK K
          try simp only [heldPut, List.set]
          have hc90 : CellsAt (V81.alloc (.cells #[.bool false, .int .u8 0, .int .u64 0, .int .u64 0, .string ⟨#[]⟩, .slice none 0 0, .int .u8 0, .int .u8 0, .int .i64 0, .int .u8 0, .int .u8 0, .int .u64 0, .int .u64 0] 30)) V81.heap.size 30 := CellsAt.new _ _ _ rfl
          have hz90 : (V81.alloc (.cells #[.bool false, .int .u8 0, .int .u64 0, .int .u64 0, .string ⟨#[]⟩, .slice none 0 0, .int .u8 0, .int .u8 0, .int .i64 0, .int .u8 0, .int .u8 0, .int .u64 0, .int .u64 0] 30)).heap.size = V81.heap.size + 1 := by simp
          generalize hV90 : V81.alloc (.cells #[.bool false, .int .u8 0, .int .u64 0, .int .u64 0, .string ⟨#[]⟩, .slice none 0 0, .int .u8 0, .int .u8 0, .int .i64 0, .int .u8 0, .int .u8 0, .int .u64 0, .int .u64 0] 30) = V90 at *
          clear hV90 hb90
          refine heldMore (S2 := (fun V : World => Below w1.heap.size w1 V ∧ CellsAt V w2.heap.size 30 ∧ V.ownsRow V79.heap.size 61 2 (.slice A1 n1 c1) n1 (cellsP x.l) ∧ CellsAt V V81.heap.size 30)) (fun _ h => ⟨h.1, h.2.1, h.2.2.1⟩) ?_
          have hh90' : (fun V : World => Below w1.heap.size w1 V ∧ CellsAt V w2.heap.size 30 ∧ V.ownsRow V79.heap.size 61 2 (.slice A1 n1 c1) n1 (cellsP x.l) ∧ CellsAt V V81.heap.size 30) V90 := ⟨hh90.1, hh90.2.1, hh90.2.2, hc90⟩
          clear hh90 hc90
          replace hz90 : V81.heap.size + 1 ≤ V90.heap.size := by omega
          refine heldOne (i := 3) rfl (by kernel_rfl) (fun K hK => ?_)
          go_simp
          refine (smallItem_as HX2.out HS2.out _).mono ?_
          rintro e V92 ⟨A2, n2, c2, rfl, hn2, ho2, hb92⟩
          have HN2 := Lib.hid hn2
          clear hn2
          go_wp2_with fail
          refine hK.out _ _ ?_ (fun hh92 => ?_)
          · exact ⟨(hh90'.1.trans (hb92.mono (hh90'.1.size))), (hh90'.2.1.below hb92), (own_below hh90'.2.2.1 hb92), (hh90'.2.2.2.below hb92)⟩
          clear hK K
          try simp only [heldPut, List.set]
          have hz92 := hb92.size
          have HL2 : Hid (∀ k, (Value.slice A2 n2 c2).ownBlock = some k → V90.heap.size ≤ k ∧ k < V92.heap.size) := fun k e => ho2.lt k e
          refine heldMore (S2 := (fun V : World => Below w1.heap.size w1 V ∧ CellsAt V w2.heap.size 30 ∧ V.ownsRow V79.heap.size 61 2 (.slice A1 n1 c1) n1 (cellsP x.l) ∧ CellsAt V V81.heap.size 30 ∧ V.ownsRow V90.heap.size 61 2 (.slice A2 n2 c2) n2 (cellsP y.l))) (fun _ h => ⟨h.1, h.2.1, h.2.2.1, h.2.2.2.1⟩) ?_
          have hh92' : (fun V : World => Below w1.heap.size w1 V ∧ CellsAt V w2.heap.size 30 ∧ V.ownsRow V79.heap.size 61 2 (.slice A1 n1 c1) n1 (cellsP x.l) ∧ CellsAt V V81.heap.size 30 ∧ V.ownsRow V90.heap.size 61 2 (.slice A2 n2 c2) n2 (cellsP y.l)) V92 := ⟨hh92.1, hh92.2.1, hh92.2.2.1, hh92.2.2.2, ho2⟩
          clear hh92 ho2 hb92
          refine heldOne (i := 6) rfl (by kernel_rfl) (fun K hK => ?_)
          rw [if_pos (by rfl)]
          obtain ⟨cs94, hcs94, hsz94⟩ := hh92'.2.2.2.1
          refine wp_store_row _ _ _ rfl (V81.heap.size) _ rfl rfl _ _ hcs94 Try.infoI hsz94 (by simp [Value.oneCell']) ?_
          refine hK.out _ _ ?_ (fun hh94 => ?_)
          · exact ⟨(below_setRow hh92'.1 (by omega) _), (hh92'.2.1.other (by omega) _), (own_setRow2 hh92'.2.2.1 (fun e => by have := HL1.out _ e; omega) _), (hh92'.2.2.2.1.same _ rfl), (own_setRow2 hh92'.2.2.2.2 (fun e => by have := HL2.out _ e; omega) _)⟩
          clear hK K
          have hX : (V92.setRow (V81.heap.size) #[.bool x.g, .int .u8 x.o, .int .u64 x.q, .int .u64 x.t, .string x.r, .slice A1 n1 c1, .int .u8 x.s, .int .u8 x.p, .int .i64 x.v, .int .u8 x.w, .int .u8 x.ga, .int .u64 x.gf, .int .u64 x.gt]).heap[V81.heap.size]? = some (.cells #[.bool x.g, .int .u8 x.o, .int .u64 x.q, .int .u64 x.t, .string x.r, .slice A1 n1 c1, .int .u8 x.s, .int .u8 x.p, .int .i64 x.v, .int .u8 x.w, .int .u8 x.ga, .int .u64 x.gf, .int .u64 x.gt] 30 (0, 0)) := setRow_heap _ _ _ _ _ _ hcs94
          generalize hV94 : V92.setRow (V81.heap.size) #[.bool x.g, .int .u8 x.o, .int .u64 x.q, .int .u64 x.t, .string x.r, .slice A1 n1 c1, .int .u8 x.s, .int .u8 x.p, .int .i64 x.v, .int .u8 x.w, .int .u8 x.ga, .int .u64 x.gf, .int .u64 x.gt] = V94 at *
          clear hV94 hcs94 hsz94 
          refine heldOne (i := 7) rfl (by kernel_rfl) (fun K hK => ?_)
          rw [if_pos (by rfl)]
          obtain ⟨cs96, hcs96, hsz96⟩ := hh94.2.1
          refine wp_store_row _ _ _ rfl (w2.heap.size) _ rfl rfl _ _ hcs96 Try.infoI hsz96 (by simp [Value.oneCell']) ?_
          refine hK.out _ _ ?_ (fun hh96 => ?_)
          · exact ⟨(below_setRow hh94.1 (by omega) _), (hh94.2.1.same _ rfl), (own_setRow2 hh94.2.2.1 (fun e => by have := HL1.out _ e; omega) _), (hh94.2.2.2.1.other (by omega) _), (own_setRow2 hh94.2.2.2.2 (fun e => by have := HL2.out _ e; omega) _)⟩
          clear hK K
          have hY : (V94.setRow (w2.heap.size) #[.bool y.g, .int .u8 y.o, .int .u64 y.q, .int .u64 y.t, .string y.r, .slice A2 n2 c2, .int .u8 y.s, .int .u8 y.p, .int .i64 y.v, .int .u8 y.w, .int .u8 y.ga, .int .u64 y.gf, .int .u64 y.gt]).heap[w2.heap.size]? = some (.cells #[.bool y.g, .int .u8 y.o, .int .u64 y.q, .int .u64 y.t, .string y.r, .slice A2 n2 c2, .int .u8 y.s, .int .u8 y.p, .int .i64 y.v, .int .u8 y.w, .int .u8 y.ga, .int .u64 y.gf, .int .u64 y.gt] 30 (0, 0)) := setRow_heap _ _ _ _ _ _ hcs96
          have hX' : (V94.setRow (w2.heap.size) #[.bool y.g, .int .u8 y.o, .int .u64 y.q, .int .u64 y.t, .string y.r, .slice A2 n2 c2, .int .u8 y.s, .int .u8 y.p, .int .i64 y.v, .int .u8 y.w, .int .u8 y.ga, .int .u64 y.gf, .int .u64 y.gt]).heap[V81.heap.size]? = some (.cells #[.bool x.g, .int .u8 x.o, .int .u64 x.q, .int .u64 x.t, .string x.r, .slice A1 n1 c1, .int .u8 x.s, .int .u8 x.p, .int .i64 x.v, .int .u8 x.w, .int .u8 x.ga, .int .u64 x.gf, .int .u64 x.gt] 30 (0, 0)) := (setRow_other _ _ _ _ (by omega)).trans hX
          generalize hV96 : V94.setRow (w2.heap.size) #[.bool y.g, .int .u8 y.o, .int .u64 y.q, .int .u64 y.t, .string y.r, .slice A2 n2 c2, .int .u8 y.s, .int .u8 y.p, .int .i64 y.v, .int .u8 y.w, .int .u8 y.ga, .int .u64 y.gf, .int .u64 y.gt] = V96 at *
          clear hV96 hcs96 hsz96 hX
          refine wpAnyH_done (by kernel_rfl) ?_ _
          refine NoPanic.normal ?_
          go_wp2_with fail
          go_meet
          exact ⟨V81.heap.size, w2.heap.size, A1, n1, c1, A2, n2, c2, rfl, rfl, ⟨hh96.1, hX', hY, ownB_mono hh96.2.2.1 (by omega), ownB_mono hh96.2.2.2.2 (by omega), HN1.out, HN2.out, by omega, by omega, by omega, fun e => by have := HL1.out _ e; omega, fun e => by have := HL1.out _ e; omega, fun e => by have := HL2.out _ e; omega, fun e => by have := HL2.out _ e; omega⟩⟩
      case' g80_4 =>
        have hb97 : Below V79.heap.size V79 (V79.alloc (.cells #[.bool false, .int .u8 0, .int .u64 0, .int .u64 0, .string ⟨#[]⟩, .slice none 0 0, .int .u8 0, .int .u8 0, .int .i64 0, .int .u8 0, .int .u8 0, .int .u64 0, .int .u64 0] 30)) := (Below.refl _ _).alloc (Nat.le_refl _) _
        go_simp
        refine hK.out _ _ ?_ (fun hh97 => ?_)
        · exact ⟨(hh79'.1.trans (hb97.mono (hh79'.1.size))), (hh79'.2.below hb97)⟩
        clear hK K
        try simp only [heldPut, List.set]
        have hc97 : CellsAt (V79.alloc (.cells #[.bool false, .int .u8 0, .int .u64 0, .int .u64 0, .string ⟨#[]⟩, .slice none 0 0, .int .u8 0, .int .u8 0, .int .i64 0, .int .u8 0, .int .u8 0, .int .u64 0, .int .u64 0] 30)) V79.heap.size 30 := CellsAt.new _ _ _ rfl
        have hz97 : (V79.alloc (.cells #[.bool false, .int .u8 0, .int .u64 0, .int .u64 0, .string ⟨#[]⟩, .slice none 0 0, .int .u8 0, .int .u8 0, .int .i64 0, .int .u8 0, .int .u8 0, .int .u64 0, .int .u64 0] 30)).heap.size = V79.heap.size + 1 := by simp
        generalize hV97 : V79.alloc (.cells #[.bool false, .int .u8 0, .int .u64 0, .int .u64 0, .string ⟨#[]⟩, .slice none 0 0, .int .u8 0, .int .u8 0, .int .i64 0, .int .u8 0, .int .u8 0, .int .u64 0, .int .u64 0] 30) = V97 at *
        clear hV97 hb97
        refine heldMore (S2 := (fun V : World => Below w1.heap.size w1 V ∧ CellsAt V w2.heap.size 30 ∧ CellsAt V V79.heap.size 30)) (fun _ h => ⟨h.1, h.2.1⟩) ?_
        have hh97' : (fun V : World => Below w1.heap.size w1 V ∧ CellsAt V w2.heap.size 30 ∧ CellsAt V V79.heap.size 30) V97 := ⟨hh97.1, hh97.2, hc97⟩
        clear hh97 hc97
        replace hz97 : V79.heap.size + 1 ≤ V97.heap.size := by omega
        refine heldOne (i := 1) rfl (by kernel_rfl) (fun K hK => ?_)
        go_simp
        refine (smallItem_as HX1.out HS1.out _).mono ?_
        rintro e V99 ⟨A1, n1, c1, rfl, hn1, ho1, hb99⟩
        have HN1 := Lib.hid hn1
        clear hn1
        go_wp2_with fail
        refine hK.out _ _ ?_ (fun hh99 => ?_)
        · exact ⟨(hh97'.1.trans (hb99.mono (hh97'.1.size))), (hh97'.2.1.below hb99), (hh97'.2.2.below hb99)⟩
        clear hK K
        try simp only [heldPut, List.set]
        have hz99 := hb99.size
        have HL1 : Hid (∀ k, (Value.slice A1 n1 c1).ownBlock = some k → V97.heap.size ≤ k ∧ k < V99.heap.size) := fun k e => ho1.lt k e
        refine heldMore (S2 := (fun V : World => Below w1.heap.size w1 V ∧ CellsAt V w2.heap.size 30 ∧ CellsAt V V79.heap.size 30 ∧ V.ownsRow V97.heap.size 61 2 (.slice A1 n1 c1) n1 (cellsP x.l))) (fun _ h => ⟨h.1, h.2.1, h.2.2.1⟩) ?_
        have hh99' : (fun V : World => Below w1.heap.size w1 V ∧ CellsAt V w2.heap.size 30 ∧ CellsAt V V79.heap.size 30 ∧ V.ownsRow V97.heap.size 61 2 (.slice A1 n1 c1) n1 (cellsP x.l)) V99 := ⟨hh99.1, hh99.2.1, hh99.2.2, ho1⟩
        clear hh99 ho1 hb99
        refine heldOne (i := 3) rfl (by kernel_rfl) (fun K hK => ?_)
        go_simp
        refine (smallItem_as HX2.out HS2.out _).mono ?_
        rintro e V101 ⟨A2, n2, c2, rfl, hn2, ho2, hb101⟩
        have HN2 := Lib.hid hn2
        clear hn2
        go_wp2_with fail
        refine hK.out _ _ ?_ (fun hh101 => ?_)
        · exact ⟨(hh99'.1.trans (hb101.mono (hh99'.1.size))), (hh99'.2.1.below hb101), (hh99'.2.2.1.below hb101), (own_below hh99'.2.2.2 hb101)⟩
        clear hK K
        try simp only [heldPut, List.set]
        have hz101 := hb101.size
        have HL2 : Hid (∀ k, (Value.slice A2 n2 c2).ownBlock = some k → V99.heap.size ≤ k ∧ k < V101.heap.size) := fun k e => ho2.lt k e
        refine heldMore (S2 := (fun V : World => Below w1.heap.size w1 V ∧ CellsAt V w2.heap.size 30 ∧ CellsAt V V79.heap.size 30 ∧ V.ownsRow V97.heap.size 61 2 (.slice A1 n1 c1) n1 (cellsP x.l) ∧ V.ownsRow V99.heap.size 61 2 (.slice A2 n2 c2) n2 (cellsP y.l))) (fun _ h => ⟨h.1, h.2.1, h.2.2.1, h.2.2.2.1⟩) ?_
        have hh101' : (fun V : World => Below w1.heap.size w1 V ∧ CellsAt V w2.heap.size 30 ∧ CellsAt V V79.heap.size 30 ∧ V.ownsRow V97.heap.size 61 2 (.slice A1 n1 c1) n1 (cellsP x.l) ∧ V.ownsRow V99.heap.size 61 2 (.slice A2 n2 c2) n2 (cellsP y.l)) V101 := ⟨hh101.1, hh101.2.1, hh101.2.2.1, hh101.2.2.2, ho2⟩
        clear hh101 ho2 hb101
        refine heldOne (i := 6) rfl (by kernel_rfl) (fun K hK => ?_)
        rw [if_pos (by rfl)]
        obtain ⟨cs103, hcs103, hsz103⟩ := hh101'.2.2.1
        refine wp_store_row _ _ _ rfl (V79.heap.size) _ rfl rfl _ _ hcs103 Try.infoI hsz103 (by simp [Value.oneCell']) ?_
        refine hK.out _ _ ?_ (fun hh103 => ?_)
        · exact ⟨(below_setRow hh101'.1 (by omega) _), (hh101'.2.1.other (by omega) _), (hh101'.2.2.1.same _ rfl), (own_setRow2 hh101'.2.2.2.1 (fun e => by have := HL1.out _ e; omega) _), (own_setRow2 hh101'.2.2.2.2 (fun e => by have := HL2.out _ e; omega) _)⟩
        clear hK K
        have hX : (V101.setRow (V79.heap.size) #[.bool x.g, .int .u8 x.o, .int .u64 x.q, .int .u64 x.t, .string x.r, .slice A1 n1 c1, .int .u8 x.s, .int .u8 x.p, .int .i64 x.v, .int .u8 x.w, .int .u8 x.ga, .int .u64 x.gf, .int .u64 x.gt]).heap[V79.heap.size]? = some (.cells #[.bool x.g, .int .u8 x.o, .int .u64 x.q, .int .u64 x.t, .string x.r, .slice A1 n1 c1, .int .u8 x.s, .int .u8 x.p, .int .i64 x.v, .int .u8 x.w, .int .u8 x.ga, .int .u64 x.gf, .int .u64 x.gt] 30 (0, 0)) := setRow_heap _ _ _ _ _ _ hcs103
        generalize hV103 : V101.setRow (V79.heap.size) #[.bool x.g, .int .u8 x.o, .int .u64 x.q, .int .u64 x.t, .string x.r, .slice A1 n1 c1, .int .u8 x.s, .int .u8 x.p, .int .i64 x.v, .int .u8 x.w, .int .u8 x.ga, .int .u64 x.gf, .int .u64 x.gt] = V103 at *
        clear hV103 hcs103 hsz103 
        refine heldOne (i := 7) rfl (by kernel_rfl) (fun K hK => ?_)
        rw [if_pos (by rfl)]
        obtain ⟨cs105, hcs105, hsz105⟩ := hh103.2.1
        refine wp_store_row _ _ _ rfl (w2.heap.size) _ rfl rfl _ _ hcs105 Try.infoI hsz105 (by simp [Value.oneCell']) ?_
        refine hK.out _ _ ?_ (fun hh105 => ?_)
        · exact ⟨(below_setRow hh103.1 (by omega) _), (hh103.2.1.same _ rfl), (hh103.2.2.1.other (by omega) _), (own_setRow2 hh103.2.2.2.1 (fun e => by have := HL1.out _ e; omega) _), (own_setRow2 hh103.2.2.2.2 (fun e => by have := HL2.out _ e; omega) _)⟩
        clear hK K
        have hY : (V103.setRow (w2.heap.size) #[.bool y.g, .int .u8 y.o, .int .u64 y.q, .int .u64 y.t, .string y.r, .slice A2 n2 c2, .int .u8 y.s, .int .u8 y.p, .int .i64 y.v, .int .u8 y.w, .int .u8 y.ga, .int .u64 y.gf, .int .u64 y.gt]).heap[w2.heap.size]? = some (.cells #[.bool y.g, .int .u8 y.o, .int .u64 y.q, .int .u64 y.t, .string y.r, .slice A2 n2 c2, .int .u8 y.s, .int .u8 y.p, .int .i64 y.v, .int .u8 y.w, .int .u8 y.ga, .int .u64 y.gf, .int .u64 y.gt] 30 (0, 0)) := setRow_heap _ _ _ _ _ _ hcs105
        have hX' : (V103.setRow (w2.heap.size) #[.bool y.g, .int .u8 y.o, .int .u64 y.q, .int .u64 y.t, .string y.r, .slice A2 n2 c2, .int .u8 y.s, .int .u8 y.p, .int .i64 y.v, .int .u8 y.w, .int .u8 y.ga, .int .u64 y.gf, .int .u64 y.gt]).heap[V79.heap.size]? = some (.cells #[.bool x.g, .int .u8 x.o, .int .u64 x.q, .int .u64 x.t, .string x.r, .slice A1 n1 c1, .int .u8 x.s, .int .u8 x.p, .int .i64 x.v, .int .u8 x.w, .int .u8 x.ga, .int .u64 x.gf, .int .u64 x.gt] 30 (0, 0)) := (setRow_other _ _ _ _ (by omega)).trans hX
        generalize hV105 : V103.setRow (w2.heap.size) #[.bool y.g, .int .u8 y.o, .int .u64 y.q, .int .u64 y.t, .string y.r, .slice A2 n2 c2, .int .u8 y.s, .int .u8 y.p, .int .i64 y.v, .int .u8 y.w, .int .u8 y.ga, .int .u64 y.gf, .int .u64 y.gt] = V105 at *
        clear hV105 hcs105 hsz105 hX
        refine wpAnyH_done (by kernel_rfl) ?_ _
        refine NoPanic.normal ?_
        go_wp2_with fail
        go_meet
        exact ⟨V79.heap.size, w2.heap.size, A1, n1, c1, A2, n2, c2, rfl, rfl, ⟨hh105.1, hX', hY, ownB_mono hh105.2.2.2.1 (by omega), ownB_mono hh105.2.2.2.2 (by omega), HN1.out, HN2.out, by omega, by omega, by omega, fun e => by have := HL1.out _ e; omega, fun e => by have := HL1.out _ e; omega, fun e => by have := HL2.out _ e; omega, fun e => by have := HL2.out _ e; omega⟩⟩
  case rest =>
    obtain ⟨X, Y, A1, n1, c1, A2, n2, c2, rfl, rfl, hXY⟩ := hcut
    have HXY := Lib.hid hXY
    have hbc := hXY.bl
    have HM0 := Lib.hid (L0.out _ hbc)
    have HM1 := Lib.hid (L1.out _ hbc)
    have c0 : wc.cell? ⟨X, 0, none⟩ = some (.bool x.g) := cell_of_row _ _ 0 _ _ _ hXY.hx
    have e0 : wc.cell? ⟨Y, 0, none⟩ = some (.bool y.g) := cell_of_row _ _ 0 _ _ _ hXY.hy
    have hsz := hbc.size
    clear hbc hXY L0 L1 L2 L3
    go_upto_region 6 with fail
    obtain ⟨gx, hgx⟩ : ∃ g, x.g = g := ⟨_, rfl⟩
    obtain ⟨gy, hgy⟩ : ∃ g, y.g = g := ⟨_, rfl⟩
    rw [hgx] at c0
    rw [hgy] at e0
    have HGX := Lib.hid hgx
    have HGY := Lib.hid hgy
    clear hgx hgy
    go_cut [60] from 52 to 59 (fun p wx => p = .bool (f && gx && gy) ∧ wx = wc)
    case first =>
      cases f
      · go_wp2_with fail
        go_meet
        exact ⟨rfl, rfl⟩
      · cases gx
        · go_wp2_with fail
          go_meet
          exact ⟨rfl, rfl⟩
        · cases gy
          · go_wp2_with fail
            go_meet
            exact ⟨rfl, rfl⟩
          · go_wp2_with fail
            go_meet
            exact ⟨rfl, rfl⟩
    case rest =>
      obtain ⟨rfl, rfl⟩ := hcut
      obtain ⟨gb, hgb⟩ : ∃ g, (f && gx && gy) = g := ⟨_, rfl⟩
      have hgl : gb = true → Hid (x.g = true ∧ y.g = true) := fun h => by rw [← hgb] at h; exact ⟨HGX.out.trans (by revert h; cases f <;> cases gx <;> simp), HGY.out.trans (by revert h; cases f <;> cases gx <;> cases gy <;> simp)⟩
      rw [hgb]
      clear hgb c0 e0 HGX HGY
      have hgx : x.gt ≤ 131071 ∧ x.ga < 256 ∧ x.gf ≤ x.gt := by rw [← HX1.out]; exact smallI_gt HS1.out
      have hgy : y.gt ≤ 131071 ∧ y.ga < 256 ∧ y.gf ≤ y.gt := by rw [← HX2.out]; exact smallI_gt HS2.out
      have hoy : OkI y := by rw [← HX2.out]; exact smallI_ok t HS2.out
      have HGX := Lib.hid hgx
      have HGY := Lib.hid hgy
      have HOY := Lib.hid hoy
      clear hgx hgy hoy
      have x10 : wc.cell? ⟨X, 10, none⟩ = some (.int .u8 x.ga) := cell_of_row _ _ 10 _ _ _ HXY.out.hx
      have x12 : wc.cell? ⟨X, 12, none⟩ = some (.int .u64 x.gt) := cell_of_row _ _ 12 _ _ _ HXY.out.hx
      have y10 : wc.cell? ⟨Y, 10, none⟩ = some (.int .u8 y.ga) := cell_of_row _ _ 10 _ _ _ HXY.out.hy
      have y11 : wc.cell? ⟨Y, 11, none⟩ = some (.int .u64 y.gf) := cell_of_row _ _ 11 _ _ _ HXY.out.hy
      have y12 : wc.cell? ⟨Y, 12, none⟩ = some (.int .u64 y.gt) := cell_of_row _ _ 12 _ _ _ HXY.out.hy
      have z10 := frozen_of_row _ _ 10 _ _ HXY.out.hy
      have z11 := frozen_of_row _ _ 11 _ _ HXY.out.hy
      have z12 := frozen_of_row _ _ 12 _ _ HXY.out.hy
      have hne : X ≠ Y := HXY.out.ne
      have HY := Lib.hid HXY.out
      go_upto_if 60 with fail
      go_cut [] from 61 to 85 (fun wx => ∃ z, XY w1 wx x z X Y A1 n1 c1 A2 n2 c2 30 61 ∧ OkI z ∧ wx.heap[w.heap.size]? = some (.cells #[.bool a.g, .int .u8 a.o, .int .u64 a.q, .int .u64 a.t, .string a.r, .slice A na ca, .int .u8 a.s, .int .u8 a.p, .int .i64 a.v, .int .u8 a.w, .int .u8 a.ga, .int .u64 a.gf, .int .u64 a.gt] 30 (0, 0)) ∧ wx.heap[w.heap.size + 1]? = some (.cells #[.bool b.g, .int .u8 b.o, .int .u64 b.q, .int .u64 b.t, .string b.r, .slice B nb cb, .int .u8 b.s, .int .u8 b.p, .int .i64 b.v, .int .u8 b.w, .int .u8 b.ga, .int .u64 b.gf, .int .u64 b.gt] 30 (0, 0)))
      case first =>
        cases gb
        · clear x10 x12 y10 y11 y12 z10 z11 z12
          go_wp2_with fail
          go_meet
          exact ⟨y, HXY.out, HOY.out, HM0.out, HM1.out⟩
        · have w1a : IntKind.u64.wrap ((x.gt : Int) + 1) = (x.gt : Int) + 1 := by rw [IntKind.wrap_u64]; have := HGX.out; omega
          have w1b : IntKind.u64.wrap ((x.gt : Int) + 1 + (y.gt : Int)) = (x.gt : Int) + 1 + (y.gt : Int) := by rw [IntKind.wrap_u64]; have := HGX.out; have := HGY.out; omega
          have w1c : IntKind.u64.wrap ((x.gt : Int) + 1 + (y.gt : Int) - (y.gf : Int)) = (x.gt : Int) + 1 + (y.gt : Int) - (y.gf : Int) := by rw [IntKind.wrap_u64]; have := HGX.out; have := HGY.out; omega
          clear hsz hw1
          go_wp2_with fail
          go_meet
          exact ⟨followI x y, HXY.out.follow (by have := HGY.out; omega) (by omega), followI_ok HGX.out HGY.out HOY.out, by
            have := HXY.out.ly
            have := Hb4.out
            rw [heap_setCell_other _ _ _ _ (by simp; omega), heap_setCell_other _ _ _ _ (by simp; omega), heap_setCell_other _ _ _ _ (by simp; omega)]; exact HM0.out, by
            have := HXY.out.ly
            have := Hb4.out
            rw [heap_setCell_other _ _ _ _ (by simp; omega), heap_setCell_other _ _ _ _ (by simp; omega), heap_setCell_other _ _ _ _ (by simp; omega)]; exact HM1.out⟩
      case rest =>
        obtain ⟨z, hXY, hoz, hm0, hm1⟩ := hcut
        have HXY := Lib.hid hXY
        have HOz := Lib.hid hoz
        have HOx : Hid (OkI x) := by show OkI x; rw [← HX1.out]; exact smallI_ok s HS1.out
        have HLx : Hid (n1 ≤ 20) := by have h := hXY.nx; rw [← HX1.out] at h; have := smallI_labs s; show n1 ≤ 20; omega
        have HLz : Hid (n2 ≤ 20) := by have h := HY.out.ny; rw [← HX2.out] at h; have := smallI_labs t; show n2 ≤ 20; omega
        clear HGX HGY HOY x10 x12 y10 y11 y12 z10 z11 z12 HM0 HM1 HY hne HX1 HX2 HS1 HS2 hoz hXY hw1 hsz
        go_upto_region 10 with fail
        go_cut [92, 93, 94] from 86 to 91 (fun p q r wx => ∃ P, p = .slice (some ⟨P, 0, none⟩) 2 2 ∧ q = .int .i64 2 ∧ r = .int .i64 0 ∧ Below w.heap.size w wx ∧ ∀ k : Nat, k < 2 → ∃ (u v : It) (U : Option Addr) (nu cu : Nat) (U' : Option Addr) (nv cv : Nat), PairOk wx P (k * 26) u v U nu cu U' nv cv)
        case first =>
          go_wp2_with (first
            | (refine wpList_load_row rfl _ _ rfl w.heap.size rfl _ _ _ _ hm0 Try.underlying30 rfl (by kernel_rfl) ?_)
            | (refine wpList_load_row rfl _ _ rfl (w.heap.size + 1) rfl _ _ _ _ hm1 Try.underlying30 rfl (by kernel_rfl) ?_)
            | (refine wpList_load_row rfl _ _ rfl X rfl _ _ _ _ HXY.out.hx Try.underlying30 rfl (by kernel_rfl) ?_)
            | (refine wpList_load_row rfl _ _ rfl Y rfl _ _ _ _ HXY.out.hy Try.underlying30 rfl (by kernel_rfl) ?_)
            | fail)
          go_meet
          refine ⟨wc.heap.size, rfl, rfl, rfl, ?_, ?_⟩
          · exact (Hb1.out.trans (HXY.out.bl.mono Hb1.out.size)).alloc (by have := Hb1.out.size; have := HXY.out.bl.size; omega) _
          obtain ⟨W, hW⟩ : ∃ W, W = wc.alloc (.cells #[.bool a.g, .int .u8 a.o, .int .u64 a.q, .int .u64 a.t, .string a.r, .slice A na ca, .int .u8 a.s, .int .u8 a.p, .int .i64 a.v, .int .u8 a.w, .int .u8 a.ga, .int .u64 a.gf, .int .u64 a.gt, .bool b.g, .int .u8 b.o, .int .u64 b.q, .int .u64 b.t, .string b.r, .slice B nb cb, .int .u8 b.s, .int .u8 b.p, .int .i64 b.v, .int .u8 b.w, .int .u8 b.ga, .int .u64 b.gf, .int .u64 b.gt, .bool x.g, .int .u8 x.o, .int .u64 x.q, .int .u64 x.t, .string x.r, .slice A1 n1 c1, .int .u8 x.s, .int .u8 x.p, .int .i64 x.v, .int .u8 x.w, .int .u8 x.ga, .int .u64 x.gf, .int .u64 x.gt, .bool z.g, .int .u8 z.o, .int .u64 z.q, .int .u64 z.t, .string z.r, .slice A2 n2 c2, .int .u8 z.s, .int .u8 z.p, .int .i64 z.v, .int .u8 z.w, .int .u8 z.ga, .int .u64 z.gf, .int .u64 z.gt] 48) := ⟨_, rfl⟩
          have hbW : Below wc.heap.size wc W := by rw [hW]; exact (Below.refl _ _).alloc (Nat.le_refl _) _
          have HP : Hid (W.heap[wc.heap.size]? = some (.cells #[.bool a.g, .int .u8 a.o, .int .u64 a.q, .int .u64 a.t, .string a.r, .slice A na ca, .int .u8 a.s, .int .u8 a.p, .int .i64 a.v, .int .u8 a.w, .int .u8 a.ga, .int .u64 a.gf, .int .u64 a.gt, .bool b.g, .int .u8 b.o, .int .u64 b.q, .int .u64 b.t, .string b.r, .slice B nb cb, .int .u8 b.s, .int .u8 b.p, .int .i64 b.v, .int .u8 b.w, .int .u8 b.ga, .int .u64 b.gf, .int .u64 b.gt, .bool x.g, .int .u8 x.o, .int .u64 x.q, .int .u64 x.t, .string x.r, .slice A1 n1 c1, .int .u8 x.s, .int .u8 x.p, .int .i64 x.v, .int .u8 x.w, .int .u8 x.ga, .int .u64 x.gf, .int .u64 x.gt, .bool z.g, .int .u8 z.o, .int .u64 z.q, .int .u64 z.t, .string z.r, .slice A2 n2 c2, .int .u8 z.s, .int .u8 z.p, .int .i64 z.v, .int .u8 z.w, .int .u8 z.ga, .int .u64 z.gf, .int .u64 z.gt] 48 (0, 0))) := by show W.heap[wc.heap.size]? = _; rw [hW]; exact heap_alloc_new _ _
          have hlt : wc.heap.size < W.heap.size := by rw [hW]; simp
          have HB0 := Lib.hid (Hb1.out.trans ((HXY.out.bl.trans (hbW.mono HXY.out.bl.size)).mono Hb1.out.size))
          rw [← hW]
          clear hW
          have HRA : Hid (∀ V, Below W.heap.size W V → RdP V V.heap.size A a.l) := fun V hV => (HRa.out.below (HB0.out.trans (hV.mono HB0.out.size))).more (by have := HB0.out.size; have := hV.size; omega)
          have HRB : Hid (∀ V, Below W.heap.size W V → RdP V V.heap.size B b.l) := fun V hV => (HRb.out.below (HB0.out.trans (hV.mono HB0.out.size))).more (by have := HB0.out.size; have := hV.size; omega)
          have HRX : Hid (∀ V, Below W.heap.size W V → RdP V V.heap.size A1 x.l) := fun V hV => RdP.of_own (own_below (own_below HXY.out.ox hbW) hV)
          have HRZ : Hid (∀ V, Below W.heap.size W V → RdP V V.heap.size A2 z.l) := fun V hV => RdP.of_own (own_below (own_below HXY.out.oy hbW) hV)
          have HQx : Hid (A1 = none → n1 = 0) := fun e => by subst e; exact (ownP_nil HXY.out.ox).1
          have HQz : Hid (A2 = none → n2 = 0) := fun e => by subst e; exact (ownP_nil HXY.out.oy).1
          have h20 := H20.out
          have h21 := H21.out
          intro k hk
          have hk' : k = 0 ∨ k = 1 := by omega
          rcases hk' with rfl | rfl
          · exact ⟨a, b, A, na, ca, B, nb, cb, HOa.out, HOb.out, HNa.out, HNb.out, HQa.out, HQb.out, by omega, by omega, HRA.out, HRB.out, fun V hV => range_left (l2 := listI x A1 n1 c1 ++ listI z A2 n2 c2) ((hV.block _ hlt).trans HP.out)⟩
          · exact ⟨x, z, A1, n1, c1, A2, n2, c2, HOx.out, HOz.out, HXY.out.nx, HXY.out.ny, HQx.out, HQz.out, HLx.out, HLz.out, HRX.out, HRZ.out, fun V hV => range_right (l1 := listI a A na ca ++ listI b B nb cb) rfl ((hV.block _ hlt).trans HP.out)⟩
        case rest =>
          obtain ⟨P, rfl, rfl, rfl, hBc, hpair⟩ := hcut
          obtain ⟨w10, rfl⟩ : ∃ V, V = wc := ⟨_, rfl⟩
          have HB0 := Lib.hid hBc
          have HPair := Lib.hid hpair
          clear hBc hpair HXY HOa HOb HNa HNb HQa HQb HRa HRb HOx HOz HLx HLz H20 H21 hm0 hm1 Hb1 Hb4 hgl
          go_wp2_with fail
          go_loopw [94] (fun iv wr => ∃ k : Nat, k ≤ 2 ∧ iv = .int .i64 k ∧ Hid (Below w10.heap.size w10 wr)) (fun iv _ => 2 - (intOf iv).toNat)
          case atStart => exact ⟨0, by omega, rfl, Below.refl _ _⟩
          case round =>
            obtain ⟨k, hk, rfl, HBr⟩ := hrel
            by_cases hlt2 : k < 2
            · have q1 : decide ((k : Int) < 2) = true := decide_eq_true (by omega)
              have q2 : decide (k < 2) = true := decide_eq_true hlt2
              obtain ⟨u, v, U, nu, cu, U', nv, cv, hp⟩ := HPair.out k hlt2
              have HP := Lib.hid hp
              clear hp
              go_upto_region 13 with (first
                | (refine wpList_load_mid rfl _ _ rfl P (k * 26) rfl (listI u U nu cu ++ listI v U' nv cv) _ (HP.out.rg wr HBr.out) under2 rfl info2 ?_)
                | (refine wpList_store_row rfl _ _ _ rfl wr.heap.size _ rfl rfl _ _ (heap_alloc_new _ _) info2 rfl (by simp [Value.oneCell', listI]) ?_)
                | fail)
              obtain ⟨w2, hw2⟩ : ∃ V, V = (wr.alloc (.cells #[.bool false, .int .u8 0, .int .u64 0, .int .u64 0, .string ⟨#[]⟩, .slice none 0 0, .int .u8 0, .int .u8 0, .int .i64 0, .int .u8 0, .int .u8 0, .int .u64 0, .int .u64 0, .bool false, .int .u8 0, .int .u64 0, .int .u64 0, .string ⟨#[]⟩, .slice none 0 0, .int .u8 0, .int .u8 0, .int .i64 0, .int .u8 0, .int .u8 0, .int .u64 0, .int .u64 0] 48)).setRow wr.heap.size (listI u U nu cu ++ listI v U' nv cv).toArray := ⟨_, rfl⟩
              rw [← hw2, put_none]
              have hX : w2.heap[wr.heap.size]? = some (.cells (listI u U nu cu ++ listI v U' nv cv).toArray 48 (0, 0)) := by rw [hw2]; exact setRow_heap _ _ _ _ _ _ (heap_alloc_new _ _)
              have hb2 : Below w10.heap.size w10 w2 := by rw [hw2]; exact below_setRow (HBr.out.alloc HBr.out.size _) HBr.out.size _
              have hlt : wr.heap.size < w2.heap.size := (Array.getElem?_eq_some_iff.1 hX).1
              obtain ⟨G, hG⟩ : ∃ k, wr.heap.size = k := ⟨_, rfl⟩
              rw [hG] at hX hlt ⊢
              clear hw2 hG HBr
              have HB2 := Lib.hid hb2
              have HU : Hid (∀ V, Below w2.heap.size w2 V → V.rangeAt G 0 (listI u U nu cu)) := fun V hV => range_left ((hV.block _ hlt).trans hX)
              have HV : Hid (∀ V, Below w2.heap.size w2 V → V.rangeAt G 13 (listI v U' nv cv)) := fun V hV => range_right rfl ((hV.block _ hlt).trans hX)
              have HRu : Hid (∀ V, Below w2.heap.size w2 V → RdP V V.heap.size U u.l) := fun V hV => HP.out.ru V (HB2.out.trans (hV.mono HB2.out.size))
              have HRv : Hid (∀ V, Below w2.heap.size w2 V → RdP V V.heap.size U' v.l) := fun V hV => HP.out.rv V (HB2.out.trans (hV.mono HB2.out.size))
              clear hX hb2 hlt q1 q2
              go_cut [101, 102, 103] from 98 to 100 (fun p q r wx => ∃ Q, p = .slice (some ⟨Q, 0, none⟩) 2 2 ∧ q = .int .i64 2 ∧ r = .int .i64 0 ∧ Below w2.heap.size w2 wx ∧ ∀ V, Below wx.heap.size wx V → ∀ j : Nat, j < 2 → ∃ M : Nat, M < 18446744073709551616 ∧ V.cell? ⟨Q, j, none⟩ = some (.int .u64 M))
              case first =>
                go_wp2_with fail
                go_meet
                refine ⟨w2.heap.size, rfl, rfl, rfl, (Below.refl _ _).alloc (Nat.le_refl _) _, fun V hV j hj => ?_⟩
                have h := (hV.block w2.heap.size (by simp)).trans (heap_alloc_new _ _)
                have hj' : j = 0 ∨ j = 1 := by omega
                rcases hj' with rfl | rfl
                · exact ⟨N, HN.out, cell_of_row _ _ 0 _ _ _ h⟩
                · exact ⟨N % 70000, by have := HN.out; omega, (cell_of_row _ _ 1 _ _ _ h).trans (by simp)⟩
              case rest =>
                obtain ⟨Q, rfl, rfl, rfl, hb3, hq⟩ := hcut
                obtain ⟨w3, rfl⟩ : ∃ V, V = wc := ⟨_, rfl⟩
                have HB3 := Lib.hid hb3
                have HQ := Lib.hid hq
                clear hb3 hq
                go_wp2_with fail
                go_loopw [103] (fun iv wr => ∃ j : Nat, j ≤ 2 ∧ iv = .int .i64 j ∧ Hid (Below w3.heap.size w3 wr)) (fun iv _ => 2 - (intOf iv).toNat)
                case atStart => exact ⟨0, by omega, rfl, Below.refl _ _⟩
                case round =>
                  obtain ⟨j, hj, rfl, HBr⟩ := hrel
                  by_cases hj2 : j < 2
                  · have q1 : decide ((j : Int) < 2) = true := decide_eq_true (by omega)
                    have q2 : decide (j < 2) = true := decide_eq_true hj2
                    obtain ⟨M, hM, cq⟩ := HQ.out wr HBr.out j hj2
                    have hB := HB3.out.trans (HBr.out.mono HB3.out.size)
                    have HBB := Lib.hid hB
                    obtain ⟨y1, h1⟩ : ∃ y, trimI u M = y := ⟨_, rfl⟩
                    obtain ⟨y2, h2⟩ : ∃ y, aboveI u M = y := ⟨_, rfl⟩
                    obtain ⟨bb, h3⟩ : ∃ b, aboveB u M = b := ⟨_, rfl⟩
                    have h4 : sameI y1 y2 = true := by rw [← h1, ← h2]; exact trim_above u M
                    have HT := Lib.hid h4
                    have HK : Hid (y1.l.length ≤ 20) := by show _ ≤ _; rw [← h1]; have := trimI_len u M; have := HP.out.enu; have := HP.out.lu; omega
                    have HT1 := Lib.hid (trim_as h1 h3 HP.out.hu U nu cu)
                    have HT2 := Lib.hid (above_as h2 h3 HP.out.hu U nu cu)
                    clear hB h1 h2 h3 h4 hM
                    go_wp2_with (first
                      | (refine wpList_load_mid rfl _ _ rfl G 0 rfl (listI u U nu cu) _ (HU.out _ HBB.out) Try.underlying30 rfl (by kernel_rfl) ?_)
                      | fail)
                    refine (HT1.out wr HP.out.enu HP.out.qu (by have := HP.out.lu; omega) (HRu.out _ HBB.out)).mono ?_
                    rintro e V1 ⟨A3, n3, c3, rfl, hn3, hr3, hb3⟩
                    have HN3 := Lib.hid hn3
                    clear hn3
                    go_upto_region 17 with (first | (refine wpList_store_row rfl _ _ _ rfl V1.heap.size _ rfl rfl _ _ (heap_alloc_new _ _) Try.infoI rfl (by simp [Value.oneCell']) ?_) | fail)
                    obtain ⟨w4, hw4⟩ : ∃ W, W = (V1.alloc (.cells #[.bool false, .int .u8 0, .int .u64 0, .int .u64 0, .string ⟨#[]⟩, .slice none 0 0, .int .u8 0, .int .u8 0, .int .i64 0, .int .u8 0, .int .u8 0, .int .u64 0, .int .u64 0] 30)).setRow V1.heap.size #[.bool y1.g, .int .u8 y1.o, .int .u64 y1.q, .int .u64 y1.t, .string y1.r, .slice A3 n3 c3, .int .u8 y1.s, .int .u8 y1.p, .int .i64 y1.v, .int .u8 y1.w, .int .u8 y1.ga, .int .u64 y1.gf, .int .u64 y1.gt] := ⟨_, rfl⟩
                    rw [← hw4]
                    have hS : w4.heap[V1.heap.size]? = some (.cells #[.bool y1.g, .int .u8 y1.o, .int .u64 y1.q, .int .u64 y1.t, .string y1.r, .slice A3 n3 c3, .int .u8 y1.s, .int .u8 y1.p, .int .i64 y1.v, .int .u8 y1.w, .int .u8 y1.ga, .int .u64 y1.gf, .int .u64 y1.gt] 30 (0, 0)) := by rw [hw4]; exact setRow_heap _ _ _ _ _ _ (heap_alloc_new _ _)
                    have hbs : Below V1.heap.size V1 w4 := by rw [hw4]; exact below_setRow ((Below.refl _ _).alloc (Nat.le_refl _) _) (Nat.le_refl _) _
                    have HR3 := Lib.hid (RdP.more (hr3.below hbs) hbs.size)
                    have HBa := Lib.hid (HBr.out.trans ((hb3.trans (hbs.mono hb3.size)).mono HBr.out.size))
                    have HS3 := Lib.hid hS
                    have hlt3 : V1.heap.size < w4.heap.size := (Array.getElem?_eq_some_iff.1 hS).1
                    have hstep := hb3.trans (hbs.mono hb3.size)
                    clear hw4 hr3 hb3 hbs hS hstep q1 q2 cq HT1
                    have HBB4 := Lib.hid (HB3.out.trans (HBa.out.mono HB3.out.size))
                    go_wp2_with (first
                      | (refine wpList_load_mid rfl _ _ rfl G 0 rfl (listI u U nu cu) _ (HU.out _ HBB4.out) Try.underlying30 rfl (by kernel_rfl) ?_)
                      | fail)
                    refine (HT2.out w4 HP.out.enu (HRu.out _ HBB4.out)).mono ?_
                    rintro e V2 ⟨A4, n4, c4, rfl, hn4, hr4, hb4⟩
                    have HN4 := Lib.hid hn4
                    clear hn4
                    go_upto_region 18 with (first | (refine wpList_store_row rfl _ _ _ rfl V2.heap.size _ rfl rfl _ _ (heap_alloc_new _ _) Try.infoI rfl (by simp [Value.oneCell']) ?_) | fail)
                    obtain ⟨w5, hw4⟩ : ∃ W, W = (V2.alloc (.cells #[.bool false, .int .u8 0, .int .u64 0, .int .u64 0, .string ⟨#[]⟩, .slice none 0 0, .int .u8 0, .int .u8 0, .int .i64 0, .int .u8 0, .int .u8 0, .int .u64 0, .int .u64 0] 30)).setRow V2.heap.size #[.bool y2.g, .int .u8 y2.o, .int .u64 y2.q, .int .u64 y2.t, .string y2.r, .slice A4 n4 c4, .int .u8 y2.s, .int .u8 y2.p, .int .i64 y2.v, .int .u8 y2.w, .int .u8 y2.ga, .int .u64 y2.gf, .int .u64 y2.gt] := ⟨_, rfl⟩
                    rw [← hw4]
                    have hS : w5.heap[V2.heap.size]? = some (.cells #[.bool y2.g, .int .u8 y2.o, .int .u64 y2.q, .int .u64 y2.t, .string y2.r, .slice A4 n4 c4, .int .u8 y2.s, .int .u8 y2.p, .int .i64 y2.v, .int .u8 y2.w, .int .u8 y2.ga, .int .u64 y2.gf, .int .u64 y2.gt] 30 (0, 0)) := by rw [hw4]; exact setRow_heap _ _ _ _ _ _ (heap_alloc_new _ _)
                    have hbs : Below V2.heap.size V2 w5 := by rw [hw4]; exact below_setRow ((Below.refl _ _).alloc (Nat.le_refl _) _) (Nat.le_refl _) _
                    have HR4 := Lib.hid (RdP.more (hr4.below hbs) hbs.size)
                    have HBb := Lib.hid (HBa.out.trans ((hb4.trans (hbs.mono hb4.size)).mono HBa.out.size))
                    have HS4 := Lib.hid hS
                    have hlt4 : V2.heap.size < w5.heap.size := (Array.getElem?_eq_some_iff.1 hS).1
                    have hstep := hb4.trans (hbs.mono hb4.size)
                    have HS5 := Lib.hid ((hstep.block V1.heap.size hlt3).trans HS3.out)
                    have HR5 := Lib.hid ((HR3.out.below hstep).more hstep.size)
                    clear hw4 hr4 hb4 hbs hS hstep HT2 HS3 HR3
                    have HR6 := Lib.hid (show RdP w5 w5.heap.size A4 y2.l from HR4.out)
                    go_wp2_with (first
                      | (refine wpList_load_wanted (by rfl) _ _ rfl V1.heap.size 0 rfl (listI y1 A3 n3 c3) _ (range_left (l2 := []) HS5.out) Try.underlying30 rfl (by kernel_rfl) ?_)
                      | (refine wpList_load_wanted (by rfl) _ _ rfl V2.heap.size 0 rfl (listI y2 A4 n4 c4) _ (range_left (l2 := []) HS4.out) Try.underlying30 rfl (by kernel_rfl) ?_)
                      | fail)
                    refine (same_true HT.out A3 n3 c3 A4 n4 c4 w5 HN3.out HN4.out (by have := HK.out; have := HN3.out; unfold maxLen; omega) HR5.out HR6.out).mono ?_
                    rintro e V3 ⟨rfl, hb5⟩
                    have HBc := Lib.hid (HBb.out.trans (hb5.mono HBb.out.size))
                    clear hb5
                    go_wp2_with fail
                    exact ⟨⟨j + 1, by omega, by go_num, HBc.out⟩, by simp [intOf]; omega⟩
                  · have q1 : decide ((j : Int) < 2) = false := decide_eq_false (by omega)
                    have q2 : decide (j < 2) = false := decide_eq_false hj2
                    obtain ⟨w6, rfl⟩ : ∃ V, V = wr := ⟨_, rfl⟩
                    have HB6 := Lib.hid (HB3.out.trans (HBr.out.mono HB3.out.size))
                    clear HBr hj2 hj HQ
                    go_wp2_with (first | (refine wpList_load_mid rfl _ _ rfl G 0 rfl (listI u U nu cu) _ (HU.out _ HB6.out) Try.underlying30 rfl (by kernel_rfl) ?_) | fail)
                    clear q1 q2
                    refine (span_any u U nu cu w6).mono ?_
                    rintro e V4 ⟨rfl, hb⟩
                    have HB7 := Lib.hid (HB6.out.trans (hb.mono HB6.out.size))
                    clear hb
                    go_wp2_with (first | (refine wpList_load_mid rfl _ _ rfl G 0 rfl (listI u U nu cu) _ (HU.out _ HB7.out) Try.underlying30 rfl (by kernel_rfl) ?_) | fail)
                    refine (rspan_any u U nu cu V4).mono ?_
                    rintro e V5 ⟨rfl, hb⟩
                    have HB8 := Lib.hid (HB7.out.trans (hb.mono HB7.out.size))
                    clear hb
                    go_upto_region 23 with fail
                    clear HB3 HB6 HB7
                    go_cut [173] from 145 to 172 (fun p wx => p = .bool false ∧ Below w2.heap.size w2 wx)
                    case first =>
                      obtain ⟨g, hg⟩ : ∃ g, u.g = g := ⟨_, rfl⟩
                      have Hg := Lib.hid hg
                      clear hg
                      cases g
                      · by_cases hw : 0 < u.w
                        · have HL : Hid (lastB u = true) := by show _ = _; unfold lastB; rw [Hg.out, decide_eq_true hw]; rfl
                          have d1 : decide ((0 : Int) < (u.w : Int)) = true := decide_eq_true (by omega)
                          have d2 : decide (0 < u.w) = true := decide_eq_true hw
                          clear hw
                          refine wp_region_noPanic ?_
                          refine wp_region_held_drew (S := (fun V => Below w2.heap.size w2 V)) (by kernel_rfl) ?_ (fun hHeld => ?_)
                          · exact HB8.out.drew
                          refine heldTake (i := 0) (v := ?_) rfl (by kernel_rfl) (by kernel_rfl) (by kernel_rfl) (fun _ _ _ h => h) (Or.inl ⟨by rfl, ?_⟩) (by assumption) ?_
                          rotate_left
                          · (intro w hSw; (try dsimp only at hSw); go_simp; try with_reducible rfl)
                          try simp only [heldPut, List.set]
                          refine heldTake (i := 1) (v := ?_) rfl (by kernel_rfl) (by kernel_rfl) (by kernel_rfl) (fun _ _ _ h => h) (Or.inl ⟨by rfl, ?_⟩) (by assumption) ?_
                          rotate_left
                          · (intro w hSw; (try dsimp only at hSw); go_simp; try with_reducible rfl)
                          try simp only [heldPut, List.set]
                          refine heldTake (i := 2) (v := ?_) rfl (by kernel_rfl) (by kernel_rfl) (by kernel_rfl) (fun _ _ _ h => h) (Or.inl ⟨by rfl, ?_⟩) (by assumption) ?_
                          rotate_left
                          · (intro w hSw; (try dsimp only at hSw); go_simp; try with_reducible rfl)
                          try simp only [heldPut, List.set]
                          refine heldTake (i := 3) (v := ?_) rfl (by kernel_rfl) (by kernel_rfl) (by kernel_rfl) (fun _ _ _ h => h) (Or.inl ⟨by rfl, ?_⟩) (by assumption) ?_
                          rotate_left
                          · (intro w hSw; (try dsimp only at hSw); go_simp; try with_reducible rfl)
                          try simp only [heldPut, List.set]
                          refine heldTake (i := 4) (v := ?_) rfl (by kernel_rfl) (by kernel_rfl) (by kernel_rfl) (fun _ _ _ h => h) (Or.inl ⟨by rfl, ?_⟩) (by assumption) ?_
                          rotate_left
                          · (intro w hSw; (try dsimp only at hSw); go_simp; try with_reducible rfl)
                          try simp only [heldPut, List.set]
                          refine heldTake (i := 5) (v := ?_) rfl (by kernel_rfl) (by kernel_rfl) (by kernel_rfl) (fun _ _ _ h => h) (Or.inl ⟨by rfl, ?_⟩) (by assumption) ?_
                          rotate_left
                          · (intro w hSw; (try dsimp only at hSw); go_simp; try with_reducible rfl)
                          try simp only [heldPut, List.set]
                          refine heldTake (i := 6) (v := ?_) rfl (by kernel_rfl) (by kernel_rfl) (by kernel_rfl) (fun _ _ _ h => h) (Or.inl ⟨by rfl, ?_⟩) (by assumption) ?_
                          rotate_left
                          · (intro w hSw; (try dsimp only at hSw); go_simp; try with_reducible rfl)
                          try simp only [heldPut, List.set]
                          refine heldTake (i := 7) (v := ?_) rfl (by kernel_rfl) (by kernel_rfl) (by kernel_rfl) (fun _ _ _ h => h) (Or.inl ⟨by rfl, ?_⟩) (by assumption) ?_
                          rotate_left
                          · (intro w hSw; (try dsimp only at hSw); go_simp; try with_reducible rfl)
                          try simp only [heldPut, List.set]
                          refine heldTake (i := 8) (v := ?_) rfl (by kernel_rfl) (by kernel_rfl) (by kernel_rfl) (fun _ _ _ h => h) (Or.inl ⟨by rfl, ?_⟩) (by assumption) ?_
                          rotate_left
                          · (intro w hSw; (try dsimp only at hSw); go_simp; try with_reducible rfl)
                          try simp only [heldPut, List.set]
                          refine heldTake (i := 9) (v := ?_) rfl (by kernel_rfl) (by kernel_rfl) (by kernel_rfl) (fun _ _ _ h => h) (Or.inl ⟨by rfl, ?_⟩) (by assumption) ?_
                          rotate_left
                          · (intro w hSw; (try dsimp only at hSw); go_simp; try with_reducible rfl)
                          try simp only [heldPut, List.set]
                          refine heldTake (i := 10) (v := ?_) rfl (by kernel_rfl) (by kernel_rfl) (by kernel_rfl) (fun _ _ _ h => h) (Or.inl ⟨by rfl, ?_⟩) (by assumption) ?_
                          rotate_left
                          · (intro w hSw; (try dsimp only at hSw); go_simp; try with_reducible rfl)
                          try simp only [heldPut, List.set]
                          refine heldTake (i := 11) (v := ?_) rfl (by kernel_rfl) (by kernel_rfl) (by kernel_rfl) (fun _ _ _ h => h) (Or.inl ⟨by rfl, ?_⟩) (by assumption) ?_
                          rotate_left
                          · (intro w hSw; (try dsimp only at hSw); go_simp; try with_reducible rfl)
                          try simp only [heldPut, List.set]
                          refine heldTake (i := 12) (v := ?_) rfl (by kernel_rfl) (by kernel_rfl) (by kernel_rfl) (fun _ _ _ h => h) (Or.inl ⟨by rfl, ?_⟩) (by assumption) ?_
                          rotate_left
                          · (intro w hSw; (try dsimp only at hSw); go_simp; try with_reducible rfl)
                          try simp only [heldPut, List.set]
                          refine heldTake (i := 13) (v := ?_) rfl (by kernel_rfl) (by kernel_rfl) (by kernel_rfl) (fun _ _ _ h => h) (Or.inl ⟨by rfl, ?_⟩) (by assumption) ?_
                          rotate_left
                          · (intro w hSw; (try dsimp only at hSw); go_simp; try with_reducible rfl)
                          try simp only [heldPut, List.set]
                          refine heldTake (i := 14) (v := ?_) rfl (by kernel_rfl) (by kernel_rfl) (by kernel_rfl) (fun _ _ _ h => h) (Or.inl ⟨by rfl, ?_⟩) (by assumption) ?_
                          rotate_left
                          · (intro w hSw; (try dsimp only at hSw); go_simp; try with_reducible rfl)
                          try simp only [heldPut, List.set]
                          refine heldTake (i := 15) (v := .agg (listI u U nu cu).toArray) rfl (by kernel_rfl) (by kernel_rfl) (by kernel_rfl) (fun _ _ _ h => h) (yieldsIf_load_mid (by rfl) _ _ rfl G 0 rfl (listI u U nu cu) _ (fun w hw => HU.out w hw) Try.underlying30 rfl (by kernel_rfl)) (by assumption) ?_
                          try simp only [heldPut, List.set]
                          refine heldTake (i := 17) (v := ?_) rfl (by kernel_rfl) (by kernel_rfl) (by kernel_rfl) (fun _ _ _ h => h) (Or.inl ⟨by rfl, ?_⟩) (by assumption) ?_
                          rotate_left
                          · (intro w hSw; (try dsimp only at hSw); go_simp; try with_reducible rfl)
                          try simp only [heldPut, List.set]
                          refine heldTake (i := 18) (v := ?_) rfl (by kernel_rfl) (by kernel_rfl) (by kernel_rfl) (fun _ _ _ h => h) (Or.inl ⟨by rfl, ?_⟩) (by assumption) ?_
                          rotate_left
                          · (intro w hSw; (try dsimp only at hSw); go_simp; try with_reducible rfl)
                          try simp only [heldPut, List.set]
                          refine heldTake (i := 19) (v := ?_) rfl (by kernel_rfl) (by kernel_rfl) (by kernel_rfl) (fun _ _ _ h => h) (Or.inl ⟨by rfl, ?_⟩) (by assumption) ?_
                          rotate_left
                          · (intro w hSw; (try dsimp only at hSw); have k0 : w.cell? ⟨G, 0, none⟩ = some (.bool false) := by { have h := HU.out _ hSw 0 _ rfl; rw [Hg.out] at h; exact h }; clear hSw; go_simp; try with_reducible rfl)
                          try simp only [heldPut, List.set]
                          refine heldOne (i := 16) rfl (by kernel_rfl) (fun K hK => ?_)
                          go_simp
                          refine (lasts_as HL.out U nu cu _).mono ?_
                          rintro e V6 ⟨rfl, hb⟩
                          go_wp2_with fail
                          refine hK.out _ _ ?_ (fun hHeld => ?_)
                          · exact hHeld.trans (hb.mono hHeld.size)
                          clear hK K hb
                          try simp only [heldPut, List.set]
                          refine heldTake (i := 20) (v := ?_) rfl (by kernel_rfl) (by kernel_rfl) (by kernel_rfl) (fun _ _ _ h => h) (Or.inl ⟨by rfl, ?_⟩) (by assumption) ?_
                          rotate_left
                          · (intro w hSw; (try dsimp only at hSw); go_simp; try with_reducible rfl)
                          try simp only [heldPut, List.set]
                          refine heldTake (i := 21) (v := ?_) rfl (by kernel_rfl) (by kernel_rfl) (by kernel_rfl) (fun _ _ _ h => h) (Or.inl ⟨by rfl, ?_⟩) (by assumption) ?_
                          rotate_left
                          · (intro w hSw; (try dsimp only at hSw); go_simp; try with_reducible rfl)
                          try simp only [heldPut, List.set]
                          refine heldTake (i := 22) (v := ?_) rfl (by kernel_rfl) (by kernel_rfl) (by kernel_rfl) (fun _ _ _ h => h) (Or.inl ⟨by rfl, ?_⟩) (by assumption) ?_
                          rotate_left
                          · (intro w hSw; (try dsimp only at hSw); go_simp; try with_reducible rfl)
                          try simp only [heldPut, List.set]
                          refine heldTake (i := 23) (v := ?_) rfl (by kernel_rfl) (by kernel_rfl) (by kernel_rfl) (fun _ _ _ h => h) (Or.inl ⟨by rfl, ?_⟩) (by assumption) ?_
                          rotate_left
                          · (intro w hSw; (try dsimp only at hSw); go_simp; try with_reducible rfl)
                          try simp only [heldPut, List.set]
                          refine heldTake (i := 24) (v := ?_) rfl (by kernel_rfl) (by kernel_rfl) (by kernel_rfl) (fun _ _ _ h => h) (Or.inl ⟨by rfl, ?_⟩) (by assumption) ?_
                          rotate_left
                          · (intro w hSw; (try dsimp only at hSw); have k9 : w.cell? ⟨G, 9, none⟩ = some (.int .u8 u.w) := HU.out _ hSw 9 _ rfl; clear hSw; go_simp; try with_reducible rfl)
                          try simp only [heldPut, List.set]
                          refine heldTake (i := 25) (v := ?_) rfl (by kernel_rfl) (by kernel_rfl) (by kernel_rfl) (fun _ _ _ h => h) (Or.inl ⟨by rfl, ?_⟩) (by assumption) ?_
                          rotate_left
                          · (intro w hSw; (try dsimp only at hSw); go_simp; try with_reducible rfl)
                          try simp only [heldPut, List.set]
                          refine heldTake (i := 26) (v := ?_) rfl (by kernel_rfl) (by kernel_rfl) (by kernel_rfl) (fun _ _ _ h => h) (Or.inl ⟨by rfl, ?_⟩) (by assumption) ?_
                          rotate_left
                          · (intro w hSw; (try dsimp only at hSw); go_simp; try with_reducible rfl)
                          try simp only [heldPut, List.set]
                          refine heldTake (i := 27) (v := ?_) rfl (by kernel_rfl) (by kernel_rfl) (by kernel_rfl) (fun _ _ _ h => h) (Or.inl ⟨by rfl, ?_⟩) (by assumption) ?_
                          rotate_left
                          · (intro w hSw; (try dsimp only at hSw); go_simp; try with_reducible rfl)
                          try simp only [heldPut, List.set]
                          refine heldTake (i := 28) (v := ?_) rfl (by kernel_rfl) (by kernel_rfl) (by kernel_rfl) (fun _ _ _ h => h) (Or.inl ⟨by rfl, ?_⟩) (by assumption) ?_
                          rotate_left
                          · (intro w hSw; (try dsimp only at hSw); go_simp; try with_reducible rfl)
                          try simp only [heldPut, List.set]
                          refine wpAnyH_done (by kernel_rfl) ?_ _
                          refine NoPanic.normal ?_
                          go_wp2_with fail
                          go_meet
                          exact ⟨rfl, hHeld⟩
                        · have HL : Hid (lastB u = false) := by show _ = _; unfold lastB; rw [Hg.out, decide_eq_false hw]; rfl
                          have d1 : decide ((0 : Int) < (u.w : Int)) = false := decide_eq_false (by omega)
                          have d2 : decide (0 < u.w) = false := decide_eq_false hw
                          clear hw
                          refine wp_region_noPanic ?_
                          refine wp_region_held_drew (S := (fun V => Below w2.heap.size w2 V)) (by kernel_rfl) ?_ (fun hHeld => ?_)
                          · exact HB8.out.drew
                          refine heldTake (i := 0) (v := ?_) rfl (by kernel_rfl) (by kernel_rfl) (by kernel_rfl) (fun _ _ _ h => h) (Or.inl ⟨by rfl, ?_⟩) (by assumption) ?_
                          rotate_left
                          · (intro w hSw; (try dsimp only at hSw); go_simp; try with_reducible rfl)
                          try simp only [heldPut, List.set]
                          refine heldTake (i := 1) (v := ?_) rfl (by kernel_rfl) (by kernel_rfl) (by kernel_rfl) (fun _ _ _ h => h) (Or.inl ⟨by rfl, ?_⟩) (by assumption) ?_
                          rotate_left
                          · (intro w hSw; (try dsimp only at hSw); go_simp; try with_reducible rfl)
                          try simp only [heldPut, List.set]
                          refine heldTake (i := 2) (v := ?_) rfl (by kernel_rfl) (by kernel_rfl) (by kernel_rfl) (fun _ _ _ h => h) (Or.inl ⟨by rfl, ?_⟩) (by assumption) ?_
                          rotate_left
                          · (intro w hSw; (try dsimp only at hSw); go_simp; try with_reducible rfl)
                          try simp only [heldPut, List.set]
                          refine heldTake (i := 3) (v := ?_) rfl (by kernel_rfl) (by kernel_rfl) (by kernel_rfl) (fun _ _ _ h => h) (Or.inl ⟨by rfl, ?_⟩) (by assumption) ?_
                          rotate_left
                          · (intro w hSw; (try dsimp only at hSw); go_simp; try with_reducible rfl)
                          try simp only [heldPut, List.set]
                          refine heldTake (i := 4) (v := ?_) rfl (by kernel_rfl) (by kernel_rfl) (by kernel_rfl) (fun _ _ _ h => h) (Or.inl ⟨by rfl, ?_⟩) (by assumption) ?_
                          rotate_left
                          · (intro w hSw; (try dsimp only at hSw); go_simp; try with_reducible rfl)
                          try simp only [heldPut, List.set]
                          refine heldTake (i := 5) (v := ?_) rfl (by kernel_rfl) (by kernel_rfl) (by kernel_rfl) (fun _ _ _ h => h) (Or.inl ⟨by rfl, ?_⟩) (by assumption) ?_
                          rotate_left
                          · (intro w hSw; (try dsimp only at hSw); go_simp; try with_reducible rfl)
                          try simp only [heldPut, List.set]
                          refine heldTake (i := 6) (v := ?_) rfl (by kernel_rfl) (by kernel_rfl) (by kernel_rfl) (fun _ _ _ h => h) (Or.inl ⟨by rfl, ?_⟩) (by assumption) ?_
                          rotate_left
                          · (intro w hSw; (try dsimp only at hSw); go_simp; try with_reducible rfl)
                          try simp only [heldPut, List.set]
                          refine heldTake (i := 7) (v := ?_) rfl (by kernel_rfl) (by kernel_rfl) (by kernel_rfl) (fun _ _ _ h => h) (Or.inl ⟨by rfl, ?_⟩) (by assumption) ?_
                          rotate_left
                          · (intro w hSw; (try dsimp only at hSw); go_simp; try with_reducible rfl)
                          try simp only [heldPut, List.set]
                          refine heldTake (i := 8) (v := ?_) rfl (by kernel_rfl) (by kernel_rfl) (by kernel_rfl) (fun _ _ _ h => h) (Or.inl ⟨by rfl, ?_⟩) (by assumption) ?_
                          rotate_left
                          · (intro w hSw; (try dsimp only at hSw); go_simp; try with_reducible rfl)
                          try simp only [heldPut, List.set]
                          refine heldTake (i := 9) (v := ?_) rfl (by kernel_rfl) (by kernel_rfl) (by kernel_rfl) (fun _ _ _ h => h) (Or.inl ⟨by rfl, ?_⟩) (by assumption) ?_
                          rotate_left
                          · (intro w hSw; (try dsimp only at hSw); go_simp; try with_reducible rfl)
                          try simp only [heldPut, List.set]
                          refine heldTake (i := 10) (v := ?_) rfl (by kernel_rfl) (by kernel_rfl) (by kernel_rfl) (fun _ _ _ h => h) (Or.inl ⟨by rfl, ?_⟩) (by assumption) ?_
                          rotate_left
                          · (intro w hSw; (try dsimp only at hSw); go_simp; try with_reducible rfl)
                          try simp only [heldPut, List.set]
                          refine heldTake (i := 11) (v := ?_) rfl (by kernel_rfl) (by kernel_rfl) (by kernel_rfl) (fun _ _ _ h => h) (Or.inl ⟨by rfl, ?_⟩) (by assumption) ?_
                          rotate_left
                          · (intro w hSw; (try dsimp only at hSw); go_simp; try with_reducible rfl)
                          try simp only [heldPut, List.set]
                          refine heldTake (i := 12) (v := ?_) rfl (by kernel_rfl) (by kernel_rfl) (by kernel_rfl) (fun _ _ _ h => h) (Or.inl ⟨by rfl, ?_⟩) (by assumption) ?_
                          rotate_left
                          · (intro w hSw; (try dsimp only at hSw); go_simp; try with_reducible rfl)
                          try simp only [heldPut, List.set]
                          refine heldTake (i := 13) (v := ?_) rfl (by kernel_rfl) (by kernel_rfl) (by kernel_rfl) (fun _ _ _ h => h) (Or.inl ⟨by rfl, ?_⟩) (by assumption) ?_
                          rotate_left
                          · (intro w hSw; (try dsimp only at hSw); go_simp; try with_reducible rfl)
                          try simp only [heldPut, List.set]
                          refine heldTake (i := 14) (v := ?_) rfl (by kernel_rfl) (by kernel_rfl) (by kernel_rfl) (fun _ _ _ h => h) (Or.inl ⟨by rfl, ?_⟩) (by assumption) ?_
                          rotate_left
                          · (intro w hSw; (try dsimp only at hSw); go_simp; try with_reducible rfl)
                          try simp only [heldPut, List.set]
                          refine heldTake (i := 15) (v := .agg (listI u U nu cu).toArray) rfl (by kernel_rfl) (by kernel_rfl) (by kernel_rfl) (fun _ _ _ h => h) (yieldsIf_load_mid (by rfl) _ _ rfl G 0 rfl (listI u U nu cu) _ (fun w hw => HU.out w hw) Try.underlying30 rfl (by kernel_rfl)) (by assumption) ?_
                          try simp only [heldPut, List.set]
                          refine heldTake (i := 17) (v := ?_) rfl (by kernel_rfl) (by kernel_rfl) (by kernel_rfl) (fun _ _ _ h => h) (Or.inl ⟨by rfl, ?_⟩) (by assumption) ?_
                          rotate_left
                          · (intro w hSw; (try dsimp only at hSw); go_simp; try with_reducible rfl)
                          try simp only [heldPut, List.set]
                          refine heldTake (i := 18) (v := ?_) rfl (by kernel_rfl) (by kernel_rfl) (by kernel_rfl) (fun _ _ _ h => h) (Or.inl ⟨by rfl, ?_⟩) (by assumption) ?_
                          rotate_left
                          · (intro w hSw; (try dsimp only at hSw); go_simp; try with_reducible rfl)
                          try simp only [heldPut, List.set]
                          refine heldTake (i := 19) (v := ?_) rfl (by kernel_rfl) (by kernel_rfl) (by kernel_rfl) (fun _ _ _ h => h) (Or.inl ⟨by rfl, ?_⟩) (by assumption) ?_
                          rotate_left
                          · (intro w hSw; (try dsimp only at hSw); have k0 : w.cell? ⟨G, 0, none⟩ = some (.bool false) := by { have h := HU.out _ hSw 0 _ rfl; rw [Hg.out] at h; exact h }; clear hSw; go_simp; try with_reducible rfl)
                          try simp only [heldPut, List.set]
                          refine heldOne (i := 16) rfl (by kernel_rfl) (fun K hK => ?_)
                          go_simp
                          refine (lasts_as HL.out U nu cu _).mono ?_
                          rintro e V6 ⟨rfl, hb⟩
                          go_wp2_with fail
                          refine hK.out _ _ ?_ (fun hHeld => ?_)
                          · exact hHeld.trans (hb.mono hHeld.size)
                          clear hK K hb
                          try simp only [heldPut, List.set]
                          refine heldTake (i := 20) (v := ?_) rfl (by kernel_rfl) (by kernel_rfl) (by kernel_rfl) (fun _ _ _ h => h) (Or.inl ⟨by rfl, ?_⟩) (by assumption) ?_
                          rotate_left
                          · (intro w hSw; (try dsimp only at hSw); go_simp; try with_reducible rfl)
                          try simp only [heldPut, List.set]
                          refine heldTake (i := 21) (v := ?_) rfl (by kernel_rfl) (by kernel_rfl) (by kernel_rfl) (fun _ _ _ h => h) (Or.inl ⟨by rfl, ?_⟩) (by assumption) ?_
                          rotate_left
                          · (intro w hSw; (try dsimp only at hSw); go_simp; try with_reducible rfl)
                          try simp only [heldPut, List.set]
                          refine heldTake (i := 22) (v := ?_) rfl (by kernel_rfl) (by kernel_rfl) (by kernel_rfl) (fun _ _ _ h => h) (Or.inl ⟨by rfl, ?_⟩) (by assumption) ?_
                          rotate_left
                          · (intro w hSw; (try dsimp only at hSw); go_simp; try with_reducible rfl)
                          try simp only [heldPut, List.set]
                          refine heldTake (i := 23) (v := ?_) rfl (by kernel_rfl) (by kernel_rfl) (by kernel_rfl) (fun _ _ _ h => h) (Or.inl ⟨by rfl, ?_⟩) (by assumption) ?_
                          rotate_left
                          · (intro w hSw; (try dsimp only at hSw); go_simp; try with_reducible rfl)
                          try simp only [heldPut, List.set]
                          refine heldTake (i := 24) (v := ?_) rfl (by kernel_rfl) (by kernel_rfl) (by kernel_rfl) (fun _ _ _ h => h) (Or.inl ⟨by rfl, ?_⟩) (by assumption) ?_
                          rotate_left
                          · (intro w hSw; (try dsimp only at hSw); have k9 : w.cell? ⟨G, 9, none⟩ = some (.int .u8 u.w) := HU.out _ hSw 9 _ rfl; clear hSw; go_simp; try with_reducible rfl)
                          try simp only [heldPut, List.set]
                          refine heldTake (i := 25) (v := ?_) rfl (by kernel_rfl) (by kernel_rfl) (by kernel_rfl) (fun _ _ _ h => h) (Or.inl ⟨by rfl, ?_⟩) (by assumption) ?_
                          rotate_left
                          · (intro w hSw; (try dsimp only at hSw); go_simp; try with_reducible rfl)
                          try simp only [heldPut, List.set]
                          refine heldTake (i := 26) (v := ?_) rfl (by kernel_rfl) (by kernel_rfl) (by kernel_rfl) (fun _ _ _ h => h) (Or.inl ⟨by rfl, ?_⟩) (by assumption) ?_
                          rotate_left
                          · (intro w hSw; (try dsimp only at hSw); go_simp; try with_reducible rfl)
                          try simp only [heldPut, List.set]
                          refine heldTake (i := 27) (v := ?_) rfl (by kernel_rfl) (by kernel_rfl) (by kernel_rfl) (fun _ _ _ h => h) (Or.inl ⟨by rfl, ?_⟩) (by assumption) ?_
                          rotate_left
                          · (intro w hSw; (try dsimp only at hSw); go_simp; try with_reducible rfl)
                          try simp only [heldPut, List.set]
                          refine heldTake (i := 28) (v := ?_) rfl (by kernel_rfl) (by kernel_rfl) (by kernel_rfl) (fun _ _ _ h => h) (Or.inl ⟨by rfl, ?_⟩) (by assumption) ?_
                          rotate_left
                          · (intro w hSw; (try dsimp only at hSw); go_simp; try with_reducible rfl)
                          try simp only [heldPut, List.set]
                          refine wpAnyH_done (by kernel_rfl) ?_ _
                          refine NoPanic.normal ?_
                          go_wp2_with fail
                          go_meet
                          exact ⟨rfl, hHeld⟩
                      · have HL : Hid (lastB u = true) := by show _ = _; unfold lastB; rw [Hg.out]; rfl
                        refine wp_region_noPanic ?_
                        refine wp_region_held_drew (S := (fun V => Below w2.heap.size w2 V)) (by kernel_rfl) ?_ (fun hHeld => ?_)
                        · exact HB8.out.drew
                        refine heldTake (i := 0) (v := ?_) rfl (by kernel_rfl) (by kernel_rfl) (by kernel_rfl) (fun _ _ _ h => h) (Or.inl ⟨by rfl, ?_⟩) (by assumption) ?_
                        rotate_left
                        · (intro w hSw; (try dsimp only at hSw); go_simp; try with_reducible rfl)
                        try simp only [heldPut, List.set]
                        refine heldTake (i := 1) (v := ?_) rfl (by kernel_rfl) (by kernel_rfl) (by kernel_rfl) (fun _ _ _ h => h) (Or.inl ⟨by rfl, ?_⟩) (by assumption) ?_
                        rotate_left
                        · (intro w hSw; (try dsimp only at hSw); go_simp; try with_reducible rfl)
                        try simp only [heldPut, List.set]
                        refine heldTake (i := 2) (v := ?_) rfl (by kernel_rfl) (by kernel_rfl) (by kernel_rfl) (fun _ _ _ h => h) (Or.inl ⟨by rfl, ?_⟩) (by assumption) ?_
                        rotate_left
                        · (intro w hSw; (try dsimp only at hSw); go_simp; try with_reducible rfl)
                        try simp only [heldPut, List.set]
                        refine heldTake (i := 3) (v := ?_) rfl (by kernel_rfl) (by kernel_rfl) (by kernel_rfl) (fun _ _ _ h => h) (Or.inl ⟨by rfl, ?_⟩) (by assumption) ?_
                        rotate_left
                        · (intro w hSw; (try dsimp only at hSw); go_simp; try with_reducible rfl)
                        try simp only [heldPut, List.set]
                        refine heldTake (i := 4) (v := ?_) rfl (by kernel_rfl) (by kernel_rfl) (by kernel_rfl) (fun _ _ _ h => h) (Or.inl ⟨by rfl, ?_⟩) (by assumption) ?_
                        rotate_left
                        · (intro w hSw; (try dsimp only at hSw); go_simp; try with_reducible rfl)
                        try simp only [heldPut, List.set]
                        refine heldTake (i := 5) (v := ?_) rfl (by kernel_rfl) (by kernel_rfl) (by kernel_rfl) (fun _ _ _ h => h) (Or.inl ⟨by rfl, ?_⟩) (by assumption) ?_
                        rotate_left
                        · (intro w hSw; (try dsimp only at hSw); go_simp; try with_reducible rfl)
                        try simp only [heldPut, List.set]
                        refine heldTake (i := 6) (v := ?_) rfl (by kernel_rfl) (by kernel_rfl) (by kernel_rfl) (fun _ _ _ h => h) (Or.inl ⟨by rfl, ?_⟩) (by assumption) ?_
                        rotate_left
                        · (intro w hSw; (try dsimp only at hSw); go_simp; try with_reducible rfl)
                        try simp only [heldPut, List.set]
                        refine heldTake (i := 7) (v := ?_) rfl (by kernel_rfl) (by kernel_rfl) (by kernel_rfl) (fun _ _ _ h => h) (Or.inl ⟨by rfl, ?_⟩) (by assumption) ?_
                        rotate_left
                        · (intro w hSw; (try dsimp only at hSw); go_simp; try with_reducible rfl)
                        try simp only [heldPut, List.set]
                        refine heldTake (i := 8) (v := ?_) rfl (by kernel_rfl) (by kernel_rfl) (by kernel_rfl) (fun _ _ _ h => h) (Or.inl ⟨by rfl, ?_⟩) (by assumption) ?_
                        rotate_left
                        · (intro w hSw; (try dsimp only at hSw); go_simp; try with_reducible rfl)
                        try simp only [heldPut, List.set]
                        refine heldTake (i := 9) (v := ?_) rfl (by kernel_rfl) (by kernel_rfl) (by kernel_rfl) (fun _ _ _ h => h) (Or.inl ⟨by rfl, ?_⟩) (by assumption) ?_
                        rotate_left
                        · (intro w hSw; (try dsimp only at hSw); go_simp; try with_reducible rfl)
                        try simp only [heldPut, List.set]
                        refine heldTake (i := 10) (v := ?_) rfl (by kernel_rfl) (by kernel_rfl) (by kernel_rfl) (fun _ _ _ h => h) (Or.inl ⟨by rfl, ?_⟩) (by assumption) ?_
                        rotate_left
                        · (intro w hSw; (try dsimp only at hSw); go_simp; try with_reducible rfl)
                        try simp only [heldPut, List.set]
                        refine heldTake (i := 11) (v := ?_) rfl (by kernel_rfl) (by kernel_rfl) (by kernel_rfl) (fun _ _ _ h => h) (Or.inl ⟨by rfl, ?_⟩) (by assumption) ?_
                        rotate_left
                        · (intro w hSw; (try dsimp only at hSw); go_simp; try with_reducible rfl)
                        try simp only [heldPut, List.set]
                        refine heldTake (i := 12) (v := ?_) rfl (by kernel_rfl) (by kernel_rfl) (by kernel_rfl) (fun _ _ _ h => h) (Or.inl ⟨by rfl, ?_⟩) (by assumption) ?_
                        rotate_left
                        · (intro w hSw; (try dsimp only at hSw); go_simp; try with_reducible rfl)
                        try simp only [heldPut, List.set]
                        refine heldTake (i := 13) (v := ?_) rfl (by kernel_rfl) (by kernel_rfl) (by kernel_rfl) (fun _ _ _ h => h) (Or.inl ⟨by rfl, ?_⟩) (by assumption) ?_
                        rotate_left
                        · (intro w hSw; (try dsimp only at hSw); go_simp; try with_reducible rfl)
                        try simp only [heldPut, List.set]
                        refine heldTake (i := 14) (v := ?_) rfl (by kernel_rfl) (by kernel_rfl) (by kernel_rfl) (fun _ _ _ h => h) (Or.inl ⟨by rfl, ?_⟩) (by assumption) ?_
                        rotate_left
                        · (intro w hSw; (try dsimp only at hSw); go_simp; try with_reducible rfl)
                        try simp only [heldPut, List.set]
                        refine heldTake (i := 15) (v := .agg (listI u U nu cu).toArray) rfl (by kernel_rfl) (by kernel_rfl) (by kernel_rfl) (fun _ _ _ h => h) (yieldsIf_load_mid (by rfl) _ _ rfl G 0 rfl (listI u U nu cu) _ (fun w hw => HU.out w hw) Try.underlying30 rfl (by kernel_rfl)) (by assumption) ?_
                        try simp only [heldPut, List.set]
                        refine heldTake (i := 17) (v := ?_) rfl (by kernel_rfl) (by kernel_rfl) (by kernel_rfl) (fun _ _ _ h => h) (Or.inl ⟨by rfl, ?_⟩) (by assumption) ?_
                        rotate_left
                        · (intro w hSw; (try dsimp only at hSw); go_simp; try with_reducible rfl)
                        try simp only [heldPut, List.set]
                        refine heldTake (i := 18) (v := ?_) rfl (by kernel_rfl) (by kernel_rfl) (by kernel_rfl) (fun _ _ _ h => h) (Or.inl ⟨by rfl, ?_⟩) (by assumption) ?_
                        rotate_left
                        · (intro w hSw; (try dsimp only at hSw); go_simp; try with_reducible rfl)
                        try simp only [heldPut, List.set]
                        refine heldTake (i := 19) (v := ?_) rfl (by kernel_rfl) (by kernel_rfl) (by kernel_rfl) (fun _ _ _ h => h) (Or.inl ⟨by rfl, ?_⟩) (by assumption) ?_
                        rotate_left
                        · (intro w hSw; (try dsimp only at hSw); have k0 : w.cell? ⟨G, 0, none⟩ = some (.bool true) := by { have h := HU.out _ hSw 0 _ rfl; rw [Hg.out] at h; exact h }; clear hSw; go_simp; try with_reducible rfl)
                        try simp only [heldPut, List.set]
                        refine heldOne (i := 16) rfl (by kernel_rfl) (fun K hK => ?_)
                        go_simp
                        refine (lasts_as HL.out U nu cu _).mono ?_
                        rintro e V6 ⟨rfl, hb⟩
                        go_wp2_with fail
                        refine hK.out _ _ ?_ (fun hHeld => ?_)
                        · exact hHeld.trans (hb.mono hHeld.size)
                        clear hK K hb
                        try simp only [heldPut, List.set]
                        refine heldTake (i := 20) (v := ?_) rfl (by kernel_rfl) (by kernel_rfl) (by kernel_rfl) (fun _ _ _ h => h) (Or.inl ⟨by rfl, ?_⟩) (by assumption) ?_
                        rotate_left
                        · (intro w hSw; (try dsimp only at hSw); go_simp; try with_reducible rfl)
                        try simp only [heldPut, List.set]
                        refine heldTake (i := 21) (v := undef) rfl (by kernel_rfl) (by kernel_rfl) (by kernel_rfl) (fun _ _ _ h => h) (Or.inr ⟨by rfl, rfl⟩) (by assumption) ?_
                        try simp only [heldPut, List.set]
                        refine heldTake (i := 22) (v := undef) rfl (by kernel_rfl) (by kernel_rfl) (by kernel_rfl) (fun _ _ _ h => h) (Or.inr ⟨by rfl, rfl⟩) (by assumption) ?_
                        try simp only [heldPut, List.set]
                        refine heldTake (i := 23) (v := undef) rfl (by kernel_rfl) (by kernel_rfl) (by kernel_rfl) (fun _ _ _ h => h) (Or.inr ⟨by rfl, rfl⟩) (by assumption) ?_
                        try simp only [heldPut, List.set]
                        refine heldTake (i := 24) (v := undef) rfl (by kernel_rfl) (by kernel_rfl) (by kernel_rfl) (fun _ _ _ h => h) (Or.inr ⟨by rfl, rfl⟩) (by assumption) ?_
                        try simp only [heldPut, List.set]
                        refine heldTake (i := 25) (v := undef) rfl (by kernel_rfl) (by kernel_rfl) (by kernel_rfl) (fun _ _ _ h => h) (Or.inr ⟨by rfl, rfl⟩) (by assumption) ?_
                        try simp only [heldPut, List.set]
                        refine heldTake (i := 26) (v := ?_) rfl (by kernel_rfl) (by kernel_rfl) (by kernel_rfl) (fun _ _ _ h => h) (Or.inl ⟨by rfl, ?_⟩) (by assumption) ?_
                        rotate_left
                        · (intro w hSw; (try dsimp only at hSw); go_simp; try with_reducible rfl)
                        try simp only [heldPut, List.set]
                        refine heldTake (i := 27) (v := ?_) rfl (by kernel_rfl) (by kernel_rfl) (by kernel_rfl) (fun _ _ _ h => h) (Or.inl ⟨by rfl, ?_⟩) (by assumption) ?_
                        rotate_left
                        · (intro w hSw; (try dsimp only at hSw); go_simp; try with_reducible rfl)
                        try simp only [heldPut, List.set]
                        refine heldTake (i := 28) (v := ?_) rfl (by kernel_rfl) (by kernel_rfl) (by kernel_rfl) (fun _ _ _ h => h) (Or.inl ⟨by rfl, ?_⟩) (by assumption) ?_
                        rotate_left
                        · (intro w hSw; (try dsimp only at hSw); go_simp; try with_reducible rfl)
                        try simp only [heldPut, List.set]
                        refine wpAnyH_done (by kernel_rfl) ?_ _
                        refine NoPanic.normal ?_
                        go_wp2_with fail
                        go_meet
                        exact ⟨rfl, hHeld⟩
                    case rest =>
                      obtain ⟨rfl, hb⟩ := hcut
                      obtain ⟨w9, rfl⟩ : ∃ V, V = wc := ⟨_, rfl⟩
                      have HB9 := Lib.hid hb
                      clear hb HB8
                      obtain ⟨y3, h1⟩ : ∃ y, joinI u v = y := ⟨_, rfl⟩
                      obtain ⟨jb, h2⟩ : ∃ b, joinB u v = b := ⟨_, rfl⟩
                      have HJ := Lib.hid (join_as h1 h2 HP.out.hv U nu cu U' nv cv)
                      have Hjb := Lib.hid h2
                      have HS : Hid (sameI y3 (if jb then ⟨true, 0, 0, 0, ⟨#[]⟩, [], 0, 0, 0, 0, u.ga, u.gf, v.gt⟩ else zeroI) = true) := by
                        show _ = true
                        rw [← h1, ← h2]
                        unfold joinI
                        exact sameI_refl _
                      have HK : Hid (y3.l.length = 0) := by
                        show _ = _
                        rw [← h1]
                        unfold joinI
                        split <;> rfl
                      clear h1 h2
                      go_wp2_with (first | (refine wpList_load_mid rfl _ _ rfl G 0 rfl (listI u U nu cu) _ (HU.out _ HB9.out) Try.underlying30 rfl (by kernel_rfl) ?_) | (refine wpList_load_mid rfl _ _ rfl G 13 rfl (listI v U' nv cv) _ (HV.out _ HB9.out) Try.underlying30 rfl (by kernel_rfl) ?_) | fail)
                      refine (HJ.out w9).mono ?_
                      rintro e V7 ⟨A5, n5, c5, rfl, hn5, hr5, hb5⟩
                      have HN5 := Lib.hid hn5
                      clear hn5 HJ
                      go_upto_region 26 with (first | (refine wpList_store_row rfl _ _ _ rfl V7.heap.size _ rfl rfl _ _ (heap_alloc_new _ _) Try.infoI rfl (by simp [Value.oneCell']) ?_) | fail)
                      obtain ⟨w7, hw4⟩ : ∃ W, W = (V7.alloc (.cells #[.bool false, .int .u8 0, .int .u64 0, .int .u64 0, .string ⟨#[]⟩, .slice none 0 0, .int .u8 0, .int .u8 0, .int .i64 0, .int .u8 0, .int .u8 0, .int .u64 0, .int .u64 0] 30)).setRow V7.heap.size #[.bool y3.g, .int .u8 y3.o, .int .u64 y3.q, .int .u64 y3.t, .string y3.r, .slice A5 n5 c5, .int .u8 y3.s, .int .u8 y3.p, .int .i64 y3.v, .int .u8 y3.w, .int .u8 y3.ga, .int .u64 y3.gf, .int .u64 y3.gt] := ⟨_, rfl⟩
                      rw [← hw4]
                      have hS : w7.heap[V7.heap.size]? = some (.cells #[.bool y3.g, .int .u8 y3.o, .int .u64 y3.q, .int .u64 y3.t, .string y3.r, .slice A5 n5 c5, .int .u8 y3.s, .int .u8 y3.p, .int .i64 y3.v, .int .u8 y3.w, .int .u8 y3.ga, .int .u64 y3.gf, .int .u64 y3.gt] 30 (0, 0)) := by rw [hw4]; exact setRow_heap _ _ _ _ _ _ (heap_alloc_new _ _)
                      have hbs : Below V7.heap.size V7 w7 := by rw [hw4]; exact below_setRow ((Below.refl _ _).alloc (Nat.le_refl _) _) (Nat.le_refl _) _
                      have HR5 := Lib.hid (RdP.more (hr5.below hbs) hbs.size)
                      have HBd := Lib.hid (HB9.out.trans ((hb5.trans (hbs.mono hb5.size)).mono HB9.out.size))
                      have HS5 := Lib.hid hS
                      have hlt5 : V7.heap.size < w7.heap.size := (Array.getElem?_eq_some_iff.1 hS).1
                      clear hw4 hr5 hb5 hbs hS HB9
                      go_cut [31, 32] from 182 to 187 (fun p q wx => ∃ H I, p = .pointer (some ⟨H, 0, none⟩) ∧ q = .pointer (some ⟨I, 0, none⟩) ∧ Below w7.heap.size w7 wx ∧ wx.heap[H]? = some (.cells #[.int .u8 u.ga, .int .u64 u.gf, .int .u64 u.gt] 28 (0, 0)) ∧ wx.heap[I]? = some (.cells #[.int .u8 v.ga, .int .u64 v.gf, .int .u64 v.gt] 28 (0, 0)))
                      case first =>
                        refine wp_region_noPanic ?_
                        refine wp_region_held_drew (S := (fun V => Below w7.heap.size w7 V)) (by kernel_rfl) ?_ (fun hHeld => ?_)
                        · exact (Below.refl _ _).drew
                        refine heldTake (i := 0) (v := ?_) rfl (by kernel_rfl) (by kernel_rfl) (by kernel_rfl) (fun _ _ _ h => h) (Or.inl ⟨by rfl, ?_⟩) (by assumption) ?_
                        rotate_left
                        · (intro w hSw; (try dsimp only at hSw); go_simp; try with_reducible rfl)
                        try simp only [heldPut, List.set]
                        refine heldTake (i := 1) (v := ?_) rfl (by kernel_rfl) (by kernel_rfl) (by kernel_rfl) (fun _ _ _ h => h) (Or.inl ⟨by rfl, ?_⟩) (by assumption) ?_
                        rotate_left
                        · (intro w hSw; (try dsimp only at hSw); go_simp; try with_reducible rfl)
                        try simp only [heldPut, List.set]
                        refine heldTake (i := 2) (v := .agg #[.int .u8 u.ga, .int .u64 u.gf, .int .u64 u.gt]) rfl (by kernel_rfl) (by kernel_rfl) (by kernel_rfl) (fun _ _ _ h => h) (yieldsIf_load_mid (by rfl) _ _ rfl G (0 + 10) rfl [.int .u8 u.ga, .int .u64 u.gf, .int .u64 u.gt] _ (fun w hw => gap_range (HU.out w (HBd.out.trans (hw.mono HBd.out.size)))) Try.underlying28 rfl (by kernel_rfl)) (by assumption) ?_
                        try simp only [heldPut, List.set]
                        refine heldTake (i := 3) (v := ?_) rfl (by kernel_rfl) (by kernel_rfl) (by kernel_rfl) (fun _ _ _ h => h) (Or.inl ⟨by rfl, ?_⟩) (by assumption) ?_
                        rotate_left
                        · (intro w hSw; (try dsimp only at hSw); go_simp; try with_reducible rfl)
                        try simp only [heldPut, List.set]
                        refine heldTake (i := 4) (v := ?_) rfl (by kernel_rfl) (by kernel_rfl) (by kernel_rfl) (fun _ _ _ h => h) (Or.inl ⟨by rfl, ?_⟩) (by assumption) ?_
                        rotate_left
                        · (intro w hSw; (try dsimp only at hSw); go_simp; try with_reducible rfl)
                        try simp only [heldPut, List.set]
                        refine heldTake (i := 5) (v := .agg #[.int .u8 v.ga, .int .u64 v.gf, .int .u64 v.gt]) rfl (by kernel_rfl) (by kernel_rfl) (by kernel_rfl) (fun _ _ _ h => h) (yieldsIf_load_mid (by rfl) _ _ rfl G (13 + 10) rfl [.int .u8 v.ga, .int .u64 v.gf, .int .u64 v.gt] _ (fun w hw => gap_range (HV.out w (HBd.out.trans (hw.mono HBd.out.size)))) Try.underlying28 rfl (by kernel_rfl)) (by assumption) ?_
                        try simp only [heldPut, List.set]
                        have hz0 : w7.heap.size ≤ w7.drew.heap.size := Nat.le_refl _
                        generalize hw2 : w7.drew = w2x at *
                        clear hw2
                        refine heldTwo (i := 6) (j := 7) rfl rfl (by kernel_rfl) (fun K hK => ?g1_6) (fun K hK => ?g1_7)
                        case' g1_6 =>
                          have hb2 : Below w2x.heap.size w2x (w2x.alloc (.cells #[.int .u8 0, .int .u64 0, .int .u64 0] 28)) := (Below.refl _ _).alloc (Nat.le_refl _) _
                          go_simp
                          refine hK.out _ _ ?_ (fun hh2 => ?_)
                          · exact (hHeld.trans (hb2.mono (hHeld.size)))
                          clear hK K
                          try simp only [heldPut, List.set]
                          have hc2 : CellsK (w2x.alloc (.cells #[.int .u8 0, .int .u64 0, .int .u64 0] 28)) w2x.heap.size 28 3 := CellsK.new _ _ _ rfl
                          have hz2 : (w2x.alloc (.cells #[.int .u8 0, .int .u64 0, .int .u64 0] 28)).heap.size = w2x.heap.size + 1 := by simp
                          generalize hV2 : w2x.alloc (.cells #[.int .u8 0, .int .u64 0, .int .u64 0] 28) = V2 at *
                          clear hV2 hb2
                          refine heldMore (S2 := (fun V : World => Below w7.heap.size w7 V ∧ CellsK V w2x.heap.size 28 3)) (fun _ h => h.1) ?_
                          have hh2' : (fun V : World => Below w7.heap.size w7 V ∧ CellsK V w2x.heap.size 28 3) V2 := ⟨hh2, hc2⟩
                          clear hh2 hc2
                          replace hz2 : w2x.heap.size + 1 ≤ V2.heap.size := by omega
                          refine heldOne (i := 7) rfl (by kernel_rfl) (fun K hK => ?_)
                          have hb4 : Below V2.heap.size V2 (V2.alloc (.cells #[.int .u8 0, .int .u64 0, .int .u64 0] 28)) := (Below.refl _ _).alloc (Nat.le_refl _) _
                          go_simp
                          refine hK.out _ _ ?_ (fun hh4 => ?_)
                          · exact ⟨(hh2'.1.trans (hb4.mono (hh2'.1.size))), (hh2'.2.below hb4)⟩
                          clear hK K
                          try simp only [heldPut, List.set]
                          have hc4 : CellsK (V2.alloc (.cells #[.int .u8 0, .int .u64 0, .int .u64 0] 28)) V2.heap.size 28 3 := CellsK.new _ _ _ rfl
                          have hz4 : (V2.alloc (.cells #[.int .u8 0, .int .u64 0, .int .u64 0] 28)).heap.size = V2.heap.size + 1 := by simp
                          generalize hV4 : V2.alloc (.cells #[.int .u8 0, .int .u64 0, .int .u64 0] 28) = V4 at *
                          clear hV4 hb4
                          refine heldMore (S2 := (fun V : World => Below w7.heap.size w7 V ∧ CellsK V w2x.heap.size 28 3 ∧ CellsK V V2.heap.size 28 3)) (fun _ h => ⟨h.1, h.2.1⟩) ?_
                          have hh4' : (fun V : World => Below w7.heap.size w7 V ∧ CellsK V w2x.heap.size 28 3 ∧ CellsK V V2.heap.size 28 3) V4 := ⟨hh4.1, hh4.2, hc4⟩
                          clear hh4 hc4
                          replace hz4 : V2.heap.size + 1 ≤ V4.heap.size := by omega
                          refine heldOne (i := 8) rfl (by kernel_rfl) (fun K hK => ?_)
                          rw [if_pos (by rfl)]
                          obtain ⟨cs6, hcs6, hsz6⟩ := hh4'.2.1
                          refine wp_store_row _ _ _ rfl (w2x.heap.size) _ rfl rfl _ _ hcs6 infoG hsz6 (by simp [Value.oneCell']) ?_
                          refine hK.out _ _ ?_ (fun hh6 => ?_)
                          · exact ⟨(below_setRow hh4'.1 (by omega) _), (hh4'.2.1.same _ rfl), (hh4'.2.2.other (by omega) _)⟩
                          clear hK K
                          have hX : (V4.setRow (w2x.heap.size) #[.int .u8 u.ga, .int .u64 u.gf, .int .u64 u.gt]).heap[w2x.heap.size]? = some (.cells #[.int .u8 u.ga, .int .u64 u.gf, .int .u64 u.gt] 28 (0, 0)) := setRow_heap _ _ _ _ _ _ hcs6
                          generalize hV6 : V4.setRow (w2x.heap.size) #[.int .u8 u.ga, .int .u64 u.gf, .int .u64 u.gt] = V6 at *
                          clear hV6 hcs6 hsz6 
                          refine heldOne (i := 9) rfl (by kernel_rfl) (fun K hK => ?_)
                          rw [if_pos (by rfl)]
                          obtain ⟨cs8, hcs8, hsz8⟩ := hh6.2.2
                          refine wp_store_row _ _ _ rfl (V2.heap.size) _ rfl rfl _ _ hcs8 infoG hsz8 (by simp [Value.oneCell']) ?_
                          refine hK.out _ _ ?_ (fun hh8 => ?_)
                          · exact ⟨(below_setRow hh6.1 (by omega) _), (hh6.2.1.other (by omega) _), (hh6.2.2.same _ rfl)⟩
                          clear hK K
                          have hY : (V6.setRow (V2.heap.size) #[.int .u8 v.ga, .int .u64 v.gf, .int .u64 v.gt]).heap[V2.heap.size]? = some (.cells #[.int .u8 v.ga, .int .u64 v.gf, .int .u64 v.gt] 28 (0, 0)) := setRow_heap _ _ _ _ _ _ hcs8
                          have hX' : (V6.setRow (V2.heap.size) #[.int .u8 v.ga, .int .u64 v.gf, .int .u64 v.gt]).heap[w2x.heap.size]? = some (.cells #[.int .u8 u.ga, .int .u64 u.gf, .int .u64 u.gt] 28 (0, 0)) := (setRow_other _ _ _ _ (by omega)).trans hX
                          generalize hV8 : V6.setRow (V2.heap.size) #[.int .u8 v.ga, .int .u64 v.gf, .int .u64 v.gt] = V8 at *
                          clear hV8 hcs8 hsz8 hX
                          refine wpAnyH_done (by kernel_rfl) ?_ _
                          refine NoPanic.normal ?_
                          go_wp2_with fail
                          go_meet
                          exact ⟨w2x.heap.size, V2.heap.size, rfl, rfl, hh8.1, hX', hY⟩
                        case' g1_7 =>
                          have hb9 : Below w2x.heap.size w2x (w2x.alloc (.cells #[.int .u8 0, .int .u64 0, .int .u64 0] 28)) := (Below.refl _ _).alloc (Nat.le_refl _) _
                          go_simp
                          refine hK.out _ _ ?_ (fun hh9 => ?_)
                          · exact (hHeld.trans (hb9.mono (hHeld.size)))
                          clear hK K
                          try simp only [heldPut, List.set]
                          have hc9 : CellsK (w2x.alloc (.cells #[.int .u8 0, .int .u64 0, .int .u64 0] 28)) w2x.heap.size 28 3 := CellsK.new _ _ _ rfl
                          have hz9 : (w2x.alloc (.cells #[.int .u8 0, .int .u64 0, .int .u64 0] 28)).heap.size = w2x.heap.size + 1 := by simp
                          generalize hV9 : w2x.alloc (.cells #[.int .u8 0, .int .u64 0, .int .u64 0] 28) = V9 at *
                          clear hV9 hb9
                          refine heldMore (S2 := (fun V : World => Below w7.heap.size w7 V ∧ CellsK V w2x.heap.size 28 3)) (fun _ h => h.1) ?_
                          have hh9' : (fun V : World => Below w7.heap.size w7 V ∧ CellsK V w2x.heap.size 28 3) V9 := ⟨hh9, hc9⟩
                          clear hh9 hc9
                          replace hz9 : w2x.heap.size + 1 ≤ V9.heap.size := by omega
                          refine heldOne (i := 6) rfl (by kernel_rfl) (fun K hK => ?_)
                          have hb11 : Below V9.heap.size V9 (V9.alloc (.cells #[.int .u8 0, .int .u64 0, .int .u64 0] 28)) := (Below.refl _ _).alloc (Nat.le_refl _) _
                          go_simp
                          refine hK.out _ _ ?_ (fun hh11 => ?_)
                          · exact ⟨(hh9'.1.trans (hb11.mono (hh9'.1.size))), (hh9'.2.below hb11)⟩
                          clear hK K
                          try simp only [heldPut, List.set]
                          have hc11 : CellsK (V9.alloc (.cells #[.int .u8 0, .int .u64 0, .int .u64 0] 28)) V9.heap.size 28 3 := CellsK.new _ _ _ rfl
                          have hz11 : (V9.alloc (.cells #[.int .u8 0, .int .u64 0, .int .u64 0] 28)).heap.size = V9.heap.size + 1 := by simp
                          generalize hV11 : V9.alloc (.cells #[.int .u8 0, .int .u64 0, .int .u64 0] 28) = V11 at *
                          clear hV11 hb11
                          refine heldMore (S2 := (fun V : World => Below w7.heap.size w7 V ∧ CellsK V w2x.heap.size 28 3 ∧ CellsK V V9.heap.size 28 3)) (fun _ h => ⟨h.1, h.2.1⟩) ?_
                          have hh11' : (fun V : World => Below w7.heap.size w7 V ∧ CellsK V w2x.heap.size 28 3 ∧ CellsK V V9.heap.size 28 3) V11 := ⟨hh11.1, hh11.2, hc11⟩
                          clear hh11 hc11
                          replace hz11 : V9.heap.size + 1 ≤ V11.heap.size := by omega
                          refine heldOne (i := 8) rfl (by kernel_rfl) (fun K hK => ?_)
                          rw [if_pos (by rfl)]
                          obtain ⟨cs13, hcs13, hsz13⟩ := hh11'.2.2
                          refine wp_store_row _ _ _ rfl (V9.heap.size) _ rfl rfl _ _ hcs13 infoG hsz13 (by simp [Value.oneCell']) ?_
                          refine hK.out _ _ ?_ (fun hh13 => ?_)
                          · exact ⟨(below_setRow hh11'.1 (by omega) _), (hh11'.2.1.other (by omega) _), (hh11'.2.2.same _ rfl)⟩
                          clear hK K
                          have hX : (V11.setRow (V9.heap.size) #[.int .u8 u.ga, .int .u64 u.gf, .int .u64 u.gt]).heap[V9.heap.size]? = some (.cells #[.int .u8 u.ga, .int .u64 u.gf, .int .u64 u.gt] 28 (0, 0)) := setRow_heap _ _ _ _ _ _ hcs13
                          generalize hV13 : V11.setRow (V9.heap.size) #[.int .u8 u.ga, .int .u64 u.gf, .int .u64 u.gt] = V13 at *
                          clear hV13 hcs13 hsz13 
                          refine heldOne (i := 9) rfl (by kernel_rfl) (fun K hK => ?_)
                          rw [if_pos (by rfl)]
                          obtain ⟨cs15, hcs15, hsz15⟩ := hh13.2.1
                          refine wp_store_row _ _ _ rfl (w2x.heap.size) _ rfl rfl _ _ hcs15 infoG hsz15 (by simp [Value.oneCell']) ?_
                          refine hK.out _ _ ?_ (fun hh15 => ?_)
                          · exact ⟨(below_setRow hh13.1 (by omega) _), (hh13.2.1.same _ rfl), (hh13.2.2.other (by omega) _)⟩
                          clear hK K
                          have hY : (V13.setRow (w2x.heap.size) #[.int .u8 v.ga, .int .u64 v.gf, .int .u64 v.gt]).heap[w2x.heap.size]? = some (.cells #[.int .u8 v.ga, .int .u64 v.gf, .int .u64 v.gt] 28 (0, 0)) := setRow_heap _ _ _ _ _ _ hcs15
                          have hX' : (V13.setRow (w2x.heap.size) #[.int .u8 v.ga, .int .u64 v.gf, .int .u64 v.gt]).heap[V9.heap.size]? = some (.cells #[.int .u8 u.ga, .int .u64 u.gf, .int .u64 u.gt] 28 (0, 0)) := (setRow_other _ _ _ _ (by omega)).trans hX
                          generalize hV15 : V13.setRow (w2x.heap.size) #[.int .u8 v.ga, .int .u64 v.gf, .int .u64 v.gt] = V15 at *
                          clear hV15 hcs15 hsz15 hX
                          refine wpAnyH_done (by kernel_rfl) ?_ _
                          refine NoPanic.normal ?_
                          go_wp2_with fail
                          go_meet
                          exact ⟨V9.heap.size, w2x.heap.size, rfl, rfl, hh15.1, hX', hY⟩
                      case rest =>
                        obtain ⟨H, I, rfl, rfl, hb, hH, hI⟩ := hcut
                        obtain ⟨w8, rfl⟩ : ∃ V, V = wc := ⟨_, rfl⟩
                        have HB8 := Lib.hid (HBd.out.trans (hb.mono HBd.out.size))
                        have HS8 := Lib.hid ((hb.block _ hlt5).trans HS5.out)
                        have HR8 := Lib.hid ((HR5.out.below hb).more hb.size)
                        have a0 : w8.cell? ⟨H, 0, none⟩ = some (.int .u8 u.ga) := cell_of_row _ _ 0 _ _ _ hH
                        have a1 : w8.cell? ⟨H, 1, none⟩ = some (.int .u64 u.gf) := cell_of_row _ _ 1 _ _ _ hH
                        have a2 : w8.cell? ⟨H, 2, none⟩ = some (.int .u64 u.gt) := cell_of_row _ _ 2 _ _ _ hH
                        have b0 : w8.cell? ⟨I, 0, none⟩ = some (.int .u8 v.ga) := cell_of_row _ _ 0 _ _ _ hI
                        have b1 : w8.cell? ⟨I, 1, none⟩ = some (.int .u64 v.gf) := cell_of_row _ _ 1 _ _ _ hI
                        have b2 : w8.cell? ⟨I, 2, none⟩ = some (.int .u64 v.gt) := cell_of_row _ _ 2 _ _ _ hI
                        have g0 : w8.cell? ⟨G, 0, none⟩ = some (.bool u.g) := HU.out _ HB8.out 0 _ rfl
                        have g13 : w8.cell? ⟨G, 13, none⟩ = some (.bool v.g) := HV.out _ HB8.out 0 _ rfl
                        have l1 := HP.out.hv.gf
                        have l2 := HP.out.hv.gt
                        clear hb hH hI HBd HS5 HR5 hlt5
                        go_upto_region 27 with fail
                        go_cut [33] from 188 to 222 (fun p wx => p = .bool jb ∧ wx = w8)
                        case first =>
                          obtain ⟨ug, hug⟩ : ∃ g, u.g = g := ⟨_, rfl⟩
                          rw [hug] at g0
                          obtain ⟨vg, hvg⟩ : ∃ g, v.g = g := ⟨_, rfl⟩
                          rw [hvg] at g13
                          have HUG := Lib.hid hug
                          have HVG := Lib.hid hvg
                          clear hug hvg
                          cases ug
                          · have HJ : Hid (joinB u v = false) := by show _ = _; unfold joinB; rw [HUG.out]; rfl
                            go_wp2_with fail
                            go_meet
                            exact ⟨by rw [← Hjb.out, HJ.out], rfl⟩
                          cases vg
                          · have HJ : Hid (joinB u v = false) := by show _ = _; unfold joinB; rw [HUG.out, HVG.out]; rfl
                            go_wp2_with fail
                            go_meet
                            exact ⟨by rw [← Hjb.out, HJ.out], rfl⟩
                          by_cases g3 : u.ga = v.ga
                          case' neg =>
                            have q3 : ((u.ga : Int) == (v.ga : Int)) = false := by rw [beq_eq_false_iff_ne]; omega
                            have HJ : Hid (joinB u v = false) := by show _ = _; unfold joinB; rw [decide_eq_false (fun e => g3 e.1)]; simp
                            clear g3 l1 l2
                            go_wp2_with fail
                            go_meet
                            exact ⟨by rw [← Hjb.out, HJ.out], rfl⟩
                          have q3 : ((u.ga : Int) == (v.ga : Int)) = true := by rw [beq_iff_eq]; omega
                          by_cases g5 : v.gf = 0
                          case' pos =>
                            have q5 : decide ((0 : Int) < (v.gf : Int)) = false := decide_eq_false (by omega)
                            have r5 : decide (0 < v.gf) = false := decide_eq_false (by omega)
                            have HJ : Hid (joinB u v = false) := by show _ = _; unfold joinB; rw [decide_eq_false (fun e => by have := e.2.1; omega)]; simp
                            clear g3 g5 l1 l2
                            go_wp2_with fail
                            go_meet
                            exact ⟨by rw [← Hjb.out, HJ.out], rfl⟩
                          have q5 : decide ((0 : Int) < (v.gf : Int)) = true := decide_eq_true (by omega)
                          have r5 : decide (0 < v.gf) = true := decide_eq_true (by omega)
                          have w6 : IntKind.u64.wrap ((v.gf : Int) - 1) = (v.gf : Int) - 1 := by rw [IntKind.wrap_u64]; omega
                          by_cases g6 : v.gf - 1 = u.gt
                          case' neg =>
                            have q6 : ((v.gf : Int) - 1 == (u.gt : Int)) = false := by rw [beq_eq_false_iff_ne]; omega
                            have HJ : Hid (joinB u v = false) := by show _ = _; unfold joinB; rw [decide_eq_false (fun e => g6 e.2.2.1)]; simp
                            clear g3 g5 g6 l1 l2
                            go_wp2_with fail
                            go_meet
                            exact ⟨by rw [← Hjb.out, HJ.out], rfl⟩
                          have q6 : ((v.gf : Int) - 1 == (u.gt : Int)) = true := by rw [beq_iff_eq]; omega
                          by_cases g7 : v.gf ≤ v.gt
                          case' neg =>
                            have q7 : decide ((v.gf : Int) ≤ (v.gt : Int)) = false := decide_eq_false (by omega)
                            have r7 : decide (v.gf ≤ v.gt) = false := decide_eq_false (by omega)
                            have HJ : Hid (joinB u v = false) := by show _ = _; unfold joinB; rw [decide_eq_false (fun e => g7 e.2.2.2)]; simp
                            clear g3 g5 g6 g7 l1 l2
                            go_wp2_with fail
                            go_meet
                            exact ⟨by rw [← Hjb.out, HJ.out], rfl⟩
                          have q7 : decide ((v.gf : Int) ≤ (v.gt : Int)) = true := decide_eq_true (by omega)
                          have r7 : decide (v.gf ≤ v.gt) = true := decide_eq_true (by omega)
                          have HJ : Hid (joinB u v = true) := by show _ = _; unfold joinB; rw [HUG.out, HVG.out, decide_eq_true ⟨g3, by omega, g6, g7⟩]; rfl
                          clear g3 g5 g6 g7 l1 l2
                          go_wp2_with fail
                          go_meet
                          exact ⟨by rw [← Hjb.out, HJ.out], rfl⟩
                        case rest =>
                          obtain ⟨rfl, rfl⟩ := hcut
                          clear g0 g13 l1 l2 HU HV HRu HRv HP Hjb
                          cases jb
                          · have hs : Hid (sameI y3 zeroI = true) := HS.out
                            clear HS
                            go_wp2_with (first
                              | ((with_reducible refine wpList_at (op := ⟨some 246, _, _, _, _, _⟩) ?_); refine wpList_load_wanted (by rfl) _ _ rfl V7.heap.size 0 rfl (listI y3 A5 n5 c5) _ (range_left (l2 := []) HS8.out) Try.underlying30 rfl (by kernel_rfl) ?_)
                              | fail)
                            refine (same_true (y := zeroI) hs.out A5 n5 c5 none 0 0 wc HN5.out rfl (by have := HN5.out; have := HK.out; unfold maxLen; omega) HR8.out RdP.nil).mono ?_
                            rintro e V8 ⟨rfl, hb⟩
                            have HBe := Lib.hid (HB2.out.trans ((HB8.out.trans (hb.mono HB8.out.size)).mono HB2.out.size))
                            clear hb
                            go_wp2_with fail
                            exact ⟨⟨k + 1, by omega, by go_num, HBe.out⟩, by simp [intOf]; omega⟩
                          · have hs : Hid (sameI y3 ⟨true, 0, 0, 0, ⟨#[]⟩, [], 0, 0, 0, 0, u.ga, u.gf, v.gt⟩ = true) := HS.out
                            clear HS
                            go_wp2_with (first
                              | ((with_reducible refine wpList_at (op := ⟨some 229, _, _, _, _, _⟩) ?_); refine wpList_load_wanted (by rfl) _ _ rfl V7.heap.size 0 rfl (listI y3 A5 n5 c5) _ (range_left (l2 := []) HS8.out) Try.underlying30 rfl (by kernel_rfl) ?_)
                              | fail)
                            refine (same_true (y := ⟨true, 0, 0, 0, ⟨#[]⟩, [], 0, 0, 0, 0, u.ga, u.gf, v.gt⟩) hs.out A5 n5 c5 none 0 0 wc HN5.out rfl (by have := HN5.out; have := HK.out; unfold maxLen; omega) HR8.out RdP.nil).mono ?_
                            rintro e V8 ⟨rfl, hb⟩
                            have HBe := Lib.hid (HB2.out.trans ((HB8.out.trans (hb.mono HB8.out.size)).mono HB2.out.size))
                            clear hb
                            go_wp2_with fail
                            exact ⟨⟨k + 1, by omega, by go_num, HBe.out⟩, by simp [intOf]; omega⟩
            · have q1 : decide ((k : Int) < 2) = false := decide_eq_false (by omega)
              have q2 : decide (k < 2) = false := decide_eq_false hlt2
              have hend := HB0.out.trans (HBr.out.mono HB0.out.size)
              clear HBr hlt2 hk HPair HB0
              go_wp2_with fail
              go_ret
              exact ⟨rfl, hend⟩
end Go.Proofs.Ytkkilfoncdbciaa.itemParts
