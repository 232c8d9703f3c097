/- Several texts in one: FrTwo, PkRdr. -/
import Derived.Laws.Shifts
import Derived.Laws.BitsAllLaws
import Derived.Test.YtnagmopejblegaaMa3
import Derived.Test.YtnagmopejblegaaMa6
import Derived.Test.YtnagmopejblegaaMa12
import Derived.Test.YtnagmopejblegaaMa36
/- Layer 5: two small frames, each in a variable of its own: what holds of the world behind that. -/
namespace Go.Proofs.Ytnagmopejblegaa
open Go.RowKit

theorem smallF_as {s : Sf} {x : Fr} (hx : smallF s = x) (hs : OkSf s) (w : World) :
    Calls Try.prog 9 #[.agg #[.int .u8 s.k, .int .u8 s.f, .int .u8 s.t, .int .u16 s.e, .int .u16 s.q, .int .u16 s.c, .int .u16 s.l, .int .u64 s.b, .bool s.i.g, .int .u8 s.i.o, .int .u8 s.i.p, .int .u8 s.i.w, .int .u16 s.i.q, .int .u16 s.i.m, .int .u16 s.i.t, .int .u8 s.i.r, .int .u8 s.i.l, .int .u8 s.i.v, .bool s.i.s]] w (FrRet x w) := by
  subst hx; exact smallF_any s hs w
theorem own_setRowF {W : World} {base : Nat} {e : TypeId} {size n g : Nat} {v : Value} {xs : List Value} (h : W.ownsRow base e size v n xs) (hg : v.ownBlock ≠ some g) (cs : Array Value) : (W.setRow g cs).ownsRow base e size v n xs := by
  refine ⟨h.1, ?_⟩
  rcases h.2 with hn | ⟨k, cap, cur, rfl, hb, hgg, rest⟩
  · exact .inl hn
  · exact .inr ⟨k, cap, cur, rfl, hb, (setRow_other W g k cs (fun e => hg (by simp [Value.ownBlock, e]))).trans hgg, rest⟩

/-- a variable for a frame at block X -/
def CellsF (V : World) (X : Nat) (t : TypeId) : Prop := ∃ cs, V.heap[X]? = some (.cells cs t (0, 0)) ∧ cs.size = 21
theorem CellsF.lt {V : World} {X : Nat} {t : TypeId} (h : CellsF V X t) : X < V.heap.size := by
  obtain ⟨cs, h1, _⟩ := h
  exact (Array.getElem?_eq_some_iff.1 h1).1
theorem CellsF.below {V V2 : World} {X : Nat} {t : TypeId} (h : CellsF V X t) (hb : Below V.heap.size V V2) : CellsF V2 X t := by
  have hl := h.lt
  obtain ⟨cs, h1, h2⟩ := h
  exact ⟨cs, (hb.block X hl).trans h1, h2⟩
theorem CellsF.other {V : World} {X Y : Nat} {t : TypeId} (h : CellsF V X t) (hne : X ≠ Y) (cs : Array Value) : CellsF (V.setRow Y cs) X t := by
  obtain ⟨c, h1, h2⟩ := h
  exact ⟨c, (setRow_other V Y X cs hne).trans h1, h2⟩
theorem CellsF.same {V : World} {X : Nat} {t : TypeId} (h : CellsF V X t) (cs : Array Value) (hs : cs.size = 21) : CellsF (V.setRow X cs) X t := by
  obtain ⟨c, h1, _⟩ := h
  exact ⟨cs, setRow_heap V X c cs t _ h1, hs⟩
theorem CellsF.new (V : World) (cs : Array Value) (t : TypeId) (hs : cs.size = 21) : CellsF (V.alloc (.cells cs t)) V.heap.size t := ⟨cs, heap_alloc_new _ _, hs⟩

/-- x at block X, y at block Y, their labels in rows of their own, nothing of it old -/
structure FXY (w0 w : World) (x y : Fr) (X Y : Nat) (A : Option Addr) (n c : Nat) (A2 : Option Addr) (n2 c2 : Nat) (tI tP : TypeId) : Prop where
  bl : Below w0.heap.size w0 w
  hx : w.heap[X]? = some (.cells #[.int .u8 x.k, .int .u8 x.f, .int .u8 x.t, .int .u64 x.e, .int .u64 x.q, .bool x.i.g, .int .u8 x.i.o, .int .u64 x.i.q, .int .u64 x.i.t, .string x.i.r, .slice A n c, .int .u8 x.i.s, .int .u8 x.i.p, .int .i64 x.i.v, .int .u8 x.i.w, .int .u8 x.i.ga, .int .u64 x.i.gf, .int .u64 x.i.gt, .int .u64 x.c, .int .u64 x.b, .int .u64 x.l] tI (0, 0))
  hy : w.heap[Y]? = some (.cells #[.int .u8 y.k, .int .u8 y.f, .int .u8 y.t, .int .u64 y.e, .int .u64 y.q, .bool y.i.g, .int .u8 y.i.o, .int .u64 y.i.q, .int .u64 y.i.t, .string y.i.r, .slice A2 n2 c2, .int .u8 y.i.s, .int .u8 y.i.p, .int .i64 y.i.v, .int .u8 y.i.w, .int .u8 y.i.ga, .int .u64 y.i.gf, .int .u64 y.i.gt, .int .u64 y.c, .int .u64 y.b, .int .u64 y.l] tI (0, 0))
  ox : w.ownsRow w0.heap.size tP 2 (.slice A n c) n (cellsP x.i.l)
  oy : w.ownsRow w0.heap.size tP 2 (.slice A2 n2 c2) n2 (cellsP y.i.l)
  nx : n = x.i.l.length
  ny : n2 = y.i.l.length
  ne : X ≠ Y
  lx : w0.heap.size ≤ X
  ly : w0.heap.size ≤ Y
  xx : (Value.slice A n c).ownBlock ≠ some X
  xy : (Value.slice A n c).ownBlock ≠ some Y
  yx : (Value.slice A2 n2 c2).ownBlock ≠ some X
  yy : (Value.slice A2 n2 c2).ownBlock ≠ some Y
theorem FXY.ltx {w0 w : World} {x y : Fr} {X Y : Nat} {A : Option Addr} {n c : Nat} {A2 : Option Addr} {n2 c2 : Nat} {tI tP : TypeId} (h : FXY w0 w x y X Y A n c A2 n2 c2 tI tP) : X < w.heap.size := (Array.getElem?_eq_some_iff.1 h.hx).1
theorem FXY.lty {w0 w : World} {x y : Fr} {X Y : Nat} {A : Option Addr} {n c : Nat} {A2 : Option Addr} {n2 c2 : Nat} {tI tP : TypeId} (h : FXY w0 w x y X Y A n c A2 n2 c2 tI tP) : Y < w.heap.size := (Array.getElem?_eq_some_iff.1 h.hy).1
theorem FXY.below {w0 w w2 : World} {x y : Fr} {X Y : Nat} {A : Option Addr} {n c : Nat} {A2 : Option Addr} {n2 c2 : Nat} {tI tP : TypeId} (h : FXY w0 w x y X Y A n c A2 n2 c2 tI tP) (hb : Below w.heap.size w w2) : FXY w0 w2 x y X Y A n c A2 n2 c2 tI tP :=
  ⟨h.bl.trans (hb.mono h.bl.size), (hb.block _ h.ltx).trans h.hx, (hb.block _ h.lty).trans h.hy, own_below h.ox hb, own_below h.oy hb, h.nx, h.ny, h.ne, h.lx, h.ly, h.xx, h.xy, h.yx, h.yy⟩
end Go.Proofs.Ytnagmopejblegaa
/- Layer 3: pack.Reader: what it holds; its calls Left, Err, Fail, Byte, Done; those of a nil one. -/
namespace Go.Proofs.Ytnagmopejblegaa
open Go.RowKit

/-- the Reader at block g: the bytes that are left, its error -/
structure Rdr (w : World) (g : Nat) (l : List Nat) (er : Int) : Prop where
  lt : g < w.heap.size
  c0 : ∃ A n c, w.cell? ⟨g, 0, none⟩ = some (.slice A n c) ∧ Hid (n = l.length) ∧ n ≤ c ∧ Hid (A = none → n = 0 ∧ c = 0) ∧ RdB w g A l ∧ n ≤ 2097152 ∧ (∀ a, A = some a → ∃ b o, a = ⟨b, o, none⟩)
  c1 : w.cell? ⟨g, 1, none⟩ = some (.int .i64 er)
  f0 : w.frozen? ⟨g, 0, none⟩ = false
  f1 : w.frozen? ⟨g, 1, none⟩ = false
  ok : OkB l
  none_ : er ≠ 0 → l = []

section
variable {w w' : World} {g : Nat} {l : List Nat} {er : Int}
theorem Rdr.keep (h : Rdr w g l er) (hb : w'.heap.size ≥ w.heap.size) (hk : ∀ k, k ≤ g → w'.heap[k]? = w.heap[k]?) : Rdr w' g l er := by
  obtain ⟨h1, ⟨A, n, c, h2, h3, h4, h5, h6, h7⟩, h8, h9, h10, h11, h12⟩ := h
  have hc : ∀ o, w'.cell? ⟨g, o, none⟩ = w.cell? ⟨g, o, none⟩ := fun o => World.cell?_of_block (hk g (Nat.le_refl _))
  have hf : ∀ o, w'.frozen? ⟨g, o, none⟩ = w.frozen? ⟨g, o, none⟩ := fun o => World.frozen?_of_block (hk g (Nat.le_refl _))
  exact ⟨by omega, ⟨A, n, c, (hc 0).trans h2, h3, h4, h5, h6.keep fun p hp => World.cell?_of_block (hk _ (by omega)), h7⟩, (hc 1).trans h8, (hf 0).trans h9, (hf 1).trans h10, h11, h12⟩
theorem Rdr.below (h : Rdr w g l er) (hb : Below w.heap.size w w') : Rdr w' g l er := h.keep hb.size fun k hk => hb.block k (by have := h.lt; omega)
theorem Rdr.other (h : Rdr w g l er) {g2 : Nat} (hg : w.grownBy w' (some g2)) (hne : g < g2) : Rdr w' g l er := h.keep hg.size fun k hk => hg.block k (by have := h.lt; omega) (by simp; omega)
/-- its slice turned: the bytes that are left then -/
theorem Rdr.cut (h : Rdr w g l er) {A : Option Addr} {n c : Nat} {l2 : List Nat} (hn : n = l2.length) (hc : n ≤ c) (hA : A = none → n = 0 ∧ c = 0) (hr : RdB w g A l2) (hm : n ≤ 2097152) (hs : ∀ a, A = some a → ∃ b o, a = ⟨b, o, none⟩) (hok : OkB l2) (he : er ≠ 0 → l2 = []) : Rdr (w.setCell ⟨g, 0, none⟩ (.slice A n c)) g l2 er := by
  obtain ⟨h1, ⟨A0, n0, c0, h2, h3, h4, h5, h6, h7⟩, h8, h9, h10, h11, h12⟩ := h
  exact ⟨by simpa using h1, ⟨A, n, c, World.cell?_setCell_same _ _ _ h2, hn, hc, hA, hr.keep fun p hp => World.cell?_setCell_other _ _ _ _ (fun e => by rw [← e] at hp; simp at hp), hm, hs⟩, (World.cell?_setCell_other _ ⟨g, 0, none⟩ ⟨g, 1, none⟩ _ (by simp)).trans h8, by simpa using h9, by simpa using h10, hok, he⟩
/-- its error laid, nothing left -/
theorem Rdr.failed (h : Rdr w g l er) (e : Int) : Rdr ((w.setCell ⟨g, 0, none⟩ (.slice none 0 0)).setCell ⟨g, 1, none⟩ (.int .i64 e)) g [] e := by
  obtain ⟨h1, ⟨A0, n0, c0, h2, h3, h4, h5, h6, h7⟩, h8, h9, h10, h11, h12⟩ := h
  exact ⟨by simpa using h1, ⟨none, 0, 0, (World.cell?_setCell_other _ ⟨g, 1, none⟩ ⟨g, 0, none⟩ _ (by simp)).trans (World.cell?_setCell_same _ _ _ h2), rfl, Nat.le_refl _, fun _ => ⟨rfl, rfl⟩, RdB.empty, by omega, fun a e => (by cases e)⟩, World.cell?_setCell_same _ _ _ ((World.cell?_setCell_other _ ⟨g, 0, none⟩ ⟨g, 1, none⟩ _ (by simp)).trans h8), by simpa using h9, by simpa using h10, OkB.nil, fun _ => rfl⟩
end
theorem grown_set (w : World) (g o : Nat) (v : Value) : w.grownBy (w.setCell ⟨g, o, none⟩ v) (some g) := ⟨rfl, rfl, rfl, by simp, fun k _ hne => Below.heap_setCell _ _ _ k (fun e => hne (by rw [e]))⟩

set_option maxHeartbeats 400000 in
theorem rleft_any (g : Nat) (l : List Nat) (er : Int) (w : World) (h : Rdr w g l er) :
    Calls Try.prog 44 #[.pointer (some ⟨g, 0, none⟩)] w fun e w' => e = .returned (.int .i64 (l.length : Nat)) ∧ w = w' := by
  obtain ⟨A, n, c, hc, hn, _⟩ := h.c0
  clear h
  go_enter Try.func44, Try.ntmps44
  go_wp2
  go_ret
  exact ⟨by rw [← hn.out]; rfl, rfl⟩
set_option maxHeartbeats 400000 in
theorem rleft_nil (w : World) :
    Calls Try.prog 44 #[.pointer none] w fun e w' => e = .returned (.int .i64 0) ∧ w = w' := by
  go_enter Try.func44, Try.ntmps44
  go_wp2
  go_ret
  exact ⟨rfl, rfl⟩
set_option maxHeartbeats 400000 in
theorem rerr_any (g : Nat) (l : List Nat) (er : Int) (w : World) (h : Rdr w g l er) :
    Calls Try.prog 45 #[.pointer (some ⟨g, 0, none⟩)] w fun e w' => e = .returned (.int .i64 er) ∧ w = w' := by
  have hc := h.c1
  clear h
  go_enter Try.func45, Try.ntmps45
  go_wp2
  go_ret
  exact ⟨rfl, rfl⟩
set_option maxHeartbeats 400000 in
theorem rerr_nil (w : World) :
    Calls Try.prog 45 #[.pointer none] w fun e w' => e = .returned (.int .i64 1) ∧ w = w' := by
  go_enter Try.func45, Try.ntmps45
  go_wp2
  go_ret
  exact ⟨rfl, rfl⟩
set_option maxHeartbeats 400000 in
theorem rfail_nil (z : Int) (w : World) :
    Calls Try.prog 41 #[.pointer none, .int .i64 z] w fun e w' => e = .returned (.tuple #[]) ∧ w = w' := by
  go_enter Try.func41, Try.ntmps41
  go_wp2
  refine bodyPost_ret (results_none rfl _ _ _) rfl ?_
  exact ⟨rfl, rfl⟩
set_option maxHeartbeats 400000 in
/-- Fail where nothing is to be laid -/
theorem rfail_keep (g : Nat) (l : List Nat) (er z : Int) (hz : er ≠ 0 ∨ z = 0) (w : World) (h : Rdr w g l er) :
    Calls Try.prog 41 #[.pointer (some ⟨g, 0, none⟩), .int .i64 z] w fun e w' => e = .returned (.tuple #[]) ∧ w = w' := by
  have hc := h.c1
  clear h
  by_cases he : er = 0
  · subst he
    obtain rfl : z = 0 := by omega
    go_enter Try.func41, Try.ntmps41
    go_wp2
    refine bodyPost_ret (results_none rfl _ _ _) rfl ?_
    exact ⟨rfl, rfl⟩
  · have he2 : (er != 0) = true := by simpa using he
    clear he hz
    go_enter Try.func41, Try.ntmps41
    go_wp2
    refine bodyPost_ret (results_none rfl _ _ _) rfl ?_
    exact ⟨rfl, rfl⟩
set_option maxHeartbeats 400000 in
/-- Fail where there is no error yet -/
theorem rfail_set (g : Nat) (l : List Nat) (z : Int) (hz : z ≠ 0) (w : World) (h : Rdr w g l 0) :
    Calls Try.prog 41 #[.pointer (some ⟨g, 0, none⟩), .int .i64 z] w fun e w' => e = .returned (.tuple #[]) ∧ Rdr w' g [] z ∧ w.grownBy w' (some g) := by
  have hc := h.c1
  have f0 := h.f0
  have f1 := h.f1
  obtain ⟨A, n, c, c0, _⟩ := h.c0
  have H := Lib.hid h
  clear h
  have hz2 : (z == 0) = false := by simpa using hz
  clear hz
  go_enter Try.func41, Try.ntmps41
  go_wp2
  go_end0
  exact ⟨rfl, H.out.failed z, grownBy_trans (grown_set _ _ _ _) (grown_set _ _ _ _)⟩

set_option maxHeartbeats 400000 in
theorem rbyte_err (g : Nat) (er : Int) (he : er ≠ 0) (w : World) (h : Rdr w g [] er) :
    Calls Try.prog 40 #[.pointer (some ⟨g, 0, none⟩)] w fun e w' => e = .returned (.int .u8 0) ∧ w = w' := by
  have H := Lib.hid h
  clear h
  go_enter Try.func40, Try.ntmps40
  go_wp2_with fail
  refine (rleft_any g [] er w H.out).mono ?_
  rintro e w1 ⟨rfl, rfl⟩
  go_wp2_with fail
  refine (rfail_keep g [] er 3 (.inl he) w H.out).mono ?_
  rintro e w1 ⟨rfl, rfl⟩
  go_wp2
  go_ret
  exact ⟨rfl, rfl⟩
set_option maxHeartbeats 400000 in
theorem rbyte_short (g : Nat) (w : World) (h : Rdr w g [] 0) :
    Calls Try.prog 40 #[.pointer (some ⟨g, 0, none⟩)] w fun e w' => e = .returned (.int .u8 0) ∧ Rdr w' g [] 3 ∧ w.grownBy w' (some g) := by
  have H := Lib.hid h
  clear h
  go_enter Try.func40, Try.ntmps40
  go_wp2_with fail
  refine (rleft_any g [] 0 w H.out).mono ?_
  rintro e w1 ⟨rfl, rfl⟩
  go_wp2_with fail
  refine (rfail_set g [] 3 (by decide) w H.out).mono ?_
  rintro e w1 ⟨rfl, h1, h2⟩
  have H1 := Lib.hid h1
  have H2 := Lib.hid h2
  clear h1 h2
  go_wp2
  go_ret
  exact ⟨rfl, H1.out, H2.out⟩
set_option maxHeartbeats 400000 in
theorem rbyte_nil (w : World) :
    Calls Try.prog 40 #[.pointer none] w fun e w' => e = .returned (.int .u8 0) ∧ w = w' := by
  go_enter Try.func40, Try.ntmps40
  go_wp2_with fail
  refine (rleft_nil w).mono ?_
  rintro e w1 ⟨rfl, rfl⟩
  go_wp2_with fail
  refine (rfail_nil 3 w).mono ?_
  rintro e w1 ⟨rfl, rfl⟩
  go_wp2
  go_ret
  exact ⟨rfl, rfl⟩
set_option maxHeartbeats 400000 in
theorem rbyte_cons (g : Nat) (x : Nat) (l : List Nat) (w : World) (h : Rdr w g (x :: l) 0) :
    Calls Try.prog 40 #[.pointer (some ⟨g, 0, none⟩)] w fun e w' => e = .returned (.int .u8 x) ∧ Rdr w' g l 0 ∧ w.grownBy w' (some g) := by
  have H := Lib.hid h
  have f0 := h.f0
  obtain ⟨A, n, c, c0, hn, hnc, hA, hr, hm, hs⟩ := h.c0
  obtain ⟨b, o, rfl, hb, hcs⟩ := hr (by simp)
  have cx : w.cell? ⟨b, o, none⟩ = some (.int .u8 x) := hcs 0 x rfl
  have Hcs := Lib.hid hcs
  have Hr := Lib.hid hr
  have hpos : 0 < n := by rw [hn.out]; simp
  obtain ⟨m, rfl⟩ : ∃ m, n = m + 1 := ⟨n - 1, by omega⟩
  clear h hcs hr hs
  go_enter Try.func40, Try.ntmps40
  go_wp2_with fail
  refine (rleft_any g (x :: l) 0 w H.out).mono ?_
  rintro e w1 ⟨rfl, rfl⟩
  go_wp2
  · go_ret
    have hl : m = l.length := by have := hn.out; simpa using this
    obtain rfl : l = [] := List.eq_nil_of_length_eq_zero (by omega)
    obtain rfl : m = 0 := by simpa using hl
    exact ⟨rfl, H.out.cut rfl (Nat.le_refl _) (fun e => by cases e) RdB.empty (by omega) (fun a e => by cases e; exact ⟨_, _, rfl⟩) OkB.nil (fun _ => rfl), grown_set _ _ _ _⟩
  · go_ret
    have hl : m = l.length := by have := hn.out; simpa using this
    exact ⟨rfl, H.out.cut hl (by omega) (fun e => by cases e) (Hr.out.drop 1) (by omega) (fun a e => by cases e; exact ⟨_, _, rfl⟩) (fun y hy => H.out.ok y (by simp [hy])) (fun e => absurd rfl e), grown_set _ _ _ _⟩
end Go.Proofs.Ytnagmopejblegaa
