/- Layer 4: two small items, each in a variable of its own: what holds of the world behind that. -/
import Derived.Test.YtileaoanekphaaaItSmallAll
import Derived.Test.YtileaoanekphaaaItSmallOk
import Derived.Test.YtileaoanekphaaaHeld
namespace Go.Proofs.Ytileaoanekphaaa
open Go.RowKit

theorem smallItem_as {s : Sm} {x : It} (hx : smallI s = x) (hs : OkS s) (w : World) :
    Calls Try.prog 11 #[.agg #[.bool s.g, .int .u8 s.o, .int .u8 s.p, .int .u8 s.w, .int .u16 s.q, .int .u16 s.m, .int .u16 s.t, .int .u8 s.r, .int .u8 s.l, .int .u8 s.v, .bool s.s]] w (ItRet x w) := by
  subst hx; exact smallItem_any s hs w
theorem own_setRow2 {W : World} {base : Nat} {e : TypeId} {size n g : Nat} {v : Value} {xs : List Value} (h : W.ownsRow base e size v n xs) (hg : v.ownBlock ≠ some g) (cs : Array Value) : (W.setRow g cs).ownsRow base e size v n xs := by
  refine ⟨h.1, ?_⟩
  rcases h.2 with hn | ⟨k, cap, cur, rfl, hb, hgg, rest⟩
  · exact .inl hn
  · exact .inr ⟨k, cap, cur, rfl, hb, (setRow_other W g k cs (fun e => hg (by simp [Value.ownBlock, e]))).trans hgg, rest⟩

/-- a variable for an item at block X -/
def CellsAt (V : World) (X : Nat) (t : TypeId) : Prop := ∃ cs, V.heap[X]? = some (.cells cs t (0, 0)) ∧ cs.size = 13
theorem CellsAt.lt {V : World} {X : Nat} {t : TypeId} (h : CellsAt V X t) : X < V.heap.size := by
  obtain ⟨cs, h1, _⟩ := h
  exact (Array.getElem?_eq_some_iff.1 h1).1
theorem CellsAt.below {V V2 : World} {X : Nat} {t : TypeId} (h : CellsAt V X t) (hb : Below V.heap.size V V2) : CellsAt V2 X t := by
  have hl := h.lt
  obtain ⟨cs, h1, h2⟩ := h
  exact ⟨cs, (hb.block X hl).trans h1, h2⟩
theorem CellsAt.other {V : World} {X Y : Nat} {t : TypeId} (h : CellsAt V X t) (hne : X ≠ Y) (cs : Array Value) : CellsAt (V.setRow Y cs) X t := by
  obtain ⟨c, h1, h2⟩ := h
  exact ⟨c, (setRow_other V Y X cs hne).trans h1, h2⟩
theorem CellsAt.same {V : World} {X : Nat} {t : TypeId} (h : CellsAt V X t) (cs : Array Value) (hs : cs.size = 13) : CellsAt (V.setRow X cs) X t := by
  obtain ⟨c, h1, _⟩ := h
  exact ⟨cs, setRow_heap V X c cs t _ h1, hs⟩
theorem CellsAt.new (V : World) (cs : Array Value) (t : TypeId) (hs : cs.size = 13) : CellsAt (V.alloc (.cells cs t)) V.heap.size t := ⟨cs, heap_alloc_new _ _, hs⟩

/-- x at block X, y at block Y, their labels in rows of their own, nothing of it old -/
structure XY (w0 w : World) (x y : It) (X Y : Nat) (A : Option Addr) (n c : Nat) (A2 : Option Addr) (n2 c2 : Nat) (tI tP : TypeId) : Prop where
  bl : Below w0.heap.size w0 w
  hx : w.heap[X]? = some (.cells #[.bool x.g, .int .u8 x.o, .int .u64 x.q, .int .u64 x.t, .string x.r, .slice A n c, .int .u8 x.s, .int .u8 x.p, .int .i64 x.v, .int .u8 x.w, .int .u8 x.ga, .int .u64 x.gf, .int .u64 x.gt] tI (0, 0))
  hy : w.heap[Y]? = some (.cells #[.bool y.g, .int .u8 y.o, .int .u64 y.q, .int .u64 y.t, .string y.r, .slice A2 n2 c2, .int .u8 y.s, .int .u8 y.p, .int .i64 y.v, .int .u8 y.w, .int .u8 y.ga, .int .u64 y.gf, .int .u64 y.gt] tI (0, 0))
  ox : w.ownsRow w0.heap.size tP 2 (.slice A n c) n (cellsP x.l)
  oy : w.ownsRow w0.heap.size tP 2 (.slice A2 n2 c2) n2 (cellsP y.l)
  nx : n = x.l.length
  ny : n2 = y.l.length
  ne : X ≠ Y
  lx : w0.heap.size ≤ X
  ly : w0.heap.size ≤ Y
  xx : (Value.slice A n c).ownBlock ≠ some X
  xy : (Value.slice A n c).ownBlock ≠ some Y
  yx : (Value.slice A2 n2 c2).ownBlock ≠ some X
  yy : (Value.slice A2 n2 c2).ownBlock ≠ some Y
theorem XY.ltx {w0 w : World} {x y : It} {X Y : Nat} {A : Option Addr} {n c : Nat} {A2 : Option Addr} {n2 c2 : Nat} {tI tP : TypeId} (h : XY w0 w x y X Y A n c A2 n2 c2 tI tP) : X < w.heap.size := (Array.getElem?_eq_some_iff.1 h.hx).1
theorem XY.lty {w0 w : World} {x y : It} {X Y : Nat} {A : Option Addr} {n c : Nat} {A2 : Option Addr} {n2 c2 : Nat} {tI tP : TypeId} (h : XY w0 w x y X Y A n c A2 n2 c2 tI tP) : Y < w.heap.size := (Array.getElem?_eq_some_iff.1 h.hy).1
theorem XY.below {w0 w w2 : World} {x y : It} {X Y : Nat} {A : Option Addr} {n c : Nat} {A2 : Option Addr} {n2 c2 : Nat} {tI tP : TypeId} (h : XY w0 w x y X Y A n c A2 n2 c2 tI tP) (hb : Below w.heap.size w w2) : XY w0 w2 x y X Y A n c A2 n2 c2 tI tP :=
  ⟨h.bl.trans (hb.mono h.bl.size), (hb.block _ h.ltx).trans h.hx, (hb.block _ h.lty).trans h.hy, own_below h.ox hb, own_below h.oy hb, h.nx, h.ny, h.ne, h.lx, h.ly, h.xx, h.xy, h.yx, h.yy⟩
end Go.Proofs.Ytileaoanekphaaa
