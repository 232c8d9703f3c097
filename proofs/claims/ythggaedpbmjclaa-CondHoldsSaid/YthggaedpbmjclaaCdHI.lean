/- Layer 13: CondHolds in numbers: the series and the document's row side by side. -/
import Derived.Test.YthggaedpbmjclaaCdRHol
import Derived.Test.YthggaedpbmjclaaCdSmall
namespace Go.Proofs.Ythggaedpbmjclaa
open Go.RowKit Go.Proofs

/-- the series at s and the row v hold the same points, the last one no later than now -/
structure HoI (w wx : World) (s : Nat) (v : Value) (L : List Pt) (now : Nat) : Prop where
  ser : SerAt wx s L
  row : RowP wx w.heap.size s v L
  ok : ∀ q ∈ L, OkPt q
  lst : ∀ p, L.getLast? = some p → p.t ≤ now
  bl : Below w.heap.size w wx
  lo : w.heap.size ≤ s
section
variable {w wx w' : World} {s now : Nat} {v : Value} {L : List Pt}
theorem HoI.below (h : HoI w wx s v L now) (hb : Below wx.heap.size wx w') : HoI w w' s v L now :=
  ⟨h.ser.below hb, h.row.below hb, h.ok, h.lst, h.bl.trans (hb.mono h.bl.size), h.lo⟩
theorem hoi_add {t : Nat} {z : Int} (h : HoI w wx s v L now) (ht : now ≤ t) (ht2 : t ≤ 1099511627776) : Calls Try.prog 6 #[.pointer (some ⟨s, 0, none⟩), .int .u64 t, .int .i64 z] wx fun e w' =>
    e = .returned (.int .i64 0) ∧ SerAt w' s (addP L ⟨t, z⟩) ∧ RowP w' w.heap.size s v L ∧ Below w.heap.size w w' ∧ Only13 s wx w' := by
  refine (cadd_ok wx h.ser (fun p hp => Nat.le_trans (h.lst p hp) ht) ht2).mono ?_
  rintro e w' ⟨rfl, h1, h2⟩
  exact ⟨rfl, h1, h.row.only h2, h2.below h.bl h.bl.size h.lo, h2⟩
theorem addP_app (L : List Pt) (p : Pt) (h : L.length ≤ 32) : addP L p = if 32 < (L ++ [p]).length then (L ++ [p]).drop 1 else L ++ [p] := by
  unfold addP
  by_cases e : L.length = 32
  · rw [if_pos e, if_pos (by simp; omega), List.drop_append_of_le_length (by omega)]
  · rw [if_neg e, if_neg (by simp; omega)]
theorem wpList_append_pt {w : World} {B : Nat} {p : Pt} {ops : Array Oper} {rest : List Oper} {o : Oper} {a : Act} {Q : Exit → Act → World → Prop} (hgd : o.guard = none) (x y : Operand)
    (ho : o.op = .call { callee := .builtin .append, args := #[x, y], argTypes := #[36, 36] }) (hv : a.eval x = v) (h : RowP w B s v L) (hL : L.length ≤ 1000) {ad : Addr} {c2 : Nat} (hy : a.eval y = .slice (some ad) 1 c2)
    (hx : ∀ (j : Nat) u, (ptC p)[j]? = some u → w.cell? (ad.add j) = some u) (hB : B ≤ w.heap.size) (hs : s < w.heap.size)
    (hK : ∀ v' w', RowP w' B s v' (L ++ [p]) → (∀ w0, Below B w0 w → Below B w0 w') → w'.heap[s]? = w.heap[s]? → wpList Try.prog ops Q rest (a.put o.dst v') w') : wpList Try.prog ops Q (o :: rest) a w := by
  refine wpList_plain hgd fun K hK' => ?_
  obtain ⟨v', w', hrun, h1, h2, h3⟩ := h.app (c2 := c2) hL hx hB hs o.type
  unfold Oper.wp execOp
  simp only [ho, resolve, invoke, builtin, Sem.run_bind, Sem.run_pure, Result.andThen_ok, List.map_toArray, List.map_cons, List.map_nil, hv, hy, hrun]
  exact hK' _ _ (hK v' w' h1 h2 h3)
end
/-- a point as it comes in: how long behind the last one, its number -/
structure Pi where
  d : Nat
  z : Int
structure OkPi (p : Pi) : Prop where
  d : p.d < 256
  lo : -9223372036854775808 ≤ p.z
  hi : p.z < 9223372036854775808
/-- The slice at A reads as these points. -/
def RdPi (w : World) (A : Option Addr) (l : List Pi) : Prop :=
  0 < l.length → ∃ b o, A = some ⟨b, o, none⟩ ∧ b < w.heap.size ∧ ∀ (i : Nat) x, l[i]? = some x → w.rangeAt b (o + i * 2) [.int .u8 x.d, .int .i64 x.z]
theorem RdPi.at_ {w w' : World} {A : Option Addr} {l : List Pi} {k : Nat} (h : RdPi w A l) (hb : Below w.heap.size w w') (hk : k < l.length) :
    ∃ b o x, A = some ⟨b, o, none⟩ ∧ l[k]? = some x ∧ w'.rangeAt b (o + k * 2) [.int .u8 x.d, .int .i64 x.z] := by
  obtain ⟨b, o, e, hlt, hc⟩ := h (by omega)
  have hx : l[k]? = some l[k] := List.getElem?_eq_getElem hk
  exact ⟨b, o, l[k], e, hx, fun j u hj => (hb.cell (p := ⟨b, o + k * 2 + j, none⟩) hlt).trans (hc k _ hx j u hj)⟩
end Go.Proofs.Ythggaedpbmjclaa
