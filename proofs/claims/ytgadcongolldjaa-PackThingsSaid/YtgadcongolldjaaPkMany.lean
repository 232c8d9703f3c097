/- Layer 3: many things: their bytes; a Writer and a second row that grows beside it. -/
import Derived.Test.YtgadcongolldjaaPkBack
import Derived.Test.YtgadcongolldjaaPkThings
namespace Go.Proofs.Ytgadcongolldjaa
open Go.RowKit

theorem own_nil {W : World} {base : Nat} {e : TypeId} {n c : Nat} {xs : List Value} (h : W.ownsRow base e 1 (.slice none n c) n xs) : n = 0 ∧ c = 0 := by
  rcases h.2 with ⟨e, _⟩ | ⟨_, _, _, e, _⟩
  · injection e with _ e1 e2; exact ⟨e1, e2⟩
  · injection e with e; cases e
/-- the bytes of things, one behind the other -/
def encL : List Th → List Nat
  | [] => []
  | x :: l => thingB x.1 x.2.1 x.2.2 ++ encL l
theorem encL_append : ∀ (a b : List Th), encL (a ++ b) = encL a ++ encL b
  | [], b => rfl
  | x :: a, b => by rw [List.cons_append, encL, encL, encL_append a b, List.append_assoc]
theorem encL_take {l : List Th} {i : Nat} {x : Th} (h : l[i]? = some x) : encL (l.take (i + 1)) = encL (l.take i) ++ thingB x.1 x.2.1 x.2.2 := by
  obtain ⟨h1, rfl⟩ := List.getElem?_eq_some_iff.1 h
  rw [List.take_succ_eq_append_getElem h1, encL_append, encL, encL, List.append_nil]
theorem encL_drop {l : List Th} {i : Nat} {x : Th} (h : l[i]? = some x) : encL (l.drop i) = thingB x.1 x.2.1 x.2.2 ++ encL (l.drop (i + 1)) := by
  obtain ⟨h1, rfl⟩ := List.getElem?_eq_some_iff.1 h
  rw [List.drop_eq_getElem_cons h1, encL]
theorem thingB_ok {x : Th} (h : OkTh x) : OkB (thingB x.1 x.2.1 x.2.2) := by
  obtain ⟨h1, h2, h3⟩ := h
  have hz := zig_lt (toI_bounds h2).1 (toI_bounds h2).2
  unfold thingB
  split
  · intro y hy; simp at hy; omega
  · exact leb_bytes h2
  · exact leb_bytes hz
  · intro y hy; simp at hy; omega
  · exact OkB.append (leb_bytes (by unfold maxLen at h3; omega)) (bytesN_ok _)
theorem thingB_len {x : Th} (h : OkTh x) : (thingB x.1 x.2.1 x.2.2).length ≤ 10 + x.2.2.size := by
  obtain ⟨h1, h2, h3⟩ := h
  have hz := zig_lt (toI_bounds h2).1 (toI_bounds h2).2
  unfold thingB
  split
  · simp; omega
  · have := leb_le10 h2; omega
  · have := leb_le10 hz; omega
  · simp; omega
  · have := leb_le10 (n := x.2.2.size) (by unfold maxLen at h3; omega)
    rw [List.length_append, bytesN_length]; omega
theorem encL_ok : ∀ {l : List Th}, (∀ x ∈ l, OkTh x) → OkB (encL l)
  | [], _ => OkB.nil
  | x :: l, h => OkB.append (thingB_ok (h x (by simp))) (encL_ok fun y hy => h y (by simp [hy]))
theorem RdT.below {w w' : World} {B : Nat} {A : Option Addr} {l : List Th} (h : RdT w B A l) (hb : Below B w w') : RdT w' B A l := fun h0 => by
  obtain ⟨b, o, e, h1, h2⟩ := h h0
  exact ⟨b, o, e, h1, fun i x hx => ⟨(hb.cell (p := ⟨b, _, none⟩) h1).trans (h2 i x hx).1, (hb.cell (p := ⟨b, _, none⟩) h1).trans (h2 i x hx).2.1, (hb.cell (p := ⟨b, _, none⟩) h1).trans (h2 i x hx).2.2⟩⟩
theorem RdT.at_ {w : World} {B : Nat} {A : Option Addr} {l : List Th} {k : Nat} (h : RdT w B A l) (hk : k < l.length) :
    ∃ b o x, A = some ⟨b, o, none⟩ ∧ b < B ∧ l[k]? = some x ∧ w.cell? ⟨b, o + k * 3, none⟩ = some (.int .u8 x.1) ∧ w.cell? ⟨b, o + k * 3 + 1, none⟩ = some (.int .u64 x.2.1) ∧ w.cell? ⟨b, o + k * 3 + 2, none⟩ = some (.string x.2.2) := by
  obtain ⟨b, o, e, h1, h2⟩ := h (by omega)
  have hx : l[k]? = some l[k] := List.getElem?_eq_getElem hk
  exact ⟨b, o, _, e, h1, hx, h2 k _ hx⟩

theorem RdB.grownAt {w w' : World} {B k : Nat} {A : Option Addr} {l : List Nat} (h : RdB w B A l) (hg : w.grownBy w' (some k)) (hk : B ≤ k) : RdB w' B A l := fun h0 => by
  obtain ⟨b, o, e, hb, hc⟩ := h h0
  exact ⟨b, o, e, hb, fun i x hx => hg.cell (hc i x hx) fun e' => by injection e' with e'; subst e'; exact absurd hb (Nat.not_lt.2 hk)⟩

/-- a Writer at block g, and a row of the same bytes beside it -/
structure Two (w0 w : World) (g : Nat) (vw : Value) (e : List Nat) : Prop where
  wtr : ∃ v, Wtr w g v e ∧ ∀ k, vw.ownBlock = some k → v.ownBlock ≠ some k
  own : w.ownsRow (g + 1) 5 1 vw e.length (cellsB e)
  blw : Below w0.heap.size w0 w
section
variable {w0 w w2 w3 : World} {g : Nat} {v v' vw vw' : Value} {e t : List Nat}
theorem two_ne (hd : ∀ k, vw.ownBlock = some k → v.ownBlock ≠ some k) : vw.ownBlock = none ∨ vw.ownBlock ≠ v.ownBlock := by
  rcases h : vw.ownBlock with _ | k
  · exact .inl rfl
  · exact .inr fun h2 => hd k h h2.symm
theorem two_en (hd : ∀ k, vw.ownBlock = some k → v.ownBlock ≠ some k) : v.ownBlock = none ∨ v.ownBlock ≠ vw.ownBlock := by
  rcases h : vw.ownBlock with _ | k
  · rcases h2 : v.ownBlock with _ | k2
    · exact .inl rfl
    · exact .inr (by simp)
  · exact .inr (hd k h)
theorem Two.new (h : Below w0.heap.size w0 w) (ty : TypeId) : Two w0 (w.alloc (.cells #[.slice none 0 0] ty)) w.heap.size (.slice none 0 0) [] :=
  ⟨⟨_, Wtr.new w ty, fun k hk => by cases hk⟩, World.ownsRow_nil _ _ _ _, h.alloc h.size _⟩
theorem Two.below (h : Two w0 w g vw e) (hb : Below w.heap.size w w2) : Two w0 w2 g vw e := by
  obtain ⟨⟨v, h1, h2⟩, h3, h4⟩ := h
  exact ⟨⟨v, h1.below hb, h2⟩, ownB_below h3 hb, h4.trans (hb.mono h4.size)⟩
theorem two_put (hg0 : w0.heap.size ≤ g) (H : Wtr w g v e) (hd : ∀ k, vw.ownBlock = some k → v.ownBlock ≠ some k) (ho : w.ownsRow (g + 1) 5 1 vw e.length (cellsB e)) (hb : Below w0.heap.size w0 w) (hP : Puts w w2 g v (e ++ t)) :
    ∃ v', Wtr w2 g v' (e ++ t) ∧ (∀ k, vw.ownBlock = some k → v'.ownBlock ≠ some k) ∧ w2.ownsRow (g + 1) 5 1 vw e.length (cellsB e) ∧ Below w0.heap.size w0 w2 := by
  obtain ⟨v', h1, h2⟩ := hP
  refine ⟨v', h1, fun k hk => ?_, h2.own ho (fun e => by have := (ho.lt g e).1; omega) (two_ne hd), hb.trans (h2.below hb.size hg0 fun k hk => by have := (H.own.lt k hk).1; omega)⟩
  rcases h2.row with e1 | ⟨j, e1, hj⟩
  · rw [e1]; exact hd k hk
  · rw [e1]
    have := (ho.lt k hk).2
    intro e2; injection e2 with e2; omega
theorem two_app (hg0 : w0.heap.size ≤ g) (H : Wtr w2 g v (e ++ t)) (hd : ∀ k, vw.ownBlock = some k → v.ownBlock ≠ some k) (ho : w2.ownsRow (g + 1) 5 1 vw e.length (cellsB e)) (hb : Below w0.heap.size w0 w2)
    (ho3 : w3.ownsRow (g + 1) 5 1 vw' (e.length + t.length) (cellsB e ++ cellsB t)) (hg : w2.grownBy w3 vw.ownBlock) (hr : vw'.ownBlock = vw.ownBlock ∨ vw'.ownBlock = some w2.heap.size) : Two w0 w3 g vw' (e ++ t) := by
  refine ⟨⟨v, ⟨Nat.lt_of_lt_of_le H.lt hg.size, ?_, H.own.kept (row := vw.ownBlock) hg (two_en hd), ?_⟩, fun k hk => ?_⟩, ?_, hb.grown hg hb.size fun q hq => by have := (ho.lt q hq).1; omega⟩
  · exact (hg.cell_far ⟨g, 0, none⟩ H.lt (fun e => by have := (ho.lt g e.symm).1; omega)).trans H.c0
  · exact (hg.frozen_far ⟨g, 0, none⟩ H.lt (fun e => by have := (ho.lt g e.symm).1; omega)).trans H.fz
  · rcases hr with h | h
    · exact hd k (h ▸ hk)
    · rw [h] at hk
      injection hk with hk
      intro e2
      have := (H.own.lt k e2).2
      omega
  · rw [cellsB_append, List.length_append]; exact ho3
end
end Go.Proofs.Ytgadcongolldjaa
