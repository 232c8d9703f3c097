/- Layer 4: items as plain data: what they are, whether one may be. No program is named here. -/
import Derived.Test.YtileaoanekphaaaMem
import Derived.Test.YtileaoanekphaaaPkPlain
import Derived.Test.YtileaoanekphaaaByt
namespace Go.Proofs.Ytileaoanekphaaa
open Go.RowKit

/-- an item: is it a gap; an event's origin, count, time, rule, labels, state, priority, value, own kind; a gap's origin, first and last count -/
structure It where
  g : Bool
  o : Nat
  q : Nat
  t : Nat
  r : ByteArray
  l : List Pr
  s : Nat
  p : Nat
  v : Int
  w : Nat
  ga : Nat
  gf : Nat
  gt : Nat
/-- its parts fit into their kinds -/
structure OkI (x : It) : Prop where
  o : x.o < 256
  q : x.q < 18446744073709551616
  t : x.t < 18446744073709551616
  r : x.r.size ≤ maxLen
  l : OkP x.l
  s : x.s < 256
  p : x.p < 256
  v0 : -9223372036854775808 ≤ x.v
  v1 : x.v < 9223372036854775808
  w : x.w < 256
  ga : x.ga < 256
  gf : x.gf < 18446744073709551616
  gt : x.gt < 18446744073709551616

def ownB (s : ByteArray) : Bool := decide (s.data.toList.take 4 = [111, 119, 110, 46])

def gapN (x : It) : Nat := if 31 < x.ga ∨ x.gf = 0 ∨ x.gt < x.gf ∨ 1099511627776 < x.gt then 6 else 0
def evN (x : It) : Nat :=
  if 31 < x.o ∨ x.q = 0 ∨ 1099511627776 < x.q ∨ 1099511627776 < x.t ∨ 7 < x.p then 6
  else if nameB x.r = false then 8
  else if (x.s ≠ 0 ∧ x.s ≠ 2) ∨ 2 < x.w then 12
  else if decide (x.w ≠ 0) ≠ ownB x.r then 27
  else check x.l
/-- an item's first error -/
def itemN (x : It) : Nat := if x.g then gapN x else evN x
/-- the event of x lies at block g -/
structure EvAt (w : World) (g : Nat) (x : It) (A : Option Addr) (n c : Nat) : Prop where
  lt : g < w.heap.size
  c0 : w.cell? ⟨g, 0, none⟩ = some (.int .u8 x.o)
  c1 : w.cell? ⟨g, 1, none⟩ = some (.int .u64 x.q)
  c2 : w.cell? ⟨g, 2, none⟩ = some (.int .u64 x.t)
  c3 : w.cell? ⟨g, 3, none⟩ = some (.string x.r)
  c4 : w.cell? ⟨g, 4, none⟩ = some (.slice A n c)
  c5 : w.cell? ⟨g, 5, none⟩ = some (.int .u8 x.s)
  c6 : w.cell? ⟨g, 6, none⟩ = some (.int .u8 x.p)
  c7 : w.cell? ⟨g, 7, none⟩ = some (.int .i64 x.v)
  c8 : w.cell? ⟨g, 8, none⟩ = some (.int .u8 x.w)
theorem EvAt.below {w w1 : World} {g : Nat} {x : It} {A : Option Addr} {n c : Nat} (h : EvAt w g x A n c) (hb : Below w.heap.size w w1) : EvAt w1 g x A n c :=
  ⟨Nat.lt_of_lt_of_le h.lt hb.size, (hb.cell (p := ⟨g, 0, none⟩) h.lt).trans h.c0, (hb.cell (p := ⟨g, 1, none⟩) h.lt).trans h.c1, (hb.cell (p := ⟨g, 2, none⟩) h.lt).trans h.c2, (hb.cell (p := ⟨g, 3, none⟩) h.lt).trans h.c3, (hb.cell (p := ⟨g, 4, none⟩) h.lt).trans h.c4, (hb.cell (p := ⟨g, 5, none⟩) h.lt).trans h.c5, (hb.cell (p := ⟨g, 6, none⟩) h.lt).trans h.c6, (hb.cell (p := ⟨g, 7, none⟩) h.lt).trans h.c7, (hb.cell (p := ⟨g, 8, none⟩) h.lt).trans h.c8⟩
theorem EvAt.grown {w w1 : World} {g : Nat} {x : It} {A : Option Addr} {n c k : Nat} (h : EvAt w g x A n c) (hb : w.grownBy w1 (some k)) (hk : g ≠ k) : EvAt w1 g x A n c :=
  ⟨Nat.lt_of_lt_of_le h.lt hb.size, (hb.cell_far ⟨g, 0, none⟩ h.lt (fun e => hk (Option.some.inj e))).trans h.c0, (hb.cell_far ⟨g, 1, none⟩ h.lt (fun e => hk (Option.some.inj e))).trans h.c1, (hb.cell_far ⟨g, 2, none⟩ h.lt (fun e => hk (Option.some.inj e))).trans h.c2, (hb.cell_far ⟨g, 3, none⟩ h.lt (fun e => hk (Option.some.inj e))).trans h.c3, (hb.cell_far ⟨g, 4, none⟩ h.lt (fun e => hk (Option.some.inj e))).trans h.c4, (hb.cell_far ⟨g, 5, none⟩ h.lt (fun e => hk (Option.some.inj e))).trans h.c5, (hb.cell_far ⟨g, 6, none⟩ h.lt (fun e => hk (Option.some.inj e))).trans h.c6, (hb.cell_far ⟨g, 7, none⟩ h.lt (fun e => hk (Option.some.inj e))).trans h.c7, (hb.cell_far ⟨g, 8, none⟩ h.lt (fun e => hk (Option.some.inj e))).trans h.c8⟩
theorem EvAt.new (w : World) (x : It) (A : Option Addr) (n c : Nat) (t : TypeId) : EvAt (w.alloc (.cells #[.int .u8 x.o, .int .u64 x.q, .int .u64 x.t, .string x.r, .slice A n c, .int .u8 x.s, .int .u8 x.p, .int .i64 x.v, .int .u8 x.w] t)) w.heap.size x A n c :=
  ⟨by simp, by rw [World.cell?_alloc_at _ _ _ _ rfl]; rfl, by rw [World.cell?_alloc_at _ _ _ _ rfl]; rfl, by rw [World.cell?_alloc_at _ _ _ _ rfl]; rfl, by rw [World.cell?_alloc_at _ _ _ _ rfl]; rfl, by rw [World.cell?_alloc_at _ _ _ _ rfl]; rfl, by rw [World.cell?_alloc_at _ _ _ _ rfl]; rfl, by rw [World.cell?_alloc_at _ _ _ _ rfl]; rfl, by rw [World.cell?_alloc_at _ _ _ _ rfl]; rfl, by rw [World.cell?_alloc_at _ _ _ _ rfl]; rfl⟩
/-- the item x lies at block g -/
structure ItAt (w : World) (g : Nat) (x : It) (A : Option Addr) (n c : Nat) : Prop where
  lt : g < w.heap.size
  c0 : w.cell? ⟨g, 0, none⟩ = some (.bool x.g)
  c1 : w.cell? ⟨g, 1, none⟩ = some (.int .u8 x.o)
  c2 : w.cell? ⟨g, 2, none⟩ = some (.int .u64 x.q)
  c3 : w.cell? ⟨g, 3, none⟩ = some (.int .u64 x.t)
  c4 : w.cell? ⟨g, 4, none⟩ = some (.string x.r)
  c5 : w.cell? ⟨g, 5, none⟩ = some (.slice A n c)
  c6 : w.cell? ⟨g, 6, none⟩ = some (.int .u8 x.s)
  c7 : w.cell? ⟨g, 7, none⟩ = some (.int .u8 x.p)
  c8 : w.cell? ⟨g, 8, none⟩ = some (.int .i64 x.v)
  c9 : w.cell? ⟨g, 9, none⟩ = some (.int .u8 x.w)
  c10 : w.cell? ⟨g, 10, none⟩ = some (.int .u8 x.ga)
  c11 : w.cell? ⟨g, 11, none⟩ = some (.int .u64 x.gf)
  c12 : w.cell? ⟨g, 12, none⟩ = some (.int .u64 x.gt)
theorem ItAt.below {w w1 : World} {g : Nat} {x : It} {A : Option Addr} {n c : Nat} (h : ItAt w g x A n c) (hb : Below w.heap.size w w1) : ItAt w1 g x A n c :=
  ⟨Nat.lt_of_lt_of_le h.lt hb.size, (hb.cell (p := ⟨g, 0, none⟩) h.lt).trans h.c0, (hb.cell (p := ⟨g, 1, none⟩) h.lt).trans h.c1, (hb.cell (p := ⟨g, 2, none⟩) h.lt).trans h.c2, (hb.cell (p := ⟨g, 3, none⟩) h.lt).trans h.c3, (hb.cell (p := ⟨g, 4, none⟩) h.lt).trans h.c4, (hb.cell (p := ⟨g, 5, none⟩) h.lt).trans h.c5, (hb.cell (p := ⟨g, 6, none⟩) h.lt).trans h.c6, (hb.cell (p := ⟨g, 7, none⟩) h.lt).trans h.c7, (hb.cell (p := ⟨g, 8, none⟩) h.lt).trans h.c8, (hb.cell (p := ⟨g, 9, none⟩) h.lt).trans h.c9, (hb.cell (p := ⟨g, 10, none⟩) h.lt).trans h.c10, (hb.cell (p := ⟨g, 11, none⟩) h.lt).trans h.c11, (hb.cell (p := ⟨g, 12, none⟩) h.lt).trans h.c12⟩
theorem ItAt.grown {w w1 : World} {g : Nat} {x : It} {A : Option Addr} {n c k : Nat} (h : ItAt w g x A n c) (hb : w.grownBy w1 (some k)) (hk : g ≠ k) : ItAt w1 g x A n c :=
  ⟨Nat.lt_of_lt_of_le h.lt hb.size, (hb.cell_far ⟨g, 0, none⟩ h.lt (fun e => hk (Option.some.inj e))).trans h.c0, (hb.cell_far ⟨g, 1, none⟩ h.lt (fun e => hk (Option.some.inj e))).trans h.c1, (hb.cell_far ⟨g, 2, none⟩ h.lt (fun e => hk (Option.some.inj e))).trans h.c2, (hb.cell_far ⟨g, 3, none⟩ h.lt (fun e => hk (Option.some.inj e))).trans h.c3, (hb.cell_far ⟨g, 4, none⟩ h.lt (fun e => hk (Option.some.inj e))).trans h.c4, (hb.cell_far ⟨g, 5, none⟩ h.lt (fun e => hk (Option.some.inj e))).trans h.c5, (hb.cell_far ⟨g, 6, none⟩ h.lt (fun e => hk (Option.some.inj e))).trans h.c6, (hb.cell_far ⟨g, 7, none⟩ h.lt (fun e => hk (Option.some.inj e))).trans h.c7, (hb.cell_far ⟨g, 8, none⟩ h.lt (fun e => hk (Option.some.inj e))).trans h.c8, (hb.cell_far ⟨g, 9, none⟩ h.lt (fun e => hk (Option.some.inj e))).trans h.c9, (hb.cell_far ⟨g, 10, none⟩ h.lt (fun e => hk (Option.some.inj e))).trans h.c10, (hb.cell_far ⟨g, 11, none⟩ h.lt (fun e => hk (Option.some.inj e))).trans h.c11, (hb.cell_far ⟨g, 12, none⟩ h.lt (fun e => hk (Option.some.inj e))).trans h.c12⟩
theorem ItAt.new (w : World) (x : It) (A : Option Addr) (n c : Nat) (t : TypeId) : ItAt (w.alloc (.cells #[.bool x.g, .int .u8 x.o, .int .u64 x.q, .int .u64 x.t, .string x.r, .slice A n c, .int .u8 x.s, .int .u8 x.p, .int .i64 x.v, .int .u8 x.w, .int .u8 x.ga, .int .u64 x.gf, .int .u64 x.gt] t)) w.heap.size x A n c :=
  ⟨by simp, by rw [World.cell?_alloc_at _ _ _ _ rfl]; rfl, by rw [World.cell?_alloc_at _ _ _ _ rfl]; rfl, by rw [World.cell?_alloc_at _ _ _ _ rfl]; rfl, by rw [World.cell?_alloc_at _ _ _ _ rfl]; rfl, by rw [World.cell?_alloc_at _ _ _ _ rfl]; rfl, by rw [World.cell?_alloc_at _ _ _ _ rfl]; rfl, by rw [World.cell?_alloc_at _ _ _ _ rfl]; rfl, by rw [World.cell?_alloc_at _ _ _ _ rfl]; rfl, by rw [World.cell?_alloc_at _ _ _ _ rfl]; rfl, by rw [World.cell?_alloc_at _ _ _ _ rfl]; rfl, by rw [World.cell?_alloc_at _ _ _ _ rfl]; rfl, by rw [World.cell?_alloc_at _ _ _ _ rfl]; rfl, by rw [World.cell?_alloc_at _ _ _ _ rfl]; rfl⟩
end Go.Proofs.Ytileaoanekphaaa
