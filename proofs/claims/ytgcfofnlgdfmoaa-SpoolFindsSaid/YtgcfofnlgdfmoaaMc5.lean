/- Several texts in one: ItPlain, Clone. -/
import Derived.WalkSpells
import Derived.Lib.SliceRun
import Derived.Test.YtgcfofnlgdfmoaaMc2
import Derived.Test.YtgcfofnlgdfmoaaMc3
import Derived.Test.YtgcfofnlgdfmoaaMc4
/- Layer 4: items as plain data: what they are, whether one may be. No program is named here. -/
namespace Go.Proofs.Ytgcfofnlgdfmoaa
open Go.RowKit

/-- an item: is it a gap; an event's origin, count, time, rule, labels, state, priority, value, own kind; a gap's origin, first and last count -/
structure It where
  g : Bool
  o : Nat
  q : Nat
  t : Nat
  r : ByteArray
  l : List Pr
  s : Nat
  p : Nat
  v : Int
  w : Nat
  ga : Nat
  gf : Nat
  gt : Nat
/-- its parts fit into their kinds -/
structure OkI (x : It) : Prop where
  o : x.o < 256
  q : x.q < 18446744073709551616
  t : x.t < 18446744073709551616
  r : x.r.size ≤ maxLen
  l : OkP x.l
  s : x.s < 256
  p : x.p < 256
  v0 : -9223372036854775808 ≤ x.v
  v1 : x.v < 9223372036854775808
  w : x.w < 256
  ga : x.ga < 256
  gf : x.gf < 18446744073709551616
  gt : x.gt < 18446744073709551616

def ownB (s : ByteArray) : Bool := decide (s.data.toList.take 4 = [111, 119, 110, 46])

def gapN (x : It) : Nat := if 31 < x.ga ∨ x.gf = 0 ∨ x.gt < x.gf ∨ 1099511627776 < x.gt then 6 else 0
def evN (x : It) : Nat :=
  if 31 < x.o ∨ x.q = 0 ∨ 1099511627776 < x.q ∨ 1099511627776 < x.t ∨ 7 < x.p then 6
  else if nameB x.r = false then 8
  else if (x.s ≠ 0 ∧ x.s ≠ 2) ∨ 2 < x.w then 12
  else if decide (x.w ≠ 0) ≠ ownB x.r then 27
  else check x.l
/-- an item's first error -/
def itemN (x : It) : Nat := if x.g then gapN x else evN x
/-- the event of x lies at block g -/
structure EvAt (w : World) (g : Nat) (x : It) (A : Option Addr) (n c : Nat) : Prop where
  lt : g < w.heap.size
  c0 : w.cell? ⟨g, 0, none⟩ = some (.int .u8 x.o)
  c1 : w.cell? ⟨g, 1, none⟩ = some (.int .u64 x.q)
  c2 : w.cell? ⟨g, 2, none⟩ = some (.int .u64 x.t)
  c3 : w.cell? ⟨g, 3, none⟩ = some (.string x.r)
  c4 : w.cell? ⟨g, 4, none⟩ = some (.slice A n c)
  c5 : w.cell? ⟨g, 5, none⟩ = some (.int .u8 x.s)
  c6 : w.cell? ⟨g, 6, none⟩ = some (.int .u8 x.p)
  c7 : w.cell? ⟨g, 7, none⟩ = some (.int .i64 x.v)
  c8 : w.cell? ⟨g, 8, none⟩ = some (.int .u8 x.w)
theorem EvAt.below {w w1 : World} {g : Nat} {x : It} {A : Option Addr} {n c : Nat} (h : EvAt w g x A n c) (hb : Below w.heap.size w w1) : EvAt w1 g x A n c :=
  ⟨Nat.lt_of_lt_of_le h.lt hb.size, (hb.cell (p := ⟨g, 0, none⟩) h.lt).trans h.c0, (hb.cell (p := ⟨g, 1, none⟩) h.lt).trans h.c1, (hb.cell (p := ⟨g, 2, none⟩) h.lt).trans h.c2, (hb.cell (p := ⟨g, 3, none⟩) h.lt).trans h.c3, (hb.cell (p := ⟨g, 4, none⟩) h.lt).trans h.c4, (hb.cell (p := ⟨g, 5, none⟩) h.lt).trans h.c5, (hb.cell (p := ⟨g, 6, none⟩) h.lt).trans h.c6, (hb.cell (p := ⟨g, 7, none⟩) h.lt).trans h.c7, (hb.cell (p := ⟨g, 8, none⟩) h.lt).trans h.c8⟩
theorem EvAt.grown {w w1 : World} {g : Nat} {x : It} {A : Option Addr} {n c k : Nat} (h : EvAt w g x A n c) (hb : w.grownBy w1 (some k)) (hk : g ≠ k) : EvAt w1 g x A n c :=
  ⟨Nat.lt_of_lt_of_le h.lt hb.size, (hb.cell_far ⟨g, 0, none⟩ h.lt (fun e => hk (Option.some.inj e))).trans h.c0, (hb.cell_far ⟨g, 1, none⟩ h.lt (fun e => hk (Option.some.inj e))).trans h.c1, (hb.cell_far ⟨g, 2, none⟩ h.lt (fun e => hk (Option.some.inj e))).trans h.c2, (hb.cell_far ⟨g, 3, none⟩ h.lt (fun e => hk (Option.some.inj e))).trans h.c3, (hb.cell_far ⟨g, 4, none⟩ h.lt (fun e => hk (Option.some.inj e))).trans h.c4, (hb.cell_far ⟨g, 5, none⟩ h.lt (fun e => hk (Option.some.inj e))).trans h.c5, (hb.cell_far ⟨g, 6, none⟩ h.lt (fun e => hk (Option.some.inj e))).trans h.c6, (hb.cell_far ⟨g, 7, none⟩ h.lt (fun e => hk (Option.some.inj e))).trans h.c7, (hb.cell_far ⟨g, 8, none⟩ h.lt (fun e => hk (Option.some.inj e))).trans h.c8⟩
theorem EvAt.new (w : World) (x : It) (A : Option Addr) (n c : Nat) (t : TypeId) : EvAt (w.alloc (.cells #[.int .u8 x.o, .int .u64 x.q, .int .u64 x.t, .string x.r, .slice A n c, .int .u8 x.s, .int .u8 x.p, .int .i64 x.v, .int .u8 x.w] t)) w.heap.size x A n c :=
  ⟨by simp, by rw [World.cell?_alloc_at _ _ _ _ rfl]; rfl, by rw [World.cell?_alloc_at _ _ _ _ rfl]; rfl, by rw [World.cell?_alloc_at _ _ _ _ rfl]; rfl, by rw [World.cell?_alloc_at _ _ _ _ rfl]; rfl, by rw [World.cell?_alloc_at _ _ _ _ rfl]; rfl, by rw [World.cell?_alloc_at _ _ _ _ rfl]; rfl, by rw [World.cell?_alloc_at _ _ _ _ rfl]; rfl, by rw [World.cell?_alloc_at _ _ _ _ rfl]; rfl, by rw [World.cell?_alloc_at _ _ _ _ rfl]; rfl⟩
/-- the item x lies at block g -/
structure ItAt (w : World) (g : Nat) (x : It) (A : Option Addr) (n c : Nat) : Prop where
  lt : g < w.heap.size
  c0 : w.cell? ⟨g, 0, none⟩ = some (.bool x.g)
  c1 : w.cell? ⟨g, 1, none⟩ = some (.int .u8 x.o)
  c2 : w.cell? ⟨g, 2, none⟩ = some (.int .u64 x.q)
  c3 : w.cell? ⟨g, 3, none⟩ = some (.int .u64 x.t)
  c4 : w.cell? ⟨g, 4, none⟩ = some (.string x.r)
  c5 : w.cell? ⟨g, 5, none⟩ = some (.slice A n c)
  c6 : w.cell? ⟨g, 6, none⟩ = some (.int .u8 x.s)
  c7 : w.cell? ⟨g, 7, none⟩ = some (.int .u8 x.p)
  c8 : w.cell? ⟨g, 8, none⟩ = some (.int .i64 x.v)
  c9 : w.cell? ⟨g, 9, none⟩ = some (.int .u8 x.w)
  c10 : w.cell? ⟨g, 10, none⟩ = some (.int .u8 x.ga)
  c11 : w.cell? ⟨g, 11, none⟩ = some (.int .u64 x.gf)
  c12 : w.cell? ⟨g, 12, none⟩ = some (.int .u64 x.gt)
theorem ItAt.below {w w1 : World} {g : Nat} {x : It} {A : Option Addr} {n c : Nat} (h : ItAt w g x A n c) (hb : Below w.heap.size w w1) : ItAt w1 g x A n c :=
  ⟨Nat.lt_of_lt_of_le h.lt hb.size, (hb.cell (p := ⟨g, 0, none⟩) h.lt).trans h.c0, (hb.cell (p := ⟨g, 1, none⟩) h.lt).trans h.c1, (hb.cell (p := ⟨g, 2, none⟩) h.lt).trans h.c2, (hb.cell (p := ⟨g, 3, none⟩) h.lt).trans h.c3, (hb.cell (p := ⟨g, 4, none⟩) h.lt).trans h.c4, (hb.cell (p := ⟨g, 5, none⟩) h.lt).trans h.c5, (hb.cell (p := ⟨g, 6, none⟩) h.lt).trans h.c6, (hb.cell (p := ⟨g, 7, none⟩) h.lt).trans h.c7, (hb.cell (p := ⟨g, 8, none⟩) h.lt).trans h.c8, (hb.cell (p := ⟨g, 9, none⟩) h.lt).trans h.c9, (hb.cell (p := ⟨g, 10, none⟩) h.lt).trans h.c10, (hb.cell (p := ⟨g, 11, none⟩) h.lt).trans h.c11, (hb.cell (p := ⟨g, 12, none⟩) h.lt).trans h.c12⟩
theorem ItAt.grown {w w1 : World} {g : Nat} {x : It} {A : Option Addr} {n c k : Nat} (h : ItAt w g x A n c) (hb : w.grownBy w1 (some k)) (hk : g ≠ k) : ItAt w1 g x A n c :=
  ⟨Nat.lt_of_lt_of_le h.lt hb.size, (hb.cell_far ⟨g, 0, none⟩ h.lt (fun e => hk (Option.some.inj e))).trans h.c0, (hb.cell_far ⟨g, 1, none⟩ h.lt (fun e => hk (Option.some.inj e))).trans h.c1, (hb.cell_far ⟨g, 2, none⟩ h.lt (fun e => hk (Option.some.inj e))).trans h.c2, (hb.cell_far ⟨g, 3, none⟩ h.lt (fun e => hk (Option.some.inj e))).trans h.c3, (hb.cell_far ⟨g, 4, none⟩ h.lt (fun e => hk (Option.some.inj e))).trans h.c4, (hb.cell_far ⟨g, 5, none⟩ h.lt (fun e => hk (Option.some.inj e))).trans h.c5, (hb.cell_far ⟨g, 6, none⟩ h.lt (fun e => hk (Option.some.inj e))).trans h.c6, (hb.cell_far ⟨g, 7, none⟩ h.lt (fun e => hk (Option.some.inj e))).trans h.c7, (hb.cell_far ⟨g, 8, none⟩ h.lt (fun e => hk (Option.some.inj e))).trans h.c8, (hb.cell_far ⟨g, 9, none⟩ h.lt (fun e => hk (Option.some.inj e))).trans h.c9, (hb.cell_far ⟨g, 10, none⟩ h.lt (fun e => hk (Option.some.inj e))).trans h.c10, (hb.cell_far ⟨g, 11, none⟩ h.lt (fun e => hk (Option.some.inj e))).trans h.c11, (hb.cell_far ⟨g, 12, none⟩ h.lt (fun e => hk (Option.some.inj e))).trans h.c12⟩
theorem ItAt.new (w : World) (x : It) (A : Option Addr) (n c : Nat) (t : TypeId) : ItAt (w.alloc (.cells #[.bool x.g, .int .u8 x.o, .int .u64 x.q, .int .u64 x.t, .string x.r, .slice A n c, .int .u8 x.s, .int .u8 x.p, .int .i64 x.v, .int .u8 x.w, .int .u8 x.ga, .int .u64 x.gf, .int .u64 x.gt] t)) w.heap.size x A n c :=
  ⟨by simp, by rw [World.cell?_alloc_at _ _ _ _ rfl]; rfl, by rw [World.cell?_alloc_at _ _ _ _ rfl]; rfl, by rw [World.cell?_alloc_at _ _ _ _ rfl]; rfl, by rw [World.cell?_alloc_at _ _ _ _ rfl]; rfl, by rw [World.cell?_alloc_at _ _ _ _ rfl]; rfl, by rw [World.cell?_alloc_at _ _ _ _ rfl]; rfl, by rw [World.cell?_alloc_at _ _ _ _ rfl]; rfl, by rw [World.cell?_alloc_at _ _ _ _ rfl]; rfl, by rw [World.cell?_alloc_at _ _ _ _ rfl]; rfl, by rw [World.cell?_alloc_at _ _ _ _ rfl]; rfl, by rw [World.cell?_alloc_at _ _ _ _ rfl]; rfl, by rw [World.cell?_alloc_at _ _ _ _ rfl]; rfl, by rw [World.cell?_alloc_at _ _ _ _ rfl]; rfl⟩
end Go.Proofs.Ytgcfofnlgdfmoaa
/- slices.Clone of pairs (the library's text, walked). -/
namespace Go.Proofs.Ytgcfofnlgdfmoaa
open Go.RowKit

theorem own_below {w w' : World} {base : Nat} {e : TypeId} {size n : Nat} {v : Value} {xs : List Value} (h : w.ownsRow base e size v n xs) (hb : Below w.heap.size w w') : w'.ownsRow base e size v n xs :=
  h.kept (row := none) ⟨hb.os, hb.tape, hb.output, hb.size, fun k hk _ => hb.block k hk⟩ (by
    rcases h.2 with ⟨rfl, _⟩ | ⟨g, cap, cur, rfl, _⟩
    · exact Or.inl rfl
    · exact Or.inr (by simp [Value.ownBlock]))

theorem own_slice {W : World} {base : Nat} {e : TypeId} {size n : Nat} {v : Value} {xs : List Value} (h : W.ownsRow base e size v n xs) : ∃ A c, v = .slice A n c := by
  rcases h.2 with ⟨rfl, rfl⟩ | ⟨g, cap, cur, rfl, _⟩
  · exact ⟨none, 0, rfl⟩
  · exact ⟨_, _, rfl⟩

def OkA (A : Option Addr) (n : Nat) : Prop := (A = none → n = 0) ∧ ∀ a, A = some a → ∃ b o, a = ⟨b, o, none⟩

theorem src_of_rd {w : World} {B : Nat} {A : Option Addr} {l : List Pr} {n : Nat} (h : RdP w B A l) (hn : n = l.length) : Src w A n 2 (cellsP l) := by
  subst hn
  refine ⟨cellsP_length l, fun h0 => ?_⟩
  obtain ⟨b, o, e, _, hc⟩ := h h0
  refine ⟨_, e, fun j u hj => ?_⟩
  have hjl : j < l.length * 2 := by
    have := (List.getElem?_eq_some_iff.1 hj).1
    rwa [cellsP_length] at this
  have hp : l[j / 2]? = some (l[j / 2]'(by omega)) := List.getElem?_eq_getElem (by omega)
  obtain ⟨c0, c1⟩ := cellsP_get l (j / 2) _ hp
  obtain ⟨d0, d1⟩ := hc _ _ hp
  rw [Addr.add_lit]
  rcases Nat.mod_two_eq_zero_or_one j with hm2 | hm2
  · rw [show j / 2 * 2 = j from by omega] at c0 d0
    rw [d0, ← c0, hj]
  · rw [show j / 2 * 2 + 1 = j from by omega] at c1
    rw [show o + j / 2 * 2 + 1 = o + j from by omega] at d1
    rw [d1, ← c1, hj]
theorem Try.infoP : (Try.prog.info? 151).map (fun i => (i.zero, i.size, i.bytes)) = some (some (.agg #[.string ⟨#[]⟩, .string ⟨#[]⟩]), 2, 32) := by kernel_rfl

set_option maxRecDepth 100000 in
set_option maxHeartbeats 400000 in
/-- a copy, nil or not -/
theorem clone_any (A : Option Addr) (n c : Nat) (l : List Pr) (w : World) (hn : n = l.length) (hA : A = none → n = 0) (hm : n * 32 ≤ 140737488351232) (hr : RdP w w.heap.size A l) :
    Calls Try.prog 72 #[.slice A n c] w fun e w' => ∃ v, e = .returned v ∧ w'.ownsRow w.heap.size 151 2 v n (cellsP l) ∧ Below w.heap.size w w' := by
  obtain ⟨i0, hi, hz0, hz1, hz2⟩ := info_parts Try.infoP
  have q22 : ∀ (w : World) (a : Option Addr) (n c n' c' : Nat), (binOp .eql 53 (.slice a n c) (.slice none n' c')).run Try.prog w = .ok (.bool a.isNone) w := fun w a n c n' c' => Lib.run_eql_slice_nil w _ _ a n c n' c' Try.underlying53
  cases A with
  | none =>
    obtain rfl := hA rfl
    obtain rfl : l = [] := List.eq_nil_of_length_eq_zero hn.symm
    clear hm hn hA hr
    go_enter Try.func72, Try.ntmps72
    go_wp2
    go_ret
    exact ⟨_, rfl, World.ownsRow_nil _ _ _ _, Below.refl _ _⟩
  | some a =>
    have hs1 : Src (w.alloc (.cells #[] 151)) (some a) n 2 (cellsP l) := src_of_rd (hr.below ((Below.refl _ w).alloc (Nat.le_refl _) _)) hn
    have HS := Lib.hid hs1
    have Hm := Lib.hid hm
    clear hs1 hr hA hn hm
    go_enter Try.func72, Try.ntmps72
    go_wp2_with (at_builtin; refine wpList_append_src (base := w.heap.size) rfl _ _ rfl Try.underlying53 hi hz0 hz1 hz2 rfl (by decide) rfl (World.ownsRow_made _ #[] 0 (Nat.le_refl _) (Nat.zero_le _) rfl) rfl HS.out (cellsP_one _) (by have := Hm.out; unfold maxLen; omega) (by have := Hm.out; omega) (by simp) ?_; intro v1 w1 hr1 hg1 hb1; replace hb1 : Below w.heap.size w w1 := ((Below.refl _ w).alloc (Nat.le_refl _) _).grown hg1 (by simp) (fun q hq => by cases hq; exact Nat.le_refl _); replace hr1 := Lib.hid hr1; clear hg1)
    go_ret
    have h := hr1.out
    rw [Nat.zero_add, List.nil_append] at h
    exact ⟨_, rfl, h, hb1⟩
end Go.Proofs.Ytgcfofnlgdfmoaa
