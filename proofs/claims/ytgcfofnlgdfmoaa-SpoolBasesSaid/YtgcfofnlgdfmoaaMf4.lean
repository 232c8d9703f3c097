/- Several texts in one: ItPlain, Clone, ItSmall, ItGap. -/
import Derived.WalkSpells
import Derived.Lib.SliceRun
import Derived.Laws.Rows
import Derived.Laws.Tables
import Derived.Test.YtgcfofnlgdfmoaaMf1
import Derived.Test.YtgcfofnlgdfmoaaMf2
import Derived.Test.YtgcfofnlgdfmoaaMf3
/- Layer 4: items as plain data: what they are, whether one may be. No program is named here. -/
namespace Go.Proofs.Ytgcfofnlgdfmoaa
open Go.RowKit

/-- an item: is it a gap; an event's origin, count, time, rule, labels, state, priority, value, own kind; a gap's origin, first and last count -/
structure It where
  g : Bool
  o : Nat
  q : Nat
  t : Nat
  r : ByteArray
  l : List Pr
  s : Nat
  p : Nat
  v : Int
  w : Nat
  ga : Nat
  gf : Nat
  gt : Nat
/-- its parts fit into their kinds -/
structure OkI (x : It) : Prop where
  o : x.o < 256
  q : x.q < 18446744073709551616
  t : x.t < 18446744073709551616
  r : x.r.size ≤ maxLen
  l : OkP x.l
  s : x.s < 256
  p : x.p < 256
  v0 : -9223372036854775808 ≤ x.v
  v1 : x.v < 9223372036854775808
  w : x.w < 256
  ga : x.ga < 256
  gf : x.gf < 18446744073709551616
  gt : x.gt < 18446744073709551616

def ownB (s : ByteArray) : Bool := decide (s.data.toList.take 4 = [111, 119, 110, 46])

def gapN (x : It) : Nat := if 31 < x.ga ∨ x.gf = 0 ∨ x.gt < x.gf ∨ 1099511627776 < x.gt then 6 else 0
def evN (x : It) : Nat :=
  if 31 < x.o ∨ x.q = 0 ∨ 1099511627776 < x.q ∨ 1099511627776 < x.t ∨ 7 < x.p then 6
  else if nameB x.r = false then 8
  else if (x.s ≠ 0 ∧ x.s ≠ 2) ∨ 2 < x.w then 12
  else if decide (x.w ≠ 0) ≠ ownB x.r then 27
  else check x.l
/-- an item's first error -/
def itemN (x : It) : Nat := if x.g then gapN x else evN x
/-- the event of x lies at block g -/
structure EvAt (w : World) (g : Nat) (x : It) (A : Option Addr) (n c : Nat) : Prop where
  lt : g < w.heap.size
  c0 : w.cell? ⟨g, 0, none⟩ = some (.int .u8 x.o)
  c1 : w.cell? ⟨g, 1, none⟩ = some (.int .u64 x.q)
  c2 : w.cell? ⟨g, 2, none⟩ = some (.int .u64 x.t)
  c3 : w.cell? ⟨g, 3, none⟩ = some (.string x.r)
  c4 : w.cell? ⟨g, 4, none⟩ = some (.slice A n c)
  c5 : w.cell? ⟨g, 5, none⟩ = some (.int .u8 x.s)
  c6 : w.cell? ⟨g, 6, none⟩ = some (.int .u8 x.p)
  c7 : w.cell? ⟨g, 7, none⟩ = some (.int .i64 x.v)
  c8 : w.cell? ⟨g, 8, none⟩ = some (.int .u8 x.w)
theorem EvAt.below {w w1 : World} {g : Nat} {x : It} {A : Option Addr} {n c : Nat} (h : EvAt w g x A n c) (hb : Below w.heap.size w w1) : EvAt w1 g x A n c :=
  ⟨Nat.lt_of_lt_of_le h.lt hb.size, (hb.cell (p := ⟨g, 0, none⟩) h.lt).trans h.c0, (hb.cell (p := ⟨g, 1, none⟩) h.lt).trans h.c1, (hb.cell (p := ⟨g, 2, none⟩) h.lt).trans h.c2, (hb.cell (p := ⟨g, 3, none⟩) h.lt).trans h.c3, (hb.cell (p := ⟨g, 4, none⟩) h.lt).trans h.c4, (hb.cell (p := ⟨g, 5, none⟩) h.lt).trans h.c5, (hb.cell (p := ⟨g, 6, none⟩) h.lt).trans h.c6, (hb.cell (p := ⟨g, 7, none⟩) h.lt).trans h.c7, (hb.cell (p := ⟨g, 8, none⟩) h.lt).trans h.c8⟩
theorem EvAt.grown {w w1 : World} {g : Nat} {x : It} {A : Option Addr} {n c k : Nat} (h : EvAt w g x A n c) (hb : w.grownBy w1 (some k)) (hk : g ≠ k) : EvAt w1 g x A n c :=
  ⟨Nat.lt_of_lt_of_le h.lt hb.size, (hb.cell_far ⟨g, 0, none⟩ h.lt (fun e => hk (Option.some.inj e))).trans h.c0, (hb.cell_far ⟨g, 1, none⟩ h.lt (fun e => hk (Option.some.inj e))).trans h.c1, (hb.cell_far ⟨g, 2, none⟩ h.lt (fun e => hk (Option.some.inj e))).trans h.c2, (hb.cell_far ⟨g, 3, none⟩ h.lt (fun e => hk (Option.some.inj e))).trans h.c3, (hb.cell_far ⟨g, 4, none⟩ h.lt (fun e => hk (Option.some.inj e))).trans h.c4, (hb.cell_far ⟨g, 5, none⟩ h.lt (fun e => hk (Option.some.inj e))).trans h.c5, (hb.cell_far ⟨g, 6, none⟩ h.lt (fun e => hk (Option.some.inj e))).trans h.c6, (hb.cell_far ⟨g, 7, none⟩ h.lt (fun e => hk (Option.some.inj e))).trans h.c7, (hb.cell_far ⟨g, 8, none⟩ h.lt (fun e => hk (Option.some.inj e))).trans h.c8⟩
theorem EvAt.new (w : World) (x : It) (A : Option Addr) (n c : Nat) (t : TypeId) : EvAt (w.alloc (.cells #[.int .u8 x.o, .int .u64 x.q, .int .u64 x.t, .string x.r, .slice A n c, .int .u8 x.s, .int .u8 x.p, .int .i64 x.v, .int .u8 x.w] t)) w.heap.size x A n c :=
  ⟨by simp, by rw [World.cell?_alloc_at _ _ _ _ rfl]; rfl, by rw [World.cell?_alloc_at _ _ _ _ rfl]; rfl, by rw [World.cell?_alloc_at _ _ _ _ rfl]; rfl, by rw [World.cell?_alloc_at _ _ _ _ rfl]; rfl, by rw [World.cell?_alloc_at _ _ _ _ rfl]; rfl, by rw [World.cell?_alloc_at _ _ _ _ rfl]; rfl, by rw [World.cell?_alloc_at _ _ _ _ rfl]; rfl, by rw [World.cell?_alloc_at _ _ _ _ rfl]; rfl, by rw [World.cell?_alloc_at _ _ _ _ rfl]; rfl⟩
/-- the item x lies at block g -/
structure ItAt (w : World) (g : Nat) (x : It) (A : Option Addr) (n c : Nat) : Prop where
  lt : g < w.heap.size
  c0 : w.cell? ⟨g, 0, none⟩ = some (.bool x.g)
  c1 : w.cell? ⟨g, 1, none⟩ = some (.int .u8 x.o)
  c2 : w.cell? ⟨g, 2, none⟩ = some (.int .u64 x.q)
  c3 : w.cell? ⟨g, 3, none⟩ = some (.int .u64 x.t)
  c4 : w.cell? ⟨g, 4, none⟩ = some (.string x.r)
  c5 : w.cell? ⟨g, 5, none⟩ = some (.slice A n c)
  c6 : w.cell? ⟨g, 6, none⟩ = some (.int .u8 x.s)
  c7 : w.cell? ⟨g, 7, none⟩ = some (.int .u8 x.p)
  c8 : w.cell? ⟨g, 8, none⟩ = some (.int .i64 x.v)
  c9 : w.cell? ⟨g, 9, none⟩ = some (.int .u8 x.w)
  c10 : w.cell? ⟨g, 10, none⟩ = some (.int .u8 x.ga)
  c11 : w.cell? ⟨g, 11, none⟩ = some (.int .u64 x.gf)
  c12 : w.cell? ⟨g, 12, none⟩ = some (.int .u64 x.gt)
theorem ItAt.below {w w1 : World} {g : Nat} {x : It} {A : Option Addr} {n c : Nat} (h : ItAt w g x A n c) (hb : Below w.heap.size w w1) : ItAt w1 g x A n c :=
  ⟨Nat.lt_of_lt_of_le h.lt hb.size, (hb.cell (p := ⟨g, 0, none⟩) h.lt).trans h.c0, (hb.cell (p := ⟨g, 1, none⟩) h.lt).trans h.c1, (hb.cell (p := ⟨g, 2, none⟩) h.lt).trans h.c2, (hb.cell (p := ⟨g, 3, none⟩) h.lt).trans h.c3, (hb.cell (p := ⟨g, 4, none⟩) h.lt).trans h.c4, (hb.cell (p := ⟨g, 5, none⟩) h.lt).trans h.c5, (hb.cell (p := ⟨g, 6, none⟩) h.lt).trans h.c6, (hb.cell (p := ⟨g, 7, none⟩) h.lt).trans h.c7, (hb.cell (p := ⟨g, 8, none⟩) h.lt).trans h.c8, (hb.cell (p := ⟨g, 9, none⟩) h.lt).trans h.c9, (hb.cell (p := ⟨g, 10, none⟩) h.lt).trans h.c10, (hb.cell (p := ⟨g, 11, none⟩) h.lt).trans h.c11, (hb.cell (p := ⟨g, 12, none⟩) h.lt).trans h.c12⟩
theorem ItAt.grown {w w1 : World} {g : Nat} {x : It} {A : Option Addr} {n c k : Nat} (h : ItAt w g x A n c) (hb : w.grownBy w1 (some k)) (hk : g ≠ k) : ItAt w1 g x A n c :=
  ⟨Nat.lt_of_lt_of_le h.lt hb.size, (hb.cell_far ⟨g, 0, none⟩ h.lt (fun e => hk (Option.some.inj e))).trans h.c0, (hb.cell_far ⟨g, 1, none⟩ h.lt (fun e => hk (Option.some.inj e))).trans h.c1, (hb.cell_far ⟨g, 2, none⟩ h.lt (fun e => hk (Option.some.inj e))).trans h.c2, (hb.cell_far ⟨g, 3, none⟩ h.lt (fun e => hk (Option.some.inj e))).trans h.c3, (hb.cell_far ⟨g, 4, none⟩ h.lt (fun e => hk (Option.some.inj e))).trans h.c4, (hb.cell_far ⟨g, 5, none⟩ h.lt (fun e => hk (Option.some.inj e))).trans h.c5, (hb.cell_far ⟨g, 6, none⟩ h.lt (fun e => hk (Option.some.inj e))).trans h.c6, (hb.cell_far ⟨g, 7, none⟩ h.lt (fun e => hk (Option.some.inj e))).trans h.c7, (hb.cell_far ⟨g, 8, none⟩ h.lt (fun e => hk (Option.some.inj e))).trans h.c8, (hb.cell_far ⟨g, 9, none⟩ h.lt (fun e => hk (Option.some.inj e))).trans h.c9, (hb.cell_far ⟨g, 10, none⟩ h.lt (fun e => hk (Option.some.inj e))).trans h.c10, (hb.cell_far ⟨g, 11, none⟩ h.lt (fun e => hk (Option.some.inj e))).trans h.c11, (hb.cell_far ⟨g, 12, none⟩ h.lt (fun e => hk (Option.some.inj e))).trans h.c12⟩
theorem ItAt.new (w : World) (x : It) (A : Option Addr) (n c : Nat) (t : TypeId) : ItAt (w.alloc (.cells #[.bool x.g, .int .u8 x.o, .int .u64 x.q, .int .u64 x.t, .string x.r, .slice A n c, .int .u8 x.s, .int .u8 x.p, .int .i64 x.v, .int .u8 x.w, .int .u8 x.ga, .int .u64 x.gf, .int .u64 x.gt] t)) w.heap.size x A n c :=
  ⟨by simp, by rw [World.cell?_alloc_at _ _ _ _ rfl]; rfl, by rw [World.cell?_alloc_at _ _ _ _ rfl]; rfl, by rw [World.cell?_alloc_at _ _ _ _ rfl]; rfl, by rw [World.cell?_alloc_at _ _ _ _ rfl]; rfl, by rw [World.cell?_alloc_at _ _ _ _ rfl]; rfl, by rw [World.cell?_alloc_at _ _ _ _ rfl]; rfl, by rw [World.cell?_alloc_at _ _ _ _ rfl]; rfl, by rw [World.cell?_alloc_at _ _ _ _ rfl]; rfl, by rw [World.cell?_alloc_at _ _ _ _ rfl]; rfl, by rw [World.cell?_alloc_at _ _ _ _ rfl]; rfl, by rw [World.cell?_alloc_at _ _ _ _ rfl]; rfl, by rw [World.cell?_alloc_at _ _ _ _ rfl]; rfl, by rw [World.cell?_alloc_at _ _ _ _ rfl]; rfl⟩
end Go.Proofs.Ytgcfofnlgdfmoaa
/- slices.Clone of pairs (the library's text, walked). -/
namespace Go.Proofs.Ytgcfofnlgdfmoaa
open Go.RowKit

theorem own_below {w w' : World} {base : Nat} {e : TypeId} {size n : Nat} {v : Value} {xs : List Value} (h : w.ownsRow base e size v n xs) (hb : Below w.heap.size w w') : w'.ownsRow base e size v n xs :=
  h.kept (row := none) ⟨hb.os, hb.tape, hb.output, hb.size, fun k hk _ => hb.block k hk⟩ (by
    rcases h.2 with ⟨rfl, _⟩ | ⟨g, cap, cur, rfl, _⟩
    · exact Or.inl rfl
    · exact Or.inr (by simp [Value.ownBlock]))

theorem own_slice {W : World} {base : Nat} {e : TypeId} {size n : Nat} {v : Value} {xs : List Value} (h : W.ownsRow base e size v n xs) : ∃ A c, v = .slice A n c := by
  rcases h.2 with ⟨rfl, rfl⟩ | ⟨g, cap, cur, rfl, _⟩
  · exact ⟨none, 0, rfl⟩
  · exact ⟨_, _, rfl⟩

def OkA (A : Option Addr) (n : Nat) : Prop := (A = none → n = 0) ∧ ∀ a, A = some a → ∃ b o, a = ⟨b, o, none⟩

theorem src_of_rd {w : World} {B : Nat} {A : Option Addr} {l : List Pr} {n : Nat} (h : RdP w B A l) (hn : n = l.length) : Src w A n 2 (cellsP l) := by
  subst hn
  refine ⟨cellsP_length l, fun h0 => ?_⟩
  obtain ⟨b, o, e, _, hc⟩ := h h0
  refine ⟨_, e, fun j u hj => ?_⟩
  have hjl : j < l.length * 2 := by
    have := (List.getElem?_eq_some_iff.1 hj).1
    rwa [cellsP_length] at this
  have hp : l[j / 2]? = some (l[j / 2]'(by omega)) := List.getElem?_eq_getElem (by omega)
  obtain ⟨c0, c1⟩ := cellsP_get l (j / 2) _ hp
  obtain ⟨d0, d1⟩ := hc _ _ hp
  rw [Addr.add_lit]
  rcases Nat.mod_two_eq_zero_or_one j with hm2 | hm2
  · rw [show j / 2 * 2 = j from by omega] at c0 d0
    rw [d0, ← c0, hj]
  · rw [show j / 2 * 2 + 1 = j from by omega] at c1
    rw [show o + j / 2 * 2 + 1 = o + j from by omega] at d1
    rw [d1, ← c1, hj]
theorem Try.infoP : (Try.prog.info? 151).map (fun i => (i.zero, i.size, i.bytes)) = some (some (.agg #[.string ⟨#[]⟩, .string ⟨#[]⟩]), 2, 32) := by kernel_rfl

set_option maxRecDepth 100000 in
set_option maxHeartbeats 400000 in
/-- a copy, nil or not -/
theorem clone_any (A : Option Addr) (n c : Nat) (l : List Pr) (w : World) (hn : n = l.length) (hA : A = none → n = 0) (hm : n * 32 ≤ 140737488351232) (hr : RdP w w.heap.size A l) :
    Calls Try.prog 72 #[.slice A n c] w fun e w' => ∃ v, e = .returned v ∧ w'.ownsRow w.heap.size 151 2 v n (cellsP l) ∧ Below w.heap.size w w' := by
  obtain ⟨i0, hi, hz0, hz1, hz2⟩ := info_parts Try.infoP
  have q22 : ∀ (w : World) (a : Option Addr) (n c n' c' : Nat), (binOp .eql 53 (.slice a n c) (.slice none n' c')).run Try.prog w = .ok (.bool a.isNone) w := fun w a n c n' c' => Lib.run_eql_slice_nil w _ _ a n c n' c' Try.underlying53
  cases A with
  | none =>
    obtain rfl := hA rfl
    obtain rfl : l = [] := List.eq_nil_of_length_eq_zero hn.symm
    clear hm hn hA hr
    go_enter Try.func72, Try.ntmps72
    go_wp2
    go_ret
    exact ⟨_, rfl, World.ownsRow_nil _ _ _ _, Below.refl _ _⟩
  | some a =>
    have hs1 : Src (w.alloc (.cells #[] 151)) (some a) n 2 (cellsP l) := src_of_rd (hr.below ((Below.refl _ w).alloc (Nat.le_refl _) _)) hn
    have HS := Lib.hid hs1
    have Hm := Lib.hid hm
    clear hs1 hr hA hn hm
    go_enter Try.func72, Try.ntmps72
    go_wp2_with (at_builtin; refine wpList_append_src (base := w.heap.size) rfl _ _ rfl Try.underlying53 hi hz0 hz1 hz2 rfl (by decide) rfl (World.ownsRow_made _ #[] 0 (Nat.le_refl _) (Nat.zero_le _) rfl) rfl HS.out (cellsP_one _) (by have := Hm.out; unfold maxLen; omega) (by have := Hm.out; omega) (by simp) ?_; intro v1 w1 hr1 hg1 hb1; replace hb1 : Below w.heap.size w w1 := ((Below.refl _ w).alloc (Nat.le_refl _) _).grown hg1 (by simp) (fun q hq => by cases hq; exact Nat.le_refl _); replace hr1 := Lib.hid hr1; clear hg1)
    go_ret
    have h := hr1.out
    rw [Nat.zero_add, List.nil_append] at h
    exact ⟨_, rfl, h, hb1⟩
end Go.Proofs.Ytgcfofnlgdfmoaa
/- Layer 4: the statements' own small item, as plain data; how it lies in memory. No program is named here. -/
namespace Go.Proofs.Ytgcfofnlgdfmoaa
open Go.RowKit

structure Sm where
  g : Bool
  o : Nat
  p : Nat
  w : Nat
  q : Nat
  m : Nat
  t : Nat
  r : Nat
  l : Nat
  v : Nat
  s : Bool
structure OkS (s : Sm) : Prop where
  o : s.o < 256
  p : s.p < 256
  w : s.w < 256
  q : s.q < 65536
  m : s.m < 65536
  t : s.t < 65536
  r : s.r < 256
  l : s.l < 256
  v : s.v < 256

def ruleS (r : Nat) : ByteArray := match r % 4 with
  | 0 => ⟨#[104, 111, 116]⟩
  | 1 => ⟨#[99, 111, 108, 100]⟩
  | 2 => ⟨#[100, 105, 115, 107, 46, 102, 117, 108, 108]⟩
  | _ => ⟨#[120]⟩
def ownX : ByteArray := ⟨#[111, 119, 110, 46, 120]⟩
/-- the i-th label of a small item -/
def labS (s : Sm) (i : Nat) : Pr := (⟨#[UInt8.ofNat (97 + i)]⟩, ⟨#[UInt8.ofNat (48 + s.l / 4 % 10)]⟩)
def labsS (s : Sm) (k : Nat) : List Pr := (List.range k).map (labS s)
theorem labsS_succ (s : Sm) (k : Nat) : labsS s (k + 1) = labsS s k ++ [labS s k] := by
  simp [labsS, List.range_succ]
theorem labsS_length (s : Sm) (k : Nat) : (labsS s k).length = k := by simp [labsS]
/-- the item that is made of small numbers -/
def smallI (s : Sm) : It :=
  if s.g then ⟨true, 0, 0, 0, ⟨#[]⟩, [], 0, 0, 0, 0, s.o % 32, 1 + s.q, 1 + s.q + s.m⟩
  else ⟨false, s.o % 32, 1 + s.q, s.t, if s.w % 8 = 7 then ownX else ruleS s.r, labsS s (s.l % 4), if s.s then 2 else 0, s.p % 8, (s.v : Int) - 100, if s.w % 8 = 7 then 1 + s.w / 8 % 2 else 0, 0, 0, 0⟩

/-- small numbers that lie at block g -/
structure SmAt (w : World) (g : Nat) (s : Sm) : Prop where
  lt : g < w.heap.size
  c1 : w.cell? ⟨g, 1, none⟩ = some (.int .u8 s.o)
  c2 : w.cell? ⟨g, 2, none⟩ = some (.int .u8 s.p)
  c3 : w.cell? ⟨g, 3, none⟩ = some (.int .u8 s.w)
  c4 : w.cell? ⟨g, 4, none⟩ = some (.int .u16 s.q)
  c5 : w.cell? ⟨g, 5, none⟩ = some (.int .u16 s.m)
  c6 : w.cell? ⟨g, 6, none⟩ = some (.int .u16 s.t)
  c7 : w.cell? ⟨g, 7, none⟩ = some (.int .u8 s.r)
  c8 : w.cell? ⟨g, 8, none⟩ = some (.int .u8 s.l)
  c9 : w.cell? ⟨g, 9, none⟩ = some (.int .u8 s.v)
  c10 : w.cell? ⟨g, 10, none⟩ = some (.bool s.s)
theorem SmAt.keep {w w1 : World} {g : Nat} {s : Sm} (h : SmAt w g s) (hs : w.heap.size ≤ w1.heap.size) (hk : w1.heap[g]? = w.heap[g]?) : SmAt w1 g s := by
  have k : ∀ o, w1.cell? ⟨g, o, none⟩ = w.cell? ⟨g, o, none⟩ := fun o => World.cell?_of_block hk
  exact ⟨Nat.lt_of_lt_of_le h.lt hs, (k 1).trans h.c1, (k 2).trans h.c2, (k 3).trans h.c3, (k 4).trans h.c4, (k 5).trans h.c5, (k 6).trans h.c6, (k 7).trans h.c7, (k 8).trans h.c8, (k 9).trans h.c9, (k 10).trans h.c10⟩

def zeroV : Array Value := #[.bool false, .int .u8 0, .int .u64 0, .int .u64 0, .string ⟨#[]⟩, .slice none 0 0, .int .u8 0, .int .u8 0, .int .i64 0, .int .u8 0, .int .u8 0, .int .u64 0, .int .u64 0]
/-- while a small item is made: its numbers at the call's first block, the result's block, the event's block E -/
structure SmSt (w0 w : World) (s : Sm) (E : Nat) (cs : Array Value) (tE tR : TypeId) : Prop where
  bl : Below w0.heap.size w0 w
  sm : SmAt w w0.heap.size s
  re : w.heap[w0.heap.size + 1]? = some (.cells zeroV tR (0, 0))
  ev : w.heap[E]? = some (.cells cs tE (0, 0))
  lo : w0.heap.size + 2 ≤ E
theorem SmSt.lt {w0 w : World} {s : Sm} {E : Nat} {cs : Array Value} {tE tR : TypeId} (h : SmSt w0 w s E cs tE tR) : E < w.heap.size := (Array.getElem?_eq_some_iff.1 h.ev).1
/-- a cell of the event's block is written -/
theorem SmSt.set {w0 w : World} {s : Sm} {E : Nat} {cs : Array Value} {tE tR : TypeId} (h : SmSt w0 w s E cs tE tR) (j : Nat) (v : Value) : SmSt w0 (w.setCell ⟨E, j, none⟩ v) s E (cs.setIfInBounds j v) tE tR := by
  have hl := h.lo
  exact ⟨h.bl.setCell (p := ⟨E, j, none⟩) (by simp; omega) v, h.sm.keep (by simp) (heap_setCell_other _ _ _ _ (by simp; omega)), (heap_setCell_other _ _ _ _ (by simp; omega)).trans h.re, heap_setCell_same _ _ _ _ _ _ h.ev, h.lo⟩
/-- new blocks, and writes to a row that is newer than the event -/
theorem SmSt.grown {w0 w w1 : World} {s : Sm} {E : Nat} {cs : Array Value} {tE tR : TypeId} {r : Option Nat} (h : SmSt w0 w s E cs tE tR) (hg : w.grownBy w1 r) (hr : ∀ k, r = some k → E < k) : SmSt w0 w1 s E cs tE tR := by
  have hl := h.lo
  have hlt := h.lt
  have hne : ∀ j, j ≤ E → some j ≠ r := fun j hj e => by have := hr j e.symm; omega
  exact ⟨h.bl.grown hg (by omega) (fun k hk => by have := hr k hk; omega), h.sm.keep hg.size (hg.block _ (by omega) (hne _ (by omega))), (hg.block _ (by omega) (hne _ (by omega))).trans h.re, (hg.block _ (by omega) (hne _ (by omega))).trans h.ev, h.lo⟩
theorem SmSt.below {w0 w w1 : World} {s : Sm} {E : Nat} {cs : Array Value} {tE tR : TypeId} (h : SmSt w0 w s E cs tE tR) (hb : Below w.heap.size w w1) : SmSt w0 w1 s E cs tE tR :=
  h.grown (r := none) ⟨hb.os, hb.tape, hb.output, hb.size, fun k hk _ => hb.block k hk⟩ (fun k e => by cases e)
/-- the four names of rules, as they lie -/
def namesV : Array Value := #[.string ⟨#[104, 111, 116]⟩, .string ⟨#[99, 111, 108, 100]⟩, .string ⟨#[100, 105, 115, 107, 46, 102, 117, 108, 108]⟩, .string ⟨#[120]⟩]
theorem names_at (r : Nat) : namesV[r % 4]? = some (.string (ruleS r)) := by
  have h : ∀ k, k < 4 → namesV[k]? = some (.string (match k with | 0 => (⟨#[104, 111, 116]⟩ : ByteArray) | 1 => ⟨#[99, 111, 108, 100]⟩ | 2 => ⟨#[100, 105, 115, 107, 46, 102, 117, 108, 108]⟩ | _ => ⟨#[120]⟩)) := fun k hk => by
    match k, hk with
    | 0, _ => rfl
    | 1, _ => rfl
    | 2, _ => rfl
    | 3, _ => rfl
  have h2 := h (r % 4) (by omega)
  rw [h2]
  unfold ruleS
  match r % 4 with
  | 0 => rfl
  | 1 => rfl
  | 2 => rfl
  | _ + 3 => rfl
theorem names_cell {w : World} {b : Nat} {t : TypeId} (h : w.heap[b]? = some (.cells namesV t (0, 0))) (r : Nat) : w.cell? ⟨b, r % 4, none⟩ = some (.string (ruleS r)) := (cell_of_row _ _ _ _ _ _ h).trans (names_at r)
theorem old_two (W : World) (A B : Obj) {i : Nat} (h : i < W.heap.size) : ((W.alloc A).alloc B).heap[i]? = W.heap[i]? := by
  have h2 : i < (W.alloc A).heap.size := by simp; omega
  exact (heap_alloc_old (W.alloc A) B h2).trans (heap_alloc_old W A h)
/-- where the event lies: ahead of the names, or behind them -/
theorem SmSt.start {w0 W : World} {R : Obj} {E : Nat} {W2 : World} {s : Sm} {cs : Array Value} {tE tR : TypeId} (h1 : Below w0.heap.size w0 W) (h2 : SmAt W w0.heap.size s) (h3 : W.heap[w0.heap.size + 1]? = some (.cells zeroV tR (0, 0))) (h4 : W.heap.size = w0.heap.size + 2)
    (h : (W2 = (W.alloc R).alloc (.cells cs tE) ∧ E = W.heap.size + 1) ∨ (W2 = (W.alloc (.cells cs tE)).alloc R ∧ E = W.heap.size)) : SmSt w0 W2 s E cs tE tR := by
  rcases h with ⟨rfl, rfl⟩ | ⟨rfl, rfl⟩
  · exact ⟨(h1.alloc h1.size _).alloc (by simp; omega) _, h2.keep (by simp; omega) (old_two _ _ _ (by omega)), (old_two _ _ _ (by omega)).trans h3, heap_alloc2_new _ _ _, by omega⟩
  · exact ⟨(h1.alloc h1.size _).alloc (by simp; omega) _, h2.keep (by simp; omega) (old_two _ _ _ (by omega)), (old_two _ _ _ (by omega)).trans h3, heap_alloc2_old _ _ _, by omega⟩
theorem ruleS_size (r : Nat) : (ruleS r).size ≤ 100 := by
  unfold ruleS
  split <;> decide
/-- one byte in a block of its own -/
theorem rdB_one (w : World) (t : TypeId) (x : Int) (k : Nat) (h : x = k) : RdB (w.alloc (.cells #[.int .u8 x] t)) (w.heap.size + 1) (some ⟨w.heap.size, 0, none⟩) [k] := fun _ => by
  subst h
  refine ⟨w.heap.size, 0, rfl, Nat.lt_succ_self _, fun i y hi => ?_⟩
  match i, hi with
  | 0, hi =>
    obtain rfl : k = y := by simpa using hi
    rw [World.cell?_alloc_at _ _ _ _ rfl]; rfl
/-- one pair in a block of its own -/
theorem src_pair {w : World} {g : Nat} {p : Pr} {t : TypeId} (h : w.heap[g]? = some (.cells #[.string p.1, .string p.2] t (0, 0))) : Src w (some ⟨g, 0, none⟩) 1 2 (cellsP [p]) :=
  ⟨rfl, fun _ => ⟨_, rfl, fun j u hj => by
    rw [Addr.add_lit, Nat.zero_add, cell_of_row _ _ j _ _ _ h]
    match j, hj with
    | 0, hj => exact hj
    | 1, hj => exact hj
    | i + 2, hj => simp [cellsP, encP] at hj⟩⟩
end Go.Proofs.Ytgcfofnlgdfmoaa
/- Layer 4: item.Gap. -/
namespace Go.Proofs.Ytgcfofnlgdfmoaa
open Go.RowKit

set_option maxRecDepth 100000 in
set_option maxHeartbeats 400000 in
theorem gap_any (o f t : Int) (w : World) :
    Calls Try.prog 62 #[.int .u8 o, .int .u64 f, .int .u64 t] w fun e w' => e = .returned (.agg #[.bool true, .int .u8 0, .int .u64 0, .int .u64 0, .string ⟨#[]⟩, .slice none 0 0, .int .u8 0, .int .u8 0, .int .i64 0, .int .u8 0, .int .u8 o, .int .u64 f, .int .u64 t]) ∧ Below w.heap.size w w' := by
  go_enter Try.func62, Try.ntmps62
  go_wp2
  refine bodyPost_ret (v := .agg #[.bool true, .int .u8 0, .int .u64 0, .int .u64 0, .string ⟨#[]⟩, .slice none 0 0, .int .u8 0, .int .u8 0, .int .i64 0, .int .u8 0, .int .u8 o, .int .u64 f, .int .u64 t]) (by simp [results, Try.results62, go_sem]) rfl ⟨rfl, (Below.refl _ _).alloc (Nat.le_refl _) _⟩
end Go.Proofs.Ytgcfofnlgdfmoaa
