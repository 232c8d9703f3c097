/- Several texts in one: FrSmall0, Pairs. -/
import Derived.Deep.DeepCutAuto
import Derived.Deep.SlicePairs
import Derived.Test.YtnagmopejblegaaGreatMb11
import Derived.Test.YtnagmopejblegaaGreatMb26
import Derived.Test.YtnagmopejblegaaGreatMb29
/- Layer 5: the statements' own small frame. -/
namespace Go.Proofs.YtnagmopejblegaaGreat
open Go.RowKit

/-- a frame in small numbers -/
structure Sf where
  k : Nat
  f : Nat
  t : Nat
  e : Nat
  q : Nat
  c : Nat
  l : Nat
  b : Nat
  i : Sm
structure OkSf (s : Sf) : Prop where
  k : s.k < 256
  f : s.f < 256
  t : s.t < 256
  e : s.e < 65536
  q : s.q < 65536
  c : s.c < 65536
  l : s.l < 65536
  b : s.b < 18446744073709551616
  i : OkS s.i
def toN (s : Sf) : Nat := if s.f % 32 = s.t % 32 then (s.t % 32 + 1) % 32 else s.t % 32
def smallF (s : Sf) : Fr :=
  if s.k % 3 = 0 then ⟨1, s.f % 32, toN s, 1 + s.e, 1 + s.q, smallI s.i, 0, 0, 0⟩
  else if s.k % 3 = 1 then ⟨2, s.f % 32, toN s, 1 + s.e, 0, zeroI, s.c, s.b, 1 + s.l⟩
  else ⟨3, s.f % 32, toN s, 0, 0, zeroI, 0, 0, 0⟩
/-- a frame, and where its item's labels lie -/
def FrRet (x : Fr) (w : World) (e : Ending) (w' : World) : Prop :=
  ∃ A n c, e = .returned (.agg #[.int .u8 x.k, .int .u8 x.f, .int .u8 x.t, .int .u64 x.e, .int .u64 x.q, .bool x.i.g, .int .u8 x.i.o, .int .u64 x.i.q, .int .u64 x.i.t, .string x.i.r, .slice A n c, .int .u8 x.i.s, .int .u8 x.i.p, .int .i64 x.i.v, .int .u8 x.i.w, .int .u8 x.i.ga, .int .u64 x.i.gf, .int .u64 x.i.gt, .int .u64 x.c, .int .u64 x.b, .int .u64 x.l]) ∧ n = x.i.l.length ∧ w'.ownsRow w.heap.size 98 2 (.slice A n c) n (cellsP x.i.l) ∧ Below w.heap.size w w'
theorem act_put0 (a : Act) (v : Value) : a.put none v = a := rfl
theorem Tryz.infoF : (Tryz.prog.info? 42).map (·.size) = some 21 := by kernel_rfl

theorem toN_ok (s : Sf) : toN s < 32 ∧ s.f % 32 ≠ toN s := by
  unfold toN
  split <;> omega
theorem smallF_ok {s : Sf} (h : OkSf s) : OkF (smallF s) := by
  have h1 := h.e
  have h2 := h.q
  have h3 := h.c
  have h4 := h.l
  have h5 := (toN_ok s).1
  unfold smallF
  split
  · exact ⟨by show 1 < 256; omega, by show s.f % 32 < 256; omega, by show toN s < 256; omega, by show 1 + s.e < _; omega, by show 1 + s.q < _; omega, smallI_ok s.i h.i, z64, z64, z64⟩
  · split
    · exact ⟨by show 2 < 256; omega, by show s.f % 32 < 256; omega, by show toN s < 256; omega, by show 1 + s.e < _; omega, z64, OkI.zero, by show s.c < _; omega, h.b, by show 1 + s.l < _; omega⟩
    · exact ⟨by show 3 < 256; omega, by show s.f % 32 < 256; omega, by show toN s < 256; omega, z64, z64, OkI.zero, z64, z64, z64⟩
theorem smallF_right {s : Sf} (h : OkSf s) : frameN (smallF s) = 0 := by
  have h1 := h.e
  have h2 := h.q
  have h3 := h.c
  have h4 := h.l
  obtain ⟨h5, h6⟩ := toN_ok s
  have hi := smallI_right s.i h.i
  unfold smallF
  split
  · show (if (1 : Nat) ≠ 1 ∧ (1 : Nat) ≠ 2 ∧ (1 : Nat) ≠ 3 then 12 else if 31 < s.f % 32 ∨ 31 < toN s ∨ s.f % 32 = toN s then 20 else if 1099511627776 < 1 + s.e ∨ 1099511627776 < 1 + s.q ∨ 1099511627776 < 0 ∨ 1099511627776 < 0 then 6 else if 1 + s.q = 0 ∨ 1 + s.e = 0 ∨ (0 : Nat) ≠ 0 ∨ (0 : Nat) ≠ 0 ∨ (0 : Nat) ≠ 0 then 6 else itemN (smallI s.i)) = 0
    rw [if_neg (by omega), if_neg (by omega), if_neg (by omega), if_neg (by omega), hi]
  · split
    · show (if (2 : Nat) ≠ 1 ∧ (2 : Nat) ≠ 2 ∧ (2 : Nat) ≠ 3 then 12 else if 31 < s.f % 32 ∨ 31 < toN s ∨ s.f % 32 = toN s then 20 else if 1099511627776 < 1 + s.e ∨ 1099511627776 < 0 ∨ 1099511627776 < s.c ∨ 1099511627776 < 1 + s.l then 6 else if 1 + s.e = 0 ∨ 1 + s.l = 0 ∨ (0 : Nat) ≠ 0 ∨ true = false then 6 else 0) = 0
      rw [if_neg (by omega), if_neg (by omega), if_neg (by omega), if_neg (by
        rintro (h | h | h | h)
        · omega
        · omega
        · omega
        · cases h)]
    · show (if (3 : Nat) ≠ 1 ∧ (3 : Nat) ≠ 2 ∧ (3 : Nat) ≠ 3 then 12 else if 31 < s.f % 32 ∨ 31 < toN s ∨ s.f % 32 = toN s then 20 else if 1099511627776 < 0 ∨ 1099511627776 < 0 ∨ 1099511627776 < 0 ∨ 1099511627776 < 0 then 6 else if (0 : Nat) ≠ 0 ∨ (0 : Nat) ≠ 0 ∨ (0 : Nat) ≠ 0 ∨ (0 : Nat) ≠ 0 ∨ (0 : Nat) ≠ 0 ∨ true = false then 6 else 0) = 0
      rw [if_neg (by omega), if_neg (by omega), if_neg (by omega), if_neg (by
        rintro (h | h | h | h | h | h)
        · exact h rfl
        · exact h rfl
        · exact h rfl
        · exact h rfl
        · exact h rfl
        · cases h)]
theorem smallF_short {s : Sf} (h : OkSf s) : ShortF (smallF s) := by
  have hz : ShortI zeroI := ⟨by decide, fun i p hp => by cases hp⟩
  have hb : (itemB zeroI).length ≤ 1000000 := by
    have hl : leb 0 = [0] := leb_lt (by decide)
    have e : itemB zeroI = 0 :: (((([0] ++ leb 0 ++ leb 0 ++ (leb 0 ++ [])) ++ leb 0) ++ []) ++ ([0] ++ [0] ++ leb 0 ++ [0])) := rfl
    rw [e, hl]
    decide
  unfold smallF
  split
  · exact ⟨smallI_short s.i, by have := smallI_labs s.i; show (smallI s.i).l.length ≤ _; omega, by have := smallI_len s.i h.i; show (itemB (smallI s.i)).length ≤ _; omega⟩
  · split
    · exact ⟨hz, Nat.zero_le _, hb⟩
    · exact ⟨hz, Nat.zero_le _, hb⟩
end Go.Proofs.YtnagmopejblegaaGreat
/- Layer 1: a list of pairs that comes in: how it is read, and how it lies. -/
namespace Go.Proofs.YtnagmopejblegaaGreat
open Go.RowKit Go.ChangeShapes Go.WideShapes

/-- a pair as it is read -/
def dP {H : Type} (p : Pr) : DataW H := .agg [.lit (.string p.1.data.toList), .lit (.string p.2.data.toList)]

set_option maxRecDepth 100000 in
theorem open_pairs {H : Type} {enc : TypeId × Value → H} {W : World} {base : Nat} {sp : Nat → Bool} {hd : Bool} {r : Reach} {b0 : Nat} {v : Value} {d : DataW H} {ps : List MemPlace}
    (hval : Value.okWide Tryz.prog W r b0 33 v) (h0 : DataW.Trod enc Tryz.prog W base sp hd 33 v d ps) :
    ∃ (A : Option Addr) (n c : Nat) (l : List Pr), v = .slice A n c ∧ n = l.length ∧ n ≤ maxLen ∧ OkA A n ∧ RdP W W.heap.size A l ∧ OkP l ∧ ((A = none ∧ d = .nil ∧ l = []) ∨ ∃ spare, d = .slice (l.map dP) spare) := by
  obtain ⟨a, n, c, rfl⟩ := okWide_slice Tryz.underlying33 hval
  have hsp : ∀ ad, a = some ad → ad.spot = none := by
    rintro ad rfl
    simp only [Value.okWide, Tryz.underlying33, Cell.okWide, Cell.ok] at hval
    exact hval.2.2.2.1
  obtain ⟨fuel, hf⟩ := h0
  rcases Go.Deep.open_slice_pairs Tryz.underlying33 Tryz.underlying98 (by kernel_rfl) rfl rfl (by kernel_rfl) (by kernel_rfl) hf with ⟨hcs, hx⟩ | ⟨ad, len, cap, m, k, V0, V1, D0, D1, P0, P1, hcs, hb, hl, hm, hmm, hx, hi⟩
  · have e : a = none ∧ n = 0 ∧ c = 0 := by simpa [Value.cells] using hcs
    obtain ⟨rfl, rfl, rfl⟩ := e
    exact ⟨none, 0, 0, [], rfl, rfl, Nat.zero_le _, ⟨fun _ => rfl, fun _ h => (by cases h)⟩, RdP.none_, fun i p h => (by simp at h), .inl ⟨rfl, (Prod.mk.inj hx).1, rfl⟩⟩
  · have e : a = some ad ∧ n = len ∧ c = cap := by simpa [Value.cells] using hcs
    obtain ⟨rfl, rfl, rfl⟩ := e
    have hspot := hsp ad rfl
    obtain ⟨b, o, s⟩ := ad
    obtain rfl : s = none := hspot
    have hlm : n ≤ m := by rw [hmm]; split <;> omega
    have each : ∀ i, i < n → ∃ p : Pr, V0 i = .string p.1 ∧ V1 i = .string p.2 ∧ D0 i = .lit (.string p.1.data.toList) ∧ D1 i = .lit (.string p.2.data.toList) ∧ p.1.size ≤ maxLen ∧ p.2.size ≤ maxLen := fun i h => by
      obtain ⟨_, _, t0, t1⟩ := hi i (by omega)
      obtain ⟨s0, e0, x0, z0⟩ := DataW.trod_string Tryz.underlying9 t0
      obtain ⟨s1, e1, x1, z1⟩ := DataW.trod_string Tryz.underlying9 t1
      exact ⟨(s0, s1), (List.cons.inj e0).1, (List.cons.inj e1).1, (Prod.mk.inj x0).1, (Prod.mk.inj x1).1, z0, z1⟩
    have pick : ∃ f : Nat → Pr, ∀ i, i < n → V0 i = .string (f i).1 ∧ V1 i = .string (f i).2 ∧ D0 i = .lit (.string (f i).1.data.toList) ∧ D1 i = .lit (.string (f i).2.data.toList) ∧ (f i).1.size ≤ maxLen ∧ (f i).2.size ≤ maxLen :=
      ⟨fun i => if h : i < n then (each i h).choose else (⟨#[]⟩, ⟨#[]⟩), fun i h => by simp only [dif_pos h]; exact (each i h).choose_spec⟩
    obtain ⟨f, hf'⟩ := pick
    have hget : ∀ (i : Nat) (p : Pr), ((List.range n).map f)[i]? = some p → i < n ∧ p = f i := fun i p hp => by
      rw [List.getElem?_map] at hp
      obtain ⟨j, hj, rfl⟩ := Option.map_eq_some_iff.1 hp
      obtain ⟨h1, h2⟩ := List.getElem?_eq_some_iff.1 hj
      rw [List.length_range] at h1
      rw [List.getElem_range] at h2
      exact ⟨h1, by rw [h2]⟩
    refine ⟨some ⟨b, o, none⟩, n, c, (List.range n).map f, rfl, by simp, Nat.le_trans hl hm, ⟨fun h => (by cases h), fun a h => (by cases h; exact ⟨b, o, rfl⟩)⟩, fun h0 => ⟨b, o, rfl, ?_, fun i p hp => ?_⟩, fun i p hp => ?_, .inr ⟨(List.range (m - n)).map fun j => .agg [D0 (n + j), D1 (n + j)], ?_⟩⟩
    · have h0' : 0 < n := by simpa using h0
      exact World.block_lt_of_cell? _ _ ((hi 0 (by omega)).1)
    · obtain ⟨hin, rfl⟩ := hget i p hp
      obtain ⟨c0, c1, _, _⟩ := hi i (by omega)
      obtain ⟨v0, v1, _, _⟩ := hf' i hin
      rw [Addr.add_lit] at c0 c1
      rw [v0] at c0; rw [v1] at c1
      exact ⟨c0, by rw [Nat.add_assoc]; exact c1⟩
    · obtain ⟨hin, rfl⟩ := hget i p hp
      exact (hf' i hin).2.2.2.2
    · have h1 := (Prod.mk.inj hx).1
      rw [h1, List.map_map]
      congr 1
      refine List.map_congr_left fun i hi' => ?_
      obtain ⟨_, _, e0, e1, _⟩ := hf' i (List.mem_range.1 hi')
      rw [e0, e1]
      rfl
end Go.Proofs.YtnagmopejblegaaGreat
